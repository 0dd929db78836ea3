/-
  Texts of the proof, one behind the other: OrdersZ, OrdersG, TakeI, Math, Math2, Math3, BackM.
-/
import Derived.OrdersHeld
import Derived.Deep.RegionHeld
import Derived.WalkKit
import Derived.Lib.Bytealg
set_option linter.unusedVariables false
set_option linter.unusedSimpArgs false
set_option maxRecDepth 100000
open List renaming getElem_toArray → gTA, getElem_cons_zero → gCZ, getElem_cons_succ → gCS, setIfInBounds_toArray → sTA, set_cons_zero → sCZ, set_cons_succ → sCS
open Nat renaming le_refl → nL
namespace Go.Proofs.YtpbaobmegomfpabGreatDoor
open Go
section
variable {P : Program} {ops : Array Oper} {Q : Exit → Go.Act → World → Prop} {md : Region.Mode} {S : World → Prop} {z : Nat}
def wpAnyZ (P : Program) (md : Region.Mode) (ops : Array Oper) (Q : Exit → Go.Act → World → Prop) (S : World → Prop) (z : Nat) : Nat → Array Bool → Go.Act → World → Prop
 | 0, listed, a, w => Region.ready md ops listed = [] ∧ Q .normal a w
 | fuel + 1, listed, a, w =>
  (Region.ready md ops listed = [] → Q .normal a w) ∧
  ∀ i ∈ Region.ready md ops listed, wpOp P ops Q i (fun a' w' => (i ≠ z → S w') ∧ wpAnyZ P md ops Q S z fuel (listed.setIfInBounds i true) a' w') a w
theorem wpAny_of_z : ∀ (fuel : Nat) (listed : Array Bool) (a : Go.Act) (w : World), wpAnyZ P md ops Q S z fuel listed a w → wpAny P md ops Q fuel listed a w
 | 0, _, _, _, h => h
 | fuel + 1, _, _, _, h => ⟨h.1, fun i hi => wpOp_mono (fun a' w' h' => wpAny_of_z fuel _ a' w' h'.2) (h.2 i hi)⟩
def waitsFor (md : Region.Mode) (ops : Array Oper) (z i : Nat) : Bool := match ops[z]? with
 | some oz => oz.after.any fun e => Region.binds md e && e.on == i
 | none => false
theorem wpAnyZ_first {i : Nat} {oi : Oper} {v : Value} (hi : ops[i]? = some oi) (hsel : ∀ (j : Nat) (o : Oper) cs b, ops[j]? = some o → o.op ≠ .select cs b) (hz : waitsFor md ops z i = true) (hiz : i ≠ z)
  (hQ : ∀ c a w, Q (.panic c) (a.put oi.dst v) w → Q (.panic c) a w) :
  ∀ (fuel : Nat) (listed : Array Bool) (a : Go.Act) (w : World),
   (∀ j oj, ops[j]? = some oj → j ≠ i → listed.getD j true = false → (∀ e ∈ oj.after, Region.binds md e = true → e.on ≠ i) → oi.apart ops oj = true) →
   i ∈ Region.ready md ops listed → YieldsIf P ops S oi v a → S w →
   wpAnyZ P md ops Q S z fuel (listed.setIfInBounds i true) (a.put oi.dst v) w → wpAnyZ P md ops Q S z (fuel + 1) listed a w := by
 intro fuel
 induction fuel with
 | zero =>
  intro listed a w _ hr hy hS H
  refine ⟨fun h => (by rw [h] at hr; cases hr), fun j hj => ?_⟩
  by_cases hji : j = i
  ·subst hji; exact hy.wpOp hi hS ⟨fun _ => hS, H⟩
  ·have := ready_mono hj hji
   rw [H.1] at this
   cases this
 | succ fuel ih =>
  intro listed a w hfree hr hy hS H
  refine ⟨fun h => (by rw [h] at hr; cases hr), fun j hj => ?_⟩
  by_cases hji : j = i
  ·subst hji; exact hy.wpOp hi hS ⟨fun _ => hS, H⟩
  ·have h1 := H.2 j (ready_mono hj hji)
   obtain ⟨hjun, oj, hoj, hall⟩ := mem_ready.1 hj
   have hnot : ∀ e ∈ oj.after, Region.binds md e = true → e.on ≠ i := fun e he hb heq => by
    have h1 := hall e he hb
    have h0 := (mem_ready.1 hr).1
    rw [heq] at h1
    rcases Nat.lt_or_ge i listed.size with h' | h'
    ·simp [h'] at h0 h1; rw [h0] at h1; cases h1
    ·simp [Array.getElem?_eq_none h'] at h1
   have hjz : j ≠ z := fun e => by
    unfold waitsFor at hz
    rw [← e, hoj] at hz
    simp only [Array.any_eq_true'] at hz
    obtain ⟨x, hx, hb⟩ := hz
    simp only [Bool.and_eq_true, beq_iff_eq] at hb
    exact hnot x hx hb.1 hb.2
   have h2 := wpOp_putIf hoj (hfree j oj hoj hji hjun hnot) (fun cs b => hsel i oi cs b hi) (fun cs b => hsel j oj cs b hoj) hQ hy h1
   have hfree' : ∀ k ok, ops[k]? = some ok → k ≠ i → (listed.setIfInBounds j true).getD k true = false →
     (∀ e ∈ ok.after, Region.binds md e = true → e.on ≠ i) → oi.apart ops ok = true := fun k ok hk hki hun hno => by
    refine hfree k ok hk hki ?_ hno
    by_cases hjk : j = k
    ·subst hjk; exact hjun
    ·rw [getD_set_ne true hjk] at hun; exact hun
   refine wpOp_mono (fun a' w' h3 => ⟨h3.2.1, ih (listed.setIfInBounds j true) a' w' hfree' (ready_mono hr (Ne.symm hji)) h3.1 (h3.2.1 hjz) ?_⟩) h2
   rw [Array.setIfInBounds_comm _ _ hji]
   exact h3.2.2
theorem wpAnyZ_take {i : Nat} {oi : Oper} {v : Value} {fuel : Nat} {listed : Array Bool} {a : Go.Act} {w : World} (hi : ops[i]? = some oi)
  (hs : Region.noSelect ops = true) (hf : Region.free md ops listed i = true) (hr : (Region.ready md ops listed).contains i = true) (hz : (waitsFor md ops z i && i != z) = true)
  (hQ : ∀ c a w, Q (.panic c) (a.put oi.dst v) w → Q (.panic c) a w) (hy : YieldsIf P ops S oi v a) (hS : S w)
  (h : wpAnyZ P md ops Q S z fuel (listed.setIfInBounds i true) (a.put oi.dst v) w) : wpAnyZ P md ops Q S z (fuel + 1) listed a w :=
 wpAnyZ_first hi (Region.noSelect_spec hs) (by simp only [Bool.and_eq_true] at hz; exact hz.1) (by simp only [Bool.and_eq_true, bne_iff_ne] at hz; exact hz.2) hQ fuel listed a w (Region.free_spec hi hf) (by simpa using hr) hy hS h
theorem wpAnyZ_one {i : Nat} {o : Oper} {fuel : Nat} {listed : Array Bool} {a : Go.Act} {w : World} (ho : ops[i]? = some o) (hg : o.guard = none) (hr : Region.ready md ops listed = [i])
  (h : ∀ K' : Go.Act → World → Prop, Shut (∀ a w, S w → wpAnyZ P md ops Q S z fuel (listed.setIfInBounds i true) a w → K' a w) → Oper.wp P o a w K' Q) : wpAnyZ P md ops Q S z (fuel + 1) listed a w := by
 refine ⟨fun h0 => (by rw [hr] at h0; cases h0), fun j hj => ?_⟩
 rw [hr] at hj
 obtain rfl := List.mem_singleton.1 hj
 refine wpOp_step ho fun K' hK => ?_
 rw [if_pos (by simp [Region.wanted, hg])]
 exact h K' (fun a w hS hW => hK a w ⟨fun _ => hS, hW⟩)
theorem wpAnyZ_last {o : Oper} {fuel : Nat} {listed : Array Bool} {a : Go.Act} {w : World} (ho : ops[z]? = some o) (hg : o.guard = none) (hr : Region.ready md ops listed = [z]) (hr' : Region.ready md ops (listed.setIfInBounds z true) = [])
  (h : ∀ K' : Go.Act → World → Prop, Shut (∀ a w, Q .normal a w → K' a w) → Oper.wp P o a w K' Q) : wpAnyZ P md ops Q S z (fuel + 1) listed a w := by
 refine ⟨fun h0 => (by rw [hr] at h0; cases h0), fun j hj => ?_⟩
 rw [hr] at hj
 obtain rfl := List.mem_singleton.1 hj
 refine wpOp_step ho fun K' hK => ?_
 rw [if_pos (by simp [Region.wanted, hg])]
 refine h K' (fun a w hq => hK a w ⟨fun hne => absurd rfl hne, ?_⟩)
 cases fuel with
 | zero => exact ⟨hr', hq⟩
 | succ n => exact ⟨fun _ => hq, by rw [hr']; simp⟩
theorem wp_region_z (z : Nat) (S : World → Prop) {id : Nat} {a : Go.Act} {w : World} (hm : P.follows .mixedOrders = true) (hS : S w.drew)
  (h : S w.drew → wpAnyZ P .any ops Q S z ops.size (Array.replicate ops.size false) a w.drew) : (Code.region id ops true).wp P Q a w :=
 wp_region_any hm (wpAny_of_z _ _ _ _ (h hS))
end
section
variable {P : Program} {ops : Array Oper} {Q : Exit → Go.Act → World → Prop} {md : Region.Mode} {S : World → Prop} {z : Nat}
theorem wpAnyZ_oneG {i : Nat} {o : Oper} {fuel : Nat} {listed : Array Bool} {a : Go.Act} {w : World} (ho : ops[i]? = some o) (hg : Region.wanted o (yielded ops a.tmps) = true) (hr : Region.ready md ops listed = [i])
  (h : ∀ K' : Go.Act → World → Prop, Shut (∀ a w, S w → wpAnyZ P md ops Q S z fuel (listed.setIfInBounds i true) a w → K' a w) → Oper.wp P o a w K' Q) : wpAnyZ P md ops Q S z (fuel + 1) listed a w := by
 refine ⟨fun h0 => (by rw [hr] at h0; cases h0), fun j hj => ?_⟩
 rw [hr] at hj
 obtain rfl := List.mem_singleton.1 hj
 refine wpOp_step ho fun K' hK => ?_
 rw [if_pos hg]
 exact h K' (fun a w hS hW => hK a w ⟨fun _ => hS, hW⟩)
theorem waits_spec {md : Region.Mode} {ops : Array Oper} {z i : Nat} (hz : waitsFor md ops z i = true) : ∃ oz, ops[z]? = some oz ∧ ∃ e ∈ oz.after, Region.binds md e = true ∧ e.on = i := by
 unfold waitsFor at hz
 cases ho : ops[z]? with
 | none => rw [ho] at hz; cases hz
 | some oz =>
  rw [ho] at hz
  simp only [Array.any_eq_true'] at hz
  obtain ⟨x, hx, hb⟩ := hz
  simp only [Bool.and_eq_true, beq_iff_eq] at hb
  exact ⟨oz, rfl, x, hx, hb.1, hb.2⟩
theorem not_ready {md : Region.Mode} {ops : Array Oper} {listed : Array Bool} {z i : Nat} (hz : waitsFor md ops z i = true) (hi : listed.getD i true = false) : z ∉ Region.ready md ops listed := fun hm => by
 obtain ⟨oz, ho, e, he, hb, hon⟩ := waits_spec hz
 obtain ⟨_, o', ho', hall⟩ := mem_ready.1 hm
 rw [ho] at ho'
 injection ho' with ho'
 subst ho'
 have h1 := hall e he hb
 rw [hon] at h1
 rcases Nat.lt_or_ge i listed.size with h' | h'
 ·simp [h'] at hi h1; rw [hi] at h1; cases h1
 ·simp [Array.getElem?_eq_none h'] at h1
theorem wpAnyZ_first2 {i : Nat} {C : List Nat} {oi : Oper} {v : Value} (hi : ops[i]? = some oi) (hsel : ∀ (j : Nat) (o : Oper) cs b, ops[j]? = some o → o.op ≠ .select cs b) (hC : ∀ c ∈ C, waitsFor md ops c i = true ∨ ∃ d ∈ C, waitsFor md ops c d = true) (hzC : ∃ d ∈ C, waitsFor md ops z d = true) (hiz : i ≠ z)
  (hQ : ∀ c a w, Q (.panic c) (a.put oi.dst v) w → Q (.panic c) a w) :
  ∀ (fuel : Nat) (listed : Array Bool) (a : Go.Act) (w : World),
   (∀ j oj, ops[j]? = some oj → j ≠ i → listed.getD j true = false → (∀ e ∈ oj.after, Region.binds md e = true → e.on ≠ i) → oi.apart ops oj = true) →
   (∀ c ∈ C, listed.getD c true = false) → i ∈ Region.ready md ops listed → YieldsIf P ops S oi v a → S w →
   wpAnyZ P md ops Q S z fuel (listed.setIfInBounds i true) (a.put oi.dst v) w → wpAnyZ P md ops Q S z (fuel + 1) listed a w := by
 intro fuel
 induction fuel with
 | zero =>
  intro listed a w _ _ hr hy hS H
  refine ⟨fun h => (by rw [h] at hr; cases hr), fun j hj => ?_⟩
  by_cases hji : j = i
  ·subst hji; exact hy.wpOp hi hS ⟨fun _ => hS, H⟩
  ·have := ready_mono hj hji
   rw [H.1] at this
   cases this
 | succ fuel ih =>
  intro listed a w hfree hkl hr hy hS H
  refine ⟨fun h => (by rw [h] at hr; cases hr), fun j hj => ?_⟩
  by_cases hji : j = i
  ·subst hji; exact hy.wpOp hi hS ⟨fun _ => hS, H⟩
  ·have h1 := H.2 j (ready_mono hj hji)
   obtain ⟨hjun, oj, hoj, hall⟩ := mem_ready.1 hj
   have hiun := (mem_ready.1 hr).1
   have hnot : ∀ e ∈ oj.after, Region.binds md e = true → e.on ≠ i := fun e he hb heq => by
    have h1 := hall e he hb
    rw [heq] at h1
    rcases Nat.lt_or_ge i listed.size with h' | h'
    ·simp [h'] at hiun h1; rw [hiun] at h1; cases h1
    ·simp [Array.getElem?_eq_none h'] at h1
   have hjz : j ≠ z := fun e => by obtain ⟨d, hd, hw⟩ := hzC; exact not_ready hw (hkl d hd) (e ▸ hj)
   have hjC : j ∉ C := fun hm => by
    rcases hC j hm with hw | ⟨d, hd, hw⟩
    ·exact not_ready hw hiun hj
    ·exact not_ready hw (hkl d hd) hj
   have h2 := wpOp_putIf hoj (hfree j oj hoj hji hjun hnot) (fun cs b => hsel i oi cs b hi) (fun cs b => hsel j oj cs b hoj) hQ hy h1
   have hfree' : ∀ k ok, ops[k]? = some ok → k ≠ i → (listed.setIfInBounds j true).getD k true = false →
     (∀ e ∈ ok.after, Region.binds md e = true → e.on ≠ i) → oi.apart ops ok = true := fun k ok hk hki hun hno => by
    refine hfree k ok hk hki ?_ hno
    by_cases hjk : j = k
    ·subst hjk; exact hjun
    ·rw [getD_set_ne true hjk] at hun; exact hun
   have hkl' : ∀ c ∈ C, (listed.setIfInBounds j true).getD c true = false := fun c hc => by
    have hne : j ≠ c := fun e => by subst e; exact hjC hc
    rw [getD_set_ne true hne]; exact hkl c hc
   refine wpOp_mono (fun a' w' h3 => ⟨h3.2.1, ih (listed.setIfInBounds j true) a' w' hfree' hkl' (ready_mono hr (Ne.symm hji)) h3.1 (h3.2.1 hjz) ?_⟩) h2
   rw [Array.setIfInBounds_comm _ _ hji]
   exact h3.2.2
theorem wpAnyZ_take2 {i : Nat} (C : List Nat) {oi : Oper} {v : Value} {fuel : Nat} {listed : Array Bool} {a : Go.Act} {w : World} (hi : ops[i]? = some oi)
  (hs : Region.noSelect ops = true) (hf : Region.free md ops listed i = true) (hr : (Region.ready md ops listed).contains i = true)
  (hz : ((C.all fun c => waitsFor md ops c i || C.any fun d => waitsFor md ops c d) && (C.any fun d => waitsFor md ops z d) && (C.all fun c => !(listed.getD c true)) && i != z) = true)
  (hQ : ∀ c a w, Q (.panic c) (a.put oi.dst v) w → Q (.panic c) a w) (hy : YieldsIf P ops S oi v a) (hS : S w)
  (h : wpAnyZ P md ops Q S z fuel (listed.setIfInBounds i true) (a.put oi.dst v) w) : wpAnyZ P md ops Q S z (fuel + 1) listed a w := by
 simp only [Bool.and_eq_true, bne_iff_ne, Bool.not_eq_true', List.all_eq_true, List.any_eq_true, Bool.or_eq_true] at hz
 exact wpAnyZ_first2 hi (Region.noSelect_spec hs) hz.1.1.1 hz.1.1.2 hz.2 hQ fuel listed a w (Region.free_spec hi hf) hz.1.2 (by simpa using hr) hy hS h
end
section
variable {P : Program} {ops : Array Oper} {Q : Exit → Go.Act → World → Prop} {md : Region.Mode} {S : World → Prop} {z : Nat}
def Tk (_ : List (Nat × List Nat)) (G : Prop) : Prop := G
def tkc (md : Region.Mode) (ops : Array Oper) (listed : Array Bool) (z i : Nat) : List Nat → Bool
 | [] => waitsFor md ops z i && i != z
 | c :: C => ((c :: C).all fun c' => waitsFor md ops c' i || (c :: C).any fun d => waitsFor md ops c' d) && ((c :: C).any fun d => waitsFor md ops z d) && ((c :: C).all fun c' => !(listed.getD c' true)) && i != z
theorem tkE (L : List (Nat × List Nat)) {G : Prop} (h : Tk L G) : G := h
theorem tkF {G : Prop} (h : G) : Tk [] G := h
theorem tkS {i : Nat} {C : List Nat} {L : List (Nat × List Nat)} {oi : Oper} {v : Value} {fuel : Nat} {listed : Array Bool} {a : Go.Act} {w : World} (hS : S w) (hv : ∀ w, S w → (execOp a.eval oi).run P w = .ok (.value v) w)
  (h : Tk L (wpAnyZ P md ops Q S z fuel (listed.setIfInBounds i true) (a.put oi.dst v) w)) (hi : ops[i]? = some oi := by rfl) (hw : Region.wanted oi (yielded ops a.tmps) = true := by rfl)
  (hs : Region.noSelect ops = true := by kernel_rfl) (hf : Region.free md ops listed i = true := by kernel_rfl) (hr : (Region.ready md ops listed).contains i = true := by kernel_rfl) (hz : tkc md ops listed z i C = true := by kernel_rfl)
  (hQ : ∀ c a w, Q (.panic c) (a.put oi.dst v) w → Q (.panic c) a w := by exact fun _ _ _ h => h) : Tk ((i, C) :: L) (wpAnyZ P md ops Q S z (fuel + 1) listed a w) := by
 cases C with
 | nil => exact wpAnyZ_take hi hs hf hr hz hQ (Or.inl ⟨hw, hv⟩) hS h
 | cons c C => exact wpAnyZ_take2 (c :: C) hi hs hf hr hz hQ (Or.inl ⟨hw, hv⟩) hS h
end
end Go.Proofs.YtpbaobmegomfpabGreatDoor
namespace Go.Proofs.YtpbaobmegomfpabGreatDoor
open Go.RowKit
def bndB (lo hi lim : Nat) (s : ByteArray) : Bool := decide (1 ≤ s.size) && decide (s.size ≤ lim) && s.data.toList.all fun c => decide (lo ≤ c.toNat) && decide (c.toNat ≤ hi)
theorem bndB_short {lo hi lim : Nat} {s : ByteArray} (h : s.size = 0 ∨ lim < s.size) : bndB lo hi lim s = false := by
 unfold bndB
 rcases h with h | h
 ·rw [decide_eq_false (by omega)]; rfl
 ·rw [decide_eq_false (p := s.size ≤ lim) (by omega)]; simp
theorem bndB_bad {lo hi lim : Nat} {s : ByteArray} {k : Nat} (hk : k < s.size) (h : s[k].toNat < lo ∨ hi < s[k].toNat) : bndB lo hi lim s = false := by
 unfold bndB
 have : (s.data.toList.all fun c => decide (lo ≤ c.toNat) && decide (c.toNat ≤ hi)) = false := by
  rw [List.all_eq_false]
  refine ⟨s[k], ?_, ?_⟩
  ·have : s[k] = s.data.toList[k]'(by simpa using hk) := rfl
   rw [this]; exact List.getElem_mem _
  ·simp; omega
 rw [this]; simp
theorem bndB_good {lo hi lim : Nat} {s : ByteArray} (h1 : 1 ≤ s.size) (h2 : s.size ≤ lim) (h : ∀ k (hk : k < s.size), lo ≤ s[k].toNat ∧ s[k].toNat ≤ hi) : bndB lo hi lim s = true := by
 unfold bndB
 rw [decide_eq_true h1, decide_eq_true h2]
 simp only [Bool.true_and, List.all_eq_true]
 intro c hc
 obtain ⟨k, hk, rfl⟩ := List.getElem_of_mem hc
 have := h k (by simpa using hk)
 have e : s[k]'(by simpa using hk) = s.data.toList[k] := rfl
 rw [e] at this
 simpa using this
def msg (k : UInt8) (s : ByteArray) : ByteArray := ⟨#[k, UInt8.ofNat s.size]⟩ ++ s
def inB (a n b : Int) : Bool := decide (a ≤ n) && decide (n ≤ b)
theorem inB_yes {a n b : Int} (h : a ≤ n ∧ n ≤ b) : inB a n b = true := by simp [inB, h]
theorem inB_no {a n b : Int} (h : ¬ (a ≤ n ∧ n ≤ b)) : inB a n b = false := by
 unfold inB; by_cases h1 : a ≤ n
 ·rw [decide_eq_false (p := n ≤ b) (by omega)]; simp
 ·rw [decide_eq_false h1]; rfl
def pickI (n m : Int) : Int := (if n < 0 then -(n + 1) else n) % m
theorem pickI_neg {n m : Int} (h : n < 0) : pickI n m = -(n + 1) % m := by unfold pickI; rw [if_pos h]
theorem pickI_pos {n m : Int} (h : ¬ n < 0) : pickI n m = n % m := by unfold pickI; rw [if_neg h]
theorem pickI_bd (n : Int) {m : Int} (hm : 0 < m) : 0 ≤ pickI n m ∧ pickI n m < m := ⟨Int.emod_nonneg _ (by omega), Int.emod_lt_of_pos _ hm⟩
theorem ret_int {k : IntKind} {a b : Int} (h : a = b) : Ending.returned (.int k a) = .returned (.int k b) := by rw [h]
theorem msg_size (k : UInt8) (s : ByteArray) : (msg k s).size = s.size + 2 := by
 unfold msg; rw [ByteArray.size_append]; show 2 + s.size = _; omega
theorem msg_toList (k : UInt8) (s : ByteArray) : (msg k s).data.toList = k :: UInt8.ofNat s.size :: s.data.toList := by
 unfold msg; rw [ByteArray.data_append]; simp
theorem get_toList (s : ByteArray) (i : Nat) (h : i < s.size) : s[i] = s.data.toList[i]'(by simpa using h) := rfl
theorem ba_ext {a b : ByteArray} (h : a.data.toList = b.data.toList) : a = b := by
 apply ByteArray.ext; exact Array.ext' h
def blank : List UInt8 → Nat
 | [] => 0
 | c :: l => if c == 32 then 0 else blank l + 1
theorem blank_le (l : List UInt8) : blank l ≤ l.length := by
 induction l with
 | nil => exact nL _
 | cons c l ih => unfold blank; split <;> simp <;> omega
theorem blank_index (l : List UInt8) : Lib.indexByte l 32 = if blank l < l.length then (blank l : Int) else -1 := by
 induction l with
 | nil => rfl
 | cons c l ih =>
  by_cases h : (c == 32) = true
  ·have e1 : Lib.indexByte (c :: l) 32 = 0 := by unfold Lib.indexByte; rw [if_pos h]
   have e2 : blank (c :: l) = 0 := by unfold blank; rw [if_pos h]
   rw [e1, e2, if_pos (by simp)]; rfl
  ·have e1 : Lib.indexByte (c :: l) 32 = if Lib.indexByte l 32 == -1 then -1 else Lib.indexByte l 32 + 1 := by rw [Lib.indexByte, if_neg h]
   have e2 : blank (c :: l) = blank l + 1 := by rw [blank, if_neg h]
   by_cases hb : blank l < l.length
   ·have ih' : Lib.indexByte l 32 = (blank l : Int) := by rw [ih, if_pos hb]
    rw [e1, ih', e2, List.length_cons, if_neg (by simp), if_pos (by omega)]; rfl
   ·have ih' : Lib.indexByte l 32 = -1 := by rw [ih, if_neg hb]
    rw [e1, ih', e2, List.length_cons, if_pos (by rfl), if_neg (by omega)]
def cutI (s : ByteArray) : Nat := blank s.data.toList
def cutA (s : ByteArray) : ByteArray := s.extract 0 (cutI s)
def cutB (s : ByteArray) : ByteArray := s.extract (cutI s + 1) s.size
def cutF (s : ByteArray) : Bool := decide (cutI s < s.size)
theorem cutI_le (s : ByteArray) : cutI s ≤ s.size := by have := blank_le s.data.toList; simpa [cutI] using this
theorem cutI_index (s : ByteArray) : Lib.indexByte s.data.toList 32 = if cutF s then (cutI s : Int) else -1 := by
 rw [blank_index]; unfold cutF cutI; simp only [decide_eq_true_eq, Array.length_toList]; rfl
theorem cutA_all {s : ByteArray} (h : cutI s = s.size) : cutA s = s := by
 unfold cutA; rw [h]; apply ba_ext; simp
theorem cutB_none {s : ByteArray} (h : cutI s = s.size) : cutB s = ⟨#[]⟩ := by
 unfold cutB; rw [h]; apply ba_ext; simp
theorem cutA_size (s : ByteArray) : (cutA s).size = cutI s := by
 unfold cutA; rw [ByteArray.size_extract]; have := cutI_le s; omega
theorem cutB_size (s : ByteArray) : (cutB s).size = s.size - (cutI s + 1) := by
 unfold cutB; rw [ByteArray.size_extract]; omega
def wordL : Nat → List UInt8
 | 1 => [98, 101, 103, 105, 110]
 | 2 => [99, 111, 109, 109, 105, 116]
 | 3 => [114, 111, 108, 108, 98, 97, 99, 107]
 | 4 => [114, 101, 115, 101, 116]
 | 5 => [102, 97, 105, 108]
 | 6 => [103, 101, 116]
 | 7 => [114, 101, 97, 100]
 | 8 => [101, 120, 101, 99]
 | 9 => [115, 101, 116]
 | 10 => [112, 117, 116]
 | 11 => [112, 114, 101, 112]
 | _ => []
def wordAt (k : Nat) : ByteArray := ⟨(wordL k).toArray⟩
theorem wordAt_toList (k : Nat) : (wordAt k).data.toList = wordL k := by simp [wordAt]
def kindL (l : List UInt8) : Nat := ((List.range 12).find? fun k => decide (1 ≤ k) && (wordL k == l)).getD 0
def kindN (s : ByteArray) : Nat := kindL s.data.toList
theorem kindL_word : ∀ k, k ≤ 11 → 1 ≤ k → kindL (wordL k) = k := by decide
theorem kindN_hit {s : ByteArray} {k : Nat} (h1 : 1 ≤ k) (h2 : k ≤ 11) (h : wordL k = s.data.toList) : kindN s = k := by
 unfold kindN; rw [← h]; exact kindL_word k h2 h1
theorem kindN_none {s : ByteArray} (h : ∀ k, 1 ≤ k → k ≤ 11 → wordL k ≠ s.data.toList) : kindN s = 0 := by
 unfold kindN kindL
 rw [List.find?_eq_none.2]
 ·rfl
 ·intro k hk
  simp only [List.mem_range] at hk
  simp only [Bool.and_eq_true, decide_eq_true_eq, beq_iff_eq, not_and]
  exact fun h1 => h k h1 (by omega)
theorem kindN_le (s : ByteArray) : kindN s ≤ 11 := by
 unfold kindN kindL
 cases hf : (List.range 12).find? fun k => decide (1 ≤ k) && (wordL k == s.data.toList) with
 | none => simp
 | some k =>
  have := List.mem_of_find?_eq_some hf
  simp only [List.mem_range] at this
  simp; omega
theorem kindN_word {s : ByteArray} (h : 1 ≤ kindN s) : wordL (kindN s) = s.data.toList := by
 unfold kindN kindL at h ⊢
 cases hf : (List.range 12).find? fun k => decide (1 ≤ k) && (wordL k == s.data.toList) with
 | none => rw [hf] at h; simp at h
 | some k =>
  have := List.find?_some hf
  simp only [Bool.and_eq_true, decide_eq_true_eq, beq_iff_eq] at this
  simp [this.2]
def splitBad (t : ByteArray) : Bool := (cutF t && (cutA (cutB t)).toList.isEmpty) || (cutF (cutB t) && (cutB (cutB t)).toList.isEmpty)
def splitE (t : ByteArray) : Int := if kindN (cutA t) = 0 then 3 else if splitBad t = true then 4 else 0
theorem splitE_ok {t : ByteArray} (h : splitE t = 0) : kindN (cutA t) ≠ 0 ∧ splitBad t = false := by
 unfold splitE at h
 split at h
 ·omega
 ·rename_i h0
  split at h
  ·omega
  ·rename_i h1; exact ⟨h0, by simpa using h1⟩
theorem splitE_kind {t : ByteArray} (h : kindN (cutA t) = 0) : splitE t = 3 := by unfold splitE; rw [if_pos h]
theorem splitE_form {t : ByteArray} (h : kindN (cutA t) ≠ 0) (hb : splitBad t = true) : splitE t = 4 := by unfold splitE; rw [if_neg h, if_pos hb]
theorem splitE_bad {t : ByteArray} (h : kindN (cutA t) ≠ 0) (he : splitE t ≠ 0) : splitBad t = true := by
 unfold splitE at he
 rw [if_neg h] at he
 cases hb : splitBad t
 ·rw [hb] at he; simp at he
 ·rfl
theorem cutF_none {t : ByteArray} (h : cutF t = false) : cutF (cutB t) = false := by
 have := cutB_size t
 unfold cutF at h ⊢
 simp only [decide_eq_false_iff_not] at h ⊢
 omega
def plainV (k : Int) (v : ByteArray) : Bool := if k = 9 ∨ k = 10 then bndB 33 126 20 v else v.toList.isEmpty
theorem plainV_yes {k : Int} {v : ByteArray} (h : k = 9 ∨ k = 10) : plainV k v = bndB 33 126 20 v := by unfold plainV; rw [if_pos h]
theorem plainV_no {k : Int} {v : ByteArray} (h : ¬ (k = 9 ∨ k = 10)) : plainV k v = v.toList.isEmpty := by unfold plainV; rw [if_neg h]
def keyB (k : Int) (key : ByteArray) : Bool := if 6 ≤ k ∧ k ≤ 11 then bndB 97 122 8 key else key.toList.isEmpty
theorem keyB_yes {k : Int} {v : ByteArray} (h : 6 ≤ k ∧ k ≤ 11) : keyB k v = bndB 97 122 8 v := by unfold keyB; rw [if_pos h]
theorem keyB_no {k : Int} {v : ByteArray} (h : ¬ (6 ≤ k ∧ k ≤ 11)) : keyB k v = v.toList.isEmpty := by unfold keyB; rw [if_neg h]
def prepB (t : ByteArray) : Bool := decide (splitE t = 0) && (decide (kindN (cutA t) = 6 ∨ kindN (cutA t) = 7 ∨ kindN (cutA t) = 10) && (bndB 97 122 8 (cutA (cutB t)) && plainV (kindN (cutA t)) (cutB (cutB t))))
theorem prepB_split {t : ByteArray} (h : splitE t ≠ 0) : prepB t = false := by unfold prepB; rw [decide_eq_false h, Bool.false_and]
theorem prepB_kind {t : ByteArray} (h : ¬ (kindN (cutA t) = 6 ∨ kindN (cutA t) = 7 ∨ kindN (cutA t) = 10)) : prepB t = false := by unfold prepB; rw [decide_eq_false h]; simp
theorem prepB_rest {t : ByteArray} (h : splitE t = 0) (hk : kindN (cutA t) = 6 ∨ kindN (cutA t) = 7 ∨ kindN (cutA t) = 10) :
  prepB t = (bndB 97 122 8 (cutA (cutB t)) && plainV (kindN (cutA t)) (cutB (cutB t))) := by unfold prepB; rw [decide_eq_true h, decide_eq_true hk, Bool.true_and, Bool.true_and]
def valueB (k : Int) (v : ByteArray) : Bool := if k = 11 then prepB v else plainV k v
def checkE (k : Int) (key v : ByteArray) : Int := if k < 1 ∨ 11 < k then 3 else if (keyB k key && valueB k v) = true then 0 else 4
theorem checkE_kind {k : Int} {key v : ByteArray} (h : k < 1 ∨ 11 < k) : checkE k key v = 3 := by unfold checkE; rw [if_pos h]
theorem checkE_ok {k : Int} {key v : ByteArray} (h : ¬ (k < 1 ∨ 11 < k)) (h1 : keyB k key = true) (h2 : valueB k v = true) : checkE k key v = 0 := by unfold checkE; rw [if_neg h, h1, h2]; rfl
theorem checkE_key {k : Int} {key v : ByteArray} (h : ¬ (k < 1 ∨ 11 < k)) (h1 : keyB k key = false) : checkE k key v = 4 := by unfold checkE; rw [if_neg h, h1]; rfl
theorem checkE_value {k : Int} {key v : ByteArray} (h : ¬ (k < 1 ∨ 11 < k)) (h2 : valueB k v = false) : checkE k key v = 4 := by unfold checkE; rw [if_neg h, h2]; simp
def readE (t : ByteArray) : Int := if 60 < t.size then 1 else if splitE t = 0 then checkE (kindN (cutA t)) (cutA (cutB t)) (cutB (cutB t)) else splitE t
theorem readE_long {t : ByteArray} (h : 60 < t.size) : readE t = 1 := by unfold readE; rw [if_pos h]
theorem readE_split {t : ByteArray} (h : ¬ 60 < t.size) (h1 : splitE t ≠ 0) : readE t = splitE t := by unfold readE; rw [if_neg h, if_neg h1]
theorem readE_check {t : ByteArray} (h : ¬ 60 < t.size) (h1 : splitE t = 0) : readE t = checkE (kindN (cutA t)) (cutA (cutB t)) (cutB (cutB t)) := by unfold readE; rw [if_neg h, if_pos h1]
theorem isEmpty_size {s : ByteArray} (h : s.toList.isEmpty = true) : s.size = 0 := by
 rw [Lib.toList_data, List.isEmpty_iff] at h
 have e : s.size = s.data.toList.length := by simp
 rw [e, h]; rfl
theorem bndB_size {lo hi lim : Nat} {s : ByteArray} (h : bndB lo hi lim s = true) : 1 ≤ s.size ∧ s.size ≤ lim := by
 unfold bndB at h
 simp only [Bool.and_eq_true, decide_eq_true_eq] at h
 exact h.1
theorem wordL_len : ∀ k, k ≤ 11 → (wordL k).length ≤ 8 := by decide
theorem cut_total (t : ByteArray) : t.size ≤ (cutA t).size + 1 + (cutB t).size := by
 have := cutA_size t
 have := cutB_size t
 have := cutI_le t
 omega
theorem kind_size {t : ByteArray} (h : kindN (cutA t) ≠ 0) : (cutA t).size ≤ 8 := by
 have h1 := kindN_word (s := cutA t) (by omega)
 have h2 := wordL_len (kindN (cutA t)) (kindN_le _)
 rw [h1] at h2
 simpa using h2
theorem plainV_size {k : Int} {v : ByteArray} (h : plainV k v = true) : v.size ≤ 20 := by
 unfold plainV at h
 split at h
 ·exact (bndB_size h).2
 ·have := isEmpty_size h; omega
theorem prepB_read (t : ByteArray) : prepB t = (decide (readE t = 0) && decide (kindN (cutA t) = 6 ∨ kindN (cutA t) = 7 ∨ kindN (cutA t) = 10)) := by
 by_cases hk : kindN (cutA t) = 6 ∨ kindN (cutA t) = 7 ∨ kindN (cutA t) = 10
 ·rw [decide_eq_true hk, Bool.and_true]
  by_cases h : splitE t = 0
  ·rw [prepB_rest h hk]
   have hkb : keyB (kindN (cutA t)) (cutA (cutB t)) = bndB 97 122 8 (cutA (cutB t)) := keyB_yes (by omega)
   have hvb : valueB (kindN (cutA t)) (cutB (cutB t)) = plainV (kindN (cutA t)) (cutB (cutB t)) := by unfold valueB; rw [if_neg (by omega)]
   have hk1 : ¬ ((kindN (cutA t) : Int) < 1 ∨ 11 < (kindN (cutA t) : Int)) := by omega
   cases h1 : bndB 97 122 8 (cutA (cutB t))
   ·by_cases hl : 60 < t.size
    ·rw [readE_long hl]; rfl
    ·rw [readE_check hl h, checkE_key hk1 (hkb.trans h1)]; rfl
   ·cases h2 : plainV (kindN (cutA t)) (cutB (cutB t))
    ·by_cases hl : 60 < t.size
     ·rw [readE_long hl]; rfl
     ·rw [readE_check hl h, checkE_value hk1 (hvb.trans h2)]; rfl
    ·have hl : ¬ 60 < t.size := by
      have a1 := cut_total t
      have a2 := cut_total (cutB t)
      have a3 := kind_size (t := t) (by omega)
      have a4 := bndB_size h1
      have a5 := plainV_size h2
      omega
     rw [readE_check hl h, checkE_ok hk1 (hkb.trans h1) (hvb.trans h2)]; rfl
  ·rw [prepB_split h]
   by_cases hl : 60 < t.size
   ·rw [readE_long hl]; rfl
   ·rw [readE_split hl h, decide_eq_false h]
 ·rw [prepB_kind hk, decide_eq_false hk, Bool.and_false]
theorem cutF_parts {t : ByteArray} (h : cutF t = false) : cutA (cutB t) = ⟨#[]⟩ ∧ cutB (cutB t) = ⟨#[]⟩ := by
 have h0 : cutI t = t.size := by
  have := cutI_le t
  unfold cutF at h
  simp only [decide_eq_false_iff_not] at h
  omega
 rw [cutB_none h0]
 exact ⟨rfl, rfl⟩
theorem splitBad_none {t : ByteArray} (h : cutF t = false) : splitBad t = false := by
 unfold splitBad; rw [h, cutF_none h]; rfl
theorem splitE_zero {t : ByteArray} (h : kindN (cutA t) ≠ 0) (hb : splitBad t = false) : splitE t = 0 := by
 unfold splitE; rw [if_neg h, hb]; rfl
theorem empty_of {s : ByteArray} (h : s.size = 0) : s.toList.isEmpty = true := by
 rw [Lib.toList_data, List.isEmpty_iff]
 have : s.data.toList.length = 0 := by simpa using congrArg (fun n => n) (show s.data.size = 0 from h)
 exact List.length_eq_zero_iff.1 this
theorem full_of {s : ByteArray} (h : 1 ≤ s.size) : s.toList.isEmpty = false := by
 cases e : s.toList.isEmpty
 ·rfl
 ·have := isEmpty_size e; omega
theorem wordL_pos : ∀ k, k ≤ 11 → 1 ≤ k → 1 ≤ (wordL k).length := by decide
theorem kind_pos {t : ByteArray} (h : kindN (cutA t) ≠ 0) : 1 ≤ t.size := by
 have h1 := kindN_word (s := cutA t) (by omega)
 have h2 := wordL_pos (kindN (cutA t)) (kindN_le _) (by omega)
 rw [h1] at h2
 have h3 : (cutA t).data.toList.length = (cutA t).size := by simp
 have := cutA_size t
 have := cutI_le t
 omega
theorem prepB_size {v : ByteArray} (h : prepB v = true) : 1 ≤ v.size ∧ v.size ≤ 60 := by
 rw [prepB_read] at h
 simp only [Bool.and_eq_true, decide_eq_true_eq] at h
 refine ⟨kind_pos (by omega), ?_⟩
 by_cases hl : 60 < v.size
 ·rw [readE_long hl] at h; omega
 ·omega
structure Good (k : Int) (key v : ByteArray) : Prop where
 lo : 1 ≤ k
 hi : k ≤ 11
 key8 : key.size ≤ 8
 v60 : v.size ≤ 60
 keyE : key.toList.isEmpty = decide (k < 6)
 vE : v.toList.isEmpty = decide (k < 9)
theorem good_of {k : Int} {key v : ByteArray} (h : checkE k key v = 0) : Good k key v := by
 by_cases hk : k < 1 ∨ 11 < k
 ·rw [checkE_kind hk] at h; cases h
 ·cases h1 : keyB k key
  ·rw [checkE_key hk h1] at h; cases h
  ·cases h2 : valueB k v
   ·rw [checkE_value hk h2] at h; cases h
   ·have a1 : key.size ≤ 8 ∧ key.toList.isEmpty = decide (k < 6) := by
     by_cases h6 : 6 ≤ k ∧ k ≤ 11
     ·rw [keyB_yes h6] at h1
      have := bndB_size h1
      exact ⟨this.2, by rw [full_of this.1, decide_eq_false (by omega)]⟩
     ·rw [keyB_no h6] at h1
      exact ⟨by have := isEmpty_size h1; omega, by rw [h1, decide_eq_true (by omega)]⟩
    have a2 : v.size ≤ 60 ∧ v.toList.isEmpty = decide (k < 9) := by
     by_cases h11 : k = 11
     ·unfold valueB at h2
      rw [if_pos h11] at h2
      have := prepB_size h2
      exact ⟨this.2, by rw [full_of this.1, decide_eq_false (by omega)]⟩
     ·unfold valueB at h2
      rw [if_neg h11] at h2
      by_cases h9 : k = 9 ∨ k = 10
      ·rw [plainV_yes h9] at h2
       have := bndB_size h2
       exact ⟨by omega, by rw [full_of this.1, decide_eq_false (by omega)]⟩
      ·rw [plainV_no h9] at h2
       exact ⟨by have := isEmpty_size h2; omega, by rw [h2, decide_eq_true (by omega)]⟩
    exact ⟨by omega, by omega, a1.1, a2.1, a1.2, a2.2⟩
def textOf (k : Nat) (key v : ByteArray) : ByteArray :=
 if k < 6 then wordAt k else if k < 9 then wordAt k ++ (⟨#[32]⟩ ++ key) else (wordAt k ++ (⟨#[32]⟩ ++ key)) ++ (⟨#[32]⟩ ++ v)
theorem textOf_6 {k : Nat} {key v : ByteArray} (h : k < 6) : textOf k key v = wordAt k := by unfold textOf; rw [if_pos h]
theorem textOf_9 {k : Nat} {key v : ByteArray} (h : ¬ k < 6) (h2 : k < 9) : textOf k key v = wordAt k ++ (⟨#[32]⟩ ++ key) := by unfold textOf; rw [if_neg h, if_pos h2]
theorem textOf_12 {k : Nat} {key v : ByteArray} (h : ¬ k < 9) : textOf k key v = (wordAt k ++ (⟨#[32]⟩ ++ key)) ++ (⟨#[32]⟩ ++ v) := by unfold textOf; rw [if_neg (by omega), if_neg h]
theorem wordAt_size {k : Nat} (h : k ≤ 11) : (wordAt k).size ≤ 8 := by
 have h1 := wordL_len k h
 have h2 : (wordAt k).size = (wordL k).length := by show (wordAt k).data.size = _; simp [wordAt]
 omega
abbrev PL := List (ByteArray × ByteArray)
def eqB (a b : ByteArray) : Bool := a.toList == b.toList
def ltB (a b : ByteArray) : Bool := Op.bytesLess a.toList b.toList
theorem eqB_iff {a b : ByteArray} : eqB a b = true ↔ a = b := by
 unfold eqB
 rw [beq_iff_eq, Lib.toList_data, Lib.toList_data]
 exact ⟨fun h => ba_ext h, fun h => by rw [h]⟩
theorem eqB_self (a : ByteArray) : eqB a a = true := eqB_iff.2 rfl
theorem bl_irrefl : ∀ l : List UInt8, Op.bytesLess l l = false
 | [] => rfl
 | a :: l => by simp [Op.bytesLess, bl_irrefl l]
theorem bl_trans : ∀ {x y z : List UInt8}, Op.bytesLess x y = true → Op.bytesLess y z = true → Op.bytesLess x z = true
 | [], [], _, h, _ => by simp [Op.bytesLess] at h
 | [], b :: y, [], _, h => by simp [Op.bytesLess] at h
 | [], b :: y, c :: z, _, _ => by simp [Op.bytesLess]
 | a :: x, [], _, h, _ => by simp [Op.bytesLess] at h
 | a :: x, b :: y, [], _, h => by simp [Op.bytesLess] at h
 | a :: x, b :: y, c :: z, h1, h2 => by
  simp only [Op.bytesLess, Bool.or_eq_true, decide_eq_true_eq, Bool.and_eq_true, beq_iff_eq] at h1 h2 ⊢
  rcases h1 with h1 | ⟨rfl, h1⟩
  ·rcases h2 with h2 | ⟨rfl, h2⟩
   ·exact .inl (UInt8.lt_trans h1 h2)
   ·exact .inl h1
  ·rcases h2 with h2 | ⟨rfl, h2⟩
   ·exact .inl h2
   ·exact .inr ⟨rfl, bl_trans h1 h2⟩
theorem bl_total : ∀ {x y : List UInt8}, Op.bytesLess x y = false → Op.bytesLess y x = false → x = y
 | [], [], _, _ => rfl
 | [], b :: y, h, _ => by simp [Op.bytesLess] at h
 | a :: x, [], _, h => by simp [Op.bytesLess] at h
 | a :: x, b :: y, h1, h2 => by
  simp only [Op.bytesLess, Bool.or_eq_false_iff, decide_eq_false_iff_not, Bool.and_eq_false_iff, beq_eq_false_iff_ne] at h1 h2
  have e : a = b := by
   apply UInt8.toNat_inj.1
   have h3 := h1.1
   have h4 := h2.1
   rw [UInt8.lt_iff_toNat_lt] at h3 h4
   omega
  subst e
  rw [bl_total (h1.2.resolve_left (by simp)) (h2.2.resolve_left (by simp))]
theorem ltB_irrefl (a : ByteArray) : ltB a a = false := bl_irrefl _
theorem ltB_trans {a b c : ByteArray} (h1 : ltB a b = true) (h2 : ltB b c = true) : ltB a c = true := bl_trans h1 h2
theorem ltB_total {a b : ByteArray} (h1 : ltB a b = false) (h2 : ltB b a = false) : a = b := by
 have := bl_total h1 h2
 rw [Lib.toList_data, Lib.toList_data] at this
 exact ba_ext this
theorem ltB_ne {a b : ByteArray} (h : ltB a b = true) : a ≠ b := fun e => by rw [e, ltB_irrefl] at h; cases h
theorem ltB_asymm {a b : ByteArray} (h : ltB a b = true) : ltB b a = false := by
 cases e : ltB b a
 ·rfl
 ·have := ltB_trans h e; rw [ltB_irrefl] at this; cases this
def atL : PL → ByteArray → Option ByteArray
 | [], _ => none
 | p :: l, k => if eqB p.1 k then some p.2 else atL l k
def plusGo (k v : ByteArray) : Bool → PL → PL
 | done, [] => if done then [] else [(k, v)]
 | done, p :: l => (if !done && !ltB p.1 k then [(k, v)] else []) ++ ((if eqB p.1 k then [] else [p]) ++ plusGo k v (done || !ltB p.1 k) l)
def plusL (l : PL) (k v : ByteArray) : PL := plusGo k v false l
def risingB : PL → Bool
 | [] => true
 | [_] => true
 | p :: q :: l => ltB p.1 q.1 && risingB (q :: l)
def pairsB (l : PL) (most : Nat) (kind : Int) : Bool := (l.all fun p => decide (checkE kind p.1 p.2 = 0)) && (risingB l && decide (l.length ≤ most))
structure Sess where
 st : Int
 set : PL
 prep : PL
 sav : PL
 wr : PL
structure Wd where
 rows : PL
 ss : List Sess
end Go.Proofs.YtpbaobmegomfpabGreatDoor
