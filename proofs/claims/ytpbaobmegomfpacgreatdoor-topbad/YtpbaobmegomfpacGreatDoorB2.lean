/-
  Texts of the proof, one behind the other: Grid, Play, GridD, PoolW4, Say13, PDo, SlS, Say2, OrdersG, PSend, PRel, PoolB, PSto, PRes, PIdN, PReady, PEnq, PAsg, Grid1, BldD, PProc, PStep, HouseS, HouseT, HouseG, PAll, PRel2, DelN, PLve, PReq, PDlv, OutM, POut, PSta, PSetup, ActL, PChk, PRun, PTop, HouseK, HouseL, HouseN, ActsM, Say11, PMsg, GridC, PActs, DelA, PStay, GridB, Repeat, Laid, LaidWords, LaidLeads, TabsL, PickW.
-/
import Derived.Test.YtpbaobmegomfpacGreatDoorB1
import Derived.Deep.AppendLies
import Derived.Test.YtpbaobmegomfpacGreatDoorRows
import Derived.WalkKit
import Derived.WalkSpells
import Derived.WalkLawsBesides
import Derived.Deep.QuietTactic
import Derived.BigQuiet
import Derived.Lib.Hide
import Derived.IntWalk
import Derived.Lib.AppendStr
import Derived.Deep.RegionHeld3
import Derived.Lib.AppendZeros
import Derived.WalkSmall
import Derived.Sort.WalkB12
import Derived.Deep.Upon
import Derived.Lib.SlBytesRow
import Derived.Lib.BufferRead
import Derived.Below
import Derived.Laws.Tables
import Derived.Deep.CutRange
import Derived.Deep.CutBlock
import Derived.Shelf.Strings.Repeat
import Derived.Test.YtpbaobmegomfpacGreatDoorProg
import Derived.ProofKit
import Derived.Lib.LaidTab
set_option linter.unusedVariables false
set_option linter.unusedSimpArgs false
set_option maxRecDepth 100000
open List renaming getElem_toArray → gTA, getElem_cons_zero → gCZ, getElem_cons_succ → gCS, setIfInBounds_toArray → sTA, set_cons_zero → sCZ, set_cons_succ → sCS
open Go.Lib renaming hid → jD
open Nat renaming le_refl → nL
namespace Go.Proofs.YtpbaobmegomfpacGreatDoor
open Go Go.RowKit
def pt (b : Nat) : Value := .pointer (some ⟨b, 0, none⟩)
def zs (lo : Nat) (t : TypeId) (zc : Array Value) (x : Option Nat) (w : World) : Prop := ∀ b, x = some b → lo ≤ b ∧ w.heap[b]? = some (.cells zc t (0, 0))
theorem zs_none (lo : Nat) (t : TypeId) (zc : Array Value) (w : World) : zs lo t zc none w := fun _ h => by cases h
theorem zs_new {lo : Nat} (t : TypeId) (zc : Array Value) (w : World) (h : lo ≤ w.heap.size) : zs lo t zc (some w.heap.size) (w.alloc (.cells zc t)) := fun b hb => by
 injection hb with hb; subst hb; exact ⟨h, heap_alloc_new w _⟩
theorem zs_row {lo : Nat} {t : TypeId} {zc : Array Value} {b : Nat} {w : World} (h : zs lo t zc (some b) w) : RowTo w b t zc.size zc.toList := ⟨zc, (h b rfl).2, rfl, by rw [List.take_of_length_le (by simp)]⟩
theorem zs_below {lo : Nat} {t : TypeId} {zc : Array Value} {x : Option Nat} {w w' : World} (h : zs lo t zc x w) (hb : Below w.heap.size w w') : zs lo t zc x w' := fun b e => by
 have := h b e
 exact ⟨this.1, (hb.block b (Array.getElem?_eq_some_iff.1 this.2).1).trans this.2⟩
theorem pc {a : Go.Act} {d e : Nat} (h : d ≠ e) (v u : Value) : (a.put (some d) v).put (some e) u = (a.put (some e) u).put (some d) v := Go.Act.put_comm a v u (fun x hx hy => by injection hx with hx; injection hy with hy; exact h (hx.trans hy.symm))
section
variable {P : Program} {ops : Array Oper} {Q : Exit → Go.Act → World → Prop} {md : Region.Mode} {S : World → Prop} {z : Nat}
theorem wpOp_wp {i : Nat} {o : Oper} {K : Go.Act → World → Prop} {a : Go.Act} {w : World} (ho : ops[i]? = some o) (hg : o.guard = none) (h : o.wp P a w K Q) : wpOp P ops Q i K a w := by
 unfold wpOp
 simp only [ho]
 rw [if_pos (by simp [Region.wanted, hg])]
 exact .inl h
theorem wp_call {o : Oper} {a : Go.Act} {w : World} {K : Go.Act → World → Prop} {g : FuncId} {args : Array Value} (hr : (execOp a.eval o).run P w = .ok (.enter g args) w)
  (h : Calls P g args w fun e w' => ∃ v, e = .returned v ∧ K (a.put o.dst v) w') : o.wp P a w K Q := by
 unfold Oper.wp
 rw [hr]
 refine Calls.mono h fun e w' he => ?_
 obtain ⟨v, rfl, hk⟩ := he
 exact hk
theorem wp_val {o : Oper} {a : Go.Act} {w w' : World} {K : Go.Act → World → Prop} {v : Value} (hr : (execOp a.eval o).run P w = .ok (.value v) w') (h : K (a.put o.dst v) w') : o.wp P a w K Q := by
 unfold Oper.wp; rw [hr]; exact h
variable {C : Nat} {cop dst : Nat → Nat} {p q dp dq : Nat} {tp tq : TypeId} {zp zq : Array Value} {Lst : Nat → Bool → Bool → Array Bool} {Lst' : Bool → Bool → Array Bool}
end
end Go.Proofs.YtpbaobmegomfpacGreatDoor
namespace Go.Proofs.YtpbaobmegomfpacGreatDoor
open Go.RowKit
section
variable {wr : World} {c : Value} {x : Value × Value × Value} {V : Wd} {an : Ans} {st : Int} {A0 : Go.Act}
end
end Go.Proofs.YtpbaobmegomfpacGreatDoor
namespace Go.Proofs.YtpbaobmegomfpacGreatDoor
open Go.RowKit
section
variable {wr : World} {C : Nat} {vs : Nat → Nat × Value} {dl : Nat} {res : Value → Value → Value} {Post : Value → Value → World → Prop} {F : Go.Act → Value → Value → Go.Act} {A0 : Go.Act}
end
end Go.Proofs.YtpbaobmegomfpacGreatDoor
namespace Go.Proofs.YtpbaobmegomfpacGreatDoor
open Go.RowKit
end Go.Proofs.YtpbaobmegomfpacGreatDoor
namespace Go.Proofs.YtpbaobmegomfpacGreatDoor
open Go.RowKit
structure Leads (w : World) : Prop where
 room : 0 < w.heap.size
 cell : ∀ k, k ≤ 4 → w.cell? ⟨0, k, none⟩ = some (.string (leadAt k))
theorem Leads.below {w w' : World} (h : Leads w) (hb : Below w.heap.size w w') : Leads w' :=
 ⟨Nat.lt_of_lt_of_le h.room hb.size, fun k hk => (hb.cell (p := ⟨0, k, none⟩) h.room).trans (h.cell k hk)⟩
theorem Leads.alloc {w : World} (h : Leads w) (o : Obj) : Leads (w.alloc o) := h.below ((Below.refl _ _).alloc (nL _) _)
end Go.Proofs.YtpbaobmegomfpacGreatDoor
namespace Go.Proofs.YtpbaobmegomfpacGreatDoor
open Go.RowKit
structure Tabs (w : World) (base : Nat) : Prop where
 wo : Words w
 le : Leads w
 l1 : 1 < base
 l2 : 0 < base
theorem Tabs.below {w w' : World} {base : Nat} (h : Tabs w base) (hb : Below base w w') : Tabs w' base :=
 ⟨⟨Nat.lt_of_lt_of_le h.wo.room hb.size, fun k hk => (hb.cell (p := ⟨1, k, none⟩) h.l1).trans (h.wo.cell k hk)⟩, ⟨Nat.lt_of_lt_of_le h.le.room hb.size, fun k hk => (hb.cell (p := ⟨0, k, none⟩) h.l2).trans (h.le.cell k hk)⟩, h.l1, h.l2⟩
section
variable {P R : Nat} {w w' w2 : World}
end
section
variable {base P : Nat} {f : Nat → Value} {G : Nat → Option Nat} {mode : Int} {m : Mach PE}
end
end Go.Proofs.YtpbaobmegomfpacGreatDoor
namespace Go.Proofs.YtpbaobmegomfpacGreatDoor
open Go.RowKit Go.Lib
end Go.Proofs.YtpbaobmegomfpacGreatDoor
namespace Go.Proofs.YtpbaobmegomfpacGreatDoor
open Go.RowKit
end Go.Proofs.YtpbaobmegomfpacGreatDoor
namespace Go.Proofs.YtpbaobmegomfpacGreatDoor
open Go
section
variable {P : Program} {ops : Array Oper} {Q : Exit → Go.Act → World → Prop} {md : Region.Mode} {S : World → Prop} {z : Nat}
end
end Go.Proofs.YtpbaobmegomfpacGreatDoor
namespace Go.Proofs.YtpbaobmegomfpacGreatDoor
open Go.RowKit
section
variable {base P : Nat} {f : Nat → Value} {G : Nat → Option Nat} {mode : Int} {m : Mach PE}
end
end Go.Proofs.YtpbaobmegomfpacGreatDoor
namespace Go.Proofs.YtpbaobmegomfpacGreatDoor
open Go.RowKit
section
variable {base P : Nat} {f : Nat → Value} {G : Nat → Option Nat} {mode : Int} {m : Mach PE}
end
end Go.Proofs.YtpbaobmegomfpacGreatDoor
namespace Go.Proofs.YtpbaobmegomfpacGreatDoor
open Go.RowKit
section
variable {E : Type} {m m' : Mach E} {N : Nat}
end
section
variable {m : Mach PE} {mode : Int} {N : Nat}
end
end Go.Proofs.YtpbaobmegomfpacGreatDoor
namespace Go.Proofs.YtpbaobmegomfpacGreatDoor
open Go.RowKit
section
variable {base P : Nat} {f : Nat → Value} {G : Nat → Option Nat} {mode : Int} {m : Mach PE}
end
end Go.Proofs.YtpbaobmegomfpacGreatDoor
namespace Go.Proofs.YtpbaobmegomfpacGreatDoor
open Go.RowKit
section
variable {base P : Nat} {f : Nat → Value} {G : Nat → Option Nat} {mode : Int} {m : Mach PE}
end
end Go.Proofs.YtpbaobmegomfpacGreatDoor
namespace Go.Proofs.YtpbaobmegomfpacGreatDoor
open Go.RowKit
end Go.Proofs.YtpbaobmegomfpacGreatDoor
namespace Go.Proofs.YtpbaobmegomfpacGreatDoor
open Go.RowKit
section
variable {base P : Nat} {f : Nat → Value} {G : Nat → Option Nat} {mode : Int} {m : Mach PE}
end
end Go.Proofs.YtpbaobmegomfpacGreatDoor
namespace Go.Proofs.YtpbaobmegomfpacGreatDoor
open Go.RowKit
section
variable {base P : Nat} {f : Nat → Value} {G : Nat → Option Nat} {mode : Int} {m : Mach PE}
end
end Go.Proofs.YtpbaobmegomfpacGreatDoor
namespace Go.Proofs.YtpbaobmegomfpacGreatDoor
open Go.RowKit
section
variable {base P : Nat} {f : Nat → Value} {G : Nat → Option Nat} {mode : Int} {m : Mach PE} {N : Nat}
end
end Go.Proofs.YtpbaobmegomfpacGreatDoor
namespace Go.Proofs.YtpbaobmegomfpacGreatDoor
open Go Go.RowKit
section
variable {P : Program} {ops : Array Oper} {Q : Exit → Go.Act → World → Prop} {md : Region.Mode} {S : World → Prop} {z : Nat}
end
end Go.Proofs.YtpbaobmegomfpacGreatDoor
namespace Go.Proofs.YtpbaobmegomfpacGreatDoor
open Go.RowKit
end Go.Proofs.YtpbaobmegomfpacGreatDoor
namespace Go.Proofs.YtpbaobmegomfpacGreatDoor
open Go.RowKit
section
variable {base P : Nat} {f : Nat → Value} {G : Nat → Option Nat} {mode : Int} {m : Mach PE} {N : Nat}
end
end Go.Proofs.YtpbaobmegomfpacGreatDoor
namespace Go.Proofs.YtpbaobmegomfpacGreatDoor
open Go.RowKit
section
variable {base P : Nat} {f : Nat → Value} {G : Nat → Option Nat} {mode : Int} {m : Mach PE} {N : Nat}
end
end Go.Proofs.YtpbaobmegomfpacGreatDoor
namespace Go.Proofs.YtpbaobmegomfpacGreatDoor
open Go.RowKit
section
variable {E : Type} {o : Ops E} {mode : Int} {m : Mach E} {c : Nat}
end
section
variable {mode : Int} {m : Mach Wd} {c : Nat}
end
end Go.Proofs.YtpbaobmegomfpacGreatDoor
namespace Go.Proofs.YtpbaobmegomfpacGreatDoor
open Go.RowKit
section
variable {mode : Int} {m : Mach Wd} {c : Nat}
end
section
variable {mode : Int}
end
section
variable {mode : Int} {m : Mach Wd} {c : Nat}
end
end Go.Proofs.YtpbaobmegomfpacGreatDoor
namespace Go.Proofs.YtpbaobmegomfpacGreatDoor
open Go.RowKit
section
variable {mode : Int} {m : Mach Wd} {c : Nat}
end
section
variable {E : Type} {o : Ops E} {mode : Int}
end
section
variable {mode : Int} {m : Mach Wd} {c : Nat}
end
end Go.Proofs.YtpbaobmegomfpacGreatDoor
namespace Go.Proofs.YtpbaobmegomfpacGreatDoor
open Go.RowKit
section
variable {base P : Nat} {f : Nat → Value} {G : Nat → Option Nat} {mode : Int} {m : Mach PE} {N : Nat}
end
end Go.Proofs.YtpbaobmegomfpacGreatDoor
namespace Go.Proofs.YtpbaobmegomfpacGreatDoor
open Go.RowKit
section
variable {base P : Nat} {f : Nat → Value} {G : Nat → Option Nat} {mode : Int} {m : Mach PE}
end
end Go.Proofs.YtpbaobmegomfpacGreatDoor
namespace Go.Proofs.YtpbaobmegomfpacGreatDoor
open Go.RowKit
section
variable {w : World} {b off cap : Nat} {d : List (Nat)}
end
end Go.Proofs.YtpbaobmegomfpacGreatDoor
namespace Go.Proofs.YtpbaobmegomfpacGreatDoor
open Go.RowKit
section
variable {base P : Nat} {f : Nat → Value} {G : Nat → Option Nat} {mode : Int} {m : Mach PE} {N : Nat}
end
end Go.Proofs.YtpbaobmegomfpacGreatDoor
namespace Go.Proofs.YtpbaobmegomfpacGreatDoor
open Go.RowKit
end Go.Proofs.YtpbaobmegomfpacGreatDoor
namespace Go.Proofs.YtpbaobmegomfpacGreatDoor
open Go.RowKit
section
variable {base P : Nat} {f : Nat → Value} {G : Nat → Option Nat} {mode : Int} {m : Mach PE} {N : Nat}
end
end Go.Proofs.YtpbaobmegomfpacGreatDoor
namespace Go.Proofs.YtpbaobmegomfpacGreatDoor
open Go.RowKit
section
variable {w w' : World} {B B' : Nat} {v : Value}
end
end Go.Proofs.YtpbaobmegomfpacGreatDoor
namespace Go.Proofs.YtpbaobmegomfpacGreatDoor
open Go.RowKit
section
variable {base P : Nat} {f : Nat → Value} {G : Nat → Option Nat} {mode : Int} {m : Mach PE} {N : Nat}
end
end Go.Proofs.YtpbaobmegomfpacGreatDoor
namespace Go.Proofs.YtpbaobmegomfpacGreatDoor
open Go.RowKit
end Go.Proofs.YtpbaobmegomfpacGreatDoor
namespace Go.Proofs.YtpbaobmegomfpacGreatDoor
open Go.RowKit
set_option maxHeartbeats 1000000 in
theorem checkSetup_any (m s : Int) (w : World) : Calls Tryz.prog 55 #[.agg #[.int .i64 m, .int .i64 s]] w fun e w' => e = .returned (.int .i64 (setupE m s)) ∧ Below w.heap.size w w' := by
 by_cases h1 : m < 1
 ·have t1 : decide (m < 1) = true := decide_eq_true h1
  have HE := jD (show setupE m s = 3 by unfold setupE; rw [if_pos (.inl h1)])
  go_enter Tryz.func55, Tryz.ntmps55
  go_wp2
  go_ret
  refine ⟨by rw [HE.out]; rfl, ?_⟩
  repeat' (first | exact Below.refl _ _ | assumption | with_reducible refine below_drewN ?_ _ | with_reducible refine Below.drew ?_ | with_reducible refine Below.setCell ?_ ?_ _ | with_reducible refine Below.alloc ?_ ?_ _ | (simp; done) | (simp; omega))
 have t1 : decide (m < 1) = false := decide_eq_false h1
 by_cases h2 : 3 < m
 ·have t2 : decide (3 < m) = true := decide_eq_true h2
  have HE := jD (show setupE m s = 3 by unfold setupE; rw [if_pos (.inr h2)])
  go_enter Tryz.func55, Tryz.ntmps55
  go_wp2
  go_ret
  refine ⟨by rw [HE.out]; rfl, ?_⟩
  repeat' (first | exact Below.refl _ _ | assumption | with_reducible refine below_drewN ?_ _ | with_reducible refine Below.drew ?_ | with_reducible refine Below.setCell ?_ ?_ _ | with_reducible refine Below.alloc ?_ ?_ _ | (simp; done) | (simp; omega))
 have t2 : decide (3 < m) = false := decide_eq_false h2
 by_cases h3 : s < 1
 ·have t3 : decide (s < 1) = true := decide_eq_true h3
  have HE := jD (show setupE m s = 2 by unfold setupE; rw [if_neg (by omega), if_pos (.inl h3)])
  go_enter Tryz.func55, Tryz.ntmps55
  go_wp2
  go_ret
  refine ⟨by rw [HE.out]; rfl, ?_⟩
  repeat' (first | exact Below.refl _ _ | assumption | with_reducible refine below_drewN ?_ _ | with_reducible refine Below.drew ?_ | with_reducible refine Below.setCell ?_ ?_ _ | with_reducible refine Below.alloc ?_ ?_ _ | (simp; done) | (simp; omega))
 have t3 : decide (s < 1) = false := decide_eq_false h3
 by_cases h4 : 4 < s
 ·have t4 : decide (4 < s) = true := decide_eq_true h4
  have HE := jD (show setupE m s = 2 by unfold setupE; rw [if_neg (by omega), if_pos (.inr h4)])
  go_enter Tryz.func55, Tryz.ntmps55
  go_wp2
  go_ret
  refine ⟨by rw [HE.out]; rfl, ?_⟩
  repeat' (first | exact Below.refl _ _ | assumption | with_reducible refine below_drewN ?_ _ | with_reducible refine Below.drew ?_ | with_reducible refine Below.setCell ?_ ?_ _ | with_reducible refine Below.alloc ?_ ?_ _ | (simp; done) | (simp; omega))
 have t4 : decide (4 < s) = false := decide_eq_false h4
 have HE := jD (show setupE m s = 0 by unfold setupE; rw [if_neg (by omega), if_neg (by omega)])
 go_enter Tryz.func55, Tryz.ntmps55
 go_wp2
 go_ret
 refine ⟨by rw [HE.out]; rfl, ?_⟩
 repeat' (first | exact Below.refl _ _ | assumption | with_reducible refine below_drewN ?_ _ | with_reducible refine Below.drew ?_ | with_reducible refine Below.setCell ?_ ?_ _ | with_reducible refine Below.alloc ?_ ?_ _ | (simp; done) | (simp; omega))
end Go.Proofs.YtpbaobmegomfpacGreatDoor
namespace Go.Proofs.YtpbaobmegomfpacGreatDoor
open Go.RowKit
structure ALst (w : World) (B : Nat) (v : Value) (l : List Act) : Prop where
 form : ∃ A c, v = .slice A l.length c ∧ l.length ≤ c
 bytes : l.length * 32 ≤ 140737488351232
 sizes : ∀ a ∈ l, a.data.size ≤ 140737488351232
 cells : 0 < l.length → ∃ b off c, v = .slice (some ⟨b, off, none⟩) l.length c ∧ b < B ∧
  ∀ i (h : i < l.length), w.cell? ⟨b, off + i * 3, none⟩ = some (.int .i64 l[i].kind) ∧ w.cell? ⟨b, off + i * 3 + 1, none⟩ = some (.int .i64 l[i].c) ∧ w.cell? ⟨b, off + i * 3 + 2, none⟩ = some (.string l[i].data)
theorem ALst.keep {w w' : World} {B B' : Nat} {v : Value} {l : List Act} (h : ALst w B v l) (hB : B ≤ B') (hk : ∀ p : Addr, p.block < B → w'.cell? p = w.cell? p) : ALst w' B' v l := by
 refine ⟨h.form, h.bytes, h.sizes, fun hn => ?_⟩
 obtain ⟨b, off, c, e, hb, hc⟩ := h.cells hn
 exact ⟨b, off, c, e, by omega, fun i hi => ⟨(hk _ hb).trans (hc i hi).1, (hk _ hb).trans (hc i hi).2.1, (hk _ hb).trans (hc i hi).2.2⟩⟩
theorem ALst.below {w w' : World} {B : Nat} {v : Value} {l : List Act} (h : ALst w B v l) (hb : Below B w w') : ALst w' B v l := h.keep (nL _) fun _ hp => hb.cell hp
theorem ALst.step {w w' : World} {v : Value} {l : List Act} (h : ALst w w.heap.size v l) (hb : Below w.heap.size w w') : ALst w' w'.heap.size v l := h.keep hb.size fun _ hp => hb.cell hp
theorem ALst.pt {w : World} {B n c : Nat} {A : Option Addr} {l : List Act} (h : ALst w B (.slice A n c) l) {k : Nat} (hk : k < l.length) :
  ∃ b off, A = some ⟨b, off, none⟩ ∧ b < B ∧ w.cell? ⟨b, off + k * 3, none⟩ = some (.int .i64 l[k].kind) ∧ w.cell? ⟨b, off + k * 3 + 1, none⟩ = some (.int .i64 l[k].c) ∧ w.cell? ⟨b, off + k * 3 + 2, none⟩ = some (.string l[k].data) := by
 obtain ⟨b, off, c', e, hb, hc⟩ := h.cells (by omega)
 injection e with e1 e2 e3
 obtain ⟨h1, h2, h3⟩ := hc k hk
 exact ⟨b, off, e1, hb, h1, h2, h3⟩
theorem actsE_take {l : List Act} {k : Nat} (hk : k < l.length) (h : actsE (l.take k) = 0) : actsE (l.take (k + 1)) = actE l[k] := by
 induction l generalizing k with
 | nil => simp at hk
 | cons a l ih =>
  cases k with
  | zero => simp [actsE]; intro h; exact h.symm
  | succ k =>
   rw [List.take_succ_cons] at h ⊢
   unfold actsE at h ⊢
   by_cases e : actE a ≠ 0
   ·rw [if_pos e] at h; exact absurd h e
   ·rw [if_neg e] at h ⊢
    exact ih (by simpa using hk) h
theorem actsE_of {l : List Act} {k : Nat} (hk : k < l.length) (h : actsE (l.take k) = 0) (he : actE l[k] ≠ 0) : actsE l = actE l[k] := by
 induction l generalizing k with
 | nil => simp at hk
 | cons a l ih =>
  cases k with
  | zero => unfold actsE; rw [if_pos (by simpa using he)]; rfl
  | succ k =>
   rw [List.take_succ_cons] at h
   unfold actsE at h ⊢
   by_cases e : actE a ≠ 0
   ·rw [if_pos e] at h; exact absurd h e
   ·rw [if_neg e] at h ⊢
    exact ih (by simpa using hk) h (by simpa using he)
end Go.Proofs.YtpbaobmegomfpacGreatDoor
namespace Go.Proofs.YtpbaobmegomfpacGreatDoor
open Go.RowKit
set_option maxHeartbeats 1000000 in
theorem checkAct_any (k c : Int) (d : ByteArray) (w : World) : Calls Tryz.prog 56 #[.agg #[.int .i64 k, .int .i64 c, .string d]] w fun e w' => e = .returned (.int .i64 (actE ⟨k, c, d⟩)) ∧ Below w.heap.size w w' := by
 have nn := (Below.refl w.heap.size w).alloc (nL _) (.cells #[.int .i64 k, .int .i64 c, .string d] 45)
 by_cases h1 : k = 1 ∨ k = 2
 case neg =>
  have t1 : (k != 1) = true := bne_iff_ne.2 (fun h => h1 (.inl h))
  have t2 : (k != 2) = true := bne_iff_ne.2 (fun h => h1 (.inr h))
  have HE := jD (show actE ⟨k, c, d⟩ = 3 by unfold actE; rw [if_pos h1])
  have HN := jD nn
  clear h1 nn
  go_enter Tryz.func56, Tryz.ntmps56
  go_wp2
  go_ret
  exact ⟨by rw [HE.out]; rfl, HN.out⟩
 by_cases h2 : c < 0
 ·have t3 : decide (c < 0) = true := decide_eq_true h2
  have HE := jD (show actE ⟨k, c, d⟩ = 2 by unfold actE; rw [if_neg (fun h => h h1), if_pos (.inl h2)])
  have HN := jD nn
  clear h2 nn
  rcases h1 with rfl | rfl
  all_goals
   go_enter Tryz.func56, Tryz.ntmps56
   go_wp2
   go_ret
   exact ⟨by rw [HE.out]; rfl, HN.out⟩
 have t3 : decide (c < 0) = false := decide_eq_false h2
 by_cases h3 : 6 ≤ c
 ·have t4 : decide (6 ≤ c) = true := decide_eq_true h3
  have HE := jD (show actE ⟨k, c, d⟩ = 2 by unfold actE; rw [if_neg (fun h => h h1), if_pos (.inr h3)])
  have HN := jD nn
  clear h2 h3 nn
  rcases h1 with rfl | rfl
  all_goals
   go_enter Tryz.func56, Tryz.ntmps56
   go_wp2
   go_ret
   exact ⟨by rw [HE.out]; rfl, HN.out⟩
 have t4 : decide (6 ≤ c) = false := decide_eq_false h3
 by_cases h4 : 1000 < d.size
 ·have t5 : decide (1000 < (d.size : Int)) = true := decide_eq_true (by omega)
  have HE := jD (show actE ⟨k, c, d⟩ = 1 by unfold actE; rw [if_neg (fun h => h h1), if_neg (by simp only; omega), if_pos h4])
  have HN := jD nn
  clear h2 h3 h4 nn
  rcases h1 with rfl | rfl
  all_goals
   go_enter Tryz.func56, Tryz.ntmps56
   go_wp2
   go_ret
   exact ⟨by rw [HE.out]; rfl, HN.out⟩
 have t5 : decide (1000 < (d.size : Int)) = false := decide_eq_false (by omega)
 have HE := jD (show actE ⟨k, c, d⟩ = 0 by unfold actE; rw [if_neg (fun h => h h1), if_neg (by simp only; omega), if_neg h4])
 have HN := jD nn
 clear h2 h3 h4 nn
 rcases h1 with rfl | rfl
 all_goals
  go_enter Tryz.func56, Tryz.ntmps56
  go_wp2
  go_ret
  exact ⟨by rw [HE.out]; rfl, HN.out⟩
set_option maxHeartbeats 1000000 in
theorem checkRun_any (m s : Int) (v : Value) (l : List Act) (w : World) (hl : ALst w w.heap.size v l) :
  Calls Tryz.prog 42 #[.agg #[.int .i64 m, .int .i64 s], v] w fun e w' => e = .returned (.int .i64 (runE m s l)) ∧ Below w.heap.size w w' := by
 obtain ⟨A, c, rfl, hc⟩ := hl.form
 have hby := hl.bytes
 have HL := jD hl
 have HCS := jD (checkSetup_any m s)
 clear hl
 by_cases hs : setupE m s = 0
 case neg =>
  have HE := jD (show runE m s l = setupE m s by unfold runE; rw [if_pos hs])
  have t1 : (setupE m s != 0) = true := bne_iff_ne.2 hs
  clear hs
  generalize setupE m s = e0 at *
  go_enter Tryz.func42, Tryz.ntmps42
  go_wp2_with fail
  refine (HCS.out _).mono ?_
  rintro e w1 ⟨rfl, hb⟩
  have HB := jD hb
  go_wp2
  go_ret
  exact ⟨by rw [HE.out]; rfl, bel_add' ((Below.refl w.heap.size w).alloc (nL _) _) HB.out (by simp)⟩
 rw [hs] at HCS
 by_cases h3 : 300 < l.length
 ·have t2 : decide (300 < (l.length : Int)) = true := decide_eq_true (by omega)
  have HE := jD (show runE m s l = 1 by unfold runE; rw [if_neg (fun h => h hs), if_pos h3])
  clear hs
  go_enter Tryz.func42, Tryz.ntmps42
  go_wp2_with fail
  refine (HCS.out _).mono ?_
  rintro e w1 ⟨rfl, hb⟩
  have HB := jD hb
  go_wp2
  go_ret
  exact ⟨by rw [HE.out]; rfl, bel_add' ((Below.refl w.heap.size w).alloc (nL _) _) HB.out (by simp)⟩
 have t2 : decide (300 < (l.length : Int)) = false := decide_eq_false (by omega)
 have HE := jD (show runE m s l = actsE l by unfold runE; rw [if_neg (fun h => h hs), if_neg h3])
 clear hs
 go_enter Tryz.func42, Tryz.ntmps42
 go_wp2_with fail
 refine (HCS.out _).mono ?_
 rintro e w1 ⟨rfl, hb⟩
 have HB := jD (bel_add' ((Below.refl w.heap.size w).alloc (nL _) _) hb (by simp))
 clear hb
 go_wp2
 go_loopw [19] (fun j wr => ∃ k : Nat, k ≤ l.length ∧ j = .int .i64 k ∧ Hid (actsE (l.take k) = 0 ∧ Below w.heap.size w wr)) (fun j _ => l.length - (intOf j).toNat)
 case atStart => exact ⟨0, by omega, rfl, rfl, HB.out⟩
 case round =>
  obtain ⟨k, hk, rfl, hR⟩ := hrel
  clear HB
  by_cases hlt : k < l.length
  ·obtain ⟨b, off, rfl, hb, l0, l1, l2⟩ := HL.out.pt hlt
   have bl := hR.out.2
   have d0 := (bl.cell (p := ⟨b, off + k * 3, none⟩) hb).trans l0
   have d1 := (bl.cell (p := ⟨b, off + k * 3 + 1, none⟩) hb).trans l1
   have d2 := (bl.cell (p := ⟨b, off + k * 3 + 2, none⟩) hb).trans l2
   have hbw : b < wr.heap.size := Nat.lt_of_lt_of_le hb bl.size
   have HT := jD (actsE_take hlt hR.out.1)
   have HO := jD (fun h => actsE_of hlt hR.out.1 h)
   have HC := jD (fun wc => checkAct_any l[k].kind l[k].c l[k].data wc)
   have HBL := jD bl
   obtain ⟨q, HQ⟩ : ∃ q, Hid (actE l[k] = q) := ⟨_, jD rfl⟩
   have hq : actE ⟨l[k].kind, l[k].c, l[k].data⟩ = q := HQ.out
   rw [hq] at HC
   rw [HQ.out] at HT HO
   generalize l[k] = x at *
   clear l0 l1 l2 bl hq HQ hR
   go_wp2_with fail
   refine (HC.out _).mono ?_
   rintro e w2 ⟨rfl, hb2⟩
   have HB2 := jD (bel_add' (HBL.out.alloc HBL.out.size (.cells #[.int .i64 x.kind, .int .i64 x.c, .string x.data] 45)) hb2 (by have := HBL.out.size; simp; omega))
   clear hb2
   by_cases hq : q = 0
   ·subst hq
    go_wp2
    go_roundw
    case rel => exact ⟨k + 1, by omega, by go_num, HT.out, HB2.out⟩
    case measure => simp [intOf]; omega
   ·have t1 : (q != 0) = true := bne_iff_ne.2 hq
    have HO2 := jD (HO.out hq)
    clear HO hq
    go_wp2
    go_ret
    exact ⟨by rw [HE.out, HO2.out]; rfl, HB2.out⟩
  ·obtain rfl : k = l.length := by omega
   have HZ := jD hR.out.1
   rw [List.take_length] at HZ
   have HBL := jD hR.out.2
   go_wp2
   go_ret
   exact ⟨by rw [HE.out, HZ.out]; rfl, HBL.out⟩
end Go.Proofs.YtpbaobmegomfpacGreatDoor
namespace Go.Proofs.YtpbaobmegomfpacGreatDoor
open Go.RowKit
section
variable {base P : Nat} {f : Nat → Value} {G : Nat → Option Nat} {mode : Int} {m : Mach PE} {N : Nat}
end
section
variable {P : Program} {ops : Array Oper} {Q : Exit → Go.Act → World → Prop} {md : Region.Mode} {S : World → Prop} {z : Nat}
end
set_option maxHeartbeats 1000000 in
theorem run_bad (mode srv : Int) (v : Value) (l : List Act) (w : World) (hl : ALst w w.heap.size v l) (hE : runE mode srv l ≠ 0) :
  Calls Tryz.prog 29 #[.agg #[.int .i64 mode, .int .i64 srv], v] w fun e w' => e = .returned (.tuple #[.agg #[.slice none 0 0, .slice none 0 0, .slice none 0 0], .int .i64 (runE mode srv l)]) ∧ Below w.heap.size w w' := by
 have n0 := ((Below.refl w.heap.size w).alloc (nL _) (.cells #[.int .i64 mode, .int .i64 srv] 31)).alloc (by simp) (.cells #[.slice none 0 0, .slice none 0 0, .slice none 0 0] 27)
 have X1 := (RowTo.whole w #[.int .i64 mode, .int .i64 srv] 31).alloc (.cells #[.slice none 0 0, .slice none 0 0, .slice none 0 0] 27)
 have X2 := RowTo.whole (w.alloc (.cells #[.int .i64 mode, .int .i64 srv] 31)) #[.slice none 0 0, .slice none 0 0, .slice none 0 0] 27
 simp only [World.size_alloc] at X2
 obtain ⟨x0, x1⟩ := cells2 X1
 have HCR := jD (checkRun_any mode srv v l _ (hl.step n0))
 obtain ⟨A, cA, rfl, hcA⟩ := hl.form
 have HX := jD X2
 have HN0 := jD n0
 obtain ⟨er, HER⟩ : ∃ e, Hid (runE mode srv l = e) := ⟨_, jD rfl⟩
 rw [HER.out] at HCR hE ⊢
 have hne : (er != (0 : Int)) = true := bne_iff_ne.2 hE
 clear hl hE n0 X1 X2
 go_enter Tryz.func29, Tryz.ntmps29
 go_wp2_with fail
 refine HCR.out.mono ?_
 rintro e w1 ⟨rfl, hb1⟩
 have hX2 := HX.out.below hb1 HX.out.lt
 have hbw := bel_add' HN0.out hb1 HN0.out.size
 obtain ⟨y0, y1, y2⟩ := cells3 hX2
 have z0 := hX2.frozen 0
 have z1 := hX2.frozen 1
 have z2 := hX2.frozen 2
 have hRl := hX2.lt
 have hBf := ((hbw.setCell (p := ⟨w.heap.size + 1, 0, none⟩) (by show w.heap.size ≤ w.heap.size + 1; omega) (.slice none 0 0)).setCell (p := ⟨w.heap.size + 1, 1, none⟩) (by show w.heap.size ≤ w.heap.size + 1; omega) (.slice none 0 0)).setCell (p := ⟨w.heap.size + 1, 2, none⟩) (by show w.heap.size ≤ w.heap.size + 1; omega) (.slice none 0 0)
 have hRf := ((hX2.put (j := 0) (by simp) (.slice none 0 0)).put (j := 1) (by simp) (.slice none 0 0)).put (j := 2) (by simp) (.slice none 0 0)
 have HF := jD (And.intro hBf hRf)
 clear hBf hRf hX2 hbw hb1 HCR HX HN0 x0 x1
 go_wp2
 obtain ⟨hBB, hRow⟩ := HF.out
 obtain ⟨t0, t1, t2⟩ := cells3 hRow
 generalize ((w1.setCell ⟨w.heap.size + 1, 0, none⟩ (.slice none 0 0)).setCell ⟨w.heap.size + 1, 1, none⟩ (.slice none 0 0)).setCell ⟨w.heap.size + 1, 2, none⟩ (.slice none 0 0) = WF at *
 refine bodyPost_ret (v := .tuple #[.agg #[.slice none 0 0, .slice none 0 0, .slice none 0 0], .int .i64 er]) (by simp [results, Tryz.results29, go_sem, t0, t1, t2]) rfl ⟨rfl, hBB⟩
end Go.Proofs.YtpbaobmegomfpacGreatDoor
namespace Go.Proofs.YtpbaobmegomfpacGreatDoor
open Go.RowKit
end Go.Proofs.YtpbaobmegomfpacGreatDoor
namespace Go.Proofs.YtpbaobmegomfpacGreatDoor
open Go.RowKit
section
variable {mode : Int} {m : Mach Wd}
end
end Go.Proofs.YtpbaobmegomfpacGreatDoor
namespace Go.Proofs.YtpbaobmegomfpacGreatDoor
open Go.RowKit
section
variable {mode : Int} {m : Mach Wd} {c : Nat}
end
section
variable {mode : Int} {m : Mach Wd} {c : Nat}
end
end Go.Proofs.YtpbaobmegomfpacGreatDoor
namespace Go.Proofs.YtpbaobmegomfpacGreatDoor
open Go.RowKit
section
variable {mode : Int} {m : Mach Wd} {c : Nat}
end
section
variable {mode : Int} {S T S' T' : Sess} {s t : ByteArray} {ds : List Deed} {r : Req} {a : Ans}
end
section
variable (v o : ByteArray)
variable {v o}
variable {mode : Int} {s t : ByteArray} {ds : List Deed}
end
end Go.Proofs.YtpbaobmegomfpacGreatDoor
namespace Go.Proofs.YtpbaobmegomfpacGreatDoor
open Go.RowKit
end Go.Proofs.YtpbaobmegomfpacGreatDoor
namespace Go.Proofs.YtpbaobmegomfpacGreatDoor
open Go.RowKit
end Go.Proofs.YtpbaobmegomfpacGreatDoor
namespace Go.Proofs.YtpbaobmegomfpacGreatDoor
open Go.RowKit
end Go.Proofs.YtpbaobmegomfpacGreatDoor
namespace Go.Proofs.YtpbaobmegomfpacGreatDoor
open Go Go.RowKit
def fr1 (dp : Nat) (a : Go.Act) : Option Nat → Go.Act
 | none => a
 | some b => a.put (some dp) (pt b)
theorem fr1_put {dp d : Nat} (h : d ≠ dp) (a : Go.Act) (x : Option Nat) (v : Value) : (fr1 dp a x).put (some d) v = fr1 dp (a.put (some d) v) x := by
 cases x with
 | none => rfl
 | some b => simp only [fr1]; rw [pc (Ne.symm h)]
def putN (dst : Nat → Nat) (vals : Nat → Value) (a : Go.Act) : Nat → Go.Act
 | 0 => a
 | c + 1 => (putN dst vals a c).put (some (dst c)) (vals c)
section
variable {P : Program} {ops : Array Oper} {Q : Exit → Go.Act → World → Prop} {md : Region.Mode} {S R : World → Prop} {z : Nat}
end
end Go.Proofs.YtpbaobmegomfpacGreatDoor
namespace Go.Proofs.YtpbaobmegomfpacGreatDoor
open Go.RowKit
end Go.Proofs.YtpbaobmegomfpacGreatDoor
namespace Go.Proofs.YtpbaobmegomfpacGreatDoor
open Go.RowKit
section
variable {w : World} {b off cap : Nat} {d : List (Act)}
end
end Go.Proofs.YtpbaobmegomfpacGreatDoor
namespace Go.Proofs.YtpbaobmegomfpacGreatDoor
open Go.RowKit
end Go.Proofs.YtpbaobmegomfpacGreatDoor
namespace Go.Proofs.YtpbaobmegomfpacGreatDoor
open Go Go.RowKit
section
variable {P : Program} {ops : Array Oper} {Q : Exit → Go.Act → World → Prop} {md : Region.Mode} {S : World → Prop} {z : Nat}
theorem gridT {C : Nat} {cop dst : Nat → Nat} {p dp : Nat} {tp : TypeId} {zp : Array Value} {L : Nat → Bool → Array Bool}
  (op : ∃ o, ops[p]? = some o ∧ o.guard = none ∧ o.dst = some dp ∧ ∀ (ev : Operand → Value) w, (execOp ev o).run P w = .ok (.value (pt w.heap.size)) (w.alloc (.cells zp tp)))
  (ready : ∀ c x, c < C → Region.ready md ops (L c x) = cop c :: (if x then [] else [p])) {L' : Bool → Array Bool} (readyC : Region.ready md ops (L' false) = [p]) (setpC : (L' false).setIfInBounds p true = L' true)
  (setc : ∀ c x, c < C → (L c x).setIfInBounds (cop c) true = L (c + 1) x) (setp : ∀ c, c < C → (L c false).setIfInBounds p true = L c true)
  (dn : ∀ c, c < C → dst c ≠ dp) (J : Nat → Go.Act → World → Prop) (J' : Go.Act → World → Prop) (n0 k0 lo : Nat) (hJ' : ∀ a w, J' a w → J' a (w.alloc (.cells zp tp))) (hS' : ∀ a w, J' a w → S w) (hl' : ∀ a w, J' a w → lo ≤ w.heap.size)
  (htake : ∀ a x w n, J C a w → zs lo tp zp x w → (∀ a', J' a' w → wpAnyZ P md ops Q S z n (L' x.isSome) (fr1 dp a' x) w) → wpAnyZ P md ops Q S z (n + k0) (L C x.isSome) (fr1 dp a x) w) (hJ : ∀ c a w, J c a w → J c a (w.alloc (.cells zp tp))) (hS : ∀ c a w, J c a w → S w) (hl : ∀ c a w, J c a w → lo ≤ w.heap.size)
  (steps : ∀ c a x w, c < C → J c a w → wpOp P ops Q (cop c) (fun a' w' => ∃ v, a' = (fr1 dp a x).put (some (dst c)) v ∧ J (c + 1) (a.put (some (dst c)) v) w' ∧ Below w.heap.size w w') (fr1 dp a x) w)
  (hfin : ∀ a w b, J' a w → zs lo tp zp (some b) w → wpAnyZ P md ops Q S z n0 (L' true) (a.put (some dp) (pt b)) w) :
  ∀ a w, J 0 a w → wpAnyZ P md ops Q S z (n0 + 1 + k0 + C) (L 0 false) a w := by
 obtain ⟨o, p1, p2, p3, p4⟩ := op
 have ap : ∀ (a : Go.Act) (w : World) (K : Go.Act → World → Prop), K (fr1 dp a (some w.heap.size)) (w.alloc (.cells zp tp)) → wpOp P ops Q p K (fr1 dp a none) w := fun a w K h => by
  refine wpOp_wp p1 p2 (wp_val (p4 _ w) ?_)
  rw [p3]; exact h
 have main : ∀ (k c : Nat), c + k = C → ∀ (x : Option Nat) (a : Go.Act) (w : World), J c a w → zs lo tp zp x w → wpAnyZ P md ops Q S z (n0 + (!x.isSome).toNat + k0 + k) (L c x.isSome) (fr1 dp a x) w := by
  intro k
  induction k with
  | zero =>
   intro c hc x a w hw hz
   obtain rfl : c = C := by omega
   refine htake a x w _ hw hz fun a' ha' => ?_
   cases x with
   | some b => exact hfin a' w b ha' hz
   | none =>
    refine ⟨fun h0 => (by rw [show (none : Option Nat).isSome = false from rfl, readyC] at h0; cases h0), fun i hi => ?_⟩
    rw [show (none : Option Nat).isSome = false from rfl, readyC] at hi
    obtain rfl : i = p := by simpa using hi
    have hw' := hJ' a' w ha'
    refine ap _ w _ ⟨fun _ => hS' _ _ hw', ?_⟩
    rw [show (none : Option Nat).isSome = false from rfl, setpC]
    exact hfin _ _ _ hw' (zs_new _ _ _ (hl' _ _ ha'))
  | succ k ih =>
   intro c hc x a w hw hz
   have hcC : c < C := by omega
   have call : ∀ (x : Option Nat) (w : World), J c a w → zs lo tp zp x w → wpOp P ops Q (cop c) (fun a w' => (cop c ≠ z → S w') ∧ wpAnyZ P md ops Q S z (n0 + (!x.isSome).toNat + k0 + k) ((L c x.isSome).setIfInBounds (cop c) true) a w') (fr1 dp a x) w := fun x w hw hz => by
    refine wpOp_mono (fun a' w' h => ?_) (steps c a x w hcC hw)
    obtain ⟨v, rfl, hw', hb⟩ := h
    refine ⟨fun _ => hS _ _ _ hw', ?_⟩
    rw [setc c _ hcC, fr1_put (dn c hcC)]
    exact ih (c + 1) (by omega) x _ w' hw' (zs_below hz hb)
   cases x with
   | some b =>
    refine ⟨fun h0 => (by rw [ready c _ hcC] at h0; cases h0), fun i hi => ?_⟩
    rw [ready c _ hcC] at hi
    obtain rfl : i = cop c := by simpa using hi
    exact call (some b) w hw hz
   | none =>
    refine ⟨fun h0 => (by rw [ready c _ hcC] at h0; cases h0), fun i hi => ?_⟩
    rw [ready c _ hcC] at hi
    have hi : i = cop c ∨ i = p := by simpa using hi
    rcases hi with rfl | rfl
    ·exact call none w hw hz
    ·have hw' := hJ c a w hw
     refine ap _ w _ ⟨fun _ => hS _ _ _ hw', ?_⟩
     rw [show (none : Option Nat).isSome = false from rfl, setp c hcC]
     have go := (⟨fun h0 => (by rw [ready c _ hcC] at h0; cases h0), fun j hj => (by
      rw [ready c _ hcC] at hj
      obtain rfl : j = cop c := by simpa using hj
      exact call (some w.heap.size) _ hw' (zs_new _ _ _ (hl _ _ _ hw)))⟩ : wpAnyZ P md ops Q S z (n0 + (!(some w.heap.size : Option Nat).isSome).toNat + k0 + k + 1) (L c (some w.heap.size : Option Nat).isSome) (fr1 dp a (some w.heap.size)) (w.alloc (.cells zp tp)))
     have e : n0 + (!(none : Option Nat).isSome).toNat + k0 + k = n0 + (!(some w.heap.size : Option Nat).isSome).toNat + k0 + k + 1 := by
      show n0 + 1 + k0 + k = n0 + 0 + k0 + k + 1
      omega
     show wpAnyZ P md ops Q S z (n0 + (!(none : Option Nat).isSome).toNat + k0 + k) (L c true) _ _
     rw [e]
     exact go
 intro a w hw
 exact main C 0 (by omega) none a w hw (zs_none _ _ _ _)
theorem gridB {β : Type} {C : Nat} {cop dst : Nat → Nat} {vals : β → Nat → Value} {A0 : Go.Act} {p dp : Nat} {tp : TypeId} {zp : Array Value} {L : Nat → Bool → Array Bool} {L' : Bool → Array Bool}
  (op : ∃ o, ops[p]? = some o ∧ o.guard = none ∧ o.dst = some dp ∧ ∀ (ev : Operand → Value) w, (execOp ev o).run P w = .ok (.value (pt w.heap.size)) (w.alloc (.cells zp tp)))
  (ready : ∀ c x, c < C → Region.ready md ops (L c x) = cop c :: (if x then [] else [p])) (readyC : Region.ready md ops (L' false) = [p]) (setpC : (L' false).setIfInBounds p true = L' true)
  (setc : ∀ c x, c < C → (L c x).setIfInBounds (cop c) true = L (c + 1) x) (setp : ∀ c, c < C → (L c false).setIfInBounds p true = L c true)
  (dn : ∀ c, c < C → dst c ≠ dp) (R : Nat → β → World → Prop) (E : Go.Act → Go.Act) (n0 k0 lo : Nat)
  (htake : ∀ b x w n, R C b w → wpAnyZ P md ops Q S z n (L' x.isSome) (fr1 dp (E (putN dst (vals b) A0 C)) x) w → wpAnyZ P md ops Q S z (n + k0) (L C x.isSome) (fr1 dp (putN dst (vals b) A0 C) x) w) (hR : ∀ c b w, R c b w → R c b (w.alloc (.cells zp tp))) (hS : ∀ c b w, R c b w → S w) (hl : ∀ c b w, R c b w → lo ≤ w.heap.size)
  (steps : ∀ c b x w, c < C → R c b w → wpOp P ops Q (cop c) (fun a' w' => ∃ v b', a' = (fr1 dp (putN dst (vals b) A0 c) x).put (some (dst c)) v ∧ (putN dst (vals b) A0 c).put (some (dst c)) v = putN dst (vals b') A0 (c + 1) ∧ R (c + 1) b' w' ∧ Below w.heap.size w w') (fr1 dp (putN dst (vals b) A0 c) x) w)
  (hfin : ∀ w b b1, R C b w → zs lo tp zp (some b1) w → wpAnyZ P md ops Q S z n0 (L' true) ((E (putN dst (vals b) A0 C)).put (some dp) (pt b1)) w) :
  ∀ w b, R 0 b w → wpAnyZ P md ops Q S z (n0 + 1 + k0 + C) (L 0 false) A0 w := fun w b hw =>
 gridT op ready readyC setpC setc setp dn (fun c a w => ∃ b, a = putN dst (vals b) A0 c ∧ R c b w) (fun a w => ∃ b, a = E (putN dst (vals b) A0 C) ∧ R C b w) n0 k0 lo (fun a w h => by obtain ⟨b, e, h⟩ := h; exact ⟨b, e, hR _ _ _ h⟩) (fun a w h => by obtain ⟨b, e, h⟩ := h; exact hS _ _ _ h) (fun a w h => by obtain ⟨b, e, h⟩ := h; exact hl _ _ _ h)
  (fun a x w n h hz H => by obtain ⟨b, rfl, hw⟩ := h; exact htake b x w n hw (H _ ⟨b, rfl, hw⟩)) (fun c a w h => by obtain ⟨b, e, h⟩ := h; exact ⟨b, e, hR _ _ _ h⟩) (fun c a w h => by obtain ⟨b, e, h⟩ := h; exact hS _ _ _ h) (fun c a w h => by obtain ⟨b, e, h⟩ := h; exact hl _ _ _ h)
  (fun c a x w hc h => by
   obtain ⟨b, rfl, hw⟩ := h
   refine wpOp_mono (fun a' w' h => ?_) (steps c b x w hc hw)
   obtain ⟨v, b', h1, h2, h3, h4⟩ := h
   exact ⟨v, h1, ⟨b', h2, h3⟩, h4⟩)
  (fun a w b1 h hz => by obtain ⟨b, rfl, hw⟩ := h; exact hfin w b b1 hw hz) A0 w ⟨b, rfl, hw⟩
theorem stepB_call {β : Type} {i d dp : Nat} {a : Go.Act} {x : Option Nat} {w : World} {g : FuncId} {args : Array Value} {v : Value} {R : β → World → Prop} {F : β → Go.Act} {b' : β} (h0 : ∃ o, ops[i]? = some o ∧ o.guard = none ∧ o.dst = some d ∧ (execOp (fr1 dp a x).eval o).run P w = .ok (.enter g args) w)
  (hc : Calls P g args w fun e w' => e = .returned v ∧ Below w.heap.size w w') (hv : a.put (some d) v = F b') (hR : ∀ w', Below w.heap.size w w' → R b' w') :
  wpOp P ops Q i (fun a' w' => ∃ v b', a' = (fr1 dp a x).put (some d) v ∧ a.put (some d) v = F b' ∧ R b' w' ∧ Below w.heap.size w w') (fr1 dp a x) w := by
 obtain ⟨o, h1, h2, h3, h4⟩ := h0
 refine wpOp_wp h1 h2 (wp_call h4 (hc.mono ?_))
 rintro e w' ⟨rfl, hb⟩
 exact ⟨v, rfl, v, b', by rw [h3], hv, hR w' hb, hb⟩
theorem stepB_val {β : Type} {i d dp : Nat} {a : Go.Act} {x : Option Nat} {w w' : World} {v : Value} {R : β → World → Prop} {F : β → Go.Act} {b' : β} (h0 : ∃ o, ops[i]? = some o ∧ o.guard = none ∧ o.dst = some d ∧ (execOp (fr1 dp a x).eval o).run P w = .ok (.value v) w')
  (hv : a.put (some d) v = F b') (hR : R b' w') (hb : Below w.heap.size w w') :
  wpOp P ops Q i (fun a' w' => ∃ v b', a' = (fr1 dp a x).put (some d) v ∧ a.put (some d) v = F b' ∧ R b' w' ∧ Below w.heap.size w w') (fr1 dp a x) w := by
 obtain ⟨o, h1, h2, h3, h4⟩ := h0
 refine wpOp_wp h1 h2 (wp_val h4 ?_)
 exact ⟨v, b', by rw [h3], hv, hR, hb⟩
end
end Go.Proofs.YtpbaobmegomfpacGreatDoor
namespace Go.Proofs.YtpbaobmegomfpacGreatDoor
open Go.Shelf Go.Proofs
def Tryz.lays105_ren : Go.Shelf.Ren := ⟨fun | 105 => 30 | 212 => 45 | 99 => 27 | 165 => 46 | 166 => 47 | 170 => 48 | 169 => 49 | 263 => 60 | 264 => 61 | 206 => 41 | 240 => 62 | 241 => 63 | 276 => 77 | 277 => 78 | n => n, fun | 9 => 9 | 3 => 3 | 4 => 4 | 20 => 20 | 0 => 0 | 46 => 97 | 109 => 98 | 5 => 5 | 72 => 102 | 76 => 106 | 51 => 117 | 146 => 118 | 53 => 120 | 148 => 121 | 70 => 100 | 37 => 79 | 75 => 105 | 127 => 123 | 164 => 135 | 80 => 109 | n => n, fun | n => n⟩
theorem Tryz.lays105 : Go.Proofs.Lays.n105 Tryz.prog Tryz.lays105_ren := {
 mixed := by kernel_rfl
 f99 := Tryz.func27.trans (congrArg some (by kernel_rfl))
 f105 := Tryz.func30.trans (congrArg some (by kernel_rfl))
 f165 := Tryz.func46.trans (congrArg some (by kernel_rfl))
 f166 := Tryz.func47.trans (congrArg some (by kernel_rfl))
 f169 := Tryz.func49.trans (congrArg some (by kernel_rfl))
 f170 := Tryz.func48.trans (congrArg some (by kernel_rfl))
 f206 := Tryz.func41.trans (congrArg some (by kernel_rfl))
 f212 := Tryz.func45.trans (congrArg some (by kernel_rfl))
 f240 := Tryz.func62.trans (congrArg some (by kernel_rfl))
 f241 := Tryz.func63.trans (congrArg some (by kernel_rfl))
 f263 := Tryz.func60.trans (congrArg some (by kernel_rfl))
 f264 := Tryz.func61.trans (congrArg some (by kernel_rfl))
 f276 := Tryz.func77.trans (congrArg some (by kernel_rfl))
 f277 := Tryz.func78.trans (congrArg some (by kernel_rfl))
 t0 := Tryz.underlying0
 a0 := Tryz.isAgg0
 z0 := Tryz.sizeOf0
 v0 := Tryz.zeroValue0
 t3 := Tryz.underlying3
 a3 := Tryz.isAgg3
 z3 := Tryz.sizeOf3
 v3 := Tryz.zeroValue3
 t4 := Tryz.underlying4
 a4 := Tryz.isAgg4
 z4 := Tryz.sizeOf4
 v4 := Tryz.zeroValue4
 t5 := Tryz.underlying5
 a5 := Tryz.isAgg5
 z5 := Tryz.sizeOf5
 v5 := Tryz.zeroValue5
 t9 := Tryz.underlying9
 a9 := Tryz.isAgg9
 z9 := Tryz.sizeOf9
 v9 := Tryz.zeroValue9
 t20 := Tryz.underlying20
 a20 := Tryz.isAgg20
 z20 := Tryz.sizeOf20
 v20 := Tryz.zeroValue20
 t37 := Tryz.underlying79
 a37 := Tryz.isAgg79
 z37 := Tryz.sizeOf79
 v37 := Tryz.zeroValue79
 t46 := Tryz.underlying97
 a46 := Tryz.isAgg97
 z46 := Tryz.sizeOf97
 v46 := Tryz.zeroValue97
 t51 := Tryz.underlying117
 a51 := Tryz.isAgg117
 z51 := Tryz.sizeOf117
 v51 := Tryz.zeroValue117
 t53 := Tryz.underlying120
 a53 := Tryz.isAgg120
 z53 := Tryz.sizeOf120
 v53 := Tryz.zeroValue120
 t70 := Tryz.underlying100
 a70 := Tryz.isAgg100
 z70 := Tryz.sizeOf100
 v70 := Tryz.zeroValue100
 t72 := Tryz.underlying102
 a72 := Tryz.isAgg102
 z72 := Tryz.sizeOf102
 v72 := Tryz.zeroValue102
 t75 := Tryz.underlying105
 a75 := Tryz.isAgg105
 z75 := Tryz.sizeOf105
 v75 := Tryz.zeroValue105
 t76 := Tryz.underlying106
 a76 := Tryz.isAgg106
 z76 := Tryz.sizeOf106
 v76 := Tryz.zeroValue106
 t109 := Tryz.underlying98
 a109 := Tryz.isAgg98
 z109 := Tryz.sizeOf98
 v109 := Tryz.zeroValue98
 t127 := Tryz.underlying123
 a127 := Tryz.isAgg123
 z127 := Tryz.sizeOf123
 v127 := Tryz.zeroValue123
 t146 := Tryz.underlying118
 a146 := Tryz.isAgg118
 z146 := Tryz.sizeOf118
 v146 := Tryz.zeroValue118
 t148 := Tryz.underlying121
 a148 := Tryz.isAgg121
 z148 := Tryz.sizeOf121
 v148 := Tryz.zeroValue121
 t164 := Tryz.underlying135
 a164 := Tryz.isAgg135
 z164 := Tryz.sizeOf135
 v164 := Tryz.zeroValue135 }
theorem Tryz.Builder_Extra_105 : Builder.Extra Tryz.prog Tryz.lays105_ren := {
 sizeBuilder := by kernel_rfl
 liesBuilder := by kernel_rfl
 t5 := Tryz.underlying5
 a5 := Tryz.isAgg5
 z5 := Tryz.sizeOf5
 v5 := Tryz.zeroValue5
 infoByte := by kernel_rfl
 cellsByte := by kernel_rfl
 sizeByte := by kernel_rfl
 neB5 := by decide }
open Go.RowKit Go.Lib in
theorem Tryz.strings_Repeat (s : ByteArray) (c : Nat) (w : World) (hc : c ≤ 9223372036854775807) (hlen : s.size * c ≤ 140737488355328) :
  Calls Tryz.prog 30 #[.string s, .int .i64 c] w fun e w' => e = .returned (.string ⟨(Lib.repeatL s.data.toList c).toArray⟩) ∧ Below w.heap.size w w' := Any.strings_Repeat Tryz.lays105 Tryz.Builder_Extra_105 s c w hc hlen
end Go.Proofs.YtpbaobmegomfpacGreatDoor
namespace Go.Proofs.YtpbaobmegomfpacGreatDoor
open Go.RowKit
theorem laid_mem {P : Program} {w : World} {n : String} {d : DataW Unit} : ∀ {l : List (String × DataW Unit)} {ps : List MemPlace}, DataW.LaidVars P w l ps → (n, d) ∈ l →
  ∃ g t cs fuel p, P.globalNamed n = some g ∧ (P.globals[g]?).map (·.type) = some t ∧ w.var? P n = some cs ∧ DataW.trod (fun _ => ()) P w 0 (fun _ => true) false fuel t cs.toList = some (d, p)
 | [], _, _, h => by cases h
 | (m, e) :: l, ps, hl, h => by
  obtain ⟨g, t, cs, fuel, p, q, h1, h2, h3, h4, h5, _⟩ := hl
  rcases List.mem_cons.1 h with he | he
  ·cases he
   exact ⟨g, t, cs, fuel, p, h1, h2, h3, h4⟩
  ·exact laid_mem h5 he
theorem strs_of {P : Program} {w : World} {fuel : Nat} {t e : TypeId} {n : Nat} {cs : List Value} {ss : List (List UInt8)} {p : List MemPlace}
  (ht : P.underlying t = some (.array n e)) (he : P.underlying e = some .string) (hce : P.cellsOf e = 1) (hct : P.cellsOf t = n)
  (h : DataW.trod (fun _ => ()) P w 0 (fun _ => true) false fuel t cs = some (.agg (ss.map fun s => .lit (.string s)), p)) : cs = ss.map fun s => Value.string ⟨s.toArray⟩ := by
 cases fuel with
 | zero => simp [DataW.trod] at h
 | succ fuel =>
  simp only [DataW.trod, ht, hce, hct, Nat.mul_one] at h
  split at h
  ·obtain ⟨xs, hm, hx⟩ := Option.map_eq_some_iff.1 h
   have hxs : xs.map (·.1) = ss.map fun s => (DataW.lit (.string s) : DataW Unit) := by
    have := congrArg Prod.fst hx
    simpa using this
   have hxl : xs.length = n := by simpa using Lib.mapM_length hm
   have hzl : ss.length = n := by
    have := congrArg List.length hxs
    simp at this
    omega
   apply List.ext_getElem?
   intro i
   by_cases hi : i < n
   ·obtain ⟨b, hb, hf⟩ := Lib.mapM_at hm i i (by simp [hi])
    obtain ⟨z, hc, rfl, _⟩ := DataW.trod_string he hf
    have h1 : cs[i]? = some (.string z) := by
     have := congrArg (·[0]?) hc
     simpa [List.getElem?_take, List.getElem?_drop] using this
    have h2 : (xs.map (·.1))[i]? = some (DataW.lit (.string z.data.toList) : DataW Unit) := by simp [hb]
    rw [hxs] at h2
    simp only [List.getElem?_map, Option.map_eq_some_iff, DataW.lit.injEq, Lit.string.injEq] at h2
    obtain ⟨s, hs, rfl⟩ := h2
    simp [h1, hs]
   ·rw [List.getElem?_eq_none (by omega), List.getElem?_eq_none (by simp; omega)]
  ·cases h
theorem tab_of {P : Program} {w : World} {n : String} {l : List (String × DataW Unit)} {ss : List (List UInt8)} {g : Nat} {t e : TypeId} {m : Nat}
  (hg : P.globalNamed n = some g) (hty : (P.globals[g]?).map (·.type) = some t) (ht : P.underlying t = some (.array m e)) (he : P.underlying e = some .string) (hce : P.cellsOf e = 1) (hct : P.cellsOf t = m)
  (h : laidMet P l w) (hin : (n, DataW.agg (ss.map fun s => .lit (.string s))) ∈ l) : g < w.heap.size ∧ ∀ i, i < ss.length → w.cell? ⟨g, i, none⟩ = some (.string ⟨(ss.getD i []).toArray⟩) := by
 obtain ⟨ps, hl, _⟩ := h
 obtain ⟨g', t', cs, fuel, p, h1, h2, h3, h4⟩ := laid_mem hl hin
 obtain rfl := Option.some.inj (hg.symm.trans h1)
 obtain rfl := Option.some.inj (hty.symm.trans h2)
 have hcs := strs_of ht he hce hct h4
 refine ⟨?_, fun i hi => ?_⟩
 ·simp only [World.var?, hg, Option.bind_some] at h3
  split at h3
  ·rename_i hh
   exact (Array.getElem?_eq_some_iff.1 hh).1
  ·cases h3
 ·rw [World.var?_cell hg h3 i]
  have : cs[i]? = cs.toList[i]? := by simp
  rw [this, hcs]
  simp [List.getD, hi]
end Go.Proofs.YtpbaobmegomfpacGreatDoor
namespace Go.Proofs.YtpbaobmegomfpacGreatDoor
open Go.RowKit
theorem words_of {l : List (String × DataW Unit)} {w : World} (h : laidMet Tryz.prog l w) (hin : ("tillerman/say.words", DataW.agg ((List.range 12).map fun k => .lit (.string (wordL k)))) ∈ l) : Words w := by
 have h2 : ("tillerman/say.words", DataW.agg (((List.range 12).map wordL).map fun s => .lit (.string s))) ∈ l := by
  rw [List.map_map]; exact hin
 obtain ⟨h3, h4⟩ := tab_of (P := Tryz.prog) (g := 1) (t := 125) (e := 9) (m := 12) (by kernel_rfl) (by kernel_rfl) Tryz.underlying125 Tryz.underlying9 (by kernel_rfl) (by kernel_rfl) h h2
 refine ⟨h3, fun k hk => ?_⟩
 rw [h4 k (by simp; omega)]
 have : ((List.range 12).map wordL).getD k [] = wordL k := by
  simp [List.getD, show k < 12 by omega]
 rw [this]; rfl
end Go.Proofs.YtpbaobmegomfpacGreatDoor
namespace Go.Proofs.YtpbaobmegomfpacGreatDoor
open Go.RowKit
theorem leads_of {l : List (String × DataW Unit)} {w : World} (h : laidMet Tryz.prog l w) (hin : ("tillerman/say.leads", DataW.agg ((List.range 5).map fun k => .lit (.string (leadL k)))) ∈ l) : Leads w := by
 have h2 : ("tillerman/say.leads", DataW.agg (((List.range 5).map leadL).map fun s => .lit (.string s))) ∈ l := by
  rw [List.map_map]; exact hin
 obtain ⟨h3, h4⟩ := tab_of (P := Tryz.prog) (g := 0) (t := 73) (e := 9) (m := 5) (by kernel_rfl) (by kernel_rfl) Tryz.underlying73 Tryz.underlying9 (by kernel_rfl) (by kernel_rfl) h h2
 refine ⟨h3, fun k hk => ?_⟩
 rw [h4 k (by simp; omega)]
 have : ((List.range 5).map leadL).getD k [] = leadL k := by
  simp [List.getD, show k < 5 by omega]
 rw [this]; rfl
end Go.Proofs.YtpbaobmegomfpacGreatDoor
namespace Go.Proofs.YtpbaobmegomfpacGreatDoor
open Go.RowKit
theorem tabs_of {w : World} (h1 : Words w) (h2 : Leads w) : Tabs w w.heap.size := ⟨h1, h2, h1.room, h2.room⟩
end Go.Proofs.YtpbaobmegomfpacGreatDoor
namespace Go.Proofs.YtpbaobmegomfpacGreatDoor
open Go.RowKit
set_option maxHeartbeats 400000 in
theorem pickedW_any (n m : Int) (w : World) (hn : -9223372036854775808 ≤ n) (hn2 : n ≤ 9223372036854775807) (hm : 0 < m) (hm2 : m ≤ 9223372036854775807) :
  Calls Tryz.prog 21 #[.int .i64 n, .int .i64 m] w fun e w' => e = .returned (.int .i64 (pickI n m)) ∧ w = w' := by
 have HP := jD (fun wc => picked_any n m wc hn hn2 hm hm2)
 clear hn hn2 hm hm2
 go_enter Tryz.func21, Tryz.ntmps21
 go_wp2_with fail
 refine (HP.out _).mono ?_
 rintro e w1 ⟨rfl, rfl⟩
 go_wp2
 go_ret
 exact ⟨rfl, rfl⟩
end Go.Proofs.YtpbaobmegomfpacGreatDoor
