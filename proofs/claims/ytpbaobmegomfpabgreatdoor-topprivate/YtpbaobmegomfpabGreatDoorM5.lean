/-
  Texts of the proof, one behind the other: RawM, BackLaws, HouseI, PoolW, PoolW2, PoolW3, PRead, WldP, OpenW, OpenR, Itoa, Picked, RawS, OrdersZ, Grid, Play, GridD, PoolW4, Say13.
-/
import Derived.Test.YtpbaobmegomfpabGreatDoorM1
import Derived.Test.YtpbaobmegomfpabGreatDoorM4
import Derived.Test.YtpbaobmegomfpabGreatDoorRows
import Derived.WalkKit
import Derived.WalkSpells
import Derived.WalkLawsBesides
import Derived.Lib.Hide
import Derived.Deep.QuietTactic
import Derived.BigQuiet
import Derived.IntWalk
import Derived.WalkSmall
import Derived.Deep.Slices
import Derived.Deep.SlicePairs
import Derived.SizedLaws
import Derived.ProofKit
import Derived.Lib.SmallJoins
import Derived.OrdersHeld
import Derived.Deep.RegionHeld
import Derived.Test.YtpbaobmegomfpabGreatDoorM3
import Derived.Deep.AppendLies
set_option linter.unusedVariables false
set_option linter.unusedSimpArgs false
set_option maxRecDepth 100000
open List renaming getElem_toArray → gTA, getElem_cons_zero → gCZ, getElem_cons_succ → gCS, setIfInBounds_toArray → sTA, set_cons_zero → sCZ, set_cons_succ → sCS
open Go.Lib renaming hid → hD
open Nat renaming le_refl → nL
namespace Go.Proofs.YtpbaobmegomfpabGreatDoor
open Go.RowKit
def keyL : Nat → List UInt8
 | 0 => [97]
 | 1 => [98]
 | 2 => [114, 111, 119]
 | _ => [110, 97, 109, 101]
def keyAt (a : Nat) : ByteArray := ⟨(keyL a).toArray⟩
def numL (n : Nat) : List UInt8 := if n < 10 then [UInt8.ofNat (48 + n)] else [UInt8.ofNat (48 + n / 10), UInt8.ofNat (48 + n % 10)]
def numAt (n : Nat) : ByteArray := ⟨(numL n).toArray⟩
def valAt (b : Nat) : ByteArray := ⟨#[118]⟩ ++ numAt b
def prepAt (c b : Nat) : ByteArray :=
 match c with
 | 0 => ⟨#[103, 101, 116, 32, 97]⟩
 | 1 => ⟨#[114, 101, 97, 100, 32, 114, 111, 119]⟩
 | 2 => ⟨#[112, 117, 116, 32, 114, 111, 119, 32]⟩ ++ valAt b
 | _ => ⟨#[112, 117, 116, 32, 98, 32, 120]⟩
def rawK (k c : Nat) : Nat :=
 if k < 3 then 1 else if k < 5 then 2 else if k = 5 then 3 else if k = 6 then (if c = 0 then 4 else 5) else if k < 10 then 6 else if k < 13 then 7 else if k < 15 then 8 else if k < 18 then 9 else if k < 22 then 10 else 11
def rawKey (k a : Nat) : ByteArray := if k < 7 then ⟨#[]⟩ else keyAt a
def rawVal (k b c : Nat) : ByteArray := if k < 15 then ⟨#[]⟩ else if k < 22 then valAt b else prepAt c b
theorem keyAt_name : ∀ a, a < 4 → bndB 97 122 8 (keyAt a) = true := by decide
theorem valAt_value : ∀ b, b < 12 → bndB 33 126 20 (valAt b) = true := by decide
theorem prepAt_prep : ∀ c, c < 4 → ∀ b, b < 12 → prepB (prepAt c b) = true := by decide +kernel
theorem raw_check {k a b c3 c4 : Nat} (hk : k < 24) (ha : a < 4) (hb : b < 12) (hc3 : c3 < 3) (hc4 : c4 < 4) : checkE (rawK k c3) (rawKey k a) (rawVal k b c4) = 0 := by
 have h1 := keyAt_name a ha
 have h2 := valAt_value b hb
 have h3 := prepAt_prep c4 hc4 b hb
 have hcase : k < 3 ∨ (¬ k < 3 ∧ k < 5) ∨ k = 5 ∨ k = 6 ∨ (6 < k ∧ k < 10) ∨ (¬ k < 10 ∧ k < 13) ∨ (¬ k < 13 ∧ k < 15) ∨ (¬ k < 15 ∧ k < 18) ∨ (¬ k < 18 ∧ k < 22) ∨ ¬ k < 22 := by omega
 have small : ∀ n : Nat, 1 ≤ n → n < 6 → checkE n ⟨#[]⟩ ⟨#[]⟩ = 0 := by
  intro n h1 h6
  refine checkE_ok (by omega) ?_ ?_
  ·rw [keyB_no (by omega)]; exact empty_of rfl
  ·unfold valueB; rw [if_neg (by omega), plainV_no (by omega)]; exact empty_of rfl
 rcases hcase with h | ⟨h, h'⟩ | h | h | ⟨h, h'⟩ | ⟨h, h'⟩ | ⟨h, h'⟩ | ⟨h, h'⟩ | ⟨h, h'⟩ | h
 ·have e : rawK k c3 = 1 := by unfold rawK; rw [if_pos h]
  rw [e]; unfold rawKey rawVal; rw [if_pos (by omega), if_pos (by omega)]; exact small 1 (by omega) (by omega)
 ·have e : rawK k c3 = 2 := by unfold rawK; rw [if_neg h, if_pos h']
  rw [e]; unfold rawKey rawVal; rw [if_pos (by omega), if_pos (by omega)]; exact small 2 (by omega) (by omega)
 ·subst h
  exact small 3 (by omega) (by omega)
 ·subst h
  have e : rawK 6 c3 = 4 ∨ rawK 6 c3 = 5 := by unfold rawK; simp; omega
  rcases e with e | e
  ·rw [e]; exact small 4 (by omega) (by omega)
  ·rw [e]; exact small 5 (by omega) (by omega)
 ·have e : rawK k c3 = 6 := by unfold rawK; rw [if_neg (by omega), if_neg (by omega), if_neg (by omega), if_neg (by omega), if_pos h']
  rw [e]; unfold rawKey rawVal; rw [if_neg (by omega), if_pos (by omega)]
  exact checkE_ok (by omega) (by rw [keyB_yes (by omega)]; exact h1) (by unfold valueB; rw [if_neg (by omega), plainV_no (by omega)]; exact empty_of rfl)
 ·have e : rawK k c3 = 7 := by unfold rawK; rw [if_neg (by omega), if_neg (by omega), if_neg (by omega), if_neg (by omega), if_neg h, if_pos h']
  rw [e]; unfold rawKey rawVal; rw [if_neg (by omega), if_pos (by omega)]
  exact checkE_ok (by omega) (by rw [keyB_yes (by omega)]; exact h1) (by unfold valueB; rw [if_neg (by omega), plainV_no (by omega)]; exact empty_of rfl)
 ·have e : rawK k c3 = 8 := by unfold rawK; rw [if_neg (by omega), if_neg (by omega), if_neg (by omega), if_neg (by omega), if_neg (by omega), if_neg h, if_pos h']
  rw [e]; unfold rawKey rawVal; rw [if_neg (by omega), if_pos (by omega)]
  exact checkE_ok (by omega) (by rw [keyB_yes (by omega)]; exact h1) (by unfold valueB; rw [if_neg (by omega), plainV_no (by omega)]; exact empty_of rfl)
 ·have e : rawK k c3 = 9 := by unfold rawK; rw [if_neg (by omega), if_neg (by omega), if_neg (by omega), if_neg (by omega), if_neg (by omega), if_neg (by omega), if_neg h, if_pos h']
  rw [e]; unfold rawKey rawVal; rw [if_neg (by omega), if_neg (by omega), if_pos (by omega)]
  exact checkE_ok (by omega) (by rw [keyB_yes (by omega)]; exact h1) (by unfold valueB; rw [if_neg (by omega), plainV_yes (by omega)]; exact h2)
 ·have e : rawK k c3 = 10 := by unfold rawK; rw [if_neg (by omega), if_neg (by omega), if_neg (by omega), if_neg (by omega), if_neg (by omega), if_neg (by omega), if_neg (by omega), if_neg h, if_pos h']
  rw [e]; unfold rawKey rawVal; rw [if_neg (by omega), if_neg (by omega), if_pos (by omega)]
  exact checkE_ok (by omega) (by rw [keyB_yes (by omega)]; exact h1) (by unfold valueB; rw [if_neg (by omega), plainV_yes (by omega)]; exact h2)
 ·have e : rawK k c3 = 11 := by unfold rawK; rw [if_neg (by omega), if_neg (by omega), if_neg (by omega), if_neg (by omega), if_neg (by omega), if_neg (by omega), if_neg (by omega), if_neg (by omega), if_neg h]
  rw [e]; unfold rawKey rawVal; rw [if_neg (by omega), if_neg (by omega), if_neg h]
  exact checkE_ok (by omega) (by rw [keyB_yes (by omega)]; exact h1) (by unfold valueB; rw [if_pos (by omega)]; exact h3)
end Go.Proofs.YtpbaobmegomfpabGreatDoor
namespace Go.Proofs.YtpbaobmegomfpabGreatDoor
open Go.RowKit
structure Raw where
 kd : Int
 a : Int
 b : Int
 c : Int
def reqR (r : Raw) : Req := ⟨rawK (pickI r.kd 24).toNat (pickI r.c 3).toNat, rawKey (pickI r.kd 24).toNat (pickI r.a 4).toNat, rawVal (pickI r.kd 24).toNat (pickI r.b 12).toNat (pickI r.c 4).toNat⟩
def Req.ok (r : Req) : Prop := checkE r.k r.key r.val = 0
theorem pick_lt (n : Int) {m : Nat} (hm : 0 < m) : (pickI n m).toNat < m := by have := pickI_bd n (m := m) (by omega); omega
theorem reqR_ok (r : Raw) : (reqR r).ok := raw_check (pick_lt r.kd (m := 24) (by omega)) (pick_lt r.a (m := 4) (by omega)) (pick_lt r.b (m := 12) (by omega)) (pick_lt r.c (m := 3) (by omega)) (pick_lt r.c (m := 4) (by omega))
theorem small_ok {n : Int} (h1 : 1 ≤ n) (h6 : n < 6) : checkE n ⟨#[]⟩ ⟨#[]⟩ = 0 := by
 refine checkE_ok (by omega) ?_ ?_
 ·rw [keyB_no (by omega)]; exact empty_of rfl
 ·unfold valueB; rw [if_neg (by omega), plainV_no (by omega)]; exact empty_of rfl
def doR (W : Wd) (i : Nat) (r : Req) : Wd × Ans := doM W i r.k r.key r.val
theorem doR_ok {W : Wd} (h : WorldOk W) {i : Nat} (hi : i < W.ss.length) {r : Req} (hr : r.ok) : WorldOk (doR W i r).1 ∧ (doR W i r).1.ss.length = W.ss.length := doM_ok h hi hr
section
variable {W : Wd} {i : Nat}
end
section
variable {W : Wd} {i : Nat}
end
end Go.Proofs.YtpbaobmegomfpabGreatDoor
namespace Go.Proofs.YtpbaobmegomfpabGreatDoor
open Go.RowKit
def upd {α : Type} (f : Nat → α) (c : Nat) (v : α) : Nat → α := fun x => if x = c then v else f x
def Mach.b (m : Mach Wd) : Nat → ByteArray := fun c => (m.get c).bytes
def Mach.q (m : Mach Wd) : Nat → List Req := fun c => (m.get c).wait
abbrev JP := D → (Nat → ByteArray) → (Nat → List Req) → Prop
def Mach.has (m : Mach Wd) (J : JP) : Prop := J m.d m.b m.q
section
variable {mode : Int} {J : JP} {m : Mach Wd} {c : Nat}
theorem step_has (K1 : ∀ d b q c r l, c < 6 → q c = r :: l → r.fine → J d b q → J (d.one mode c r) b (upd q c l)) (h : MOk mode m) (hj : m.has J) : (m.step houseO mode).2.has J := by
 unfold Mach.step
 cases hf : m.firstR mode with
 | some x =>
  obtain ⟨hx, hr⟩ := first_some hf
  obtain ⟨r, l, hw, _⟩ := ready_wait hr
  have hc' : x < m.cl.length := by rw [h.n6]; exact hx
  have hg := fun d => proc_cl (mode := mode) hc' hw d
  have := K1 m.d m.b m.q x r l hx hw (h.fine x r (by rw [hw]; exact List.mem_cons_self)) hj
  show J (m.proc houseO mode x).d (m.proc houseO mode x).b (m.proc houseO mode x).q
  have e1 : (m.proc houseO mode x).b = m.b := by
   funext d; show ((m.proc houseO mode x).get d).bytes = (m.get d).bytes
   rw [hg]; by_cases e : x = d
   ·rw [if_pos e, e]
   ·rw [if_neg e]
  have e2 : (m.proc houseO mode x).q = upd m.q x l := by
   funext d; show ((m.proc houseO mode x).get d).wait = if d = x then l else (m.get d).wait
   rw [hg]; by_cases e : x = d
   ·rw [if_pos e, if_pos e.symm]
   ·rw [if_neg e, if_neg (fun e' => e e'.symm)]
  rw [proc_d hw, e1, e2]; exact this
 | none =>
  show Mach.has (m.enq.assign houseO).2 J
  unfold Mach.assign
  cases hl : m.enq.line with
  | nil => exact hj
  | cons c l =>
   simp only
   split
   ·have he : ∀ (q : Mach Wd) x d, q.cl = m.cl.set c { m.get c with srv := some x } → (q.get d).bytes = (m.get d).bytes ∧ (q.get d).wait = (m.get d).wait := fun q x d hq => by
     unfold Mach.get
     rw [hq, getD_set]
     by_cases e : c = d ∧ c < m.cl.length
     ·rw [if_pos e]; obtain ⟨rfl, _⟩ := e; exact ⟨rfl, rfl⟩
     ·rw [if_neg e]; exact ⟨rfl, rfl⟩
    have e1 : Mach.b { m.enq with line := l, busy := m.enq.busy.set (m.enq.busy.idxOf false) true, cl := m.enq.cl.set c { m.enq.get c with srv := some (m.enq.busy.idxOf false) }, e := houseO.grant m.enq.e c (m.enq.busy.idxOf false) } = m.b := funext fun d => (he _ _ d rfl).1
    have e2 : Mach.q { m.enq with line := l, busy := m.enq.busy.set (m.enq.busy.idxOf false) true, cl := m.enq.cl.set c { m.enq.get c with srv := some (m.enq.busy.idxOf false) }, e := houseO.grant m.enq.e c (m.enq.busy.idxOf false) } = m.q := funext fun d => (he _ _ d rfl).2
    unfold Mach.has
    rw [e1, e2]; exact hj
   ·exact hj
theorem all_has (K1 : ∀ d b q c r l, c < 6 → q c = r :: l → r.fine → J d b q → J (d.one mode c r) b (upd q c l)) (h : MOk mode m) (hj : m.has J) : (m.all houseO mode).has J :=
 all_ind (fun m => m.has J) (fun _ r => r.has J) (fun m h hj _ => ⟨step_has K1 h hj, fun r hr => hr⟩) (fun m h hj _ => step_has K1 h hj) _ m (nL _) h hj
theorem set_b (hc : c < m.cl.length) (x : Cl) : (m.set c x).b = upd m.b c x.bytes := by
 funext d; show ((m.set c x).get d).bytes = if d = c then x.bytes else (m.get d).bytes
 rw [get_set hc]; by_cases e : c = d
 ·rw [if_pos e, if_pos e.symm]
 ·rw [if_neg e, if_neg (fun e' => e e'.symm)]
theorem set_q (hc : c < m.cl.length) (x : Cl) : (m.set c x).q = upd m.q c x.wait := by
 funext d; show ((m.set c x).get d).wait = if d = c then x.wait else (m.get d).wait
 rw [get_set hc]; by_cases e : c = d
 ·rw [if_pos e, if_pos e.symm]
 ·rw [if_neg e, if_neg (fun e' => e e'.symm)]
theorem act_lt {a : Act} (ha : actE a = 0) : a.c.toNat < 6 ∧ (a.c.toNat : Int) = a.c := by
 unfold actE at ha
 split at ha
 ·cases ha
 split at ha
 ·cases ha
 omega
end
section
variable {mode : Int} {m : Mach Wd}
end
theorem one_w {mode : Int} {d : D} {c : Nat} {r : Req} : (d.one mode c r).w = if refB mode r then d.w else (doR d.w c r).1 := by
 unfold D.one; split <;> rfl
theorem one_deeds {mode : Int} {d : D} {c : Nat} {r : Req} : (d.one mode c r).deeds = if refB mode r then d.deeds else d.deeds ++ [⟨c, r, (doR d.w c r).2, ((doR d.w c r).1.at c).st⟩] := by
 unfold D.one; split <;> rfl
theorem fine_ok {mode : Int} {r : Req} (h : r.fine) (hr : ¬ refB mode r = true) : r.ok := by
 rcases h with e | e
 ·exact absurd (by rw [e]; rfl) hr
 ·exact e
section
variable {W : Wd} {c : Nat}
end
section
variable {W : Wd} {c : Nat}
end
end Go.Proofs.YtpbaobmegomfpabGreatDoor
namespace Go.Proofs.YtpbaobmegomfpabGreatDoor
open Go.RowKit
def PRow (w : World) (P : Nat) (f : Nat → Value) : Prop := ∃ cur : Array Value, w.heap[P]? = some (.cells cur 83 (0, 0)) ∧ cur.size = 48 ∧ ∀ j, j < 48 → cur[j]? = some (f j)
section
variable {w w' : World} {P : Nat} {f : Nat → Value}
theorem PRow.cell (h : PRow w P f) {j : Nat} (hj : j < 48) : w.cell? ⟨P, j, none⟩ = some (f j) := by
 obtain ⟨cur, hh, hs, hc⟩ := h
 unfold World.cell?
 simp only [hh]
 exact hc j hj
theorem PRow.frozen (h : PRow w P f) (j : Nat) : w.frozen? ⟨P, j, none⟩ = false := by
 obtain ⟨cur, hh, _⟩ := h
 unfold World.frozen?
 simp [hh]
theorem PRow.lt (h : PRow w P f) : P < w.heap.size := by
 obtain ⟨cur, hh, _⟩ := h
 exact (Array.getElem?_eq_some_iff.1 hh).1
theorem PRow.same (h : PRow w P f) (e : w'.heap[P]? = w.heap[P]?) : PRow w' P f := by
 obtain ⟨cur, hh, r⟩ := h
 exact ⟨cur, e.trans hh, r⟩
theorem PRow.set (h : PRow w P f) (j : Nat) (u : Value) : PRow (w.setCell ⟨P, j, none⟩ u) P (upd f j u) := by
 obtain ⟨cur, hh, hs, hc⟩ := h
 refine ⟨cur.setIfInBounds j u, ?_, by simpa using hs, fun i hi => ?_⟩
 ·simp [World.setCell, Array.getElem?_modify, hh]
 ·rw [Array.getElem?_setIfInBounds]
  unfold upd
  by_cases e : j = i
  ·subst e; rw [if_pos rfl, if_pos (by omega), if_pos rfl]
  ·rw [if_neg e, if_neg (fun h => e h.symm)]; exact hc i hi
theorem PRow.new (w : World) (cs : Array Value) (hs : cs.size = 48) (f : Nat → Value) (hf : ∀ j, j < 48 → cs[j]? = some (f j)) : PRow (w.alloc (.cells cs 83)) w.heap.size f :=
 ⟨cs, heap_alloc_new w _, hs, hf⟩
end
def slT (k : Nat) : Nat := if k = 1 then 4 else if k < 8 then 41 else if k = 8 then 3 else if k < 15 then 5 else 70
def slZ (k : Nat) : Nat := if k = 1 then 1 else if k < 8 then 3 else if k < 15 then 1 else 7
def slC (k : Nat) : Nat := if k = 1 then 3 else if k < 8 then 4 + (k - 2) * 6 + 1 else if k = 8 then 40 else if k < 15 then 41 + (k - 9) else 47
def reqV (r : Req) : List Value := [.int .i64 r.k, .string r.key, .string r.val]
def deedV (d : Deed) : List Value := [.int .i64 d.c, .int .i64 d.r.k, .string d.r.key, .string d.r.val, .int .i64 d.a.kind, .string d.a.text, .int .i64 d.st]
def items (m : Mach PE) (k : Nat) : List (List Value) := if k = 1 then m.busy.map (fun b => [.bool b]) else if k < 8 then (m.get (k - 2)).wait.map reqV else if k = 8 then m.line.map (fun (n : Nat) => [Value.int .i64 (n : Int)])
 else if k < 15 then (m.sent.getD (k - 9) ⟨#[]⟩).data.toList.map (fun b => [.int .u8 b.toNat]) else m.deeds.map deedV
def Free (G : Nat → Option Nat) (b : Nat) : Prop := ∀ i, G i ≠ some b
structure PMem (X : Nat) (w : World) (base P : Nat) (f : Nat → Value) (G : Nat → Option Nat) (mode : Int) (m : Mach PE) : Prop where
 row : PRow w P f
 p0 : G 0 = some P
 lo : ∀ i b, G i = some b → base ≤ b ∧ b < w.heap.size
 inj : ∀ i j b, G i = some b → G j = some b → i = j
 sl : ∀ k, 1 ≤ k → k ≤ 15 → k ≠ X → Sl w (slT k) (slZ k) (f (slC k)) (G k) (items m k).length (items m k).flatten
 md : f 0 = .int .i64 mode
 wld : WldP w (Free G) (f 1) (f 2) m.e.w
 bytes : ∀ c, c < 6 → f (4 + c * 6) = .string (m.get c).bytes
 has : ∀ c, c < 6 → f (4 + c * 6 + 2) = .bool (m.get c).srv.isSome
 srv : ∀ c, c < 6 → ∃ q : Int, f (4 + c * 6 + 3) = .int .i64 q ∧ ∀ s, (m.get c).srv = some s → q = s
 set : ∀ c, c < 6 → Lst w w.heap.size (f (4 + c * 6 + 4)) (m.e.of c).1 ∧ InP (Free G) (f (4 + c * 6 + 4)) (m.e.of c).1
 prep : ∀ c, c < 6 → Lst w w.heap.size (f (4 + c * 6 + 5)) (m.e.of c).2 ∧ InP (Free G) (f (4 + c * 6 + 5)) (m.e.of c).2
section
variable {X : Nat} {w w' : World} {base P : Nat} {f : Nat → Value} {G : Nat → Option Nat} {mode : Int} {m m' : Mach PE}
theorem lst_free {v : Value} {l : PL} (h : Lst w w.heap.size v l ∧ InP (Free G) v l) (hs : w.heap.size ≤ w'.heap.size) (hk : ∀ b, Free G b → b < w.heap.size → w'.heap[b]? = w.heap[b]?) : Lst w' w'.heap.size v l ∧ InP (Free G) v l :=
 ⟨h.1.keepP (own_lt h.1 h.2) (fun b hb => hk b hb.1 hb.2) (fun b hb => Nat.lt_of_lt_of_le hb.2 hs), h.2⟩
theorem PMem.keep (h : PMem X w base P f G mode m) (hX : 0 < X) (hs : w.heap.size ≤ w'.heap.size) (hk : ∀ b, b < w.heap.size → G X ≠ some b → w'.heap[b]? = w.heap[b]?) : PMem X w' base P f G mode m := by
 have fr : ∀ b, Free G b → b < w.heap.size → w'.heap[b]? = w.heap[b]? := fun b hb hlt => hk b hlt (hb X)
 have hP : w'.heap[P]? = w.heap[P]? := hk P h.row.lt (fun e => by have := h.inj X 0 P e h.p0; omega)
 refine ⟨h.row.same hP, h.p0, fun i b hb => ⟨(h.lo i b hb).1, Nat.lt_of_lt_of_le (h.lo i b hb).2 hs⟩, h.inj, fun k h1 h2 h3 => ?_, h.md, h.wld.keep hs fr, h.bytes, h.has, h.srv, fun c hc => lst_free (h.set c hc) hs fr, fun c hc => lst_free (h.prep c hc) hs fr⟩
 exact (h.sl k h1 h2 h3).keep fun b hb => hk b (h.lo k b hb).2 (fun e => h3 (h.inj k X b hb e))
theorem PMem.below (h : PMem X w base P f G mode m) (hb : Below w.heap.size w w') : PMem X w' base P f G mode m := by
 have fr : ∀ b, Free G b → b < w.heap.size → w'.heap[b]? = w.heap[b]? := fun b _ hlt => hb.block b hlt
 refine ⟨h.row.same (hb.block P h.row.lt), h.p0, fun i b hb' => ⟨(h.lo i b hb').1, Nat.lt_of_lt_of_le (h.lo i b hb').2 hb.size⟩, h.inj, fun k h1 h2 h3 => ?_, h.md, h.wld.keep hb.size fr, h.bytes, h.has, h.srv, fun c hc => lst_free (h.set c hc) hb.size fr, fun c hc => lst_free (h.prep c hc) hb.size fr⟩
 exact (h.sl k h1 h2 h3).keep fun b hb' => hb.block b (h.lo k b hb').2
theorem PMem.but (h : PMem 0 w base P f G mode m) (X : Nat) : PMem X w base P f G mode m := ⟨h.row, h.p0, h.lo, h.inj, fun k h1 h2 _ => h.sl k h1 h2 (by omega), h.md, h.wld, h.bytes, h.has, h.srv, h.set, h.prep⟩
theorem free_upd {G : Nat → Option Nat} {k b x : Nat} (h : Free G x) (hne : x ≠ b) : Free (upd G k (some b)) x := fun i => by
 unfold upd
 by_cases e : i = k
 ·rw [if_pos e]; intro h'; injection h' with h'; exact hne h'.symm
 ·rw [if_neg e]; exact h i
theorem InP.lt_free {v : Value} {l : PL} {G : Nat → Option Nat} {k b : Nat} (hl : Lst w w.heap.size v l) (h : InP (Free G) v l) (hb : w.heap.size ≤ b) : InP (Free (upd G k (some b))) v l :=
 (own_lt hl h).mono fun x hx => free_upd hx.1 (by have := hx.2; omega)
theorem PMem.move (h : PMem X w base P f G mode m) (hX : 0 < X) (hs : w.heap.size ≤ w'.heap.size) (hk : ∀ b, b < w.heap.size → G X ≠ some b → w'.heap[b]? = w.heap[b]?) {b : Nat} (hb : w.heap.size ≤ b) (hb' : b < w'.heap.size) (hbase : base ≤ w.heap.size) : PMem X w' base P f (upd G X (some b)) mode m := by
 have h2 := h.keep hX hs hk
 have hlt : ∀ i x, G i = some x → x < w.heap.size := fun i x hx => (h.lo i x hx).2
 have up : ∀ i, i ≠ X → upd G X (some b) i = G i := fun i hi => by unfold upd; rw [if_neg hi]
 have upX : upd G X (some b) X = some b := by unfold upd; rw [if_pos rfl]
 refine ⟨h2.row, (up 0 (by omega)).trans h.p0, fun i x hx => ?_, fun i j x hi hj => ?_, fun k h1 h3 h4 => ?_, h.md, ?_, h.bytes, h.has, h.srv, fun c hc => ⟨(h2.set c hc).1, ?_⟩, fun c hc => ⟨(h2.prep c hc).1, ?_⟩⟩
 ·by_cases e : i = X
  ·subst e; rw [upX] at hx; injection hx with hx; omega
  ·rw [up i e] at hx; exact h2.lo i x hx
 ·by_cases ei : i = X <;> by_cases ej : j = X
  ·omega
  ·subst ei; rw [upX] at hi; rw [up j ej] at hj; injection hi with hi; have := hlt j x hj; omega
  ·subst ej; rw [upX] at hj; rw [up i ei] at hi; injection hj with hj; have := hlt i x hi; omega
  ·rw [up i ei] at hi; rw [up j ej] at hj; exact h.inj i j x hi hj
 ·rw [up k h4]; exact h2.sl k h1 h3 h4
 ·exact (h.wld.small.keep hs (fun x hx hlt' => hk x hlt' (hx.1 X))).mono fun x hx => free_upd hx.1 (by have := hx.2; omega)
 ·exact InP.lt_free (h.set c hc).1 (h.set c hc).2 hb
 ·exact InP.lt_free (h.prep c hc).1 (h.prep c hc).2 hb
theorem Sl.ne {t size n : Nat} {v : Value} {g : Option Nat} {xs : List Value} (h : Sl w t size v g n xs) (hg : g ≠ some P) (hk : ∀ b, b ≠ P → w'.heap[b]? = w.heap[b]?) : Sl w' t size v g n xs := h.keep fun b hb => hk b fun e => hg (by rw [hb, e])
theorem PMem.noP (h : PMem X w base P f G mode m) {k : Nat} (hk : 1 ≤ k) : G k ≠ some P := fun e => by have := h.inj k 0 P e h.p0; omega
theorem PMem.free_ne (h : PMem X w base P f G mode m) {b : Nat} (hb : Free G b) : b ≠ P := fun e => hb 0 (by rw [h.p0, e])
theorem PMem.slK (h : PMem X w base P f G mode m) (hk : ∀ b, b ≠ P → w'.heap[b]? = w.heap[b]?) {k : Nat} (h1 : 1 ≤ k) (h2 : k ≤ 15) (h3 : k ≠ X) : Sl w' (slT k) (slZ k) (f (slC k)) (G k) (items m k).length (items m k).flatten := (h.sl k h1 h2 h3).ne (h.noP h1) hk
theorem PMem.wldK (h : PMem X w base P f G mode m) (hs : w'.heap.size = w.heap.size) (hk : ∀ b, b ≠ P → w'.heap[b]? = w.heap[b]?) {r s : Value} {W : Wd} (hw : WldP w (Free G) r s W) : WldP w' (Free G) r s W := hw.keep (by omega) fun b hb _ => hk b (h.free_ne hb)
theorem PMem.lstK (h : PMem X w base P f G mode m) (hs : w'.heap.size = w.heap.size) (hk : ∀ b, b ≠ P → w'.heap[b]? = w.heap[b]?) {v : Value} {l : PL} (hl : Lst w w.heap.size v l ∧ InP (Free G) v l) : Lst w' w'.heap.size v l ∧ InP (Free G) v l := lst_free hl (by omega) fun b hb _ => hk b (h.free_ne hb)
theorem PMem.loK (h : PMem X w base P f G mode m) (hs : w'.heap.size = w.heap.size) : ∀ i b, G i = some b → base ≤ b ∧ b < w'.heap.size := fun i b hb => by rw [hs]; exact h.lo i b hb
theorem size_set (w : World) (p : Addr) (u : Value) : (w.setCell p u).heap.size = w.heap.size := by simp [World.setCell]
theorem set_off (w : World) (P j : Nat) (u : Value) : ∀ b, b ≠ P → (w.setCell ⟨P, j, none⟩ u).heap[b]? = w.heap[b]? := fun b hb => Below.heap_setCell _ _ _ _ hb
theorem upd_ne {f : Nat → Value} {j i : Nat} {u : Value} (h : i ≠ j) : upd f j u i = f i := by unfold upd; rw [if_neg h]
theorem upd_at {f : Nat → Value} {j : Nat} {u : Value} : upd f j u j = u := by unfold upd; rw [if_pos rfl]
theorem slC_inj {k k' : Nat} (h1 : 1 ≤ k) (h2 : k ≤ 15) (h1' : 1 ≤ k') (h2' : k' ≤ 15) (h : slC k = slC k') : k = k' := by
 unfold slC at h
 repeat' split at h
 all_goals omega
theorem slC_no {k c : Nat} (h1 : 1 ≤ k) (h2 : k ≤ 15) (hc : c < 6) : slC k ≠ 0 ∧ slC k ≠ 1 ∧ slC k ≠ 2 ∧ slC k ≠ 4 + c * 6 ∧ slC k ≠ 4 + c * 6 + 2 ∧ slC k ≠ 4 + c * 6 + 3 ∧ slC k ≠ 4 + c * 6 + 4 ∧ slC k ≠ 4 + c * 6 + 5 := by
 unfold slC
 repeat' split
 all_goals omega
theorem PMem.fill (h : PMem X w base P f G mode m) (hs : Sl w (slT X) (slZ X) (f (slC X)) (G X) (items m' X).length (items m' X).flatten) (ho : ∀ k, k ≠ X → items m' k = items m k) (he : m'.e = m.e) (hb : ∀ c, (m'.get c).bytes = (m.get c).bytes) (hv : ∀ c, (m'.get c).srv = (m.get c).srv) : PMem 0 w base P f G mode m' := by
 refine ⟨h.row, h.p0, h.lo, h.inj, fun k h1 h2 _ => ?_, h.md, by rw [he]; exact h.wld, fun c hc => by rw [hb]; exact h.bytes c hc, fun c hc => by rw [hv]; exact h.has c hc, fun c hc => by rw [hv]; exact h.srv c hc, fun c hc => by rw [he]; exact h.set c hc, fun c hc => by rw [he]; exact h.prep c hc⟩
 by_cases e : k = X
 ·subst e; exact hs
 ·rw [ho k e]; exact h.sl k h1 h2 e
theorem PMem.cellX (h : PMem X w base P f G mode m) (h1 : 1 ≤ X) (h2 : X ≤ 15) (v : Value) : PMem X (w.setCell ⟨P, slC X, none⟩ v) base P (upd f (slC X) v) G mode m := by
 have hk := set_off w P (slC X) v
 have hz := size_set w ⟨P, slC X, none⟩ v
 have no := fun c (hc : c < 6) => slC_no (c := c) h1 h2 hc
 refine ⟨h.row.set _ _, h.p0, h.loK hz, h.inj, fun k a b e => ?_, ?_, ?_, fun c hc => ?_, fun c hc => ?_, fun c hc => ?_, fun c hc => ?_, fun c hc => ?_⟩
 ·rw [upd_ne (fun e' => e (slC_inj a b h1 h2 e'))]; exact h.slK hk a b e
 ·rw [upd_ne (no 0 (by omega)).1.symm]; exact h.md
 ·rw [upd_ne (no 0 (by omega)).2.1.symm, upd_ne (no 0 (by omega)).2.2.1.symm]; exact h.wldK hz hk h.wld
 ·rw [upd_ne (no c hc).2.2.2.1.symm]; exact h.bytes c hc
 ·rw [upd_ne (no c hc).2.2.2.2.1.symm]; exact h.has c hc
 ·rw [upd_ne (no c hc).2.2.2.2.2.1.symm]; exact h.srv c hc
 ·rw [upd_ne (no c hc).2.2.2.2.2.2.1.symm]; exact h.lstK hz hk (h.set c hc)
 ·rw [upd_ne (no c hc).2.2.2.2.2.2.2.symm]; exact h.lstK hz hk (h.prep c hc)
theorem PMem.grow {k n' : Nat} {w1 : World} {v : Value} {xs : List Value} {b : Nat} (h : PMem 0 w base P f G mode m) (h1 : 1 ≤ k) (h2 : k ≤ 15) (hbase : base ≤ w.heap.size) (hg : w.grownBy w1 (G k)) (hs : Sl w1 (slT k) (slZ k) v (some b) n' xs) (hb : G k = some b ∨ (w.heap.size ≤ b ∧ b < w1.heap.size))
  (hn : n' = (items m' k).length) (hx : xs = (items m' k).flatten) (ho : ∀ k', k' ≠ k → items m' k' = items m k') (he : m'.e = m.e) (hby : ∀ c, (m'.get c).bytes = (m.get c).bytes) (hv : ∀ c, (m'.get c).srv = (m.get c).srv) :
  PMem 0 (w1.setCell ⟨P, slC k, none⟩ v) base P (upd f (slC k) v) (upd G k (some b)) mode m' := by
 have hkb : ∀ b, b < w.heap.size → G k ≠ some b → w1.heap[b]? = w.heap[b]? := fun b hlt hne => hg.block b hlt (fun e => hne e.symm)
 have h3 : PMem k w1 base P f (upd G k (some b)) mode m := by
  rcases hb with hb | ⟨hb, hb'⟩
  ·have : upd G k (some b) = G := by
    funext i; unfold upd; split
    ·rename_i e; rw [e, hb]
    ·rfl
   rw [this]; exact (h.but k).keep (by omega) hg.size hkb
  ·exact (h.but k).move (by omega) hg.size hkb hb hb' hbase
 have h4 := h3.cellX h1 h2 v
 refine h4.fill ?_ ho he hby hv
 have e1 : upd f (slC k) v (slC k) = v := upd_at
 have e2 : upd G k (some b) k = some b := by unfold upd; rw [if_pos rfl]
 rw [e1, e2, ← hn, ← hx]
 refine hs.ne ?_ (set_off w1 P (slC k) v)
 intro e
 injection e with e
 have := h3.inj k 0 P (by rw [e2, e]) h3.p0
 omega
end
end Go.Proofs.YtpbaobmegomfpabGreatDoor
namespace Go.Proofs.YtpbaobmegomfpabGreatDoor
open Go.RowKit
section
variable {w w' : World} {base P : Nat} {f : Nat → Value} {G : Nat → Option Nat} {mode : Int} {m m' : Mach PE}
theorem items_turn {c : Nat} (hc : c < m.cl.length) {x : Cl} (hw : x.wait = (m.get c).wait) (k : Nat) : items (m.set c x) k = items m k := by
 unfold items
 have : ((m.set c x).get (k - 2)).wait = (m.get (k - 2)).wait := by
  rw [get_set hc]; split
  ·rename_i e; rw [hw, e]
  ·rfl
 rw [this]; rfl
theorem items_same (h1 : m'.cl = m.cl) (h2 : m'.busy = m.busy) (h3 : m'.line = m.line) (h4 : m'.sent = m.sent) (h5 : m'.deeds = m.deeds) (k : Nat) : items m' k = items m k := by
 unfold items Mach.get; rw [h1, h2, h3, h4, h5]
theorem set_get {c d : Nat} (hc : c < m.cl.length) (x : Cl) : (m.set c x).get d = if c = d then x else m.get d := get_set hc
theorem PMem.setBytes (h : PMem 0 w base P f G mode m) {c : Nat} (hc : c < 6) (hcl : m.cl.length = 6) (b : ByteArray) : PMem 0 (w.setCell ⟨P, 4 + c * 6, none⟩ (.string b)) base P (upd f (4 + c * 6) (.string b)) G mode (m.set c { m.get c with bytes := b }) := by
 have hk := set_off w P (4 + c * 6) (.string b)
 have hz := size_set w ⟨P, 4 + c * 6, none⟩ (.string b)
 have hcl' : c < m.cl.length := by omega
 have gs : ∀ d, ((m.set c { m.get c with bytes := b }).get d).srv = (m.get d).srv := fun d => by rw [set_get hcl']; split <;> simp_all
 refine ⟨h.row.set _ _, h.p0, h.loK hz, h.inj, fun k a b' e => ?_, ?_, ?_, fun d hd => ?_, fun d hd => ?_, fun d hd => ?_, fun d hd => ?_, fun d hd => ?_⟩
 ·have := slC_no (c := c) a b' hc
  rw [upd_ne this.2.2.2.1, items_turn hcl' (x := { m.get c with bytes := b }) rfl]; exact h.slK hk a b' e
 ·rw [upd_ne (by omega)]; exact h.md
 ·rw [upd_ne (by omega), upd_ne (by omega)]; exact h.wldK hz hk h.wld
 ·rw [set_get hcl']
  by_cases e : c = d
  ·subst e; rw [upd_at, if_pos rfl]
  ·rw [upd_ne (by omega), if_neg e]; exact h.bytes d hd
 ·rw [upd_ne (by omega), gs]; exact h.has d hd
 ·rw [upd_ne (by omega)]; simp only [gs]; exact h.srv d hd
 ·rw [upd_ne (by omega)]; exact h.lstK hz hk (h.set d hd)
 ·rw [upd_ne (by omega)]; exact h.lstK hz hk (h.prep d hd)
theorem PMem.setNone (h : PMem 0 w base P f G mode m) {c : Nat} (hc : c < 6) (hcl : m.cl.length = 6) : PMem 0 (w.setCell ⟨P, 4 + c * 6 + 2, none⟩ (.bool false)) base P (upd f (4 + c * 6 + 2) (.bool false)) G mode (m.set c { m.get c with srv := none }) := by
 have hk := set_off w P (4 + c * 6 + 2) (.bool false)
 have hz := size_set w ⟨P, 4 + c * 6 + 2, none⟩ (.bool false)
 have hcl' : c < m.cl.length := by omega
 refine ⟨h.row.set _ _, h.p0, h.loK hz, h.inj, fun k a b' e => ?_, ?_, ?_, fun d hd => ?_, fun d hd => ?_, fun d hd => ?_, fun d hd => ?_, fun d hd => ?_⟩
 ·have := slC_no (c := c) a b' hc
  rw [upd_ne this.2.2.2.2.1, items_turn hcl' (x := { m.get c with srv := none }) rfl]; exact h.slK hk a b' e
 ·rw [upd_ne (by omega)]; exact h.md
 ·rw [upd_ne (by omega), upd_ne (by omega)]; exact h.wldK hz hk h.wld
 ·rw [upd_ne (by omega), set_get hcl']
  by_cases e : c = d
  ·subst e; rw [if_pos rfl]; exact h.bytes c hd
  ·rw [if_neg e]; exact h.bytes d hd
 ·rw [set_get hcl']
  by_cases e : c = d
  ·subst e; rw [upd_at, if_pos rfl]; rfl
  ·rw [upd_ne (by omega), if_neg e]; exact h.has d hd
 ·rw [upd_ne (by omega), set_get hcl']
  obtain ⟨q, hq, hs⟩ := h.srv d hd
  refine ⟨q, hq, fun s hs' => ?_⟩
  by_cases e : c = d
  ·rw [if_pos e] at hs'; cases hs'
  ·rw [if_neg e] at hs'; exact hs s hs'
 ·rw [upd_ne (by omega)]; exact h.lstK hz hk (h.set d hd)
 ·rw [upd_ne (by omega)]; exact h.lstK hz hk (h.prep d hd)
theorem PMem.setSrv (h : PMem 0 w base P f G mode m) {c : Nat} (hc : c < 6) (hcl : m.cl.length = 6) (s : Nat) : PMem 0 ((w.setCell ⟨P, 4 + c * 6 + 2, none⟩ (.bool true)).setCell ⟨P, 4 + c * 6 + 3, none⟩ (.int .i64 s)) base P (upd (upd f (4 + c * 6 + 2) (.bool true)) (4 + c * 6 + 3) (.int .i64 s)) G mode (m.set c { m.get c with srv := some s }) := by
 have hk : ∀ b, b ≠ P → ((w.setCell ⟨P, 4 + c * 6 + 2, none⟩ (.bool true)).setCell ⟨P, 4 + c * 6 + 3, none⟩ (.int .i64 s)).heap[b]? = w.heap[b]? := fun b hb => (set_off _ P (4 + c * 6 + 3) _ b hb).trans (set_off w P (4 + c * 6 + 2) _ b hb)
 have hz : ((w.setCell ⟨P, 4 + c * 6 + 2, none⟩ (.bool true)).setCell ⟨P, 4 + c * 6 + 3, none⟩ (.int .i64 s)).heap.size = w.heap.size := by rw [size_set, size_set]
 have hcl' : c < m.cl.length := by omega
 refine ⟨(h.row.set _ _).set _ _, h.p0, h.loK hz, h.inj, fun k a b' e => ?_, ?_, ?_, fun d hd => ?_, fun d hd => ?_, fun d hd => ?_, fun d hd => ?_, fun d hd => ?_⟩
 ·have := slC_no (c := c) a b' hc
  rw [upd_ne this.2.2.2.2.2.1, upd_ne this.2.2.2.2.1, items_turn hcl' (x := { m.get c with srv := some s }) rfl]; exact h.slK hk a b' e
 ·rw [upd_ne (by omega), upd_ne (by omega)]; exact h.md
 ·rw [upd_ne (by omega), upd_ne (by omega), upd_ne (by omega), upd_ne (by omega)]; exact h.wldK hz hk h.wld
 ·rw [upd_ne (by omega), upd_ne (by omega), set_get hcl']
  by_cases e : c = d
  ·subst e; rw [if_pos rfl]; exact h.bytes c hd
  ·rw [if_neg e]; exact h.bytes d hd
 ·rw [upd_ne (by omega), set_get hcl']
  by_cases e : c = d
  ·subst e; rw [upd_at, if_pos rfl]; rfl
  ·rw [upd_ne (by omega), if_neg e]; exact h.has d hd
 ·rw [set_get hcl']
  by_cases e : c = d
  ·subst e
   rw [upd_at, if_pos rfl]
   exact ⟨s, rfl, fun s' hs' => by injection hs' with hs'; rw [hs']⟩
  ·rw [upd_ne (by omega), upd_ne (by omega), if_neg e]; exact h.srv d hd
 ·rw [upd_ne (by omega), upd_ne (by omega)]; exact h.lstK hz hk (h.set d hd)
 ·rw [upd_ne (by omega), upd_ne (by omega)]; exact h.lstK hz hk (h.prep d hd)
theorem PMem.setWorld (h : PMem 0 w base P f G mode m) {r s : Value} {W : Wd} (hw : WldP w (Free G) r s W) : PMem 0 ((w.setCell ⟨P, 1, none⟩ r).setCell ⟨P, 2, none⟩ s) base P (upd (upd f 1 r) 2 s) G mode { m with e := ⟨W, m.e.kept⟩ } := by
 have hk : ∀ b, b ≠ P → ((w.setCell ⟨P, 1, none⟩ r).setCell ⟨P, 2, none⟩ s).heap[b]? = w.heap[b]? := fun b hb => (set_off _ P 2 _ b hb).trans (set_off w P 1 _ b hb)
 have hz : ((w.setCell ⟨P, 1, none⟩ r).setCell ⟨P, 2, none⟩ s).heap.size = w.heap.size := by rw [size_set, size_set]
 refine ⟨(h.row.set _ _).set _ _, h.p0, h.loK hz, h.inj, fun k a b' e => ?_, ?_, ?_, fun d hd => ?_, fun d hd => ?_, fun d hd => ?_, fun d hd => ?_, fun d hd => ?_⟩
 ·have := slC_no (c := 0) a b' (by omega)
  rw [upd_ne this.2.2.1, upd_ne this.2.1, items_same rfl rfl rfl rfl rfl]; exact h.slK hk a b' e
 ·rw [upd_ne (by omega), upd_ne (by omega)]; exact h.md
 ·rw [upd_ne (by omega), upd_at, upd_at]; exact h.wldK hz hk hw
 ·rw [upd_ne (by omega), upd_ne (by omega)]; exact h.bytes d hd
 ·rw [upd_ne (by omega), upd_ne (by omega)]; exact h.has d hd
 ·rw [upd_ne (by omega), upd_ne (by omega)]; exact h.srv d hd
 ·rw [upd_ne (by omega), upd_ne (by omega)]; exact h.lstK hz hk (h.set d hd)
 ·rw [upd_ne (by omega), upd_ne (by omega)]; exact h.lstK hz hk (h.prep d hd)
theorem of_set {e : PE} {c d : Nat} (hc : c < e.kept.length) (p : PL × PL) : PE.of ⟨e.w, e.kept.set c p⟩ d = if c = d then p else e.of d := by
 unfold PE.of; simp only; rw [getD_set]; by_cases h : c = d
 ·rw [if_pos ⟨h, hc⟩, if_pos h]
 ·rw [if_neg (fun h' => h h'.1), if_neg h]
theorem PMem.setLists (h : PMem 0 w base P f G mode m) {c : Nat} (hc : c < 6) (hkl : m.e.kept.length = 6) {v1 v2 : Value} {l1 l2 : PL} (h1 : Lst w w.heap.size v1 l1 ∧ InP (Free G) v1 l1) (h2 : Lst w w.heap.size v2 l2 ∧ InP (Free G) v2 l2) :
  PMem 0 ((w.setCell ⟨P, 4 + c * 6 + 4, none⟩ v1).setCell ⟨P, 4 + c * 6 + 5, none⟩ v2) base P (upd (upd f (4 + c * 6 + 4) v1) (4 + c * 6 + 5) v2) G mode { m with e := ⟨m.e.w, m.e.kept.set c (l1, l2)⟩ } := by
 have hk : ∀ b, b ≠ P → ((w.setCell ⟨P, 4 + c * 6 + 4, none⟩ v1).setCell ⟨P, 4 + c * 6 + 5, none⟩ v2).heap[b]? = w.heap[b]? := fun b hb => (set_off _ P (4 + c * 6 + 5) _ b hb).trans (set_off w P (4 + c * 6 + 4) _ b hb)
 have hz : ((w.setCell ⟨P, 4 + c * 6 + 4, none⟩ v1).setCell ⟨P, 4 + c * 6 + 5, none⟩ v2).heap.size = w.heap.size := by rw [size_set, size_set]
 have hc' : c < m.e.kept.length := by omega
 refine ⟨(h.row.set _ _).set _ _, h.p0, h.loK hz, h.inj, fun k a b' e => ?_, ?_, ?_, fun d hd => ?_, fun d hd => ?_, fun d hd => ?_, fun d hd => ?_, fun d hd => ?_⟩
 ·have := slC_no (c := c) a b' hc
  rw [upd_ne this.2.2.2.2.2.2.2, upd_ne this.2.2.2.2.2.2.1, items_same rfl rfl rfl rfl rfl]; exact h.slK hk a b' e
 ·rw [upd_ne (by omega), upd_ne (by omega)]; exact h.md
 ·rw [upd_ne (by omega), upd_ne (by omega), upd_ne (by omega), upd_ne (by omega)]; exact h.wldK hz hk h.wld
 ·rw [upd_ne (by omega), upd_ne (by omega)]; exact h.bytes d hd
 ·rw [upd_ne (by omega), upd_ne (by omega)]; exact h.has d hd
 ·rw [upd_ne (by omega), upd_ne (by omega)]; exact h.srv d hd
 ·rw [upd_ne (by omega), show ({ m with e := ⟨m.e.w, m.e.kept.set c (l1, l2)⟩ } : Mach PE).e.of d = if c = d then (l1, l2) else m.e.of d from of_set hc' _]
  by_cases e : c = d
  ·subst e; rw [upd_at, if_pos rfl]; exact h.lstK hz hk h1
  ·rw [upd_ne (by omega), if_neg e]; exact h.lstK hz hk (h.set d hd)
 ·rw [show ({ m with e := ⟨m.e.w, m.e.kept.set c (l1, l2)⟩ } : Mach PE).e.of d = if c = d then (l1, l2) else m.e.of d from of_set hc' _]
  by_cases e : c = d
  ·subst e; rw [upd_at, if_pos rfl]; exact h.lstK hz hk h2
  ·rw [upd_ne (by omega), upd_ne (by omega), if_neg e]; exact h.lstK hz hk (h.prep d hd)
end
end Go.Proofs.YtpbaobmegomfpabGreatDoor
namespace Go.Proofs.YtpbaobmegomfpabGreatDoor
open Go.RowKit
def set6 (w : World) (P o : Nat) : World := (((((w.setCell ⟨P, o, none⟩ (.string ⟨#[]⟩)).setCell ⟨P, o + 1, none⟩ (.slice none 0 0)).setCell ⟨P, o + 2, none⟩ (.bool false)).setCell ⟨P, o + 3, none⟩ (.int .i64 0)).setCell ⟨P, o + 4, none⟩ (.slice none 0 0)).setCell ⟨P, o + 5, none⟩ (.slice none 0 0)
def upd6 (f : Nat → Value) (o : Nat) : Nat → Value := upd (upd (upd (upd (upd (upd f o (.string ⟨#[]⟩)) (o + 1) (.slice none 0 0)) (o + 2) (.bool false)) (o + 3) (.int .i64 0)) (o + 4) (.slice none 0 0)) (o + 5) (.slice none 0 0)
section
variable {w w' : World} {base P : Nat} {f : Nat → Value} {G : Nat → Option Nat} {mode : Int} {m m' : Mach PE}
theorem upd6_ne {o i : Nat} (h : i < o ∨ o + 5 < i) : upd6 f o i = f i := by
 unfold upd6
 rw [upd_ne (by omega), upd_ne (by omega), upd_ne (by omega), upd_ne (by omega), upd_ne (by omega), upd_ne (by omega)]
theorem upd6_at {o : Nat} : upd6 f o o = .string ⟨#[]⟩ ∧ upd6 f o (o + 1) = .slice none 0 0 ∧ upd6 f o (o + 2) = .bool false ∧ upd6 f o (o + 3) = .int .i64 0 ∧ upd6 f o (o + 4) = .slice none 0 0 ∧ upd6 f o (o + 5) = .slice none 0 0 := by
 unfold upd6
 refine ⟨?_, ?_, ?_, ?_, ?_, upd_at⟩
 ·rw [upd_ne (by omega), upd_ne (by omega), upd_ne (by omega), upd_ne (by omega), upd_ne (by omega), upd_at]
 ·rw [upd_ne (by omega), upd_ne (by omega), upd_ne (by omega), upd_ne (by omega), upd_at]
 ·rw [upd_ne (by omega), upd_ne (by omega), upd_ne (by omega), upd_at]
 ·rw [upd_ne (by omega), upd_ne (by omega), upd_at]
 ·rw [upd_ne (by omega), upd_at]
theorem lst_nil (w : World) (B : Nat) : Lst w B (.slice none 0 0) [] := ⟨⟨none, 0, rfl, nL _⟩, by simp, by simp, fun h => absurd h (by simp), fun n c h => by injection h with _ _ h; exact h.symm⟩
theorem free_less {k b : Nat} (h : Free G b) : Free (upd G k none) b := fun i => by
 unfold upd; split
 ·simp
 ·exact h i
theorem slC_range {k c : Nat} (h1 : 1 ≤ k) (h2 : k ≤ 15) (hc : c < 6) (hne : k ≠ 2 + c) : slC k < 4 + c * 6 ∨ 4 + c * 6 + 5 < slC k := by
 unfold slC
 repeat' split
 all_goals omega
theorem PMem.clear (h : PMem 0 w base P f G mode m) {c : Nat} (hc : c < 6) (hcl : m.cl.length = 6) (hkl : m.e.kept.length = 6) :
  PMem 0 (set6 w P (4 + c * 6)) base P (upd6 f (4 + c * 6)) (upd G (2 + c) none) mode { m with cl := m.cl.set c Cl.new, e := ⟨m.e.w, m.e.kept.set c ([], [])⟩ } := by
 have hk : ∀ b, b ≠ P → (set6 w P (4 + c * 6)).heap[b]? = w.heap[b]? := fun b hb => by
  unfold set6
  rw [set_off _ P _ _ b hb, set_off _ P _ _ b hb, set_off _ P _ _ b hb, set_off _ P _ _ b hb, set_off _ P _ _ b hb, set_off _ P _ _ b hb]
 have hz : (set6 w P (4 + c * 6)).heap.size = w.heap.size := by unfold set6; rw [size_set, size_set, size_set, size_set, size_set, size_set]
 have hcl' : c < m.cl.length := by omega
 have hc' : c < m.e.kept.length := by omega
 have gt : ∀ d, ({ m with cl := m.cl.set c Cl.new, e := ⟨m.e.w, m.e.kept.set c ([], [])⟩ } : Mach PE).get d = if c = d then Cl.new else m.get d := fun d => get_set (m := m) hcl'
 have at6 := upd6_at (f := f) (o := 4 + c * 6)
 have up : ∀ i, i ≠ 2 + c → upd G (2 + c) none i = G i := fun i hi => by unfold upd; rw [if_neg hi]
 have upX : upd G (2 + c) none (2 + c) = none := by unfold upd; rw [if_pos rfl]
 have sub : ∀ i b, upd G (2 + c) none i = some b → G i = some b := fun i b hb => by
  by_cases e : i = 2 + c
  ·rw [e, upX] at hb; cases hb
  ·rw [up i e] at hb; exact hb
 refine ⟨(((((h.row.set _ _).set _ _).set _ _).set _ _).set _ _).set _ _, by rw [up 0 (by omega)]; exact h.p0, fun i b hb => h.loK hz i b (sub i b hb), fun i j b hi hj => h.inj i j b (sub i b hi) (sub j b hj), fun k a b' e => ?_, ?_, ?_, fun d hd => ?_, fun d hd => ?_, fun d hd => ?_, fun d hd => ?_, fun d hd => ?_⟩
 ·by_cases ek : k = 2 + c
  ·subst ek
   have e1 : slC (2 + c) = 4 + c * 6 + 1 := by unfold slC; rw [if_neg (by omega), if_pos (by omega)]; omega
   have e2 : items ({ m with cl := m.cl.set c Cl.new, e := ⟨m.e.w, m.e.kept.set c ([], [])⟩ } : Mach PE) (2 + c) = [] := by
    unfold items; rw [if_neg (by omega), if_pos (by omega), gt, if_pos (by omega)]; rfl
   rw [upX, e1, e2, at6.2.1]
   exact Sl.nil_ _ _ _
  ·have e2 : items ({ m with cl := m.cl.set c Cl.new, e := ⟨m.e.w, m.e.kept.set c ([], [])⟩ } : Mach PE) k = items m k := by
    unfold items
    rw [gt]
    by_cases ek' : k = 1
    ·rw [if_pos ek', if_pos ek']
    ·rw [if_neg ek', if_neg ek']
     by_cases e8 : k < 8
     ·rw [if_pos e8, if_pos e8, if_neg (by omega)]
     ·rw [if_neg e8, if_neg e8]
   rw [up k ek, upd6_ne (slC_range a b' hc ek), e2]; exact h.slK hk a b' e
 ·rw [upd6_ne (by omega)]; exact h.md
 ·rw [upd6_ne (by omega), upd6_ne (by omega)]; exact (h.wldK hz hk h.wld).mono fun b hb => free_less hb
 ·rw [gt]
  by_cases e : c = d
  ·subst e; rw [at6.1, if_pos rfl]; rfl
  ·rw [upd6_ne (by omega), if_neg e]; exact h.bytes d hd
 ·rw [gt]
  by_cases e : c = d
  ·subst e; rw [at6.2.2.1, if_pos rfl]; rfl
  ·rw [upd6_ne (by omega), if_neg e]; exact h.has d hd
 ·rw [gt]
  by_cases e : c = d
  ·subst e; rw [at6.2.2.2.1, if_pos rfl]
   exact ⟨0, rfl, fun s hs => by cases hs⟩
  ·rw [upd6_ne (by omega), if_neg e]; exact h.srv d hd
 ·rw [show ({ m with cl := m.cl.set c Cl.new, e := ⟨m.e.w, m.e.kept.set c ([], [])⟩ } : Mach PE).e.of d = if c = d then ([], []) else m.e.of d from of_set hc' _]
  by_cases e : c = d
  ·subst e; rw [at6.2.2.2.2.1, if_pos rfl]
   exact ⟨lst_nil _ _, InP.nil_ _ _⟩
  ·rw [upd6_ne (by omega), if_neg e]
   have := h.lstK hz hk (h.set d hd)
   exact ⟨this.1, this.2.mono fun b hb => free_less hb⟩
 ·rw [show ({ m with cl := m.cl.set c Cl.new, e := ⟨m.e.w, m.e.kept.set c ([], [])⟩ } : Mach PE).e.of d = if c = d then ([], []) else m.e.of d from of_set hc' _]
  by_cases e : c = d
  ·subst e; rw [at6.2.2.2.2.2, if_pos rfl]
   exact ⟨lst_nil _ _, InP.nil_ _ _⟩
  ·rw [upd6_ne (by omega), if_neg e]
   have := h.lstK hz hk (h.prep d hd)
   exact ⟨this.1, this.2.mono fun b hb => free_less hb⟩
end
end Go.Proofs.YtpbaobmegomfpabGreatDoor
namespace Go.Proofs.YtpbaobmegomfpabGreatDoor
open Go.RowKit
def ptr (P o : Nat) : Value := .pointer (some ⟨P, o, none⟩)
set_option maxHeartbeats 1000000 in
theorem refusal_any (P : Nat) (mode k : Int) (key val : ByteArray) (w : World) (h0 : w.cell? ⟨P, 0, none⟩ = some (.int .i64 mode)) (hP : P < w.heap.size) :
  Calls Tryz.prog 118 #[ptr P 0, .agg #[.int .i64 k, .string key, .string val]] w fun e w' => e = .returned (.string (refuse mode ⟨k, key, val⟩)) ∧ Below w.heap.size w w' := by
 have nn := (Below.refl w.heap.size w).alloc (nL _) (.cells #[.int .i64 k, .string key, .string val] 41)
 have HN := hD nn
 unfold ptr
 by_cases h1 : k = 0
 ·have t1 : (k == 0) = true := by simp [h1]
  have HE := hD (show refuse mode ⟨k, key, val⟩ = tUnder by unfold refuse; rw [if_pos h1])
  clear h1 nn
  go_enter Tryz.func118, Tryz.ntmps118
  go_wp2
  go_ret
  exact ⟨by rw [HE.out]; rfl, HN.out⟩
 have t1 : (k == 0) = false := by simp [h1]
 by_cases h2 : k = 1
 ·have t2 : (k == 1) = true := by simp [h2]
  by_cases h3 : mode = 3
  ·have t3 : (mode == 3) = true := by simp [h3]
   have HE := hD (show refuse mode ⟨k, key, val⟩ = tMode by unfold refuse; rw [if_neg h1, if_pos ⟨h2, h3⟩])
   clear h1 h2 h3 nn
   go_enter Tryz.func118, Tryz.ntmps118
   go_wp2
   go_ret
   exact ⟨by rw [HE.out]; rfl, HN.out⟩
  ·have t3 : (mode == 3) = false := by simp [h3]
   have HE := hD (show refuse mode ⟨k, key, val⟩ = ⟨#[]⟩ by unfold refuse; rw [if_neg h1, if_neg (fun h => h3 h.2)])
   clear h1 h2 h3 nn
   go_enter Tryz.func118, Tryz.ntmps118
   go_wp2
   go_ret
   exact ⟨by rw [HE.out]; rfl, HN.out⟩
 have t2 : (k == 1) = false := by simp [h2]
 have HE := hD (show refuse mode ⟨k, key, val⟩ = ⟨#[]⟩ by unfold refuse; rw [if_neg h1, if_neg (fun h => h2 h.1)])
 clear h1 h2 nn
 go_enter Tryz.func118, Tryz.ntmps118
 go_wp2
 go_ret
 exact ⟨by rw [HE.out]; rfl, HN.out⟩
section
variable {base P : Nat} {f : Nat → Value} {G : Nat → Option Nat} {mode : Int} {m : Mach PE}
set_option maxHeartbeats 1000000 in
theorem state_any (w : World) (h : PMem 0 w base P f G mode m) (hm : MOk mode m) (hp : m.e.w.ss.length = m.busy.length) {c : Nat} (hc : c < 6) :
  Calls Tryz.prog 74 #[ptr P 0, ptr P (4 + c * 6)] w fun e w' => e = .returned (.int .i64 (m.e.state (m.get c).srv)) ∧ ∃ n, w' = w.drewN n := by
 have h2 := h.row.cell (j := 4 + c * 6 + 2) (by omega)
 have h3 := h.row.cell (j := 4 + c * 6 + 3) (by omega)
 have h5 := h.row.cell (j := 2) (by omega)
 rw [h.has c hc] at h2
 obtain ⟨q, hq, hqs⟩ := h.srv c hc
 rw [hq] at h3
 have hP := h.row.lt
 unfold ptr
 cases hs : (m.get c).srv with
 | none =>
  have HE := hD (show m.e.state none = 0 from rfl)
  rw [hs] at h2
  simp only [Option.isSome] at h2
  clear hqs hs hq
  go_enter Tryz.func74, Tryz.ntmps74
  go_wp2
  go_ret
  exact ⟨by rw [HE.out]; rfl, 0, rfl⟩
 | some s =>
  have HE := hD (show m.e.state (some s) = (m.e.w.at s).st from rfl)
  rw [hs] at h2
  simp only [Option.isSome] at h2
  have hb := (List.getElem?_eq_some_iff.1 (hm.srv c s hs)).1
  have hlt : s < m.e.w.ss.length := by omega
  obtain rfl := hqs s hs
  obtain ⟨A, cc, hv, _⟩ := h.wld.wld.sess.form
  rw [hv] at h5
  have hss := h.wld.wld.sess
  rw [hv] at hss
  obtain ⟨g, o, v1, v2, v3, v4, rfl, hg, sA⟩ := hss.pt hlt
  have s0 := sA.c0
  rw [← at_lt hlt] at s0
  have hbd := hss.bytes
  clear hqs hs hq hv hss sA h hm hp hb
  generalize m.e.w.ss.length = n at *
  go_enter Tryz.func74, Tryz.ntmps74
  go_wp2
  go_quiet (fail)
  go_wp2
  go_ret
  exact ⟨by rw [HE.out]; rfl, _, rfl⟩
end
end Go.Proofs.YtpbaobmegomfpabGreatDoor
namespace Go.Proofs.YtpbaobmegomfpabGreatDoor
open Go.RowKit
theorem EndR.wldP {w : World} {base X S : Nat} {r : Value} {W : Wd} (h : EndR w base X S r W) : WldP w (fun b => base ≤ b) r (slc S W.ss.length W.ss.length) W := by
 obtain ⟨hbox, hw, hlr⟩ := h.box
 refine ⟨hw, fun _ b off n c e => hlr ⟨b, off, none⟩ n c e, fun hn b off n c e => ?_⟩
 unfold slc at e
 injection e with e
 injection e with e
 injection e with e1 e2
 subst e1 e2
 refine ⟨h.loS, fun k j v hk hj hv _ b off n c e => ?_⟩
 rw [Nat.zero_add] at hv
 exact h.los k j v hk hj hv ⟨b, off, none⟩ n c e
set_option maxHeartbeats 2000000 in
theorem do_lo (r s : Value) (W : Wd) (i : Nat) (k : Int) (key val : ByteArray) (w : World) (hW : Wld w w.heap.size r s W) (hWo : Words w) (hkz : key.size ≤ maxLen) (hvz : val.size ≤ maxLen) (he : doE W i k key val = 0) :
  Calls Tryz.prog 23 #[.agg #[r, s], .int .i64 i, .agg #[.int .i64 k, .string key, .string val]] w fun e w' => ∃ r' s', e = .returned (doGood r' s' (doM W i k key val).2 ((doM W i k key val).1.at i).st) ∧ WldP w' (fun b => w.heap.size ≤ b) r' s' (doM W i k key val).1 ∧ Below w.heap.size w w' := by
 obtain ⟨A, c, rfl, hc⟩ := hW.sess.form
 obtain ⟨D, d, rfl, hd⟩ := hW.rows.form
 have HW := hD hW
 have HWo := hD hWo
 have t : (doE W i k key val != 0) = false := bne_eq_false_iff_eq.2 he
 obtain ⟨hwb, hi, hchk⟩ : worldB W = true ∧ i < W.ss.length ∧ checkE k key val = 0 := by
  unfold doE at he
  split at he
  ·cases he
  ·rename_i h1
   split at he
   ·cases he
   ·rename_i h2
    exact ⟨by simpa using h1, by omega, he⟩
 have hwo := worldB_iff.1 hwb
 have hz := worldOk_sz hwo
 have HZ := hD hz
 have HK := hD hchk
 have HWK := hD hwo
 clear hwb hwo hz hchk
 have H0 := hD (doAt0 w (.slice D W.rows.length d) (.slice A W.ss.length c) k key val)
 clear hW hWo he
 go_enter Tryz.func23, Tryz.ntmps23
 go_wp2_with fail
 refine (checkDo_any _ _ W i k key val _ (HW.out.step H0.out.bel) (HWo.out.below H0.out.bel) hkz hvz).mono ?_
 rintro e w1 ⟨rfl, hb1⟩
 have h1 := H0.out.below hb1
 have x0 := h1.X.cell (j := 0) (by simp)
 have x1 := h1.X.cell (j := 1) (by simp)
 have y0 := h1.Y.cell (j := 0) (by simp)
 have y1 := h1.Y.cell (j := 1) (by simp)
 have y2 := h1.Y.cell (j := 2) (by simp)
 simp only [gCZ, gCS] at x0 x1 y0 y1 y2
 have H1 := hD h1
 clear hb1 h1
 go_wp2_with fail
 refine (copy_any _ _ W _ (HW.out.step H1.out.bel)).mono ?_
 rintro e w2 ⟨gR, S, G, rfl, hown, hb2⟩
 have h2 := H1.out.below hb2
 have hD := hown.ownD h2.X (by have := H1.out.size; omega) HZ.out
 have hlo : LoD w.heap.size w.heap.size S gR G W.ss.length := ⟨nL _, by have := hown.loS; have := H1.out.size; omega, by have := hown.loR; have := H1.out.size; omega, fun i j hi hj => by have := hown.sess.lo i j hi hj; have := H1.out.size; omega⟩
 have HD := hD hD
 have HO := hD hown
 have H2 := hD h2
 have HLO := hD hlo
 obtain ⟨u0, x0⟩ := h2.X.any (j := 0) (by omega)
 obtain ⟨u1, x1⟩ := h2.X.any (j := 1) (by omega)
 have f0 := h2.X.frozen 0
 have f1 := h2.X.frozen 1
 have y0 := h2.Y.cell (j := 0) (by simp)
 have y1 := h2.Y.cell (j := 1) (by simp)
 have y2 := h2.Y.cell (j := 2) (by simp)
 simp only [gCZ, gCS] at y0 y1 y2
 clear hb2 h2 hD hown hlo
 unfold sl at HD ⊢
 go_wp2_with fail
 have hfine := didM_ok HWK.out hi HK.out
 have htx := (didM_ans HWK.out hi k key val).len
 obtain ⟨q, hq⟩ : ∃ q, q = didM W i k key val := ⟨_, rfl⟩
 have HE := hD (execute_any w.heap.size w.heap.size S gR W.rows.length G (fun i j => ((W.at i).li j).length) W i k key val _ HD.out HLO.out HWK.out (by have := H2.out.size; simp [World.setCell]; omega) hi HK.out (HWo.out.below ((H2.out.bel.setCell (nL _) _).setCell (nL _) _)))
 rw [← hq] at HE hfine htx
 refine HE.out.mono ?_
 rintro e w4 hp
 obtain rfl := hp.1
 have hsz : ∀ u v, ((w2.setCell ⟨w.heap.size, 0, none⟩ u).setCell ⟨w.heap.size, 1, none⟩ v).heap.size = w2.heap.size := fun u v => by simp [World.setCell]
 have hrest : ∀ b, w.heap.size < b → b < w.heap.size + 1 + 1 + 1 + 1 → w4.heap[b]? = w2.heap[b]? := fun b h1 h2 => by
  have h3 := H2.out.size
  have h4 := HO.out.loS
  have h5 := HO.out.loR
  have h6 := H1.out.size
  rw [hp.2.2.2 b (by rw [hsz]; omega) (by omega) (by omega) (by omega) (fun i j hi hj => by have := HO.out.sess.lo i j hi hj; omega), Below.heap_setCell _ _ _ _ (by show b ≠ w.heap.size; omega), Below.heap_setCell _ _ _ _ (by show b ≠ w.heap.size; omega)]
 have R4 := H2.out.R.same (hrest _ (by omega) (by omega))
 have A4 := H2.out.A.same (hrest _ (by omega) (by omega))
 obtain ⟨rv, hEnd⟩ := hp.2.1.r
 have hBel : Below w.heap.size w w4 := ((H2.out.bel.setCell (nL _) _).setCell (nL _) _).trans hp.2.2.1
 obtain ⟨hbox, hwl, hlr⟩ := hEnd.box
 have hqi : i < q.1.ss.length := by rw [hfine.2]; exact hi
 obtain ⟨v1, v2, v3, v4, hses⟩ := hEnd.sess hqi
 have hsi := hses.c0
 obtain ⟨rA, rc, rfl, _⟩ := hwl.rows.form
 have z0 := hbox.cell (j := 0) (by simp)
 have z1 := hbox.cell (j := 1) (by simp)
 simp only [gCZ, gCS] at z0 z1
 unfold slc at z1
 have hqi' : (i : Int) < (q.1.ss.length : Int) := by omega
 have hSw := hEnd.blk.lt
 have hXw := hbox.lt
 have fS0 := hEnd.blk.frozen (i * 5)
 have fS4 := hEnd.blk.frozen (i * 5 + 4)
 obtain ⟨u4, uS4⟩ := hEnd.blk.any (j := i * 5 + 4) (by omega)
 have hRw := R4.lt
 have hAw := A4.lt
 have hXS : w.heap.size ≠ S := fun e => by have := HO.out.loS; have := H1.out.size; omega
 have HP := hD hEnd
 have HB := hD hBel
 have HR := hD R4
 have HA := hD A4
 have HF := hD hfine
 have HQ := hD hq
 clear hp hrest R4 A4 hEnd hBel hbox hwl hlr hses hfine hq HE hsz x0 x1 f0 f1 y0 y1 y2
 unfold ansV
 have hRS : w.heap.size + 1 + 1 ≠ S := fun e => by have := HO.out.loS; have := H1.out.size; omega
 have hRS3 : w.heap.size + 1 + 1 + 1 ≠ S := fun e => by have := HO.out.loS; have := H1.out.size; omega
 by_cases hcase : q.2.kind = 4 ∧ q.1.ss[i].st = 1
 ·have c1 : (q.2.kind == 4) = true := beq_iff_eq.2 hcase.1
  have c2 : (q.1.ss[i].st == 1) = true := beq_iff_eq.2 hcase.2
  have HC := hD hcase
  clear hcase
  go_wp2
  have hE5 := (HP.out.failed hqi hXS).below ((Below.refl _ _).alloc (nL _) (.cells #[.int .i64 q.2.kind, .string q.2.text, .int .i64 0] 46))
  have hR5 := ((HR.out.other (p := ⟨S, i * 5, none⟩) (fun e => hRS e.symm) (.int .i64 2)).other (p := ⟨S, i * 5 + 4, none⟩) (fun e => hRS e.symm) (.slice none 0 0)).alloc (.cells #[.int .i64 q.2.kind, .string q.2.text, .int .i64 0] 46)
  have hA5' := ((HA.out.other (p := ⟨S, i * 5, none⟩) (fun e => hRS3 e.symm) (.int .i64 2)).other (p := ⟨S, i * 5 + 4, none⟩) (fun e => hRS3 e.symm) (.slice none 0 0)).alloc (.cells #[.int .i64 q.2.kind, .string q.2.text, .int .i64 0] 46)
  have hB5 := ((HB.out.setCell (p := ⟨S, i * 5, none⟩) HLO.out.s (.int .i64 2)).setCell (p := ⟨S, i * 5 + 4, none⟩) HLO.out.s (.slice none 0 0)).alloc (by simp [World.setCell]; omega) (.cells #[.int .i64 q.2.kind, .string q.2.text, .int .i64 0] 46)
  have hz5 : (((w4.setCell ⟨S, i * 5, none⟩ (.int .i64 2)).setCell ⟨S, i * 5 + 4, none⟩ (.slice none 0 0)).alloc (.cells #[.int .i64 q.2.kind, .string q.2.text, .int .i64 0] 46)).heap.size = w4.heap.size + 1 := by simp [World.setCell]
  have hNew := RowTo.whole ((w4.setCell ⟨S, i * 5, none⟩ (.int .i64 2)).setCell ⟨S, i * 5 + 4, none⟩ (.slice none 0 0)) #[.int .i64 q.2.kind, .string q.2.text, .int .i64 0] 46
  rw [show ((w4.setCell ⟨S, i * 5, none⟩ (.int .i64 2)).setCell ⟨S, i * 5 + 4, none⟩ (.slice none 0 0)).heap.size = w4.heap.size by simp [World.setCell]] at hNew
  have hq5 : i < (q.1.put i { q.1.ss[i] with st := 2, wr := [] }).ss.length := by rw [wput_len]; exact hqi
  have hst5 : (q.1.put i { q.1.ss[i] with st := 2, wr := [] }).ss[i].st = 2 := by simp [Wd.put]
  obtain ⟨u1, u2, u3, u5, hs5⟩ := hE5.sess hq5
  have s0 := hs5.c0
  rw [hst5] at s0
  have zn : ∀ j u, w4.cell? ⟨w.heap.size, j, none⟩ = some u → (((w4.setCell ⟨S, i * 5, none⟩ (.int .i64 2)).setCell ⟨S, i * 5 + 4, none⟩ (.slice none 0 0)).alloc (.cells #[.int .i64 q.2.kind, .string q.2.text, .int .i64 0] 46)).cell? ⟨w.heap.size, j, none⟩ = some u := fun j u h => by rw [World.cell?_alloc_lt _ _ _ (by simp [World.setCell]; omega), World.cell?_setCell_other _ _ _ _ (fun e => by injection e with e; exact hXS e.symm), World.cell?_setCell_other _ _ _ _ (fun e => by injection e with e; exact hXS e.symm)]; exact h
  have z0 := zn 0 _ z0
  have z1 := zn 1 _ z1
  have a0 := hNew.cell (j := 0) (by simp)
  have a1 := hNew.cell (j := 1) (by simp)
  simp only [gCZ, gCS] at a0 a1
  have hX5 : w.heap.size < (((w4.setCell ⟨S, i * 5, none⟩ (.int .i64 2)).setCell ⟨S, i * 5 + 4, none⟩ (.slice none 0 0)).alloc (.cells #[.int .i64 q.2.kind, .string q.2.text, .int .i64 0] 46)).heap.size := by rw [hz5]; omega
  have hA5 : w4.heap.size < (((w4.setCell ⟨S, i * 5, none⟩ (.int .i64 2)).setCell ⟨S, i * 5 + 4, none⟩ (.slice none 0 0)).alloc (.cells #[.int .i64 q.2.kind, .string q.2.text, .int .i64 0] 46)).heap.size := by rw [hz5]; omega
  have hS5 : S < (((w4.setCell ⟨S, i * 5, none⟩ (.int .i64 2)).setCell ⟨S, i * 5 + 4, none⟩ (.slice none 0 0)).alloc (.cells #[.int .i64 q.2.kind, .string q.2.text, .int .i64 0] 46)).heap.size := by rw [hz5]; omega
  have HDM := hD (show doM W i k key val = (q.1.put i { q.1.ss[i] with st := 2, wr := [] }, q.2) by rw [doM, ← HQ.out]; simp only [getD_at hqi]; rw [if_pos HC.out])
  have hXR : w.heap.size ≠ w.heap.size + 1 + 1 := by omega
  have hAR : w4.heap.size ≠ w.heap.size + 1 + 1 := by omega
  have hSR : S ≠ w.heap.size + 1 + 1 := fun e => hRS e.symm
  have hXA : w.heap.size ≠ w.heap.size + 1 + 1 + 1 := by omega
  have hAA : w4.heap.size ≠ w.heap.size + 1 + 1 + 1 := by omega
  have hSA : S ≠ w.heap.size + 1 + 1 + 1 := fun e => hRS3 e.symm
  have HR5 := hD hR5
  have HA5 := hD hA5'
  have HE5 := hD hE5
  have HB5 := hD hB5
  have hRw5 := hR5.lt
  have hAw5 := hA5'.lt
  clear hR5 hA5' hE5 hB5 zn hz5 hNew hs5 hst5 hq5
  generalize ((w4.setCell ⟨S, i * 5, none⟩ (.int .i64 2)).setCell ⟨S, i * 5 + 4, none⟩ (.slice none 0 0)).alloc (.cells #[.int .i64 q.2.kind, .string q.2.text, .int .i64 0] 46) = W5 at *
  have kb := Below.refl W5.heap.size W5
  have HS := hD (show W5.drew.cell? ⟨w.heap.size, 0, none⟩ = some (.slice rA q.1.rows.length rc) ∧ W5.drew.cell? ⟨w.heap.size, 1, none⟩ = some (.slice (some ⟨S, 0, none⟩) q.1.ss.length q.1.ss.length) ∧ W5.drew.cell? ⟨w4.heap.size, 0, none⟩ = some (.int .i64 q.2.kind) ∧ W5.drew.cell? ⟨w4.heap.size, 1, none⟩ = some (.string q.2.text) ∧ W5.drew.cell? ⟨S, i * 5, none⟩ = some (.int .i64 2) from ⟨z0, z1, a0, a1, s0⟩)
  go_region_held3 (fun wx => wx.cell? ⟨w.heap.size, 0, none⟩ = some (.slice rA q.1.rows.length rc) ∧ wx.cell? ⟨w.heap.size, 1, none⟩ = some (.slice (some ⟨S, 0, none⟩) q.1.ss.length q.1.ss.length) ∧ wx.cell? ⟨w4.heap.size, 0, none⟩ = some (.int .i64 q.2.kind) ∧ wx.cell? ⟨w4.heap.size, 1, none⟩ = some (.string q.2.text) ∧ wx.cell? ⟨S, i * 5, none⟩ = some (.int .i64 2))
   (first
    | with_reducible exact ⟨z0, z1, a0, a1, s0⟩
    | with_reducible exact HS.out
    | with_reducible exact ⟨(kb.cell (p := ⟨w.heap.size, 0, none⟩) hX5).trans z0, (kb.cell (p := ⟨w.heap.size, 1, none⟩) hX5).trans z1, (kb.cell (p := ⟨w4.heap.size, 0, none⟩) hA5).trans a0, (kb.cell (p := ⟨w4.heap.size, 1, none⟩) hA5).trans a1, (kb.cell (p := ⟨S, i * 5, none⟩) hS5).trans s0⟩
    | with_reducible exact ⟨cell_set3 (cell_set2 ((kb.cell (p := ⟨w.heap.size, 0, none⟩) hX5).trans z0) hXR) hXA, cell_set3 (cell_set2 ((kb.cell (p := ⟨w.heap.size, 1, none⟩) hX5).trans z1) hXR) hXA, cell_set3 (cell_set2 ((kb.cell (p := ⟨w4.heap.size, 0, none⟩) hA5).trans a0) hAR) hAA, cell_set3 (cell_set2 ((kb.cell (p := ⟨w4.heap.size, 1, none⟩) hA5).trans a1) hAR) hAA, cell_set3 (cell_set2 ((kb.cell (p := ⟨S, i * 5, none⟩) hS5).trans s0) hSR) hSA⟩
    | with_reducible exact ⟨cell_set2 ((kb.cell (p := ⟨w.heap.size, 0, none⟩) hX5).trans z0) hXR, cell_set2 ((kb.cell (p := ⟨w.heap.size, 1, none⟩) hX5).trans z1) hXR, cell_set2 ((kb.cell (p := ⟨w4.heap.size, 0, none⟩) hA5).trans a0) hAR, cell_set2 ((kb.cell (p := ⟨w4.heap.size, 1, none⟩) hA5).trans a1) hAR, cell_set2 ((kb.cell (p := ⟨S, i * 5, none⟩) hS5).trans s0) hSR⟩)
   (first
    | (
     go_at_call 46
     refine (clone_any q.2.text _ (by omega)).mono ?_
     rintro e w6 ⟨rfl, hy⟩
     have kb : Below W5.heap.size W5 w6 := by first | exact hy | exact bel_addN kb hy kb.size | exact bel_add kb hy kb.size
     have R6 := HR5.out.below kb hRw5
     have A6 := HA5.out.below kb hAw5
     have r0 := R6.cell (j := 0) (by simp)
     have r1 := R6.cell (j := 1) (by simp)
     have b0 := A6.cell (j := 0) (by simp)
     have b1 := A6.cell (j := 1) (by simp)
     have b2 := A6.cell (j := 2) (by simp)
     have g0 := R6.frozen 0
     have g1 := R6.frozen 1
     have k0 := A6.frozen 0
     have k1 := A6.frozen 1
     have k2 := A6.frozen 2
     simp only [gCZ, gCS] at r0 r1 b0 b1 b2))
  all_goals go_wp2
  all_goals refine bodyPost_ret (v := doGood (.slice rA q.1.rows.length rc) (.slice (some ⟨S, 0, none⟩) q.1.ss.length q.1.ss.length) q.2 2) (by simp [results, Tryz.results23, go_sem, r0, r1, b0, b1, b2, doGood]) rfl ?_
  all_goals
   have hk1 : ∀ b, b ≠ w.heap.size + 1 + 1 → ((w6.setCell ⟨w.heap.size + 1 + 1, 0, none⟩ (.slice rA q.1.rows.length rc)).setCell ⟨w.heap.size + 1 + 1, 1, none⟩ (.slice (some ⟨S, 0, none⟩) q.1.ss.length q.1.ss.length)).heap[b]? = w6.heap[b]? := fun b hb => by rw [Below.heap_setCell _ _ _ _ hb, Below.heap_setCell _ _ _ _ hb]
   have e1 := (HE5.out.below kb).offN (R := w.heap.size + 1 + 1) (by omega) hSR (noTwo_world R6) (by simp [World.setCell]) hk1
   have A7 := (A6.other (p := ⟨w.heap.size + 1 + 1, 0, none⟩) (by show w.heap.size + 1 + 1 ≠ _; omega) (.slice rA q.1.rows.length rc)).other (p := ⟨w.heap.size + 1 + 1, 1, none⟩) (by show w.heap.size + 1 + 1 ≠ _; omega) (.slice (some ⟨S, 0, none⟩) q.1.ss.length q.1.ss.length)
   have hk2 : ∀ (x y z : Value) b, b ≠ w.heap.size + 1 + 1 + 1 → (((((w6.setCell ⟨w.heap.size + 1 + 1, 0, none⟩ (.slice rA q.1.rows.length rc)).setCell ⟨w.heap.size + 1 + 1, 1, none⟩ (.slice (some ⟨S, 0, none⟩) q.1.ss.length q.1.ss.length)).setCell ⟨w.heap.size + 1 + 1 + 1, 0, none⟩ x).setCell ⟨w.heap.size + 1 + 1 + 1, 1, none⟩ y).setCell ⟨w.heap.size + 1 + 1 + 1, 2, none⟩ z).heap[b]? = ((w6.setCell ⟨w.heap.size + 1 + 1, 0, none⟩ (.slice rA q.1.rows.length rc)).setCell ⟨w.heap.size + 1 + 1, 1, none⟩ (.slice (some ⟨S, 0, none⟩) q.1.ss.length q.1.ss.length)).heap[b]? := fun x y z b hb => by rw [Below.heap_setCell _ _ _ _ hb, Below.heap_setCell _ _ _ _ hb, Below.heap_setCell _ _ _ _ hb]
   have e2 := e1.offN (R := w.heap.size + 1 + 1 + 1) (w' := ((((w6.setCell ⟨w.heap.size + 1 + 1, 0, none⟩ (.slice rA q.1.rows.length rc)).setCell ⟨w.heap.size + 1 + 1, 1, none⟩ (.slice (some ⟨S, 0, none⟩) q.1.ss.length q.1.ss.length)).setCell ⟨w.heap.size + 1 + 1 + 1, 0, none⟩ (.int .i64 q.2.kind)).setCell ⟨w.heap.size + 1 + 1 + 1, 1, none⟩ (.string q.2.text)).setCell ⟨w.heap.size + 1 + 1 + 1, 2, none⟩ (.int .i64 2)) (by omega) (fun e => hRS3 e.symm) (noTwo_answer A7) (by simp [World.setCell]) (hk2 _ _ _)
   have bf := (((((HB5.out.trans (kb.mono (by omega))).setCell (p := ⟨w.heap.size + 1 + 1, 0, none⟩) (by show w.heap.size ≤ w.heap.size + 1 + 1; omega) (.slice rA q.1.rows.length rc)).setCell (p := ⟨w.heap.size + 1 + 1, 1, none⟩) (by show w.heap.size ≤ w.heap.size + 1 + 1; omega) (.slice (some ⟨S, 0, none⟩) q.1.ss.length q.1.ss.length)).setCell (p := ⟨w.heap.size + 1 + 1 + 1, 0, none⟩) (by show w.heap.size ≤ w.heap.size + 1 + 1 + 1; omega) (.int .i64 q.2.kind)).setCell (p := ⟨w.heap.size + 1 + 1 + 1, 1, none⟩) (by show w.heap.size ≤ w.heap.size + 1 + 1 + 1; omega) (.string q.2.text)).setCell (p := ⟨w.heap.size + 1 + 1 + 1, 2, none⟩) (by show w.heap.size ≤ w.heap.size + 1 + 1 + 1; omega) (.int .i64 2)
   rw [HDM.out]
   refine ⟨.slice rA q.1.rows.length rc, .slice (some ⟨S, 0, none⟩) q.1.ss.length q.1.ss.length, (by simp only [wput_at_ hqi]), ?_, bf⟩
   have HNl := e2.wldP
   rw [wput_len] at HNl
   exact HNl
 ·have HC := hD hcase
  cases c1 : (q.2.kind == 4)
  ·clear hcase
   go_wp2
   have hE5 := HP.out.below ((Below.refl _ _).alloc (nL _) (.cells #[.int .i64 q.2.kind, .string q.2.text, .int .i64 0] 46))
   have hR5 := HR.out.alloc (.cells #[.int .i64 q.2.kind, .string q.2.text, .int .i64 0] 46)
   have hA5' := HA.out.alloc (.cells #[.int .i64 q.2.kind, .string q.2.text, .int .i64 0] 46)
   have hB5 := HB.out.alloc (by omega) (.cells #[.int .i64 q.2.kind, .string q.2.text, .int .i64 0] 46)
   have hz5 : (w4.alloc (.cells #[.int .i64 q.2.kind, .string q.2.text, .int .i64 0] 46)).heap.size = w4.heap.size + 1 := by simp
   have hNew := RowTo.whole w4 #[.int .i64 q.2.kind, .string q.2.text, .int .i64 0] 46
   obtain ⟨u1, u2, u3, u5, hs5⟩ := hE5.sess hqi
   have s0 := hs5.c0
   have zn : ∀ j u, w4.cell? ⟨w.heap.size, j, none⟩ = some u → (w4.alloc (.cells #[.int .i64 q.2.kind, .string q.2.text, .int .i64 0] 46)).cell? ⟨w.heap.size, j, none⟩ = some u := fun j u h => by rw [World.cell?_alloc_lt _ _ _ hXw]; exact h
   have z0 := zn 0 _ z0
   have z1 := zn 1 _ z1
   have a0 := hNew.cell (j := 0) (by simp)
   have a1 := hNew.cell (j := 1) (by simp)
   simp only [gCZ, gCS] at a0 a1
   have hX5 : w.heap.size < (w4.alloc (.cells #[.int .i64 q.2.kind, .string q.2.text, .int .i64 0] 46)).heap.size := by rw [hz5]; omega
   have hA5 : w4.heap.size < (w4.alloc (.cells #[.int .i64 q.2.kind, .string q.2.text, .int .i64 0] 46)).heap.size := by rw [hz5]; omega
   have hS5 : S < (w4.alloc (.cells #[.int .i64 q.2.kind, .string q.2.text, .int .i64 0] 46)).heap.size := by rw [hz5]; omega
   have HDM := hD (show doM W i k key val = q by rw [doM, ← HQ.out]; simp only [getD_at hqi]; rw [if_neg HC.out])
   have hXR : w.heap.size ≠ w.heap.size + 1 + 1 := by omega
   have hAR : w4.heap.size ≠ w.heap.size + 1 + 1 := by omega
   have hSR : S ≠ w.heap.size + 1 + 1 := fun e => hRS e.symm
   have hXA : w.heap.size ≠ w.heap.size + 1 + 1 + 1 := by omega
   have hAA : w4.heap.size ≠ w.heap.size + 1 + 1 + 1 := by omega
   have hSA : S ≠ w.heap.size + 1 + 1 + 1 := fun e => hRS3 e.symm
   have HR5 := hD hR5
   have HA5 := hD hA5'
   have HE5 := hD hE5
   have HB5 := hD hB5
   have hRw5 := hR5.lt
   have hAw5 := hA5'.lt
   clear hR5 hA5' hE5 hB5 zn hz5 hNew hs5
   generalize w4.alloc (.cells #[.int .i64 q.2.kind, .string q.2.text, .int .i64 0] 46) = W5 at *
   have kb := Below.refl W5.heap.size W5
   have HS := hD (show W5.drew.cell? ⟨w.heap.size, 0, none⟩ = some (.slice rA q.1.rows.length rc) ∧ W5.drew.cell? ⟨w.heap.size, 1, none⟩ = some (.slice (some ⟨S, 0, none⟩) q.1.ss.length q.1.ss.length) ∧ W5.drew.cell? ⟨w4.heap.size, 0, none⟩ = some (.int .i64 q.2.kind) ∧ W5.drew.cell? ⟨w4.heap.size, 1, none⟩ = some (.string q.2.text) ∧ W5.drew.cell? ⟨S, i * 5, none⟩ = some (.int .i64 q.1.ss[i].st) from ⟨z0, z1, a0, a1, s0⟩)
   go_region_held3 (fun wx => wx.cell? ⟨w.heap.size, 0, none⟩ = some (.slice rA q.1.rows.length rc) ∧ wx.cell? ⟨w.heap.size, 1, none⟩ = some (.slice (some ⟨S, 0, none⟩) q.1.ss.length q.1.ss.length) ∧ wx.cell? ⟨w4.heap.size, 0, none⟩ = some (.int .i64 q.2.kind) ∧ wx.cell? ⟨w4.heap.size, 1, none⟩ = some (.string q.2.text) ∧ wx.cell? ⟨S, i * 5, none⟩ = some (.int .i64 q.1.ss[i].st))
    (first
     | with_reducible exact ⟨z0, z1, a0, a1, s0⟩
     | with_reducible exact HS.out
     | with_reducible exact ⟨(kb.cell (p := ⟨w.heap.size, 0, none⟩) hX5).trans z0, (kb.cell (p := ⟨w.heap.size, 1, none⟩) hX5).trans z1, (kb.cell (p := ⟨w4.heap.size, 0, none⟩) hA5).trans a0, (kb.cell (p := ⟨w4.heap.size, 1, none⟩) hA5).trans a1, (kb.cell (p := ⟨S, i * 5, none⟩) hS5).trans s0⟩
     | with_reducible exact ⟨cell_set3 (cell_set2 ((kb.cell (p := ⟨w.heap.size, 0, none⟩) hX5).trans z0) hXR) hXA, cell_set3 (cell_set2 ((kb.cell (p := ⟨w.heap.size, 1, none⟩) hX5).trans z1) hXR) hXA, cell_set3 (cell_set2 ((kb.cell (p := ⟨w4.heap.size, 0, none⟩) hA5).trans a0) hAR) hAA, cell_set3 (cell_set2 ((kb.cell (p := ⟨w4.heap.size, 1, none⟩) hA5).trans a1) hAR) hAA, cell_set3 (cell_set2 ((kb.cell (p := ⟨S, i * 5, none⟩) hS5).trans s0) hSR) hSA⟩
     | with_reducible exact ⟨cell_set2 ((kb.cell (p := ⟨w.heap.size, 0, none⟩) hX5).trans z0) hXR, cell_set2 ((kb.cell (p := ⟨w.heap.size, 1, none⟩) hX5).trans z1) hXR, cell_set2 ((kb.cell (p := ⟨w4.heap.size, 0, none⟩) hA5).trans a0) hAR, cell_set2 ((kb.cell (p := ⟨w4.heap.size, 1, none⟩) hA5).trans a1) hAR, cell_set2 ((kb.cell (p := ⟨S, i * 5, none⟩) hS5).trans s0) hSR⟩)
    (first
     | (
      go_at_call 46
      refine (clone_any q.2.text _ (by omega)).mono ?_
      rintro e w6 ⟨rfl, hy⟩
      have kb : Below W5.heap.size W5 w6 := by first | exact hy | exact bel_addN kb hy kb.size | exact bel_add kb hy kb.size
      have R6 := HR5.out.below kb hRw5
      have A6 := HA5.out.below kb hAw5
      have r0 := R6.cell (j := 0) (by simp)
      have r1 := R6.cell (j := 1) (by simp)
      have b0 := A6.cell (j := 0) (by simp)
      have b1 := A6.cell (j := 1) (by simp)
      have b2 := A6.cell (j := 2) (by simp)
      have g0 := R6.frozen 0
      have g1 := R6.frozen 1
      have k0 := A6.frozen 0
      have k1 := A6.frozen 1
      have k2 := A6.frozen 2
      simp only [gCZ, gCS] at r0 r1 b0 b1 b2))
   all_goals go_wp2
   all_goals refine bodyPost_ret (v := doGood (.slice rA q.1.rows.length rc) (.slice (some ⟨S, 0, none⟩) q.1.ss.length q.1.ss.length) q.2 q.1.ss[i].st) (by simp [results, Tryz.results23, go_sem, r0, r1, b0, b1, b2, doGood]) rfl ?_
   all_goals
    have hk1 : ∀ b, b ≠ w.heap.size + 1 + 1 → ((w6.setCell ⟨w.heap.size + 1 + 1, 0, none⟩ (.slice rA q.1.rows.length rc)).setCell ⟨w.heap.size + 1 + 1, 1, none⟩ (.slice (some ⟨S, 0, none⟩) q.1.ss.length q.1.ss.length)).heap[b]? = w6.heap[b]? := fun b hb => by rw [Below.heap_setCell _ _ _ _ hb, Below.heap_setCell _ _ _ _ hb]
    have e1 := (HE5.out.below kb).offN (R := w.heap.size + 1 + 1) (by omega) hSR (noTwo_world R6) (by simp [World.setCell]) hk1
    have A7 := (A6.other (p := ⟨w.heap.size + 1 + 1, 0, none⟩) (by show w.heap.size + 1 + 1 ≠ _; omega) (.slice rA q.1.rows.length rc)).other (p := ⟨w.heap.size + 1 + 1, 1, none⟩) (by show w.heap.size + 1 + 1 ≠ _; omega) (.slice (some ⟨S, 0, none⟩) q.1.ss.length q.1.ss.length)
    have hk2 : ∀ (x y z : Value) b, b ≠ w.heap.size + 1 + 1 + 1 → (((((w6.setCell ⟨w.heap.size + 1 + 1, 0, none⟩ (.slice rA q.1.rows.length rc)).setCell ⟨w.heap.size + 1 + 1, 1, none⟩ (.slice (some ⟨S, 0, none⟩) q.1.ss.length q.1.ss.length)).setCell ⟨w.heap.size + 1 + 1 + 1, 0, none⟩ x).setCell ⟨w.heap.size + 1 + 1 + 1, 1, none⟩ y).setCell ⟨w.heap.size + 1 + 1 + 1, 2, none⟩ z).heap[b]? = ((w6.setCell ⟨w.heap.size + 1 + 1, 0, none⟩ (.slice rA q.1.rows.length rc)).setCell ⟨w.heap.size + 1 + 1, 1, none⟩ (.slice (some ⟨S, 0, none⟩) q.1.ss.length q.1.ss.length)).heap[b]? := fun x y z b hb => by rw [Below.heap_setCell _ _ _ _ hb, Below.heap_setCell _ _ _ _ hb, Below.heap_setCell _ _ _ _ hb]
    have e2 := e1.offN (R := w.heap.size + 1 + 1 + 1) (w' := ((((w6.setCell ⟨w.heap.size + 1 + 1, 0, none⟩ (.slice rA q.1.rows.length rc)).setCell ⟨w.heap.size + 1 + 1, 1, none⟩ (.slice (some ⟨S, 0, none⟩) q.1.ss.length q.1.ss.length)).setCell ⟨w.heap.size + 1 + 1 + 1, 0, none⟩ (.int .i64 q.2.kind)).setCell ⟨w.heap.size + 1 + 1 + 1, 1, none⟩ (.string q.2.text)).setCell ⟨w.heap.size + 1 + 1 + 1, 2, none⟩ (.int .i64 q.1.ss[i].st)) (by omega) (fun e => hRS3 e.symm) (noTwo_answer A7) (by simp [World.setCell]) (hk2 _ _ _)
    have bf := (((((HB5.out.trans (kb.mono (by omega))).setCell (p := ⟨w.heap.size + 1 + 1, 0, none⟩) (by show w.heap.size ≤ w.heap.size + 1 + 1; omega) (.slice rA q.1.rows.length rc)).setCell (p := ⟨w.heap.size + 1 + 1, 1, none⟩) (by show w.heap.size ≤ w.heap.size + 1 + 1; omega) (.slice (some ⟨S, 0, none⟩) q.1.ss.length q.1.ss.length)).setCell (p := ⟨w.heap.size + 1 + 1 + 1, 0, none⟩) (by show w.heap.size ≤ w.heap.size + 1 + 1 + 1; omega) (.int .i64 q.2.kind)).setCell (p := ⟨w.heap.size + 1 + 1 + 1, 1, none⟩) (by show w.heap.size ≤ w.heap.size + 1 + 1 + 1; omega) (.string q.2.text)).setCell (p := ⟨w.heap.size + 1 + 1 + 1, 2, none⟩) (by show w.heap.size ≤ w.heap.size + 1 + 1 + 1; omega) (.int .i64 q.1.ss[i].st)
    rw [HDM.out]
    refine ⟨.slice rA q.1.rows.length rc, .slice (some ⟨S, 0, none⟩) q.1.ss.length q.1.ss.length, (by rw [getD_at hqi]), ?_, bf⟩
    exact e2.wldP
  ·have c2 : (q.1.ss[i].st == 1) = false := beq_eq_false_iff_ne.2 fun h1 => hcase ⟨beq_iff_eq.1 c1, h1⟩
   clear hcase
   go_wp2
   have hE5 := HP.out.below ((Below.refl _ _).alloc (nL _) (.cells #[.int .i64 q.2.kind, .string q.2.text, .int .i64 0] 46))
   have hR5 := HR.out.alloc (.cells #[.int .i64 q.2.kind, .string q.2.text, .int .i64 0] 46)
   have hA5' := HA.out.alloc (.cells #[.int .i64 q.2.kind, .string q.2.text, .int .i64 0] 46)
   have hB5 := HB.out.alloc (by omega) (.cells #[.int .i64 q.2.kind, .string q.2.text, .int .i64 0] 46)
   have hz5 : (w4.alloc (.cells #[.int .i64 q.2.kind, .string q.2.text, .int .i64 0] 46)).heap.size = w4.heap.size + 1 := by simp
   have hNew := RowTo.whole w4 #[.int .i64 q.2.kind, .string q.2.text, .int .i64 0] 46
   obtain ⟨u1, u2, u3, u5, hs5⟩ := hE5.sess hqi
   have s0 := hs5.c0
   have zn : ∀ j u, w4.cell? ⟨w.heap.size, j, none⟩ = some u → (w4.alloc (.cells #[.int .i64 q.2.kind, .string q.2.text, .int .i64 0] 46)).cell? ⟨w.heap.size, j, none⟩ = some u := fun j u h => by rw [World.cell?_alloc_lt _ _ _ hXw]; exact h
   have z0 := zn 0 _ z0
   have z1 := zn 1 _ z1
   have a0 := hNew.cell (j := 0) (by simp)
   have a1 := hNew.cell (j := 1) (by simp)
   simp only [gCZ, gCS] at a0 a1
   have hX5 : w.heap.size < (w4.alloc (.cells #[.int .i64 q.2.kind, .string q.2.text, .int .i64 0] 46)).heap.size := by rw [hz5]; omega
   have hA5 : w4.heap.size < (w4.alloc (.cells #[.int .i64 q.2.kind, .string q.2.text, .int .i64 0] 46)).heap.size := by rw [hz5]; omega
   have hS5 : S < (w4.alloc (.cells #[.int .i64 q.2.kind, .string q.2.text, .int .i64 0] 46)).heap.size := by rw [hz5]; omega
   have HDM := hD (show doM W i k key val = q by rw [doM, ← HQ.out]; simp only [getD_at hqi]; rw [if_neg HC.out])
   have hXR : w.heap.size ≠ w.heap.size + 1 + 1 := by omega
   have hAR : w4.heap.size ≠ w.heap.size + 1 + 1 := by omega
   have hSR : S ≠ w.heap.size + 1 + 1 := fun e => hRS e.symm
   have hXA : w.heap.size ≠ w.heap.size + 1 + 1 + 1 := by omega
   have hAA : w4.heap.size ≠ w.heap.size + 1 + 1 + 1 := by omega
   have hSA : S ≠ w.heap.size + 1 + 1 + 1 := fun e => hRS3 e.symm
   have HR5 := hD hR5
   have HA5 := hD hA5'
   have HE5 := hD hE5
   have HB5 := hD hB5
   have hRw5 := hR5.lt
   have hAw5 := hA5'.lt
   clear hR5 hA5' hE5 hB5 zn hz5 hNew hs5
   generalize w4.alloc (.cells #[.int .i64 q.2.kind, .string q.2.text, .int .i64 0] 46) = W5 at *
   have kb := Below.refl W5.heap.size W5
   have HS := hD (show W5.drew.cell? ⟨w.heap.size, 0, none⟩ = some (.slice rA q.1.rows.length rc) ∧ W5.drew.cell? ⟨w.heap.size, 1, none⟩ = some (.slice (some ⟨S, 0, none⟩) q.1.ss.length q.1.ss.length) ∧ W5.drew.cell? ⟨w4.heap.size, 0, none⟩ = some (.int .i64 q.2.kind) ∧ W5.drew.cell? ⟨w4.heap.size, 1, none⟩ = some (.string q.2.text) ∧ W5.drew.cell? ⟨S, i * 5, none⟩ = some (.int .i64 q.1.ss[i].st) from ⟨z0, z1, a0, a1, s0⟩)
   go_region_held3 (fun wx => wx.cell? ⟨w.heap.size, 0, none⟩ = some (.slice rA q.1.rows.length rc) ∧ wx.cell? ⟨w.heap.size, 1, none⟩ = some (.slice (some ⟨S, 0, none⟩) q.1.ss.length q.1.ss.length) ∧ wx.cell? ⟨w4.heap.size, 0, none⟩ = some (.int .i64 q.2.kind) ∧ wx.cell? ⟨w4.heap.size, 1, none⟩ = some (.string q.2.text) ∧ wx.cell? ⟨S, i * 5, none⟩ = some (.int .i64 q.1.ss[i].st))
    (first
     | with_reducible exact ⟨z0, z1, a0, a1, s0⟩
     | with_reducible exact HS.out
     | with_reducible exact ⟨(kb.cell (p := ⟨w.heap.size, 0, none⟩) hX5).trans z0, (kb.cell (p := ⟨w.heap.size, 1, none⟩) hX5).trans z1, (kb.cell (p := ⟨w4.heap.size, 0, none⟩) hA5).trans a0, (kb.cell (p := ⟨w4.heap.size, 1, none⟩) hA5).trans a1, (kb.cell (p := ⟨S, i * 5, none⟩) hS5).trans s0⟩
     | with_reducible exact ⟨cell_set3 (cell_set2 ((kb.cell (p := ⟨w.heap.size, 0, none⟩) hX5).trans z0) hXR) hXA, cell_set3 (cell_set2 ((kb.cell (p := ⟨w.heap.size, 1, none⟩) hX5).trans z1) hXR) hXA, cell_set3 (cell_set2 ((kb.cell (p := ⟨w4.heap.size, 0, none⟩) hA5).trans a0) hAR) hAA, cell_set3 (cell_set2 ((kb.cell (p := ⟨w4.heap.size, 1, none⟩) hA5).trans a1) hAR) hAA, cell_set3 (cell_set2 ((kb.cell (p := ⟨S, i * 5, none⟩) hS5).trans s0) hSR) hSA⟩
     | with_reducible exact ⟨cell_set2 ((kb.cell (p := ⟨w.heap.size, 0, none⟩) hX5).trans z0) hXR, cell_set2 ((kb.cell (p := ⟨w.heap.size, 1, none⟩) hX5).trans z1) hXR, cell_set2 ((kb.cell (p := ⟨w4.heap.size, 0, none⟩) hA5).trans a0) hAR, cell_set2 ((kb.cell (p := ⟨w4.heap.size, 1, none⟩) hA5).trans a1) hAR, cell_set2 ((kb.cell (p := ⟨S, i * 5, none⟩) hS5).trans s0) hSR⟩)
    (first
     | (
      go_at_call 46
      refine (clone_any q.2.text _ (by omega)).mono ?_
      rintro e w6 ⟨rfl, hy⟩
      have kb : Below W5.heap.size W5 w6 := by first | exact hy | exact bel_addN kb hy kb.size | exact bel_add kb hy kb.size
      have R6 := HR5.out.below kb hRw5
      have A6 := HA5.out.below kb hAw5
      have r0 := R6.cell (j := 0) (by simp)
      have r1 := R6.cell (j := 1) (by simp)
      have b0 := A6.cell (j := 0) (by simp)
      have b1 := A6.cell (j := 1) (by simp)
      have b2 := A6.cell (j := 2) (by simp)
      have g0 := R6.frozen 0
      have g1 := R6.frozen 1
      have k0 := A6.frozen 0
      have k1 := A6.frozen 1
      have k2 := A6.frozen 2
      simp only [gCZ, gCS] at r0 r1 b0 b1 b2))
   all_goals go_wp2
   all_goals refine bodyPost_ret (v := doGood (.slice rA q.1.rows.length rc) (.slice (some ⟨S, 0, none⟩) q.1.ss.length q.1.ss.length) q.2 q.1.ss[i].st) (by simp [results, Tryz.results23, go_sem, r0, r1, b0, b1, b2, doGood]) rfl ?_
   all_goals
    have hk1 : ∀ b, b ≠ w.heap.size + 1 + 1 → ((w6.setCell ⟨w.heap.size + 1 + 1, 0, none⟩ (.slice rA q.1.rows.length rc)).setCell ⟨w.heap.size + 1 + 1, 1, none⟩ (.slice (some ⟨S, 0, none⟩) q.1.ss.length q.1.ss.length)).heap[b]? = w6.heap[b]? := fun b hb => by rw [Below.heap_setCell _ _ _ _ hb, Below.heap_setCell _ _ _ _ hb]
    have e1 := (HE5.out.below kb).offN (R := w.heap.size + 1 + 1) (by omega) hSR (noTwo_world R6) (by simp [World.setCell]) hk1
    have A7 := (A6.other (p := ⟨w.heap.size + 1 + 1, 0, none⟩) (by show w.heap.size + 1 + 1 ≠ _; omega) (.slice rA q.1.rows.length rc)).other (p := ⟨w.heap.size + 1 + 1, 1, none⟩) (by show w.heap.size + 1 + 1 ≠ _; omega) (.slice (some ⟨S, 0, none⟩) q.1.ss.length q.1.ss.length)
    have hk2 : ∀ (x y z : Value) b, b ≠ w.heap.size + 1 + 1 + 1 → (((((w6.setCell ⟨w.heap.size + 1 + 1, 0, none⟩ (.slice rA q.1.rows.length rc)).setCell ⟨w.heap.size + 1 + 1, 1, none⟩ (.slice (some ⟨S, 0, none⟩) q.1.ss.length q.1.ss.length)).setCell ⟨w.heap.size + 1 + 1 + 1, 0, none⟩ x).setCell ⟨w.heap.size + 1 + 1 + 1, 1, none⟩ y).setCell ⟨w.heap.size + 1 + 1 + 1, 2, none⟩ z).heap[b]? = ((w6.setCell ⟨w.heap.size + 1 + 1, 0, none⟩ (.slice rA q.1.rows.length rc)).setCell ⟨w.heap.size + 1 + 1, 1, none⟩ (.slice (some ⟨S, 0, none⟩) q.1.ss.length q.1.ss.length)).heap[b]? := fun x y z b hb => by rw [Below.heap_setCell _ _ _ _ hb, Below.heap_setCell _ _ _ _ hb, Below.heap_setCell _ _ _ _ hb]
    have e2 := e1.offN (R := w.heap.size + 1 + 1 + 1) (w' := ((((w6.setCell ⟨w.heap.size + 1 + 1, 0, none⟩ (.slice rA q.1.rows.length rc)).setCell ⟨w.heap.size + 1 + 1, 1, none⟩ (.slice (some ⟨S, 0, none⟩) q.1.ss.length q.1.ss.length)).setCell ⟨w.heap.size + 1 + 1 + 1, 0, none⟩ (.int .i64 q.2.kind)).setCell ⟨w.heap.size + 1 + 1 + 1, 1, none⟩ (.string q.2.text)).setCell ⟨w.heap.size + 1 + 1 + 1, 2, none⟩ (.int .i64 q.1.ss[i].st)) (by omega) (fun e => hRS3 e.symm) (noTwo_answer A7) (by simp [World.setCell]) (hk2 _ _ _)
    have bf := (((((HB5.out.trans (kb.mono (by omega))).setCell (p := ⟨w.heap.size + 1 + 1, 0, none⟩) (by show w.heap.size ≤ w.heap.size + 1 + 1; omega) (.slice rA q.1.rows.length rc)).setCell (p := ⟨w.heap.size + 1 + 1, 1, none⟩) (by show w.heap.size ≤ w.heap.size + 1 + 1; omega) (.slice (some ⟨S, 0, none⟩) q.1.ss.length q.1.ss.length)).setCell (p := ⟨w.heap.size + 1 + 1 + 1, 0, none⟩) (by show w.heap.size ≤ w.heap.size + 1 + 1 + 1; omega) (.int .i64 q.2.kind)).setCell (p := ⟨w.heap.size + 1 + 1 + 1, 1, none⟩) (by show w.heap.size ≤ w.heap.size + 1 + 1 + 1; omega) (.string q.2.text)).setCell (p := ⟨w.heap.size + 1 + 1 + 1, 2, none⟩) (by show w.heap.size ≤ w.heap.size + 1 + 1 + 1; omega) (.int .i64 q.1.ss[i].st)
    rw [HDM.out]
    refine ⟨.slice rA q.1.rows.length rc, .slice (some ⟨S, 0, none⟩) q.1.ss.length q.1.ss.length, (by rw [getD_at hqi]), ?_, bf⟩
    exact e2.wldP
theorem do_new (r s : Value) (W : Wd) (i : Nat) (k : Int) (key val : ByteArray) (w : World) (hW : Wld w w.heap.size r s W) (hWo : Words w) (hok : WorldOk W) (hi : i < W.ss.length) (hc : checkE k key val = 0) :
  Calls Tryz.prog 23 #[.agg #[r, s], .int .i64 i, .agg #[.int .i64 k, .string key, .string val]] w fun e w' => ∃ r' s', e = .returned (doGood r' s' (doM W i k key val).2 ((doM W i k key val).1.at i).st) ∧ WldP w' (fun b => w.heap.size ≤ b) r' s' (doM W i k key val).1 ∧ Below w.heap.size w w' := by
 have g := good_of hc
 exact do_lo r s W i k key val w hW hWo (by have := g.key8; unfold maxLen; omega) (by have := g.v60; unfold maxLen; omega) (by
  unfold doE
  rw [if_neg (by rw [worldB_iff.2 hok]; simp), if_neg (by omega)]; exact hc)
end Go.Proofs.YtpbaobmegomfpabGreatDoor
namespace Go.Proofs.YtpbaobmegomfpabGreatDoor
open Go.RowKit Go.ChangeShapes Go.WideShapes Go.Deep Go.Joins
theorem spot_none {w : World} {a : Addr} {u : Value} (h : w.cell? a = some u) : a = ⟨a.block, a.off, none⟩ := by
 obtain ⟨b, o, s⟩ := a
 cases s with
 | none => rfl
 | some x => unfold World.cell? at h; simp at h; split at h <;> simp at h
section
variable {H : Type} {enc : TypeId × Value → H} {w : World} {base : Nat} {spare : Nat → Bool} {held : Bool}
end
section
variable {H : Type} {enc : TypeId × Value → H} {w : World} {base : Nat} {spare : Nat → Bool} {held : Bool}
end
end Go.Proofs.YtpbaobmegomfpabGreatDoor
namespace Go.Proofs.YtpbaobmegomfpabGreatDoor
open Go.RowKit Go.ChangeShapes Go.WideShapes Go.Deep Go.Joins
structure Raw.wf (r : Raw) : Prop where
 k : (Lit.int .i64 r.kd).wf = true
 a : (Lit.int .i64 r.a).wf = true
 b : (Lit.int .i64 r.b).wf = true
 c : (Lit.int .i64 r.c).wf = true
structure RLst (w : World) (B : Nat) (v : Value) (l : List Raw) : Prop where
 form : ∃ A c, v = .slice A l.length c ∧ l.length ≤ c
 bytes : l.length * 32 ≤ 140737488351232
 wf : ∀ r ∈ l, r.wf
 cells : 0 < l.length → ∃ b off c, v = .slice (some ⟨b, off, none⟩) l.length c ∧ b < B ∧
  ∀ i (h : i < l.length), w.cell? ⟨b, off + i * 4, none⟩ = some (.int .i64 l[i].kd) ∧ w.cell? ⟨b, off + i * 4 + 1, none⟩ = some (.int .i64 l[i].a) ∧ w.cell? ⟨b, off + i * 4 + 2, none⟩ = some (.int .i64 l[i].b) ∧ w.cell? ⟨b, off + i * 4 + 3, none⟩ = some (.int .i64 l[i].c)
theorem RLst.keep {w w' : World} {B B' : Nat} {v : Value} {l : List Raw} (h : RLst w B v l) (hB : B ≤ B') (hk : ∀ p : Addr, p.block < B → w'.cell? p = w.cell? p) : RLst w' B' v l := by
 refine ⟨h.form, h.bytes, h.wf, fun hn => ?_⟩
 obtain ⟨b, off, c, e, hb, hc⟩ := h.cells hn
 exact ⟨b, off, c, e, by omega, fun i hi => ⟨(hk _ hb).trans (hc i hi).1, (hk _ hb).trans (hc i hi).2.1, (hk _ hb).trans (hc i hi).2.2.1, (hk _ hb).trans (hc i hi).2.2.2⟩⟩
theorem RLst.step {w w' : World} {v : Value} {l : List Raw} (h : RLst w w.heap.size v l) (hb : Below w.heap.size w w') : RLst w' w'.heap.size v l := h.keep hb.size fun _ hp => hb.cell hp
theorem RLst.pt {w : World} {B n c : Nat} {A : Option Addr} {l : List Raw} (h : RLst w B (.slice A n c) l) {k : Nat} (hk : k < l.length) :
  ∃ b off, A = some ⟨b, off, none⟩ ∧ b < B ∧ w.cell? ⟨b, off + k * 4, none⟩ = some (.int .i64 l[k].kd) ∧ w.cell? ⟨b, off + k * 4 + 1, none⟩ = some (.int .i64 l[k].a) ∧ w.cell? ⟨b, off + k * 4 + 2, none⟩ = some (.int .i64 l[k].b) ∧ w.cell? ⟨b, off + k * 4 + 3, none⟩ = some (.int .i64 l[k].c) := by
 obtain ⟨b, off, c', e, hb, hc⟩ := h.cells (by omega)
 injection e with e1 e2 e3
 obtain ⟨h1, h2, h3, h4⟩ := hc k hk
 exact ⟨b, off, e1, hb, h1, h2, h3, h4⟩
section
variable {H : Type} {enc : TypeId × Value → H} {w : World} {base : Nat} {spare : Nat → Bool} {held : Bool}
theorem raw_cells {n : Nat} {cs : List Value} {x : DataW H × List MemPlace} (h : DataW.trod enc Tryz.prog w base spare held n 44 cs = some x) :
  ∃ r : Raw, cs = [.int .i64 r.kd, .int .i64 r.a, .int .i64 r.b, .int .i64 r.c] ∧ r.wf := by
 obtain ⟨xs, k, _, rfl, hl, hxl, hf⟩ := DataW.trod_struct Tryz.underlying44 h
 rw [show Tryz.prog.cellsOf 44 = 4 by kernel_rfl] at hl
 match xs, hxl, cs, hl with
 | [y0, y1, y2, y3], _, [c0, c1, c2, c3], _ =>
  have ei : Tryz.prog.cellsOf 3 = 1 := by kernel_rfl
  have g0 : DataW.trod enc Tryz.prog w base spare held k 3 ((([c0, c1, c2, c3] : List Value).drop 0).take (Tryz.prog.cellsOf 3)) = some y0 := hf 0 _ rfl
  have g1 : DataW.trod enc Tryz.prog w base spare held k 3 ((([c0, c1, c2, c3] : List Value).drop 1).take (Tryz.prog.cellsOf 3)) = some y1 := hf 1 _ rfl
  have g2 : DataW.trod enc Tryz.prog w base spare held k 3 ((([c0, c1, c2, c3] : List Value).drop 2).take (Tryz.prog.cellsOf 3)) = some y2 := hf 2 _ rfl
  have g3 : DataW.trod enc Tryz.prog w base spare held k 3 ((([c0, c1, c2, c3] : List Value).drop 3).take (Tryz.prog.cellsOf 3)) = some y3 := hf 3 _ rfl
  rw [ei] at g0 g1 g2 g3
  obtain ⟨n0, e0, _, w0⟩ := DataW.trod_int Tryz.underlying3 g0
  obtain ⟨n1, e1, _, w1⟩ := DataW.trod_int Tryz.underlying3 g1
  obtain ⟨n2, e2, _, w2⟩ := DataW.trod_int Tryz.underlying3 g2
  obtain ⟨n3, e3, _, w3⟩ := DataW.trod_int Tryz.underlying3 g3
  obtain rfl : c0 = .int .i64 n0 := by simpa using e0
  obtain rfl : c1 = .int .i64 n1 := by simpa using e1
  obtain rfl : c2 = .int .i64 n2 := by simpa using e2
  obtain rfl : c3 = .int .i64 n3 := by simpa using e3
  exact ⟨⟨n0, n1, n2, n3⟩, rfl, w0, w1, w2, w3⟩
theorem open_raws {r : Reach} {b0 : Nat} {v : Value} {d : DataW H} {p : List MemPlace} (hv : Value.okWide Tryz.prog w r b0 35 v) (h : DataW.Trod enc Tryz.prog w base spare held 35 v d p)
  (hz : ∀ n ∈ d.weights Tryz.prog 35, n ≤ reachBytes) : ∃ l : List Raw, RLst w w.heap.size v l := by
 obtain ⟨a0, len0, cap0, rfl⟩ := okWide_slice Tryz.underlying35 hv
 obtain ⟨fuel, hf⟩ := h
 rcases open_slice Tryz.underlying35 hf with ⟨hcs, hx⟩ | ⟨a, len, cap, m, n, D, Pl, hcs, hb, hl, hm, hmm, hx, hi⟩
 ·have hv : (Value.slice a0 len0 cap0) = .slice none 0 0 := by simpa [Value.cells] using hcs
  rw [hv]
  exact ⟨[], ⟨none, 0, rfl, nL _⟩, by simp, by simp, fun h => absurd h (by simp)⟩
 ·have hv : (Value.slice a0 len0 cap0) = .slice (some a) len cap := by simpa [Value.cells] using hcs
  rw [hv]
  have hlm : len ≤ m := by rw [hmm]; split <;> omega
  have each : ∀ i, i < len → ∃ s : Raw, (∀ j, j < 4 → w.cell? (a.add (i * 4 + j)) = [Value.int .i64 s.kd, .int .i64 s.a, .int .i64 s.b, .int .i64 s.c][j]?) ∧ s.wf := by
   intro i hil
   obtain ⟨cs, hc, ht⟩ := hi i (by omega)
   rw [show Tryz.prog.cellsOf 44 = 4 by kernel_rfl] at hc
   obtain ⟨_, _, hcell⟩ := World.cells?_some hc
   obtain ⟨s, rfl, hwf⟩ := raw_cells ht
   refine ⟨s, fun j hj => ?_, hwf⟩
   have := hcell j hj
   rwa [Go.Deep.add_add] at this
  have : Inhabited Raw := ⟨⟨0, 0, 0, 0⟩⟩
  obtain ⟨f, hf'⟩ := choose_lt each
  have hd : d = .slice ((List.range len).map D) ((List.range (m - len)).map fun j => D (len + j)) := by injection hx
  have hby := hz ((len + (m - len)) * 32) (by
   rw [hd]
   simp only [DataW.weights, Tryz.underlying35, List.mem_cons, List.length_map, List.length_range]
   exact .inl (by rw [show Tryz.prog.bytesOf 44 = 32 by kernel_rfl]))
  have hll : ((List.range len).map f).length = len := by simp
  refine ⟨(List.range len).map f, ⟨some a, cap, by rw [hll], by rw [hll]; exact hl⟩, by rw [hll]; unfold reachBytes at hby; omega, fun s hs => ?_, fun hn => ?_⟩
  ·obtain ⟨i, hil, rfl⟩ := List.mem_map.1 hs
   exact (hf' i (List.mem_range.1 hil)).2
  ·rw [hll] at hn
   have h00 := (hf' 0 hn).1 0 (by omega)
   rw [show a.add (0 * 4 + 0) = a from rfl] at h00
   have ha := spot_none (h00.trans rfl)
   refine ⟨a.block, a.off, cap, by rw [hll, ← ha], World.block_lt_of_cell? w a (h00.trans rfl), fun i hil => ?_⟩
   rw [hll] at hil
   have hc := (hf' i hil).1
   rw [ha] at hc
   simp only [add_plain] at hc
   simp only [List.getElem_map, List.getElem_range]
   exact ⟨hc 0 (by omega), hc 1 (by omega), hc 2 (by omega), hc 3 (by omega)⟩
end
end Go.Proofs.YtpbaobmegomfpabGreatDoor
namespace Go.Proofs.YtpbaobmegomfpabGreatDoor
open Go.RowKit
set_option maxRecDepth 100000 in
set_option maxHeartbeats 1000000 in
theorem small_any (n : Nat) (w : World) (h : n < 12) :
  Calls Tryz.prog 86 #[.int .i64 n] w fun e w' => e = .returned (.string (numAt n)) ∧ w = w' := by
 obtain rfl | rfl | rfl | rfl | rfl | rfl | rfl | rfl | rfl | rfl | rfl | rfl : n = 0 ∨ n = 1 ∨ n = 2 ∨ n = 3 ∨ n = 4 ∨ n = 5 ∨ n = 6 ∨ n = 7 ∨ n = 8 ∨ n = 9 ∨ n = 10 ∨ n = 11 := by omega
 all_goals
  go_enter Tryz.func86, Tryz.ntmps86
  go_wp2
  go_ret
  exact ⟨rfl, rfl⟩
set_option maxHeartbeats 400000 in
theorem formatInt_any (n : Nat) (w : World) (h : n < 12) :
  Calls Tryz.prog 59 #[.int .i64 n, .int .i64 10] w fun e w' => e = .returned (.string (numAt n)) ∧ w = w' := by
 have d1 : decide ((n : Int) < 100) = true := decide_eq_true (by omega)
 go_enter Tryz.func59, Tryz.ntmps59
 go_wp2_with fail
 refine (small_any n _ h).mono ?_
 rintro e w1 ⟨rfl, rfl⟩
 go_wp2
 go_ret
 exact ⟨rfl, rfl⟩
theorem itoa_any (n : Nat) (w : World) (h : n < 12) :
  Calls Tryz.prog 19 #[.int .i64 n] w fun e w' => e = .returned (.string (numAt n)) ∧ w = w' := by
 go_enter Tryz.func19, Tryz.ntmps19
 go_wp2_with fail
 go_in
 go_wp2_with fail
 refine (formatInt_any n _ h).mono ?_
 rintro e w1 ⟨rfl, rfl⟩
 go_wp2
 go_ret
 exact ⟨rfl, rfl⟩
end Go.Proofs.YtpbaobmegomfpabGreatDoor
namespace Go.Proofs.YtpbaobmegomfpabGreatDoor
open Go.RowKit
theorem i64_bd {a : Int} (h : (Lit.int .i64 a).wf = true) : -9223372036854775808 ≤ a ∧ a ≤ 9223372036854775807 := by
 simpa [Lit.wf, IntKind.min, IntKind.max, IntKind.signed, IntKind.bits] using h
set_option maxHeartbeats 400000 in
theorem picked_any (n m : Int) (w : World) (hn : -9223372036854775808 ≤ n) (hn2 : n ≤ 9223372036854775807) (hm : 0 < m) (hm2 : m ≤ 9223372036854775807) :
  Calls Tryz.prog 14 #[.int .i64 n, .int .i64 m] w fun e w' => e = .returned (.int .i64 (pickI n m)) ∧ w = w' := by
 have hm0 : (m == 0) = false := beq_eq_false_iff_ne.2 (by omega)
 by_cases h : n < 0
 ·have hp := hD (pickI_neg (m := m) h)
  have h1 : 0 ≤ -(n + 1) := by omega
  go_enter Tryz.func14, Tryz.ntmps14
  go_wp2
  go_ret
  exact ⟨ret_int (by rw [hp.out, ← Int.neg_tmod, Int.tmod_eq_emod_of_nonneg h1]), rfl⟩
 ·have hp := hD (pickI_pos (m := m) h)
  go_enter Tryz.func14, Tryz.ntmps14
  go_wp2
  go_ret
  exact ⟨by rw [hp.out]; rfl, rfl⟩
end Go.Proofs.YtpbaobmegomfpabGreatDoor
namespace Go.Proofs.YtpbaobmegomfpabGreatDoor
open Go.RowKit
theorem pick_some (n : Int) (m : Nat) (hm : 0 < m) : ∃ p : Nat, pickI n m = (p : Int) ∧ p < m := by
 have := pickI_bd n (m := (m : Int)) (by omega)
 exact ⟨(pickI n m).toNat, by omega, by omega⟩
theorem key_get : ∀ (x : Nat) (h : x < [Value.string ⟨#[97]⟩, .string ⟨#[98]⟩, .string ⟨#[114, 111, 119]⟩, .string ⟨#[110, 97, 109, 101]⟩].length), [Value.string ⟨#[97]⟩, .string ⟨#[98]⟩, .string ⟨#[114, 111, 119]⟩, .string ⟨#[110, 97, 109, 101]⟩][x] = .string (keyAt x)
 | 0, _ => rfl
 | 1, _ => rfl
 | 2, _ => rfl
 | 3, _ => rfl
theorem kind_get : ∀ (x : Nat) (h : x < [Value.int .i64 4, .int .i64 5, .int .i64 5].length), [Value.int .i64 4, .int .i64 5, .int .i64 5][x] = .int .i64 (rawK 6 x)
 | 0, _ => rfl
 | 1, _ => rfl
 | 2, _ => rfl
theorem prep_get (b : Nat) : ∀ (x : Nat) (h : x < [Value.string ⟨#[103, 101, 116, 32, 97]⟩, .string ⟨#[114, 101, 97, 100, 32, 114, 111, 119]⟩, .string (⟨#[112, 117, 116, 32, 114, 111, 119, 32]⟩ ++ valAt b), .string ⟨#[112, 117, 116, 32, 98, 32, 120]⟩].length),
  [Value.string ⟨#[103, 101, 116, 32, 97]⟩, .string ⟨#[114, 101, 97, 100, 32, 114, 111, 119]⟩, .string (⟨#[112, 117, 116, 32, 114, 111, 119, 32]⟩ ++ valAt b), .string ⟨#[112, 117, 116, 32, 98, 32, 120]⟩][x] = .string (prepAt x b)
 | 0, _ => rfl
 | 1, _ => rfl
 | 2, _ => rfl
 | 3, _ => rfl
theorem numAt_size (n : Nat) : (numAt n).size ≤ 2 := by
 unfold numAt numL
 split
 ·show ([UInt8.ofNat (48 + n)] : List UInt8).toArray.size ≤ 2; simp
 ·show ([UInt8.ofNat (48 + n / 10), UInt8.ofNat (48 + n % 10)] : List UInt8).toArray.size ≤ 2; simp
theorem valAt_size (n : Nat) : (valAt n).size ≤ 3 := by
 have := numAt_size n
 unfold valAt; rw [ByteArray.size_append]; show 1 + _ ≤ 3; omega
set_option maxHeartbeats 1000000 in
theorem stmt_1 (kd a b c : Int) (k x y z3 z4 : Nat) (w : World) (hk1 : -9223372036854775808 ≤ kd) (hk2 : kd ≤ 9223372036854775807) (ha1 : -9223372036854775808 ≤ a) (ha2 : a ≤ 9223372036854775807) (hb1 : -9223372036854775808 ≤ b) (hb2 : b ≤ 9223372036854775807) (hc1 : -9223372036854775808 ≤ c) (hc2 : c ≤ 9223372036854775807)
  (Hk : Hid (pickI kd 24 = (k : Int))) (Hx : Hid (pickI a 4 = (x : Int))) (Hy : Hid (pickI b 12 = (y : Int))) (H3 : Hid (pickI c 3 = (z3 : Int))) (H4 : Hid (pickI c 4 = (z4 : Int))) (hk24 : k < 24) (hx4 : x < 4) (hy12 : y < 12) (hz3 : z3 < 3) (hz4 : z4 < 4) (h : k < 3) :
  Calls Tryz.prog 11 #[.agg #[.int .i64 kd, .int .i64 a, .int .i64 b, .int .i64 c]] w fun e w' => e = .returned (.agg #[.int .i64 1, .string ⟨#[]⟩, .string ⟨#[]⟩]) ∧ Below w.heap.size w w' := by
 have hns := numAt_size y
 go_enter Tryz.func11, Tryz.ntmps11
 go_wp2_with fail
 refine (picked_any a 4 _ ha1 ha2 (by omega) (by omega)).mono ?_
 rw [Hx.out]
 rintro e w1 ⟨rfl, rfl⟩
 go_wp2_with fail
 rw [key_get]
 refine (picked_any b 12 _ hb1 hb2 (by omega) (by omega)).mono ?_
 rw [Hy.out]
 rintro e w2 ⟨rfl, rfl⟩
 go_wp2_with fail
 refine (itoa_any y _ hy12).mono ?_
 rintro e w3 ⟨rfl, rfl⟩
 go_wp2_with fail
 rw [show (⟨#[118]⟩ : ByteArray) ++ numAt y = valAt y from rfl]
 have hvs := valAt_size y
 clear hns
 refine (picked_any kd 24 _ hk1 hk2 (by omega) (by omega)).mono ?_
 rw [Hk.out]
 rintro e w4 ⟨rfl, rfl⟩
 go_wp2
 refine bodyPost_ret (v := .agg #[.int .i64 1, .string ⟨#[]⟩, .string ⟨#[]⟩]) (by simp [results, Tryz.results11, go_sem]) rfl ⟨rfl, ?_⟩
 repeat' (first | exact Below.refl _ _ | assumption | with_reducible refine below_drewN ?_ _ | with_reducible refine Below.drew ?_ | with_reducible refine Below.setCell ?_ ?_ _ | with_reducible refine Below.alloc ?_ ?_ _ | (simp; done) | (simp; omega))
set_option maxHeartbeats 1000000 in
theorem stmt_2 (kd a b c : Int) (k x y z3 z4 : Nat) (w : World) (hk1 : -9223372036854775808 ≤ kd) (hk2 : kd ≤ 9223372036854775807) (ha1 : -9223372036854775808 ≤ a) (ha2 : a ≤ 9223372036854775807) (hb1 : -9223372036854775808 ≤ b) (hb2 : b ≤ 9223372036854775807) (hc1 : -9223372036854775808 ≤ c) (hc2 : c ≤ 9223372036854775807)
  (Hk : Hid (pickI kd 24 = (k : Int))) (Hx : Hid (pickI a 4 = (x : Int))) (Hy : Hid (pickI b 12 = (y : Int))) (H3 : Hid (pickI c 3 = (z3 : Int))) (H4 : Hid (pickI c 4 = (z4 : Int))) (hk24 : k < 24) (hx4 : x < 4) (hy12 : y < 12) (hz3 : z3 < 3) (hz4 : z4 < 4) (h : ¬ k < 3 ∧ k < 5) :
  Calls Tryz.prog 11 #[.agg #[.int .i64 kd, .int .i64 a, .int .i64 b, .int .i64 c]] w fun e w' => e = .returned (.agg #[.int .i64 2, .string ⟨#[]⟩, .string ⟨#[]⟩]) ∧ Below w.heap.size w w' := by
 obtain ⟨h, h'⟩ := h
 have hns := numAt_size y
 go_enter Tryz.func11, Tryz.ntmps11
 go_wp2_with fail
 refine (picked_any a 4 _ ha1 ha2 (by omega) (by omega)).mono ?_
 rw [Hx.out]
 rintro e w1 ⟨rfl, rfl⟩
 go_wp2_with fail
 rw [key_get]
 refine (picked_any b 12 _ hb1 hb2 (by omega) (by omega)).mono ?_
 rw [Hy.out]
 rintro e w2 ⟨rfl, rfl⟩
 go_wp2_with fail
 refine (itoa_any y _ hy12).mono ?_
 rintro e w3 ⟨rfl, rfl⟩
 go_wp2_with fail
 rw [show (⟨#[118]⟩ : ByteArray) ++ numAt y = valAt y from rfl]
 have hvs := valAt_size y
 clear hns
 refine (picked_any kd 24 _ hk1 hk2 (by omega) (by omega)).mono ?_
 rw [Hk.out]
 rintro e w4 ⟨rfl, rfl⟩
 go_wp2
 refine bodyPost_ret (v := .agg #[.int .i64 2, .string ⟨#[]⟩, .string ⟨#[]⟩]) (by simp [results, Tryz.results11, go_sem]) rfl ⟨rfl, ?_⟩
 repeat' (first | exact Below.refl _ _ | assumption | with_reducible refine below_drewN ?_ _ | with_reducible refine Below.drew ?_ | with_reducible refine Below.setCell ?_ ?_ _ | with_reducible refine Below.alloc ?_ ?_ _ | (simp; done) | (simp; omega))
set_option maxHeartbeats 1000000 in
theorem stmt_3 (kd a b c : Int) (k x y z3 z4 : Nat) (w : World) (hk1 : -9223372036854775808 ≤ kd) (hk2 : kd ≤ 9223372036854775807) (ha1 : -9223372036854775808 ≤ a) (ha2 : a ≤ 9223372036854775807) (hb1 : -9223372036854775808 ≤ b) (hb2 : b ≤ 9223372036854775807) (hc1 : -9223372036854775808 ≤ c) (hc2 : c ≤ 9223372036854775807)
  (Hk : Hid (pickI kd 24 = (k : Int))) (Hx : Hid (pickI a 4 = (x : Int))) (Hy : Hid (pickI b 12 = (y : Int))) (H3 : Hid (pickI c 3 = (z3 : Int))) (H4 : Hid (pickI c 4 = (z4 : Int))) (hk24 : k < 24) (hx4 : x < 4) (hy12 : y < 12) (hz3 : z3 < 3) (hz4 : z4 < 4) (h : k = 5) :
  Calls Tryz.prog 11 #[.agg #[.int .i64 kd, .int .i64 a, .int .i64 b, .int .i64 c]] w fun e w' => e = .returned (.agg #[.int .i64 3, .string ⟨#[]⟩, .string ⟨#[]⟩]) ∧ Below w.heap.size w w' := by
 subst h
 have hns := numAt_size y
 go_enter Tryz.func11, Tryz.ntmps11
 go_wp2_with fail
 refine (picked_any a 4 _ ha1 ha2 (by omega) (by omega)).mono ?_
 rw [Hx.out]
 rintro e w1 ⟨rfl, rfl⟩
 go_wp2_with fail
 rw [key_get]
 refine (picked_any b 12 _ hb1 hb2 (by omega) (by omega)).mono ?_
 rw [Hy.out]
 rintro e w2 ⟨rfl, rfl⟩
 go_wp2_with fail
 refine (itoa_any y _ hy12).mono ?_
 rintro e w3 ⟨rfl, rfl⟩
 go_wp2_with fail
 rw [show (⟨#[118]⟩ : ByteArray) ++ numAt y = valAt y from rfl]
 have hvs := valAt_size y
 clear hns
 refine (picked_any kd 24 _ hk1 hk2 (by omega) (by omega)).mono ?_
 rw [Hk.out]
 rintro e w4 ⟨rfl, rfl⟩
 go_wp2
 refine bodyPost_ret (v := .agg #[.int .i64 3, .string ⟨#[]⟩, .string ⟨#[]⟩]) (by simp [results, Tryz.results11, go_sem]) rfl ⟨rfl, ?_⟩
 repeat' (first | exact Below.refl _ _ | assumption | with_reducible refine below_drewN ?_ _ | with_reducible refine Below.drew ?_ | with_reducible refine Below.setCell ?_ ?_ _ | with_reducible refine Below.alloc ?_ ?_ _ | (simp; done) | (simp; omega))
set_option maxHeartbeats 1000000 in
theorem stmt_4 (kd a b c : Int) (k x y z3 z4 : Nat) (w : World) (hk1 : -9223372036854775808 ≤ kd) (hk2 : kd ≤ 9223372036854775807) (ha1 : -9223372036854775808 ≤ a) (ha2 : a ≤ 9223372036854775807) (hb1 : -9223372036854775808 ≤ b) (hb2 : b ≤ 9223372036854775807) (hc1 : -9223372036854775808 ≤ c) (hc2 : c ≤ 9223372036854775807)
  (Hk : Hid (pickI kd 24 = (k : Int))) (Hx : Hid (pickI a 4 = (x : Int))) (Hy : Hid (pickI b 12 = (y : Int))) (H3 : Hid (pickI c 3 = (z3 : Int))) (H4 : Hid (pickI c 4 = (z4 : Int))) (hk24 : k < 24) (hx4 : x < 4) (hy12 : y < 12) (hz3 : z3 < 3) (hz4 : z4 < 4) (h : k = 6) :
  Calls Tryz.prog 11 #[.agg #[.int .i64 kd, .int .i64 a, .int .i64 b, .int .i64 c]] w fun e w' => e = .returned (.agg #[.int .i64 (rawK 6 z3), .string ⟨#[]⟩, .string ⟨#[]⟩]) ∧ Below w.heap.size w w' := by
 subst h
 have hg := kind_get z3
 have hns := numAt_size y
 go_enter Tryz.func11, Tryz.ntmps11
 go_wp2_with fail
 refine (picked_any a 4 _ ha1 ha2 (by omega) (by omega)).mono ?_
 rw [Hx.out]
 rintro e w1 ⟨rfl, rfl⟩
 go_wp2_with fail
 rw [key_get]
 refine (picked_any b 12 _ hb1 hb2 (by omega) (by omega)).mono ?_
 rw [Hy.out]
 rintro e w2 ⟨rfl, rfl⟩
 go_wp2_with fail
 refine (itoa_any y _ hy12).mono ?_
 rintro e w3 ⟨rfl, rfl⟩
 go_wp2_with fail
 rw [show (⟨#[118]⟩ : ByteArray) ++ numAt y = valAt y from rfl]
 have hvs := valAt_size y
 clear hns
 refine (picked_any kd 24 _ hk1 hk2 (by omega) (by omega)).mono ?_
 rw [Hk.out]
 rintro e w4 ⟨rfl, rfl⟩
 go_wp2_with fail
 refine (picked_any c 3 _ hc1 hc2 (by omega) (by omega)).mono ?_
 rw [H3.out]
 rintro e w5 ⟨rfl, rfl⟩
 go_wp2_with fail
 go_wp2
 refine bodyPost_ret (v := .agg #[.int .i64 (rawK 6 z3), .string ⟨#[]⟩, .string ⟨#[]⟩]) (by simp [results, Tryz.results11, go_sem]) rfl ⟨rfl, ?_⟩
 repeat' (first | exact Below.refl _ _ | assumption | with_reducible refine below_drewN ?_ _ | with_reducible refine Below.drew ?_ | with_reducible refine Below.setCell ?_ ?_ _ | with_reducible refine Below.alloc ?_ ?_ _ | (simp; done) | (simp; omega))
set_option maxHeartbeats 1000000 in
theorem stmt_6 (kd a b c : Int) (k x y z3 z4 : Nat) (w : World) (hk1 : -9223372036854775808 ≤ kd) (hk2 : kd ≤ 9223372036854775807) (ha1 : -9223372036854775808 ≤ a) (ha2 : a ≤ 9223372036854775807) (hb1 : -9223372036854775808 ≤ b) (hb2 : b ≤ 9223372036854775807) (hc1 : -9223372036854775808 ≤ c) (hc2 : c ≤ 9223372036854775807)
  (Hk : Hid (pickI kd 24 = (k : Int))) (Hx : Hid (pickI a 4 = (x : Int))) (Hy : Hid (pickI b 12 = (y : Int))) (H3 : Hid (pickI c 3 = (z3 : Int))) (H4 : Hid (pickI c 4 = (z4 : Int))) (hk24 : k < 24) (hx4 : x < 4) (hy12 : y < 12) (hz3 : z3 < 3) (hz4 : z4 < 4) (h : 6 < k ∧ k < 10) :
  Calls Tryz.prog 11 #[.agg #[.int .i64 kd, .int .i64 a, .int .i64 b, .int .i64 c]] w fun e w' => e = .returned (.agg #[.int .i64 6, .string (keyAt x), .string ⟨#[]⟩]) ∧ Below w.heap.size w w' := by
 obtain ⟨h, h'⟩ := h
 have n5 : ((k : Int) == 5) = false := beq_eq_false_iff_ne.2 (by omega)
 have n6 : ((k : Int) == 6) = false := beq_eq_false_iff_ne.2 (by omega)
 have hns := numAt_size y
 go_enter Tryz.func11, Tryz.ntmps11
 go_wp2_with fail
 refine (picked_any a 4 _ ha1 ha2 (by omega) (by omega)).mono ?_
 rw [Hx.out]
 rintro e w1 ⟨rfl, rfl⟩
 go_wp2_with fail
 rw [key_get]
 refine (picked_any b 12 _ hb1 hb2 (by omega) (by omega)).mono ?_
 rw [Hy.out]
 rintro e w2 ⟨rfl, rfl⟩
 go_wp2_with fail
 refine (itoa_any y _ hy12).mono ?_
 rintro e w3 ⟨rfl, rfl⟩
 go_wp2_with fail
 rw [show (⟨#[118]⟩ : ByteArray) ++ numAt y = valAt y from rfl]
 have hvs := valAt_size y
 clear hns
 refine (picked_any kd 24 _ hk1 hk2 (by omega) (by omega)).mono ?_
 rw [Hk.out]
 rintro e w4 ⟨rfl, rfl⟩
 go_wp2
 refine bodyPost_ret (v := .agg #[.int .i64 6, .string (keyAt x), .string ⟨#[]⟩]) (by simp [results, Tryz.results11, go_sem]) rfl ⟨rfl, ?_⟩
 repeat' (first | exact Below.refl _ _ | assumption | with_reducible refine below_drewN ?_ _ | with_reducible refine Below.drew ?_ | with_reducible refine Below.setCell ?_ ?_ _ | with_reducible refine Below.alloc ?_ ?_ _ | (simp; done) | (simp; omega))
set_option maxHeartbeats 1000000 in
theorem stmt_7 (kd a b c : Int) (k x y z3 z4 : Nat) (w : World) (hk1 : -9223372036854775808 ≤ kd) (hk2 : kd ≤ 9223372036854775807) (ha1 : -9223372036854775808 ≤ a) (ha2 : a ≤ 9223372036854775807) (hb1 : -9223372036854775808 ≤ b) (hb2 : b ≤ 9223372036854775807) (hc1 : -9223372036854775808 ≤ c) (hc2 : c ≤ 9223372036854775807)
  (Hk : Hid (pickI kd 24 = (k : Int))) (Hx : Hid (pickI a 4 = (x : Int))) (Hy : Hid (pickI b 12 = (y : Int))) (H3 : Hid (pickI c 3 = (z3 : Int))) (H4 : Hid (pickI c 4 = (z4 : Int))) (hk24 : k < 24) (hx4 : x < 4) (hy12 : y < 12) (hz3 : z3 < 3) (hz4 : z4 < 4) (h : ¬ k < 10 ∧ k < 13) :
  Calls Tryz.prog 11 #[.agg #[.int .i64 kd, .int .i64 a, .int .i64 b, .int .i64 c]] w fun e w' => e = .returned (.agg #[.int .i64 7, .string (keyAt x), .string ⟨#[]⟩]) ∧ Below w.heap.size w w' := by
 obtain ⟨h, h'⟩ := h
 have n5 : ((k : Int) == 5) = false := beq_eq_false_iff_ne.2 (by omega)
 have n6 : ((k : Int) == 6) = false := beq_eq_false_iff_ne.2 (by omega)
 have hns := numAt_size y
 go_enter Tryz.func11, Tryz.ntmps11
 go_wp2_with fail
 refine (picked_any a 4 _ ha1 ha2 (by omega) (by omega)).mono ?_
 rw [Hx.out]
 rintro e w1 ⟨rfl, rfl⟩
 go_wp2_with fail
 rw [key_get]
 refine (picked_any b 12 _ hb1 hb2 (by omega) (by omega)).mono ?_
 rw [Hy.out]
 rintro e w2 ⟨rfl, rfl⟩
 go_wp2_with fail
 refine (itoa_any y _ hy12).mono ?_
 rintro e w3 ⟨rfl, rfl⟩
 go_wp2_with fail
 rw [show (⟨#[118]⟩ : ByteArray) ++ numAt y = valAt y from rfl]
 have hvs := valAt_size y
 clear hns
 refine (picked_any kd 24 _ hk1 hk2 (by omega) (by omega)).mono ?_
 rw [Hk.out]
 rintro e w4 ⟨rfl, rfl⟩
 go_wp2
 refine bodyPost_ret (v := .agg #[.int .i64 7, .string (keyAt x), .string ⟨#[]⟩]) (by simp [results, Tryz.results11, go_sem]) rfl ⟨rfl, ?_⟩
 repeat' (first | exact Below.refl _ _ | assumption | with_reducible refine below_drewN ?_ _ | with_reducible refine Below.drew ?_ | with_reducible refine Below.setCell ?_ ?_ _ | with_reducible refine Below.alloc ?_ ?_ _ | (simp; done) | (simp; omega))
set_option maxHeartbeats 1000000 in
theorem stmt_8 (kd a b c : Int) (k x y z3 z4 : Nat) (w : World) (hk1 : -9223372036854775808 ≤ kd) (hk2 : kd ≤ 9223372036854775807) (ha1 : -9223372036854775808 ≤ a) (ha2 : a ≤ 9223372036854775807) (hb1 : -9223372036854775808 ≤ b) (hb2 : b ≤ 9223372036854775807) (hc1 : -9223372036854775808 ≤ c) (hc2 : c ≤ 9223372036854775807)
  (Hk : Hid (pickI kd 24 = (k : Int))) (Hx : Hid (pickI a 4 = (x : Int))) (Hy : Hid (pickI b 12 = (y : Int))) (H3 : Hid (pickI c 3 = (z3 : Int))) (H4 : Hid (pickI c 4 = (z4 : Int))) (hk24 : k < 24) (hx4 : x < 4) (hy12 : y < 12) (hz3 : z3 < 3) (hz4 : z4 < 4) (h : ¬ k < 13 ∧ k < 15) :
  Calls Tryz.prog 11 #[.agg #[.int .i64 kd, .int .i64 a, .int .i64 b, .int .i64 c]] w fun e w' => e = .returned (.agg #[.int .i64 8, .string (keyAt x), .string ⟨#[]⟩]) ∧ Below w.heap.size w w' := by
 obtain ⟨h, h'⟩ := h
 have n5 : ((k : Int) == 5) = false := beq_eq_false_iff_ne.2 (by omega)
 have n6 : ((k : Int) == 6) = false := beq_eq_false_iff_ne.2 (by omega)
 have hns := numAt_size y
 go_enter Tryz.func11, Tryz.ntmps11
 go_wp2_with fail
 refine (picked_any a 4 _ ha1 ha2 (by omega) (by omega)).mono ?_
 rw [Hx.out]
 rintro e w1 ⟨rfl, rfl⟩
 go_wp2_with fail
 rw [key_get]
 refine (picked_any b 12 _ hb1 hb2 (by omega) (by omega)).mono ?_
 rw [Hy.out]
 rintro e w2 ⟨rfl, rfl⟩
 go_wp2_with fail
 refine (itoa_any y _ hy12).mono ?_
 rintro e w3 ⟨rfl, rfl⟩
 go_wp2_with fail
 rw [show (⟨#[118]⟩ : ByteArray) ++ numAt y = valAt y from rfl]
 have hvs := valAt_size y
 clear hns
 refine (picked_any kd 24 _ hk1 hk2 (by omega) (by omega)).mono ?_
 rw [Hk.out]
 rintro e w4 ⟨rfl, rfl⟩
 go_wp2
 refine bodyPost_ret (v := .agg #[.int .i64 8, .string (keyAt x), .string ⟨#[]⟩]) (by simp [results, Tryz.results11, go_sem]) rfl ⟨rfl, ?_⟩
 repeat' (first | exact Below.refl _ _ | assumption | with_reducible refine below_drewN ?_ _ | with_reducible refine Below.drew ?_ | with_reducible refine Below.setCell ?_ ?_ _ | with_reducible refine Below.alloc ?_ ?_ _ | (simp; done) | (simp; omega))
set_option maxHeartbeats 1000000 in
theorem stmt_9 (kd a b c : Int) (k x y z3 z4 : Nat) (w : World) (hk1 : -9223372036854775808 ≤ kd) (hk2 : kd ≤ 9223372036854775807) (ha1 : -9223372036854775808 ≤ a) (ha2 : a ≤ 9223372036854775807) (hb1 : -9223372036854775808 ≤ b) (hb2 : b ≤ 9223372036854775807) (hc1 : -9223372036854775808 ≤ c) (hc2 : c ≤ 9223372036854775807)
  (Hk : Hid (pickI kd 24 = (k : Int))) (Hx : Hid (pickI a 4 = (x : Int))) (Hy : Hid (pickI b 12 = (y : Int))) (H3 : Hid (pickI c 3 = (z3 : Int))) (H4 : Hid (pickI c 4 = (z4 : Int))) (hk24 : k < 24) (hx4 : x < 4) (hy12 : y < 12) (hz3 : z3 < 3) (hz4 : z4 < 4) (h : ¬ k < 15 ∧ k < 18) :
  Calls Tryz.prog 11 #[.agg #[.int .i64 kd, .int .i64 a, .int .i64 b, .int .i64 c]] w fun e w' => e = .returned (.agg #[.int .i64 9, .string (keyAt x), .string (valAt y)]) ∧ Below w.heap.size w w' := by
 obtain ⟨h, h'⟩ := h
 have n5 : ((k : Int) == 5) = false := beq_eq_false_iff_ne.2 (by omega)
 have n6 : ((k : Int) == 6) = false := beq_eq_false_iff_ne.2 (by omega)
 have hns := numAt_size y
 go_enter Tryz.func11, Tryz.ntmps11
 go_wp2_with fail
 refine (picked_any a 4 _ ha1 ha2 (by omega) (by omega)).mono ?_
 rw [Hx.out]
 rintro e w1 ⟨rfl, rfl⟩
 go_wp2_with fail
 rw [key_get]
 refine (picked_any b 12 _ hb1 hb2 (by omega) (by omega)).mono ?_
 rw [Hy.out]
 rintro e w2 ⟨rfl, rfl⟩
 go_wp2_with fail
 refine (itoa_any y _ hy12).mono ?_
 rintro e w3 ⟨rfl, rfl⟩
 go_wp2_with fail
 rw [show (⟨#[118]⟩ : ByteArray) ++ numAt y = valAt y from rfl]
 have hvs := valAt_size y
 clear hns
 refine (picked_any kd 24 _ hk1 hk2 (by omega) (by omega)).mono ?_
 rw [Hk.out]
 rintro e w4 ⟨rfl, rfl⟩
 go_wp2
 refine bodyPost_ret (v := .agg #[.int .i64 9, .string (keyAt x), .string (valAt y)]) (by simp [results, Tryz.results11, go_sem]) rfl ⟨rfl, ?_⟩
 repeat' (first | exact Below.refl _ _ | assumption | with_reducible refine below_drewN ?_ _ | with_reducible refine Below.drew ?_ | with_reducible refine Below.setCell ?_ ?_ _ | with_reducible refine Below.alloc ?_ ?_ _ | (simp; done) | (simp; omega))
set_option maxHeartbeats 1000000 in
theorem stmt_10 (kd a b c : Int) (k x y z3 z4 : Nat) (w : World) (hk1 : -9223372036854775808 ≤ kd) (hk2 : kd ≤ 9223372036854775807) (ha1 : -9223372036854775808 ≤ a) (ha2 : a ≤ 9223372036854775807) (hb1 : -9223372036854775808 ≤ b) (hb2 : b ≤ 9223372036854775807) (hc1 : -9223372036854775808 ≤ c) (hc2 : c ≤ 9223372036854775807)
  (Hk : Hid (pickI kd 24 = (k : Int))) (Hx : Hid (pickI a 4 = (x : Int))) (Hy : Hid (pickI b 12 = (y : Int))) (H3 : Hid (pickI c 3 = (z3 : Int))) (H4 : Hid (pickI c 4 = (z4 : Int))) (hk24 : k < 24) (hx4 : x < 4) (hy12 : y < 12) (hz3 : z3 < 3) (hz4 : z4 < 4) (h : ¬ k < 18 ∧ k < 22) :
  Calls Tryz.prog 11 #[.agg #[.int .i64 kd, .int .i64 a, .int .i64 b, .int .i64 c]] w fun e w' => e = .returned (.agg #[.int .i64 10, .string (keyAt x), .string (valAt y)]) ∧ Below w.heap.size w w' := by
 obtain ⟨h, h'⟩ := h
 have n5 : ((k : Int) == 5) = false := beq_eq_false_iff_ne.2 (by omega)
 have n6 : ((k : Int) == 6) = false := beq_eq_false_iff_ne.2 (by omega)
 have hns := numAt_size y
 go_enter Tryz.func11, Tryz.ntmps11
 go_wp2_with fail
 refine (picked_any a 4 _ ha1 ha2 (by omega) (by omega)).mono ?_
 rw [Hx.out]
 rintro e w1 ⟨rfl, rfl⟩
 go_wp2_with fail
 rw [key_get]
 refine (picked_any b 12 _ hb1 hb2 (by omega) (by omega)).mono ?_
 rw [Hy.out]
 rintro e w2 ⟨rfl, rfl⟩
 go_wp2_with fail
 refine (itoa_any y _ hy12).mono ?_
 rintro e w3 ⟨rfl, rfl⟩
 go_wp2_with fail
 rw [show (⟨#[118]⟩ : ByteArray) ++ numAt y = valAt y from rfl]
 have hvs := valAt_size y
 clear hns
 refine (picked_any kd 24 _ hk1 hk2 (by omega) (by omega)).mono ?_
 rw [Hk.out]
 rintro e w4 ⟨rfl, rfl⟩
 go_wp2
 refine bodyPost_ret (v := .agg #[.int .i64 10, .string (keyAt x), .string (valAt y)]) (by simp [results, Tryz.results11, go_sem]) rfl ⟨rfl, ?_⟩
 repeat' (first | exact Below.refl _ _ | assumption | with_reducible refine below_drewN ?_ _ | with_reducible refine Below.drew ?_ | with_reducible refine Below.setCell ?_ ?_ _ | with_reducible refine Below.alloc ?_ ?_ _ | (simp; done) | (simp; omega))
set_option maxHeartbeats 1000000 in
theorem stmt_11 (kd a b c : Int) (k x y z3 z4 : Nat) (w : World) (hk1 : -9223372036854775808 ≤ kd) (hk2 : kd ≤ 9223372036854775807) (ha1 : -9223372036854775808 ≤ a) (ha2 : a ≤ 9223372036854775807) (hb1 : -9223372036854775808 ≤ b) (hb2 : b ≤ 9223372036854775807) (hc1 : -9223372036854775808 ≤ c) (hc2 : c ≤ 9223372036854775807)
  (Hk : Hid (pickI kd 24 = (k : Int))) (Hx : Hid (pickI a 4 = (x : Int))) (Hy : Hid (pickI b 12 = (y : Int))) (H3 : Hid (pickI c 3 = (z3 : Int))) (H4 : Hid (pickI c 4 = (z4 : Int))) (hk24 : k < 24) (hx4 : x < 4) (hy12 : y < 12) (hz3 : z3 < 3) (hz4 : z4 < 4) (h : ¬ k < 22) :
  Calls Tryz.prog 11 #[.agg #[.int .i64 kd, .int .i64 a, .int .i64 b, .int .i64 c]] w fun e w' => e = .returned (.agg #[.int .i64 11, .string (keyAt x), .string (prepAt z4 y)]) ∧ Below w.heap.size w w' := by
 have n5 : ((k : Int) == 5) = false := beq_eq_false_iff_ne.2 (by omega)
 have n6 : ((k : Int) == 6) = false := beq_eq_false_iff_ne.2 (by omega)
 have hg := prep_get y z4
 have hns := numAt_size y
 go_enter Tryz.func11, Tryz.ntmps11
 go_wp2_with fail
 refine (picked_any a 4 _ ha1 ha2 (by omega) (by omega)).mono ?_
 rw [Hx.out]
 rintro e w1 ⟨rfl, rfl⟩
 go_wp2_with fail
 rw [key_get]
 refine (picked_any b 12 _ hb1 hb2 (by omega) (by omega)).mono ?_
 rw [Hy.out]
 rintro e w2 ⟨rfl, rfl⟩
 go_wp2_with fail
 refine (itoa_any y _ hy12).mono ?_
 rintro e w3 ⟨rfl, rfl⟩
 go_wp2_with fail
 rw [show (⟨#[118]⟩ : ByteArray) ++ numAt y = valAt y from rfl]
 have hvs := valAt_size y
 clear hns
 refine (picked_any kd 24 _ hk1 hk2 (by omega) (by omega)).mono ?_
 rw [Hk.out]
 rintro e w4 ⟨rfl, rfl⟩
 go_wp2_with fail
 refine (picked_any c 4 _ hc1 hc2 (by omega) (by omega)).mono ?_
 rw [H4.out]
 rintro e w5 ⟨rfl, rfl⟩
 go_wp2
 refine bodyPost_ret (v := .agg #[.int .i64 11, .string (keyAt x), .string (prepAt z4 y)]) (by simp [results, Tryz.results11, go_sem]) rfl ⟨rfl, ?_⟩
 repeat' (first | exact Below.refl _ _ | assumption | with_reducible refine below_drewN ?_ _ | with_reducible refine Below.drew ?_ | with_reducible refine Below.setCell ?_ ?_ _ | with_reducible refine Below.alloc ?_ ?_ _ | (simp; done) | (simp; omega))
theorem stmt_any (kd a b c : Int) (w : World) (hk : (Lit.int .i64 kd).wf = true) (ha : (Lit.int .i64 a).wf = true) (hb : (Lit.int .i64 b).wf = true) (hc : (Lit.int .i64 c).wf = true) :
  Calls Tryz.prog 11 #[.agg #[.int .i64 kd, .int .i64 a, .int .i64 b, .int .i64 c]] w fun e w' =>
   e = .returned (.agg #[.int .i64 (rawK (pickI kd 24).toNat (pickI c 3).toNat), .string (rawKey (pickI kd 24).toNat (pickI a 4).toNat), .string (rawVal (pickI kd 24).toNat (pickI b 12).toNat (pickI c 4).toNat)]) ∧ Below w.heap.size w w' := by
 obtain ⟨hk1, hk2⟩ := i64_bd hk
 obtain ⟨ha1, ha2⟩ := i64_bd ha
 obtain ⟨hb1, hb2⟩ := i64_bd hb
 obtain ⟨hc1, hc2⟩ := i64_bd hc
 obtain ⟨k, Hk, hk24⟩ := pick_some kd 24 (by omega)
 obtain ⟨x, Hx, hx4⟩ := pick_some a 4 (by omega)
 obtain ⟨y, Hy, hy12⟩ := pick_some b 12 (by omega)
 obtain ⟨z3, H3, hz3⟩ := pick_some c 3 (by omega)
 obtain ⟨z4, H4, hz4⟩ := pick_some c 4 (by omega)
 rw [show pickI kd 24 = (k : Int) from Hk, show pickI a 4 = (x : Int) from Hx, show pickI b 12 = (y : Int) from Hy, show pickI c 3 = (z3 : Int) from H3, show pickI c 4 = (z4 : Int) from H4]
 simp only [Int.toNat_natCast]
 have hcase : k < 3 ∨ (¬ k < 3 ∧ k < 5) ∨ k = 5 ∨ k = 6 ∨ (6 < k ∧ k < 10) ∨ (¬ k < 10 ∧ k < 13) ∨ (¬ k < 13 ∧ k < 15) ∨ (¬ k < 15 ∧ k < 18) ∨ (¬ k < 18 ∧ k < 22) ∨ ¬ k < 22 := by omega
 rcases hcase with h | h | h | h | h | h | h | h | h | h
 ·have e1 : rawK k z3 = 1 := by unfold rawK; rw [if_pos h]
  have e2 : rawKey k x = ⟨#[]⟩ := by unfold rawKey; rw [if_pos (by omega)]
  have e3 : rawVal k y z4 = ⟨#[]⟩ := by unfold rawVal; rw [if_pos (by omega)]
  rw [e1, e2, e3]
  exact stmt_1 kd a b c k x y z3 z4 w hk1 hk2 ha1 ha2 hb1 hb2 hc1 hc2 Hk Hx Hy H3 H4 hk24 hx4 hy12 hz3 hz4 h
 ·have e1 : rawK k z3 = 2 := by unfold rawK; rw [if_neg h.1, if_pos h.2]
  have e2 : rawKey k x = ⟨#[]⟩ := by unfold rawKey; rw [if_pos (by omega)]
  have e3 : rawVal k y z4 = ⟨#[]⟩ := by unfold rawVal; rw [if_pos (by omega)]
  rw [e1, e2, e3]
  exact stmt_2 kd a b c k x y z3 z4 w hk1 hk2 ha1 ha2 hb1 hb2 hc1 hc2 Hk Hx Hy H3 H4 hk24 hx4 hy12 hz3 hz4 h
 ·subst h
  exact stmt_3 kd a b c 5 x y z3 z4 w hk1 hk2 ha1 ha2 hb1 hb2 hc1 hc2 Hk Hx Hy H3 H4 hk24 hx4 hy12 hz3 hz4 rfl
 ·subst h
  exact stmt_4 kd a b c 6 x y z3 z4 w hk1 hk2 ha1 ha2 hb1 hb2 hc1 hc2 Hk Hx Hy H3 H4 hk24 hx4 hy12 hz3 hz4 rfl
 ·have e1 : rawK k z3 = 6 := by unfold rawK; rw [if_neg (by omega), if_neg (by omega), if_neg (by omega), if_neg (by omega), if_pos h.2]
  have e2 : rawKey k x = keyAt x := by unfold rawKey; rw [if_neg (by omega)]
  have e3 : rawVal k y z4 = ⟨#[]⟩ := by unfold rawVal; rw [if_pos (by omega)]
  rw [e1, e2, e3]
  exact stmt_6 kd a b c k x y z3 z4 w hk1 hk2 ha1 ha2 hb1 hb2 hc1 hc2 Hk Hx Hy H3 H4 hk24 hx4 hy12 hz3 hz4 h
 ·have e1 : rawK k z3 = 7 := by unfold rawK; rw [if_neg (by omega), if_neg (by omega), if_neg (by omega), if_neg (by omega), if_neg h.1, if_pos h.2]
  have e2 : rawKey k x = keyAt x := by unfold rawKey; rw [if_neg (by omega)]
  have e3 : rawVal k y z4 = ⟨#[]⟩ := by unfold rawVal; rw [if_pos (by omega)]
  rw [e1, e2, e3]
  exact stmt_7 kd a b c k x y z3 z4 w hk1 hk2 ha1 ha2 hb1 hb2 hc1 hc2 Hk Hx Hy H3 H4 hk24 hx4 hy12 hz3 hz4 h
 ·have e1 : rawK k z3 = 8 := by unfold rawK; rw [if_neg (by omega), if_neg (by omega), if_neg (by omega), if_neg (by omega), if_neg (by omega), if_neg h.1, if_pos h.2]
  have e2 : rawKey k x = keyAt x := by unfold rawKey; rw [if_neg (by omega)]
  have e3 : rawVal k y z4 = ⟨#[]⟩ := by unfold rawVal; rw [if_pos (by omega)]
  rw [e1, e2, e3]
  exact stmt_8 kd a b c k x y z3 z4 w hk1 hk2 ha1 ha2 hb1 hb2 hc1 hc2 Hk Hx Hy H3 H4 hk24 hx4 hy12 hz3 hz4 h
 ·have e1 : rawK k z3 = 9 := by unfold rawK; rw [if_neg (by omega), if_neg (by omega), if_neg (by omega), if_neg (by omega), if_neg (by omega), if_neg (by omega), if_neg h.1, if_pos h.2]
  have e2 : rawKey k x = keyAt x := by unfold rawKey; rw [if_neg (by omega)]
  have e3 : rawVal k y z4 = valAt y := by unfold rawVal; rw [if_neg (by omega), if_pos (by omega)]
  rw [e1, e2, e3]
  exact stmt_9 kd a b c k x y z3 z4 w hk1 hk2 ha1 ha2 hb1 hb2 hc1 hc2 Hk Hx Hy H3 H4 hk24 hx4 hy12 hz3 hz4 h
 ·have e1 : rawK k z3 = 10 := by unfold rawK; rw [if_neg (by omega), if_neg (by omega), if_neg (by omega), if_neg (by omega), if_neg (by omega), if_neg (by omega), if_neg (by omega), if_neg h.1, if_pos h.2]
  have e2 : rawKey k x = keyAt x := by unfold rawKey; rw [if_neg (by omega)]
  have e3 : rawVal k y z4 = valAt y := by unfold rawVal; rw [if_neg (by omega), if_pos (by omega)]
  rw [e1, e2, e3]
  exact stmt_10 kd a b c k x y z3 z4 w hk1 hk2 ha1 ha2 hb1 hb2 hc1 hc2 Hk Hx Hy H3 H4 hk24 hx4 hy12 hz3 hz4 h
 ·have e1 : rawK k z3 = 11 := by unfold rawK; rw [if_neg (by omega), if_neg (by omega), if_neg (by omega), if_neg (by omega), if_neg (by omega), if_neg (by omega), if_neg (by omega), if_neg (by omega), if_neg h]
  have e2 : rawKey k x = keyAt x := by unfold rawKey; rw [if_neg (by omega)]
  have e3 : rawVal k y z4 = prepAt z4 y := by unfold rawVal; rw [if_neg (by omega), if_neg h]
  rw [e1, e2, e3]
  exact stmt_11 kd a b c k x y z3 z4 w hk1 hk2 ha1 ha2 hb1 hb2 hc1 hc2 Hk Hx Hy H3 H4 hk24 hx4 hy12 hz3 hz4 h
end Go.Proofs.YtpbaobmegomfpabGreatDoor
namespace Go.Proofs.YtpbaobmegomfpabGreatDoor
open Go
section
variable {P : Program} {ops : Array Oper} {Q : Exit → Go.Act → World → Prop} {md : Region.Mode} {S : World → Prop} {z : Nat}
def wpAnyZ (P : Program) (md : Region.Mode) (ops : Array Oper) (Q : Exit → Go.Act → World → Prop) (S : World → Prop) (z : Nat) : Nat → Array Bool → Go.Act → World → Prop
 | 0, listed, a, w => Region.ready md ops listed = [] ∧ Q .normal a w
 | fuel + 1, listed, a, w =>
  (Region.ready md ops listed = [] → Q .normal a w) ∧
  ∀ i ∈ Region.ready md ops listed, wpOp P ops Q i (fun a' w' => (i ≠ z → S w') ∧ wpAnyZ P md ops Q S z fuel (listed.setIfInBounds i true) a' w') a w
theorem wpAny_of_z : ∀ (fuel : Nat) (listed : Array Bool) (a : Go.Act) (w : World), wpAnyZ P md ops Q S z fuel listed a w → wpAny P md ops Q fuel listed a w
 | 0, _, _, _, h => h
 | fuel + 1, _, _, _, h => ⟨h.1, fun i hi => wpOp_mono (fun a' w' h' => wpAny_of_z fuel _ a' w' h'.2) (h.2 i hi)⟩
def waitsFor (md : Region.Mode) (ops : Array Oper) (z i : Nat) : Bool := match ops[z]? with
 | some oz => oz.after.any fun e => Region.binds md e && e.on == i
 | none => false
theorem wpAnyZ_first {i : Nat} {oi : Oper} {v : Value} (hi : ops[i]? = some oi) (hsel : ∀ (j : Nat) (o : Oper) cs b, ops[j]? = some o → o.op ≠ .select cs b) (hz : waitsFor md ops z i = true) (hiz : i ≠ z)
  (hQ : ∀ c a w, Q (.panic c) (a.put oi.dst v) w → Q (.panic c) a w) :
  ∀ (fuel : Nat) (listed : Array Bool) (a : Go.Act) (w : World),
   (∀ j oj, ops[j]? = some oj → j ≠ i → listed.getD j true = false → (∀ e ∈ oj.after, Region.binds md e = true → e.on ≠ i) → oi.apart ops oj = true) →
   i ∈ Region.ready md ops listed → YieldsIf P ops S oi v a → S w →
   wpAnyZ P md ops Q S z fuel (listed.setIfInBounds i true) (a.put oi.dst v) w → wpAnyZ P md ops Q S z (fuel + 1) listed a w := by
 intro fuel
 induction fuel with
 | zero =>
  intro listed a w _ hr hy hS H
  refine ⟨fun h => (by rw [h] at hr; cases hr), fun j hj => ?_⟩
  by_cases hji : j = i
  ·subst hji; exact hy.wpOp hi hS ⟨fun _ => hS, H⟩
  ·have := ready_mono hj hji
   rw [H.1] at this
   cases this
 | succ fuel ih =>
  intro listed a w hfree hr hy hS H
  refine ⟨fun h => (by rw [h] at hr; cases hr), fun j hj => ?_⟩
  by_cases hji : j = i
  ·subst hji; exact hy.wpOp hi hS ⟨fun _ => hS, H⟩
  ·have h1 := H.2 j (ready_mono hj hji)
   obtain ⟨hjun, oj, hoj, hall⟩ := mem_ready.1 hj
   have hnot : ∀ e ∈ oj.after, Region.binds md e = true → e.on ≠ i := fun e he hb heq => by
    have h1 := hall e he hb
    have h0 := (mem_ready.1 hr).1
    rw [heq] at h1
    rcases Nat.lt_or_ge i listed.size with h' | h'
    ·simp [h'] at h0 h1; rw [h0] at h1; cases h1
    ·simp [Array.getElem?_eq_none h'] at h1
   have hjz : j ≠ z := fun e => by
    unfold waitsFor at hz
    rw [← e, hoj] at hz
    simp only [Array.any_eq_true'] at hz
    obtain ⟨x, hx, hb⟩ := hz
    simp only [Bool.and_eq_true, beq_iff_eq] at hb
    exact hnot x hx hb.1 hb.2
   have h2 := wpOp_putIf hoj (hfree j oj hoj hji hjun hnot) (fun cs b => hsel i oi cs b hi) (fun cs b => hsel j oj cs b hoj) hQ hy h1
   have hfree' : ∀ k ok, ops[k]? = some ok → k ≠ i → (listed.setIfInBounds j true).getD k true = false →
     (∀ e ∈ ok.after, Region.binds md e = true → e.on ≠ i) → oi.apart ops ok = true := fun k ok hk hki hun hno => by
    refine hfree k ok hk hki ?_ hno
    by_cases hjk : j = k
    ·subst hjk; exact hjun
    ·rw [getD_set_ne true hjk] at hun; exact hun
   refine wpOp_mono (fun a' w' h3 => ⟨h3.2.1, ih (listed.setIfInBounds j true) a' w' hfree' (ready_mono hr (Ne.symm hji)) h3.1 (h3.2.1 hjz) ?_⟩) h2
   rw [Array.setIfInBounds_comm _ _ hji]
   exact h3.2.2
theorem wpAnyZ_take {i : Nat} {oi : Oper} {v : Value} {fuel : Nat} {listed : Array Bool} {a : Go.Act} {w : World} (hi : ops[i]? = some oi)
  (hs : Region.noSelect ops = true) (hf : Region.free md ops listed i = true) (hr : (Region.ready md ops listed).contains i = true) (hz : (waitsFor md ops z i && i != z) = true)
  (hQ : ∀ c a w, Q (.panic c) (a.put oi.dst v) w → Q (.panic c) a w) (hy : YieldsIf P ops S oi v a) (hS : S w)
  (h : wpAnyZ P md ops Q S z fuel (listed.setIfInBounds i true) (a.put oi.dst v) w) : wpAnyZ P md ops Q S z (fuel + 1) listed a w :=
 wpAnyZ_first hi (Region.noSelect_spec hs) (by simp only [Bool.and_eq_true] at hz; exact hz.1) (by simp only [Bool.and_eq_true, bne_iff_ne] at hz; exact hz.2) hQ fuel listed a w (Region.free_spec hi hf) (by simpa using hr) hy hS h
theorem wpAnyZ_one {i : Nat} {o : Oper} {fuel : Nat} {listed : Array Bool} {a : Go.Act} {w : World} (ho : ops[i]? = some o) (hg : o.guard = none) (hr : Region.ready md ops listed = [i])
  (h : ∀ K' : Go.Act → World → Prop, Shut (∀ a w, S w → wpAnyZ P md ops Q S z fuel (listed.setIfInBounds i true) a w → K' a w) → Oper.wp P o a w K' Q) : wpAnyZ P md ops Q S z (fuel + 1) listed a w := by
 refine ⟨fun h0 => (by rw [hr] at h0; cases h0), fun j hj => ?_⟩
 rw [hr] at hj
 obtain rfl := List.mem_singleton.1 hj
 refine wpOp_step ho fun K' hK => ?_
 rw [if_pos (by simp [Region.wanted, hg])]
 exact h K' (fun a w hS hW => hK a w ⟨fun _ => hS, hW⟩)
theorem wpAnyZ_last {o : Oper} {fuel : Nat} {listed : Array Bool} {a : Go.Act} {w : World} (ho : ops[z]? = some o) (hg : o.guard = none) (hr : Region.ready md ops listed = [z]) (hr' : Region.ready md ops (listed.setIfInBounds z true) = [])
  (h : ∀ K' : Go.Act → World → Prop, Shut (∀ a w, Q .normal a w → K' a w) → Oper.wp P o a w K' Q) : wpAnyZ P md ops Q S z (fuel + 1) listed a w := by
 refine ⟨fun h0 => (by rw [hr] at h0; cases h0), fun j hj => ?_⟩
 rw [hr] at hj
 obtain rfl := List.mem_singleton.1 hj
 refine wpOp_step ho fun K' hK => ?_
 rw [if_pos (by simp [Region.wanted, hg])]
 refine h K' (fun a w hq => hK a w ⟨fun hne => absurd rfl hne, ?_⟩)
 cases fuel with
 | zero => exact ⟨hr', hq⟩
 | succ n => exact ⟨fun _ => hq, by rw [hr']; simp⟩
theorem wp_region_z (z : Nat) (S : World → Prop) {id : Nat} {a : Go.Act} {w : World} (hm : P.follows .mixedOrders = true) (hS : S w.drew)
  (h : S w.drew → wpAnyZ P .any ops Q S z ops.size (Array.replicate ops.size false) a w.drew) : (Code.region id ops true).wp P Q a w :=
 wp_region_any hm (wpAny_of_z _ _ _ _ (h hS))
end
section
variable {P : Program} {ops : Array Oper} {Q : Exit → Go.Act → World → Prop} {md : Region.Mode} {S : World → Prop} {z : Nat}
theorem tkZ (i : Nat) {oi : Oper} (v : Value) {fuel : Nat} {listed : Array Bool} {a : Go.Act} {w : World} (hi : ops[i]? = some oi) (hv : ∀ w, S w → (execOp a.eval oi).run P w = .ok (.value v) w) (hS : S w)
    (h : wpAnyZ P md ops Q S z fuel (listed.setIfInBounds i true) (a.put oi.dst v) w) (hw : Region.wanted oi (yielded ops a.tmps) = true := by rfl)
    (hs : Region.noSelect ops = true := by kernel_rfl) (hf : Region.free md ops listed i = true := by kernel_rfl) (hr : (Region.ready md ops listed).contains i = true := by kernel_rfl) (hz : (waitsFor md ops z i && i != z) = true := by kernel_rfl)
    (hQ : ∀ c a w, Q (.panic c) (a.put oi.dst v) w → Q (.panic c) a w := by exact fun _ _ _ h => h) : wpAnyZ P md ops Q S z (fuel + 1) listed a w :=
  wpAnyZ_take hi hs hf hr hz hQ (Or.inl ⟨hw, hv⟩) hS h
end
end Go.Proofs.YtpbaobmegomfpabGreatDoor
namespace Go.Proofs.YtpbaobmegomfpabGreatDoor
open Go Go.RowKit
def pt (b : Nat) : Value := .pointer (some ⟨b, 0, none⟩)
def fr (dp dq : Nat) (a : Go.Act) : Option Nat → Option Nat → Go.Act
 | none, none => a
 | some b, none => a.put (some dp) (pt b)
 | none, some c => a.put (some dq) (pt c)
 | some b, some c => (a.put (some dp) (pt b)).put (some dq) (pt c)
def zs (lo : Nat) (t : TypeId) (zc : Array Value) (x : Option Nat) (w : World) : Prop := ∀ b, x = some b → lo ≤ b ∧ w.heap[b]? = some (.cells zc t (0, 0))
theorem zs_none (lo : Nat) (t : TypeId) (zc : Array Value) (w : World) : zs lo t zc none w := fun _ h => by cases h
theorem zs_alloc {lo : Nat} {t : TypeId} {zc : Array Value} {x : Option Nat} {w : World} (h : zs lo t zc x w) (o : Obj) : zs lo t zc x (w.alloc o) := fun b hb => by
 have := h b hb
 rw [Below.heap_alloc _ _ _ (Array.getElem?_eq_some_iff.1 this.2).1]; exact this
theorem zs_new {lo : Nat} (t : TypeId) (zc : Array Value) (w : World) (h : lo ≤ w.heap.size) : zs lo t zc (some w.heap.size) (w.alloc (.cells zc t)) := fun b hb => by
 injection hb with hb; subst hb; exact ⟨h, heap_alloc_new w _⟩
theorem zs_row {lo : Nat} {t : TypeId} {zc : Array Value} {b : Nat} {w : World} (h : zs lo t zc (some b) w) : RowTo w b t zc.size zc.toList := ⟨zc, (h b rfl).2, rfl, by rw [List.take_of_length_le (by simp)]⟩
theorem zs_below {lo : Nat} {t : TypeId} {zc : Array Value} {x : Option Nat} {w w' : World} (h : zs lo t zc x w) (hb : Below w.heap.size w w') : zs lo t zc x w' := fun b e => by
 have := h b e
 exact ⟨this.1, (hb.block b (Array.getElem?_eq_some_iff.1 this.2).1).trans this.2⟩
theorem pc {a : Go.Act} {d e : Nat} (h : d ≠ e) (v u : Value) : (a.put (some d) v).put (some e) u = (a.put (some e) u).put (some d) v := Go.Act.put_comm a v u (fun x hx hy => by injection hx with hx; injection hy with hy; exact h (hx.trans hy.symm))
theorem fr_put {dp dq d : Nat} (h1 : d ≠ dp) (h2 : d ≠ dq) (a : Go.Act) (x y : Option Nat) (v : Value) : (fr dp dq a x y).put (some d) v = fr dp dq (a.put (some d) v) x y := by
 cases x <;> cases y <;> simp only [fr]
 ·rw [pc (Ne.symm h2)]
 ·rw [pc (Ne.symm h1)]
 ·rw [pc (Ne.symm h2), pc (Ne.symm h1)]
section
variable {P : Program} {ops : Array Oper} {Q : Exit → Go.Act → World → Prop} {md : Region.Mode} {S : World → Prop} {z : Nat}
theorem wpOp_wp {i : Nat} {o : Oper} {K : Go.Act → World → Prop} {a : Go.Act} {w : World} (ho : ops[i]? = some o) (hg : o.guard = none) (h : o.wp P a w K Q) : wpOp P ops Q i K a w := by
 unfold wpOp
 simp only [ho]
 rw [if_pos (by simp [Region.wanted, hg])]
 exact .inl h
theorem wp_call {o : Oper} {a : Go.Act} {w : World} {K : Go.Act → World → Prop} {g : FuncId} {args : Array Value} (hr : (execOp a.eval o).run P w = .ok (.enter g args) w)
  (h : Calls P g args w fun e w' => ∃ v, e = .returned v ∧ K (a.put o.dst v) w') : o.wp P a w K Q := by
 unfold Oper.wp
 rw [hr]
 refine Calls.mono h fun e w' he => ?_
 obtain ⟨v, rfl, hk⟩ := he
 exact hk
theorem wp_val {o : Oper} {a : Go.Act} {w w' : World} {K : Go.Act → World → Prop} {v : Value} (hr : (execOp a.eval o).run P w = .ok (.value v) w') (h : K (a.put o.dst v) w') : o.wp P a w K Q := by
 unfold Oper.wp; rw [hr]; exact h
structure GridS (P : Program) (md : Region.Mode) (ops : Array Oper) (C : Nat) (cop dst : Nat → Nat) (p q dp dq : Nat) (tp tq : TypeId) (zp zq : Array Value) (Lst : Nat → Bool → Bool → Array Bool) (Lst' : Bool → Bool → Array Bool) : Prop where
 op : ∃ o, ops[p]? = some o ∧ o.guard = none ∧ o.dst = some dp ∧ ∀ (ev : Operand → Value) w, (execOp ev o).run P w = .ok (.value (pt w.heap.size)) (w.alloc (.cells zp tp))
 oq : ∃ o, ops[q]? = some o ∧ o.guard = none ∧ o.dst = some dq ∧ ∀ (ev : Operand → Value) w, (execOp ev o).run P w = .ok (.value (pt w.heap.size)) (w.alloc (.cells zq tq))
 ne : dp ≠ dq
 dn : ∀ c, c < C → dst c ≠ dp ∧ dst c ≠ dq
 ready : ∀ c x y, c < C → Region.ready md ops (Lst c x y) = cop c :: ((if x then [] else [p]) ++ (if y then [] else [q]))
 ready' : ∀ x y, (x && y) = false → Region.ready md ops (Lst' x y) = (if x then [] else [p]) ++ (if y then [] else [q])
 setc : ∀ c x y, c < C → (Lst c x y).setIfInBounds (cop c) true = Lst (c + 1) x y
 setp : ∀ c y, c < C → (Lst c false y).setIfInBounds p true = Lst c true y
 setq : ∀ c x, c < C → (Lst c x false).setIfInBounds q true = Lst c x true
 setp' : ∀ y, (Lst' false y).setIfInBounds p true = Lst' true y
 setq' : ∀ x, (Lst' x false).setIfInBounds q true = Lst' x true
variable {C : Nat} {cop dst : Nat → Nat} {p q dp dq : Nat} {tp tq : TypeId} {zp zq : Array Value} {Lst : Nat → Bool → Bool → Array Bool} {Lst' : Bool → Bool → Array Bool}
theorem grid (G : GridS P md ops C cop dst p q dp dq tp tq zp zq Lst Lst') (J : Nat → Go.Act → World → Prop) (J' : Go.Act → World → Prop) (n0 k0 lo : Nat)
  (hJ : ∀ c a w o, J c a w → J c a (w.alloc o)) (hJ' : ∀ a w o, J' a w → J' a (w.alloc o)) (hS : ∀ c a w, J c a w → S w) (hS' : ∀ a w, J' a w → S w) (hl : ∀ c a w, J c a w → lo ≤ w.heap.size) (hl' : ∀ a w, J' a w → lo ≤ w.heap.size)
  (hcall : ∀ c a w x y, c < C → J c a w → zs lo tp zp x w → zs lo tq zq y w → wpOp P ops Q (cop c) (fun a' w' => ∃ v, a' = (fr dp dq a x y).put (some (dst c)) v ∧ J (c + 1) (a.put (some (dst c)) v) w' ∧ zs lo tp zp x w' ∧ zs lo tq zq y w') (fr dp dq a x y) w)
  (htake : ∀ a w x y n, J C a w → zs lo tp zp x w → zs lo tq zq y w → (∀ a', J' a' w → wpAnyZ P md ops Q S z n (Lst' x.isSome y.isSome) (fr dp dq a' x y) w) → wpAnyZ P md ops Q S z (n + k0) (Lst C x.isSome y.isSome) (fr dp dq a x y) w)
  (hfin : ∀ a w b c, J' a w → zs lo tp zp (some b) w → zs lo tq zq (some c) w → wpAnyZ P md ops Q S z n0 (Lst' true true) (fr dp dq a (some b) (some c)) w) :
  ∀ a w, J 0 a w → wpAnyZ P md ops Q S z (n0 + 2 + k0 + C) (Lst 0 false false) a w := by
 obtain ⟨o1, p1, p2, p3, p4⟩ := G.op
 obtain ⟨o2, q1, q2, q3, q4⟩ := G.oq
 have ap : ∀ (a : Go.Act) (y : Option Nat) (w : World) (K : Go.Act → World → Prop), K (fr dp dq a (some w.heap.size) y) (w.alloc (.cells zp tp)) → wpOp P ops Q p K (fr dp dq a none y) w := fun a y w K h => by
  refine wpOp_wp p1 p2 (wp_val (p4 _ w) ?_)
  rw [p3]
  cases y with
  | none => exact h
  | some c =>
   have e : (fr dp dq a none (some c)).put (some dp) (pt w.heap.size) = fr dp dq a (some w.heap.size) (some c) := by simp only [fr]; rw [pc (Ne.symm G.ne)]
   rw [e]; exact h
 have aq : ∀ (a : Go.Act) (x : Option Nat) (w : World) (K : Go.Act → World → Prop), K (fr dp dq a x (some w.heap.size)) (w.alloc (.cells zq tq)) → wpOp P ops Q q K (fr dp dq a x none) w := fun a x w K h => by
  refine wpOp_wp q1 q2 (wp_val (q4 _ w) ?_)
  rw [q3]
  cases x <;> exact h
 -- behind the chain
 have last : ∀ (x y : Option Nat) (a : Go.Act) (w : World), J' a w → zs lo tp zp x w → zs lo tq zq y w → wpAnyZ P md ops Q S z (n0 + (!x.isSome).toNat + (!y.isSome).toNat) (Lst' x.isSome y.isSome) (fr dp dq a x y) w := by
  have tt : ∀ b c a w, J' a w → zs lo tp zp (some b) w → zs lo tq zq (some c) w → wpAnyZ P md ops Q S z n0 (Lst' true true) (fr dp dq a (some b) (some c)) w := fun b c a w => hfin a w b c
  have ft : ∀ c a w, J' a w → zs lo tq zq (some c) w → wpAnyZ P md ops Q S z (n0 + 1) (Lst' false true) (fr dp dq a none (some c)) w := fun c a w hj hy => by
   refine ⟨fun h0 => (by rw [G.ready' false true rfl] at h0; cases h0), fun i hi => ?_⟩
   rw [G.ready' false true rfl] at hi
   obtain rfl : i = p := by simpa using hi
   refine ap a _ w _ ⟨fun _ => hS' _ _ (hJ' _ _ _ hj), ?_⟩
   rw [G.setp']
   exact tt _ _ _ _ (hJ' _ _ _ hj) (zs_new _ _ _ (hl' _ _ hj)) (zs_alloc hy _)
  have tf : ∀ b a w, J' a w → zs lo tp zp (some b) w → wpAnyZ P md ops Q S z (n0 + 1) (Lst' true false) (fr dp dq a (some b) none) w := fun b a w hj hx => by
   refine ⟨fun h0 => (by rw [G.ready' true false rfl] at h0; cases h0), fun i hi => ?_⟩
   rw [G.ready' true false rfl] at hi
   obtain rfl : i = q := by simpa using hi
   refine aq a _ w _ ⟨fun _ => hS' _ _ (hJ' _ _ _ hj), ?_⟩
   rw [G.setq']
   exact tt _ _ _ _ (hJ' _ _ _ hj) (zs_alloc hx _) (zs_new _ _ _ (hl' _ _ hj))
  intro x y a w hj hx hy
  cases x with
  | some b =>
   cases y with
   | some c => exact tt b c a w hj hx hy
   | none => exact tf b a w hj hx
  | none =>
   cases y with
   | some c => exact ft c a w hj hy
   | none =>
    refine ⟨fun h0 => (by rw [show Lst' (none : Option Nat).isSome (none : Option Nat).isSome = Lst' false false from rfl, G.ready' false false rfl] at h0; cases h0), fun i hi => ?_⟩
    rw [show Lst' (none : Option Nat).isSome (none : Option Nat).isSome = Lst' false false from rfl, G.ready' false false rfl] at hi
    have hi2 : i = p ∨ i = q := by simpa using hi
    rcases hi2 with rfl | rfl
    ·refine ap a _ w _ ⟨fun _ => hS' _ _ (hJ' _ _ _ hj), ?_⟩
     show wpAnyZ P md ops Q S z (n0 + 1) ((Lst' false false).setIfInBounds i true) _ _
     rw [G.setp']
     exact tf _ _ _ (hJ' _ _ _ hj) (zs_new _ _ _ (hl' _ _ hj))
    ·refine aq a _ w _ ⟨fun _ => hS' _ _ (hJ' _ _ _ hj), ?_⟩
     show wpAnyZ P md ops Q S z (n0 + 1) ((Lst' false false).setIfInBounds i true) _ _
     rw [G.setq']
     exact ft _ _ _ (hJ' _ _ _ hj) (zs_new _ _ _ (hl' _ _ hj))
 -- along the chain
 have main : ∀ (m c : Nat) (x y : Option Nat) (a : Go.Act) (w : World), c ≤ C → m = (C - c) + (!x.isSome).toNat + (!y.isSome).toNat → J c a w → zs lo tp zp x w → zs lo tq zq y w → wpAnyZ P md ops Q S z (n0 + k0 + m) (Lst c x.isSome y.isSome) (fr dp dq a x y) w := by
  intro m
  induction m with
  | zero =>
   intro c x y a w hc hm hj hx hy
   have hcC : c = C := by omega
   subst hcC
   have hxs : (!x.isSome).toNat = 0 := by omega
   have hys : (!y.isSome).toNat = 0 := by omega
   have := htake a w x y n0 hj hx hy (fun a' hj' => by have := last x y a' w hj' hx hy; rw [hxs, hys] at this; exact this)
   exact this
  | succ m ih =>
   intro c x y a w hc hm hj hx hy
   by_cases hcC : c = C
   ·subst hcC
    have := htake a w x y (n0 + (!x.isSome).toNat + (!y.isSome).toNat) hj hx hy (fun a' hj' => last x y a' w hj' hx hy)
    rw [show n0 + k0 + (m + 1) = n0 + (!x.isSome).toNat + (!y.isSome).toNat + k0 by omega]
    exact this
   ·have hlt : c < C := by omega
    rw [show n0 + k0 + (m + 1) = (n0 + k0 + m) + 1 by omega]
    refine ⟨fun h0 => (by rw [G.ready c _ _ hlt] at h0; cases h0), fun i hi => ?_⟩
    rw [G.ready c _ _ hlt] at hi
    rcases List.mem_cons.1 hi with rfl | hi
    ·refine wpOp_mono (fun a' w' h => ?_) (hcall c a w x y hlt hj hx hy)
     obtain ⟨v, rfl, h1, h2, h3⟩ := h
     refine ⟨fun _ => hS _ _ _ h1, ?_⟩
     rw [G.setc c _ _ hlt, fr_put (G.dn c hlt).1 (G.dn c hlt).2]
     exact ih (c + 1) x y _ w' (by omega) (by omega) h1 h2 h3
    ·rcases List.mem_append.1 hi with hi | hi
     ·cases x with
      | some b => simp at hi
      | none =>
       obtain rfl : i = p := by simpa using hi
       refine ap a _ w _ ⟨fun _ => hS _ _ _ (hJ _ _ _ _ hj), ?_⟩
       rw [show Lst c (none : Option Nat).isSome y.isSome = Lst c false y.isSome from rfl, G.setp c _ hlt]
       exact ih c (some w.heap.size) y a _ hc (by simp at hm ⊢; omega) (hJ _ _ _ _ hj) (zs_new _ _ _ (hl _ _ _ hj)) (zs_alloc hy _)
     ·cases y with
      | some b => simp at hi
      | none =>
       obtain rfl : i = q := by simpa using hi
       refine aq a _ w _ ⟨fun _ => hS _ _ _ (hJ _ _ _ _ hj), ?_⟩
       rw [show Lst c x.isSome (none : Option Nat).isSome = Lst c x.isSome false from rfl, G.setq c _ hlt]
       exact ih c x (some w.heap.size) a _ hc (by simp at hm ⊢; omega) (hJ _ _ _ _ hj) (zs_alloc hx _) (zs_new _ _ _ (hl _ _ _ hj))
 intro a w hj
 have := main (C + 1 + 1) 0 none none a w (Nat.zero_le _) (by simp) hj (zs_none _ _ _ _) (zs_none _ _ _ _)
 rw [show n0 + 2 + k0 + C = n0 + k0 + (C + 1 + 1) by omega]
 exact this
theorem grid0 {A0 : Go.Act} {w0 : World} (G : GridS P md ops C cop dst p q dp dq tp tq zp zq Lst Lst') (J : Go.Act → Nat → Go.Act → World → Prop) (J' : Go.Act → Go.Act → World → Prop) (n0 k0 lo : Nat)
  (hJ : ∀ c a w o, J A0 c a w → J A0 c a (w.alloc o)) (hJ' : ∀ a w o, J' A0 a w → J' A0 a (w.alloc o)) (hS : ∀ c a w, J A0 c a w → S w) (hS' : ∀ a w, J' A0 a w → S w) (hl : ∀ c a w, J A0 c a w → lo ≤ w.heap.size) (hl' : ∀ a w, J' A0 a w → lo ≤ w.heap.size)
  (hcall : ∀ c a w x y, c < C → J A0 c a w → zs lo tp zp x w → zs lo tq zq y w → wpOp P ops Q (cop c) (fun a' w' => ∃ v, a' = (fr dp dq a x y).put (some (dst c)) v ∧ J A0 (c + 1) (a.put (some (dst c)) v) w' ∧ zs lo tp zp x w' ∧ zs lo tq zq y w') (fr dp dq a x y) w)
  (htake : ∀ a w x y n, J A0 C a w → zs lo tp zp x w → zs lo tq zq y w → (∀ a', J' A0 a' w → wpAnyZ P md ops Q S z n (Lst' x.isSome y.isSome) (fr dp dq a' x y) w) → wpAnyZ P md ops Q S z (n + k0) (Lst C x.isSome y.isSome) (fr dp dq a x y) w)
  (hfin : ∀ a w b c, J' A0 a w → zs lo tp zp (some b) w → zs lo tq zq (some c) w → wpAnyZ P md ops Q S z n0 (Lst' true true) (fr dp dq a (some b) (some c)) w)
  (h0 : J A0 0 A0 w0) : wpAnyZ P md ops Q S z (n0 + 2 + k0 + C) (Lst 0 false false) A0 w0 := grid G (J A0) (J' A0) n0 k0 lo hJ hJ' hS hS' hl hl' hcall htake hfin A0 w0 h0
end
end Go.Proofs.YtpbaobmegomfpabGreatDoor
namespace Go.Proofs.YtpbaobmegomfpabGreatDoor
open Go.RowKit
theorem cell_sty {w : World} {p q : Addr} {u v : Value} (hp : p.block ≠ q.block) (h : w.cell? q = some v) : (w.setCell p u).cell? q = some v := (World.cell?_setCell_other _ _ _ _ (fun e => hp (by rw [e]))).trans h
theorem WldP.off {w w' : World} {P : Nat → Prop} {R : Nat} {r s : Value} {W : Wd} (h : WldP w P r s W) (h2 : NoTwo w R) (hs : NoSes w R) (hz : w'.heap.size = w.heap.size) (hk : ∀ b, b ≠ R → w'.heap[b]? = w.heap[b]?) : WldP w' P r s W := by
 have hw : Wld w' w'.heap.size r s W := by rw [hz]; exact h.wld.off h2 hs hk
 refine ⟨hw, h.rows, fun hn b off n c e => ⟨(h.ses hn b off n c e).1, fun k j v hk' hj hv => ?_⟩⟩
 obtain ⟨b', off', c', e', hb, hc⟩ := h.wld.sess.cells hn
 have he : b = b' ∧ off = off' := by rw [e] at e'; injection e' with e'; injection e' with e'; injection e' with e1 e2; exact ⟨e1, e2⟩
 obtain ⟨rfl, rfl⟩ := he
 have hne : b ≠ R := by
  rintro rfl
  obtain ⟨v1, v2, v3, v4, q⟩ := hc 0 hn
  obtain ⟨A, c', hv', _⟩ := q.l1.form
  have := q.c1
  rw [hv'] at this
  exact hs _ _ _ _ _ q.c0 this
 rw [World.cell?_of_block (hk b hne)] at hv
 exact (h.ses hn b off n c e).2 k j v hk' hj hv
theorem made_sess {w : World} {S n : Nat} (h : RowTo w S 115 (n * 5) (madeCells #[.int .i64 0, .slice none 0 0, .slice none 0 0, .slice none 0 0, .slice none 0 0] (n * 5)).toList) (hn : n ≤ 8) : Sss w w.heap.size (.slice (some ⟨S, 0, none⟩) n n) (List.replicate n Sess.zero) := by
 refine ⟨⟨some ⟨S, 0, none⟩, n, by simp, by simp⟩, by simp; omega, fun hp => ⟨S, 0, n, by simp, h.lt, fun i hi => ?_⟩⟩
 simp only [List.length_replicate] at hi
 have hlen : (madeCells #[Value.int .i64 0, .slice none 0 0, .slice none 0 0, .slice none 0 0, .slice none 0 0] (n * 5)).toList.length = n * 5 := by simp [madeCells]
 have c : ∀ j, j < 5 → w.cell? ⟨S, 0 + i * 5 + j, none⟩ = [Value.int .i64 0, .slice none 0 0, .slice none 0 0, .slice none 0 0, .slice none 0 0][j]? := fun j hj => by
  have hlt : 0 + i * 5 + j < (madeCells #[Value.int .i64 0, .slice none 0 0, .slice none 0 0, .slice none 0 0, .slice none 0 0] (n * 5)).toList.length := by rw [hlen]; omega
  rw [h.cell hlt]
  have e : (0 + i * 5 + j) % 5 = j := by omega
  simp only [madeCells, Array.toList_ofFn, List.getElem_ofFn]
  match j, hj, e with
  | 0, _, e => simp [e]
  | 1, _, e => simp [e]
  | 2, _, e => simp [e]
  | 3, _, e => simp [e]
  | 4, _, e => simp [e]
 simp only [List.getElem_replicate]
 exact ⟨_, _, _, _, c 0 (by omega), c 1 (by omega), c 2 (by omega), c 3 (by omega), c 4 (by omega), Lst.none_ _ _, Lst.none_ _ _, Lst.none_ _ _, Lst.none_ _ _⟩
section
variable {wr : World} {c : Value} {x : Value × Value × Value} {V : Wd} {an : Ans} {st : Int} {A0 : Go.Act}
end
structure NewAt (wr w9 : World) (b1 c1 : Nat) (V : Wd) (a : Ans) (st : Int) (r2 s2 : Value) : Prop where
 b : RowTo w9 b1 39 2 [r2, s2]
 c : RowTo w9 c1 46 3 [.int .i64 a.kind, .string a.text, .int .i64 st]
 wld : WldP w9 (fun b => wr.heap.size ≤ b) r2 s2 V
 bel : Below wr.heap.size wr w9
 lb : wr.heap.size ≤ b1
 lc : wr.heap.size ≤ c1
 ne : b1 ≠ c1
theorem new_at {wr wc : World} {b1 c1 : Nat} {V : Wd} {a : Ans} {st : Int} {r2 s2 : Value} (hX : RowTo wc b1 39 2 [.slice none 0 0, .slice none 0 0]) (hY : RowTo wc c1 46 3 [.int .i64 0, .string ⟨#[]⟩, .int .i64 0]) (hw : WldP wc (fun b => wr.heap.size ≤ b) r2 s2 V) (hb : Below wr.heap.size wr wc) (lb : wr.heap.size ≤ b1) (lc : wr.heap.size ≤ c1) (hbc : b1 ≠ c1) :
  NewAt wr (((((wc.setCell ⟨b1, 0, none⟩ r2).setCell ⟨b1, 1, none⟩ s2).setCell ⟨c1, 0, none⟩ (.int .i64 a.kind)).setCell ⟨c1, 1, none⟩ (.string a.text)).setCell ⟨c1, 2, none⟩ (.int .i64 st)) b1 c1 V a st r2 s2 := by
 have Y1 := hY.oth2 hbc r2 s2
 refine ⟨(hX.set2 r2 s2).oth3 (Ne.symm hbc) _ _ _, Y1.set3 _ _ _, ?_, bel_set3 (bel_set2 hb lb _ _) lc _ _ _, lb, lc, hbc⟩
 refine WldP.off (R := c1) (w := (wc.setCell ⟨b1, 0, none⟩ r2).setCell ⟨b1, 1, none⟩ s2) ?_ (noTwo_answer Y1) (noSes_answer Y1) (by simp [World.setCell]) (fun b hb => by rw [Below.heap_setCell _ _ _ _ hb, Below.heap_setCell _ _ _ _ hb, Below.heap_setCell _ _ _ _ hb])
 exact hw.off (noTwo_world hX) (noSes_world hX) (by simp [World.setCell]) (fun b hb => by rw [Below.heap_setCell _ _ _ _ hb, Below.heap_setCell _ _ _ _ hb])
end Go.Proofs.YtpbaobmegomfpabGreatDoor
namespace Go.Proofs.YtpbaobmegomfpabGreatDoor
open Go.RowKit
def putsN (A0 : Go.Act) (vs : Nat → Nat × Value) : Nat → Go.Act
 | 0 => A0
 | c + 1 => (putsN A0 vs c).put (some (vs c).1) (vs c).2
def DJ (wr : World) (C : Nat) (vs : Nat → Nat × Value) (dl : Nat) (res : Value → Value → Value) (Post : Value → Value → World → Prop) (A0 : Go.Act) (c : Nat) (f : Go.Act) (wc : World) : Prop :=
 Below wr.heap.size wr wc ∧ (c ≤ C → f = putsN A0 vs c) ∧ (C < c → ∃ r2 s2, f = (putsN A0 vs C).put (some dl) (res r2 s2) ∧ Post r2 s2 wc)
def DJ' (wr : World) (F : Go.Act → Value → Value → Go.Act) (Post : Value → Value → World → Prop) (A0 : Go.Act) (f : Go.Act) (wc : World) : Prop :=
 Below wr.heap.size wr wc ∧ ∃ r2 s2, f = F A0 r2 s2 ∧ Post r2 s2 wc
section
variable {wr : World} {C : Nat} {vs : Nat → Nat × Value} {dl : Nat} {res : Value → Value → Value} {Post : Value → Value → World → Prop} {F : Go.Act → Value → Value → Go.Act} {A0 : Go.Act}
theorem dj_alloc (hP : ∀ r s w o, Post r s w → Post r s (w.alloc o)) (c : Nat) (f : Go.Act) (w : World) (o : Obj) (h : DJ wr C vs dl res Post A0 c f w) : DJ wr C vs dl res Post A0 c f (w.alloc o) :=
 ⟨h.1.alloc h.1.size o, h.2.1, fun hc => by obtain ⟨r2, s2, h1, h2⟩ := h.2.2 hc; exact ⟨r2, s2, h1, hP _ _ _ _ h2⟩⟩
theorem dj'_alloc (hP : ∀ r s w o, Post r s w → Post r s (w.alloc o)) (f : Go.Act) (w : World) (o : Obj) (h : DJ' wr F Post A0 f w) : DJ' wr F Post A0 f (w.alloc o) := by
 obtain ⟨h0, r2, s2, h1, h2⟩ := h
 exact ⟨h0.alloc h0.size o, r2, s2, h1, hP _ _ _ _ h2⟩
end
theorem wldP_alloc {P : Nat → Prop} {V : Wd} (r s : Value) (w : World) (o : Obj) (h : WldP w P r s V) : WldP (w.alloc o) P r s V := h.below ((Below.refl w.heap.size w).alloc (nL _) o)
end Go.Proofs.YtpbaobmegomfpabGreatDoor
namespace Go.Proofs.YtpbaobmegomfpabGreatDoor
open Go.RowKit
theorem PMem.off {X : Nat} {w w' : World} {base P R : Nat} {f : Nat → Value} {G : Nat → Option Nat} {mode : Int} {m : Mach PE} (h : PMem X w base P f G mode m) (h2 : NoTwo w R) (hs : NoSes w R) (hG : ∀ i, G i ≠ some R) (hz : w'.heap.size = w.heap.size) (hk : ∀ b, b ≠ R → w'.heap[b]? = w.heap[b]?) : PMem X w' base P f G mode m := by
 have hP : P ≠ R := fun e => hG 0 (by rw [h.p0, e])
 have ll : ∀ {v : Value} {l : PL}, Lst w w.heap.size v l ∧ InP (Free G) v l → Lst w' w'.heap.size v l ∧ InP (Free G) v l := fun a => ⟨by rw [hz]; exact a.1.offN h2 hk, a.2⟩
 exact ⟨h.row.same (hk P hP), h.p0, fun i b hb => by rw [hz]; exact h.lo i b hb, h.inj, fun k a b c => (h.sl k a b c).keep fun g hg => hk g (fun e => hG k (by rw [hg, e])), h.md, h.wld.off h2 hs hz hk, h.bytes, h.has, h.srv, fun c hc => ll (h.set c hc), fun c hc => ll (h.prep c hc)⟩
theorem PMem.ans3 {X : Nat} {w : World} {base P R : Nat} {f : Nat → Value} {G : Nat → Option Nat} {mode : Int} {m : Mach PE} {x y : Int} {s : ByteArray} (h : PMem X w base P f G mode m) (hR : RowTo w R 46 3 [.int .i64 x, .string s, .int .i64 y]) (hG : ∀ i, G i ≠ some R) (a b c : Value) : PMem X (((w.setCell ⟨R, 0, none⟩ a).setCell ⟨R, 1, none⟩ b).setCell ⟨R, 2, none⟩ c) base P f G mode m :=
 h.off (noTwo_answer hR) (noSes_answer hR) hG (by simp [World.setCell]) fun b' hb => by rw [Below.heap_setCell _ _ _ _ hb, Below.heap_setCell _ _ _ _ hb, Below.heap_setCell _ _ _ _ hb]
end Go.Proofs.YtpbaobmegomfpabGreatDoor
namespace Go.Proofs.YtpbaobmegomfpabGreatDoor
open Go.RowKit
structure Leads (w : World) : Prop where
 room : 0 < w.heap.size
 cell : ∀ k, k ≤ 4 → w.cell? ⟨0, k, none⟩ = some (.string (leadAt k))
theorem Leads.below {w w' : World} (h : Leads w) (hb : Below w.heap.size w w') : Leads w' :=
 ⟨Nat.lt_of_lt_of_le h.room hb.size, fun k hk => (hb.cell (p := ⟨0, k, none⟩) h.room).trans (h.cell k hk)⟩
theorem Leads.alloc {w : World} (h : Leads w) (o : Obj) : Leads (w.alloc o) := h.below ((Below.refl _ _).alloc (nL _) _)
theorem mark_cut : ∀ st, st ≤ 2 → (⟨#[73, 84, 70]⟩ : ByteArray).extract st (st + 1) = markAt st := by decide
theorem mark_size : ∀ st, st ≤ 2 → ((⟨#[73, 84, 70]⟩ : ByteArray).extract st (st + 1)).size = 1 := by decide
theorem lead_size : ∀ k, k ≤ 4 → (leadAt k).size ≤ 4 := by decide
theorem tell_sum (st k : Nat) (hst : st ≤ 2) (hk : k ≤ 4) (x : ByteArray) (hs : x.size ≤ 60) :
  ((⟨#[73, 84, 70]⟩ : ByteArray).extract st (st + 1)).size + (leadAt k).size ≤ 9223372036854775807 ∧ ((⟨#[73, 84, 70]⟩ : ByteArray).extract st (st + 1) ++ leadAt k).size + x.size ≤ 9223372036854775807 := by
 have h1 := mark_size st hst
 have h2 := lead_size k hk
 rw [ByteArray.size_append]
 omega
set_option maxHeartbeats 1000000 in
theorem tell_1_0 (x : ByteArray) (w : World) (hL : Leads w) (hs : x.size ≤ 60) (e1 : x.toList.isEmpty = true) :
  Calls Tryz.prog 13 #[.agg #[.int .i64 1, .string x, .int .i64 0]] w fun e w' => e = .returned (.tuple #[.string (tellT 1 0 x), .int .i64 0]) ∧ Below w.heap.size w w' := by
 have ht := hD (show tellT 1 0 x = ((⟨#[73, 84, 70]⟩ : ByteArray).extract 0 1 ++ leadAt 1) ++ x by unfold tellT; rw [← mark_cut 0 (by omega)])
 have hz := tell_sum 0 1 (by omega) (by omega) x hs
 have a1 := fun W => run_string_add_sum (P := Tryz.prog) W ((⟨#[73, 84, 70]⟩ : ByteArray).extract 0 1) (leadAt 1) hz.1
 have a2 := fun W => run_string_add_sum (P := Tryz.prog) W ((⟨#[73, 84, 70]⟩ : ByteArray).extract 0 1 ++ leadAt 1) x hz.2
 have d5 : decide (60 < (x.size : Int)) = false := decide_eq_false (by omega)
 have hc := hL.cell 1 (by omega)
 have hroom := hL.room
 have hroom' : 0 ≠ w.heap.size := by omega
 have g1 : IntKind.i64.wrap 1 = 1 := rfl
 clear hL hz
 go_enter Tryz.func13, Tryz.ntmps13
 go_wp2
 go_quiet (fail)
 go_wp2
 go_ret2
 exact ⟨by rw [ht.out]; rfl, below_drewN ((Below.refl _ _).alloc (nL _) _) nq⟩
set_option maxHeartbeats 1000000 in
theorem tell_1_1 (x : ByteArray) (w : World) (hL : Leads w) (hs : x.size ≤ 60) (e1 : x.toList.isEmpty = true) :
  Calls Tryz.prog 13 #[.agg #[.int .i64 1, .string x, .int .i64 1]] w fun e w' => e = .returned (.tuple #[.string (tellT 1 1 x), .int .i64 0]) ∧ Below w.heap.size w w' := by
 have ht := hD (show tellT 1 1 x = ((⟨#[73, 84, 70]⟩ : ByteArray).extract 1 2 ++ leadAt 1) ++ x by unfold tellT; rw [← mark_cut 1 (by omega)])
 have hz := tell_sum 1 1 (by omega) (by omega) x hs
 have a1 := fun W => run_string_add_sum (P := Tryz.prog) W ((⟨#[73, 84, 70]⟩ : ByteArray).extract 1 2) (leadAt 1) hz.1
 have a2 := fun W => run_string_add_sum (P := Tryz.prog) W ((⟨#[73, 84, 70]⟩ : ByteArray).extract 1 2 ++ leadAt 1) x hz.2
 have d5 : decide (60 < (x.size : Int)) = false := decide_eq_false (by omega)
 have hc := hL.cell 1 (by omega)
 have hroom := hL.room
 have hroom' : 0 ≠ w.heap.size := by omega
 have g1 : IntKind.i64.wrap 2 = 2 := rfl
 clear hL hz
 go_enter Tryz.func13, Tryz.ntmps13
 go_wp2
 go_quiet (fail)
 go_wp2
 go_ret2
 exact ⟨by rw [ht.out]; rfl, below_drewN ((Below.refl _ _).alloc (nL _) _) nq⟩
set_option maxHeartbeats 1000000 in
theorem tell_1_2 (x : ByteArray) (w : World) (hL : Leads w) (hs : x.size ≤ 60) (e1 : x.toList.isEmpty = true) :
  Calls Tryz.prog 13 #[.agg #[.int .i64 1, .string x, .int .i64 2]] w fun e w' => e = .returned (.tuple #[.string (tellT 1 2 x), .int .i64 0]) ∧ Below w.heap.size w w' := by
 have ht := hD (show tellT 1 2 x = ((⟨#[73, 84, 70]⟩ : ByteArray).extract 2 3 ++ leadAt 1) ++ x by unfold tellT; rw [← mark_cut 2 (by omega)])
 have hz := tell_sum 2 1 (by omega) (by omega) x hs
 have a1 := fun W => run_string_add_sum (P := Tryz.prog) W ((⟨#[73, 84, 70]⟩ : ByteArray).extract 2 3) (leadAt 1) hz.1
 have a2 := fun W => run_string_add_sum (P := Tryz.prog) W ((⟨#[73, 84, 70]⟩ : ByteArray).extract 2 3 ++ leadAt 1) x hz.2
 have d5 : decide (60 < (x.size : Int)) = false := decide_eq_false (by omega)
 have hc := hL.cell 1 (by omega)
 have hroom := hL.room
 have hroom' : 0 ≠ w.heap.size := by omega
 have g1 : IntKind.i64.wrap 3 = 3 := rfl
 clear hL hz
 go_enter Tryz.func13, Tryz.ntmps13
 go_wp2
 go_quiet (fail)
 go_wp2
 go_ret2
 exact ⟨by rw [ht.out]; rfl, below_drewN ((Below.refl _ _).alloc (nL _) _) nq⟩
set_option maxHeartbeats 1000000 in
theorem tell_2_0 (x : ByteArray) (w : World) (hL : Leads w) (hs : x.size ≤ 60) (e1 : x.toList.isEmpty = false) :
  Calls Tryz.prog 13 #[.agg #[.int .i64 2, .string x, .int .i64 0]] w fun e w' => e = .returned (.tuple #[.string (tellT 2 0 x), .int .i64 0]) ∧ Below w.heap.size w w' := by
 have ht := hD (show tellT 2 0 x = ((⟨#[73, 84, 70]⟩ : ByteArray).extract 0 1 ++ leadAt 2) ++ x by unfold tellT; rw [← mark_cut 0 (by omega)])
 have hz := tell_sum 0 2 (by omega) (by omega) x hs
 have a1 := fun W => run_string_add_sum (P := Tryz.prog) W ((⟨#[73, 84, 70]⟩ : ByteArray).extract 0 1) (leadAt 2) hz.1
 have a2 := fun W => run_string_add_sum (P := Tryz.prog) W ((⟨#[73, 84, 70]⟩ : ByteArray).extract 0 1 ++ leadAt 2) x hz.2
 have d5 : decide (60 < (x.size : Int)) = false := decide_eq_false (by omega)
 have hc := hL.cell 2 (by omega)
 have hroom := hL.room
 have hroom' : 0 ≠ w.heap.size := by omega
 have g1 : IntKind.i64.wrap 1 = 1 := rfl
 clear hL hz
 go_enter Tryz.func13, Tryz.ntmps13
 go_wp2
 go_quiet (fail)
 go_wp2
 go_ret2
 exact ⟨by rw [ht.out]; rfl, below_drewN ((Below.refl _ _).alloc (nL _) _) nq⟩
set_option maxHeartbeats 1000000 in
theorem tell_2_1 (x : ByteArray) (w : World) (hL : Leads w) (hs : x.size ≤ 60) (e1 : x.toList.isEmpty = false) :
  Calls Tryz.prog 13 #[.agg #[.int .i64 2, .string x, .int .i64 1]] w fun e w' => e = .returned (.tuple #[.string (tellT 2 1 x), .int .i64 0]) ∧ Below w.heap.size w w' := by
 have ht := hD (show tellT 2 1 x = ((⟨#[73, 84, 70]⟩ : ByteArray).extract 1 2 ++ leadAt 2) ++ x by unfold tellT; rw [← mark_cut 1 (by omega)])
 have hz := tell_sum 1 2 (by omega) (by omega) x hs
 have a1 := fun W => run_string_add_sum (P := Tryz.prog) W ((⟨#[73, 84, 70]⟩ : ByteArray).extract 1 2) (leadAt 2) hz.1
 have a2 := fun W => run_string_add_sum (P := Tryz.prog) W ((⟨#[73, 84, 70]⟩ : ByteArray).extract 1 2 ++ leadAt 2) x hz.2
 have d5 : decide (60 < (x.size : Int)) = false := decide_eq_false (by omega)
 have hc := hL.cell 2 (by omega)
 have hroom := hL.room
 have hroom' : 0 ≠ w.heap.size := by omega
 have g1 : IntKind.i64.wrap 2 = 2 := rfl
 clear hL hz
 go_enter Tryz.func13, Tryz.ntmps13
 go_wp2
 go_quiet (fail)
 go_wp2
 go_ret2
 exact ⟨by rw [ht.out]; rfl, below_drewN ((Below.refl _ _).alloc (nL _) _) nq⟩
set_option maxHeartbeats 1000000 in
theorem tell_2_2 (x : ByteArray) (w : World) (hL : Leads w) (hs : x.size ≤ 60) (e1 : x.toList.isEmpty = false) :
  Calls Tryz.prog 13 #[.agg #[.int .i64 2, .string x, .int .i64 2]] w fun e w' => e = .returned (.tuple #[.string (tellT 2 2 x), .int .i64 0]) ∧ Below w.heap.size w w' := by
 have ht := hD (show tellT 2 2 x = ((⟨#[73, 84, 70]⟩ : ByteArray).extract 2 3 ++ leadAt 2) ++ x by unfold tellT; rw [← mark_cut 2 (by omega)])
 have hz := tell_sum 2 2 (by omega) (by omega) x hs
 have a1 := fun W => run_string_add_sum (P := Tryz.prog) W ((⟨#[73, 84, 70]⟩ : ByteArray).extract 2 3) (leadAt 2) hz.1
 have a2 := fun W => run_string_add_sum (P := Tryz.prog) W ((⟨#[73, 84, 70]⟩ : ByteArray).extract 2 3 ++ leadAt 2) x hz.2
 have d5 : decide (60 < (x.size : Int)) = false := decide_eq_false (by omega)
 have hc := hL.cell 2 (by omega)
 have hroom := hL.room
 have hroom' : 0 ≠ w.heap.size := by omega
 have g1 : IntKind.i64.wrap 3 = 3 := rfl
 clear hL hz
 go_enter Tryz.func13, Tryz.ntmps13
 go_wp2
 go_quiet (fail)
 go_wp2
 go_ret2
 exact ⟨by rw [ht.out]; rfl, below_drewN ((Below.refl _ _).alloc (nL _) _) nq⟩
set_option maxHeartbeats 1000000 in
theorem tell_3_0 (x : ByteArray) (w : World) (hL : Leads w) (hs : x.size ≤ 60) (e1 : x.toList.isEmpty = true) :
  Calls Tryz.prog 13 #[.agg #[.int .i64 3, .string x, .int .i64 0]] w fun e w' => e = .returned (.tuple #[.string (tellT 3 0 x), .int .i64 0]) ∧ Below w.heap.size w w' := by
 have ht := hD (show tellT 3 0 x = ((⟨#[73, 84, 70]⟩ : ByteArray).extract 0 1 ++ leadAt 3) ++ x by unfold tellT; rw [← mark_cut 0 (by omega)])
 have hz := tell_sum 0 3 (by omega) (by omega) x hs
 have a1 := fun W => run_string_add_sum (P := Tryz.prog) W ((⟨#[73, 84, 70]⟩ : ByteArray).extract 0 1) (leadAt 3) hz.1
 have a2 := fun W => run_string_add_sum (P := Tryz.prog) W ((⟨#[73, 84, 70]⟩ : ByteArray).extract 0 1 ++ leadAt 3) x hz.2
 have d5 : decide (60 < (x.size : Int)) = false := decide_eq_false (by omega)
 have hc := hL.cell 3 (by omega)
 have hroom := hL.room
 have hroom' : 0 ≠ w.heap.size := by omega
 have g1 : IntKind.i64.wrap 1 = 1 := rfl
 clear hL hz
 go_enter Tryz.func13, Tryz.ntmps13
 go_wp2
 go_quiet (fail)
 go_wp2
 go_ret2
 exact ⟨by rw [ht.out]; rfl, below_drewN ((Below.refl _ _).alloc (nL _) _) nq⟩
set_option maxHeartbeats 1000000 in
theorem tell_3_1 (x : ByteArray) (w : World) (hL : Leads w) (hs : x.size ≤ 60) (e1 : x.toList.isEmpty = true) :
  Calls Tryz.prog 13 #[.agg #[.int .i64 3, .string x, .int .i64 1]] w fun e w' => e = .returned (.tuple #[.string (tellT 3 1 x), .int .i64 0]) ∧ Below w.heap.size w w' := by
 have ht := hD (show tellT 3 1 x = ((⟨#[73, 84, 70]⟩ : ByteArray).extract 1 2 ++ leadAt 3) ++ x by unfold tellT; rw [← mark_cut 1 (by omega)])
 have hz := tell_sum 1 3 (by omega) (by omega) x hs
 have a1 := fun W => run_string_add_sum (P := Tryz.prog) W ((⟨#[73, 84, 70]⟩ : ByteArray).extract 1 2) (leadAt 3) hz.1
 have a2 := fun W => run_string_add_sum (P := Tryz.prog) W ((⟨#[73, 84, 70]⟩ : ByteArray).extract 1 2 ++ leadAt 3) x hz.2
 have d5 : decide (60 < (x.size : Int)) = false := decide_eq_false (by omega)
 have hc := hL.cell 3 (by omega)
 have hroom := hL.room
 have hroom' : 0 ≠ w.heap.size := by omega
 have g1 : IntKind.i64.wrap 2 = 2 := rfl
 clear hL hz
 go_enter Tryz.func13, Tryz.ntmps13
 go_wp2
 go_quiet (fail)
 go_wp2
 go_ret2
 exact ⟨by rw [ht.out]; rfl, below_drewN ((Below.refl _ _).alloc (nL _) _) nq⟩
set_option maxHeartbeats 1000000 in
theorem tell_3_2 (x : ByteArray) (w : World) (hL : Leads w) (hs : x.size ≤ 60) (e1 : x.toList.isEmpty = true) :
  Calls Tryz.prog 13 #[.agg #[.int .i64 3, .string x, .int .i64 2]] w fun e w' => e = .returned (.tuple #[.string (tellT 3 2 x), .int .i64 0]) ∧ Below w.heap.size w w' := by
 have ht := hD (show tellT 3 2 x = ((⟨#[73, 84, 70]⟩ : ByteArray).extract 2 3 ++ leadAt 3) ++ x by unfold tellT; rw [← mark_cut 2 (by omega)])
 have hz := tell_sum 2 3 (by omega) (by omega) x hs
 have a1 := fun W => run_string_add_sum (P := Tryz.prog) W ((⟨#[73, 84, 70]⟩ : ByteArray).extract 2 3) (leadAt 3) hz.1
 have a2 := fun W => run_string_add_sum (P := Tryz.prog) W ((⟨#[73, 84, 70]⟩ : ByteArray).extract 2 3 ++ leadAt 3) x hz.2
 have d5 : decide (60 < (x.size : Int)) = false := decide_eq_false (by omega)
 have hc := hL.cell 3 (by omega)
 have hroom := hL.room
 have hroom' : 0 ≠ w.heap.size := by omega
 have g1 : IntKind.i64.wrap 3 = 3 := rfl
 clear hL hz
 go_enter Tryz.func13, Tryz.ntmps13
 go_wp2
 go_quiet (fail)
 go_wp2
 go_ret2
 exact ⟨by rw [ht.out]; rfl, below_drewN ((Below.refl _ _).alloc (nL _) _) nq⟩
set_option maxHeartbeats 1000000 in
theorem tell_4_0 (x : ByteArray) (w : World) (hL : Leads w) (hs : x.size ≤ 60) (e1 : x.toList.isEmpty = false) :
  Calls Tryz.prog 13 #[.agg #[.int .i64 4, .string x, .int .i64 0]] w fun e w' => e = .returned (.tuple #[.string (tellT 4 0 x), .int .i64 0]) ∧ Below w.heap.size w w' := by
 have ht := hD (show tellT 4 0 x = ((⟨#[73, 84, 70]⟩ : ByteArray).extract 0 1 ++ leadAt 4) ++ x by unfold tellT; rw [← mark_cut 0 (by omega)])
 have hz := tell_sum 0 4 (by omega) (by omega) x hs
 have a1 := fun W => run_string_add_sum (P := Tryz.prog) W ((⟨#[73, 84, 70]⟩ : ByteArray).extract 0 1) (leadAt 4) hz.1
 have a2 := fun W => run_string_add_sum (P := Tryz.prog) W ((⟨#[73, 84, 70]⟩ : ByteArray).extract 0 1 ++ leadAt 4) x hz.2
 have d5 : decide (60 < (x.size : Int)) = false := decide_eq_false (by omega)
 have hc := hL.cell 4 (by omega)
 have hroom := hL.room
 have hroom' : 0 ≠ w.heap.size := by omega
 have g1 : IntKind.i64.wrap 1 = 1 := rfl
 clear hL hz
 go_enter Tryz.func13, Tryz.ntmps13
 go_wp2
 go_quiet (fail)
 go_wp2
 go_ret2
 exact ⟨by rw [ht.out]; rfl, below_drewN ((Below.refl _ _).alloc (nL _) _) nq⟩
set_option maxHeartbeats 1000000 in
theorem tell_4_1 (x : ByteArray) (w : World) (hL : Leads w) (hs : x.size ≤ 60) (e1 : x.toList.isEmpty = false) :
  Calls Tryz.prog 13 #[.agg #[.int .i64 4, .string x, .int .i64 1]] w fun e w' => e = .returned (.tuple #[.string (tellT 4 1 x), .int .i64 0]) ∧ Below w.heap.size w w' := by
 have ht := hD (show tellT 4 1 x = ((⟨#[73, 84, 70]⟩ : ByteArray).extract 1 2 ++ leadAt 4) ++ x by unfold tellT; rw [← mark_cut 1 (by omega)])
 have hz := tell_sum 1 4 (by omega) (by omega) x hs
 have a1 := fun W => run_string_add_sum (P := Tryz.prog) W ((⟨#[73, 84, 70]⟩ : ByteArray).extract 1 2) (leadAt 4) hz.1
 have a2 := fun W => run_string_add_sum (P := Tryz.prog) W ((⟨#[73, 84, 70]⟩ : ByteArray).extract 1 2 ++ leadAt 4) x hz.2
 have d5 : decide (60 < (x.size : Int)) = false := decide_eq_false (by omega)
 have hc := hL.cell 4 (by omega)
 have hroom := hL.room
 have hroom' : 0 ≠ w.heap.size := by omega
 have g1 : IntKind.i64.wrap 2 = 2 := rfl
 clear hL hz
 go_enter Tryz.func13, Tryz.ntmps13
 go_wp2
 go_quiet (fail)
 go_wp2
 go_ret2
 exact ⟨by rw [ht.out]; rfl, below_drewN ((Below.refl _ _).alloc (nL _) _) nq⟩
set_option maxHeartbeats 1000000 in
theorem tell_4_2 (x : ByteArray) (w : World) (hL : Leads w) (hs : x.size ≤ 60) (e1 : x.toList.isEmpty = false) :
  Calls Tryz.prog 13 #[.agg #[.int .i64 4, .string x, .int .i64 2]] w fun e w' => e = .returned (.tuple #[.string (tellT 4 2 x), .int .i64 0]) ∧ Below w.heap.size w w' := by
 have ht := hD (show tellT 4 2 x = ((⟨#[73, 84, 70]⟩ : ByteArray).extract 2 3 ++ leadAt 4) ++ x by unfold tellT; rw [← mark_cut 2 (by omega)])
 have hz := tell_sum 2 4 (by omega) (by omega) x hs
 have a1 := fun W => run_string_add_sum (P := Tryz.prog) W ((⟨#[73, 84, 70]⟩ : ByteArray).extract 2 3) (leadAt 4) hz.1
 have a2 := fun W => run_string_add_sum (P := Tryz.prog) W ((⟨#[73, 84, 70]⟩ : ByteArray).extract 2 3 ++ leadAt 4) x hz.2
 have d5 : decide (60 < (x.size : Int)) = false := decide_eq_false (by omega)
 have hc := hL.cell 4 (by omega)
 have hroom := hL.room
 have hroom' : 0 ≠ w.heap.size := by omega
 have g1 : IntKind.i64.wrap 3 = 3 := rfl
 clear hL hz
 go_enter Tryz.func13, Tryz.ntmps13
 go_wp2
 go_quiet (fail)
 go_wp2
 go_ret2
 exact ⟨by rw [ht.out]; rfl, below_drewN ((Below.refl _ _).alloc (nL _) _) nq⟩
theorem tell_ok (k st : Nat) (x : ByteArray) (w : World) (hL : Leads w) (h : ¬ ((k : Int) < 1 ∨ 4 < (k : Int) ∨ (st : Int) < 0 ∨ 2 < (st : Int))) (h2 : ¬ ((decide ((k : Int) = 2 ∨ (k : Int) = 4) == x.toList.isEmpty) = true ∨ 60 < x.size)) :
  Calls Tryz.prog 13 #[.agg #[.int .i64 k, .string x, .int .i64 st]] w fun e w' => e = .returned (.tuple #[.string (tellT k st x), .int .i64 0]) ∧ Below w.heap.size w w' := by
 have hs : x.size ≤ 60 := by
  by_cases hl : 60 < x.size
  ·exact absurd (.inr hl) h2
  ·omega
 have hq : (decide ((k : Int) = 2 ∨ (k : Int) = 4) == x.toList.isEmpty) = false := by
  cases hq : (decide ((k : Int) = 2 ∨ (k : Int) = 4) == x.toList.isEmpty)
  ·rfl
  ·exact absurd (.inl hq) h2
 have hst : st = 0 ∨ st = 1 ∨ st = 2 := by omega
 have hk : k = 1 ∨ k = 2 ∨ k = 3 ∨ k = 4 := by omega
 clear h h2
 rcases hk with rfl | rfl | rfl | rfl
 ·have e1 : x.toList.isEmpty = true := by simpa using hq
  rcases hst with rfl | rfl | rfl
  ·exact tell_1_0 x w hL hs e1
  ·exact tell_1_1 x w hL hs e1
  ·exact tell_1_2 x w hL hs e1
 ·have e1 : x.toList.isEmpty = false := by simpa using hq
  rcases hst with rfl | rfl | rfl
  ·exact tell_2_0 x w hL hs e1
  ·exact tell_2_1 x w hL hs e1
  ·exact tell_2_2 x w hL hs e1
 ·have e1 : x.toList.isEmpty = true := by simpa using hq
  rcases hst with rfl | rfl | rfl
  ·exact tell_3_0 x w hL hs e1
  ·exact tell_3_1 x w hL hs e1
  ·exact tell_3_2 x w hL hs e1
 ·have e1 : x.toList.isEmpty = false := by simpa using hq
  rcases hst with rfl | rfl | rfl
  ·exact tell_4_0 x w hL hs e1
  ·exact tell_4_1 x w hL hs e1
  ·exact tell_4_2 x w hL hs e1
end Go.Proofs.YtpbaobmegomfpabGreatDoor
