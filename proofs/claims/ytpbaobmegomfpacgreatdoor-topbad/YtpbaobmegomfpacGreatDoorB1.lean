/-
  Texts of the proof, one behind the other: Math, Math2, Math3, BackM, Lst, Mem, Wld, BackM2, BackM5, BPlace, RefPlus, BIns, BIns2, Clone, BStore, BStoreA, BStoreB, BackM3, BackMap, BackM4, Math5, BackDo, BOwn, BCopy, BTx, BackPut, RefAt, RefMay, BCnt, BPut, BPutA, BPutB, BPutC, BPutD, BPutE, BPutF, BEnd, BEnd2, BExe, BExe2, BExe3, BExe4, Say1, Say1v, Say4, Say5, Say6, Stm, Say12, BExec, BExec2, BFit, Say7, Say8, Say9, Say10, BChk, BChk2, BCheck, BChkDo, BCopy2, BCopy3, BackKeep, AnsM, BDo, InP, WOff, Math4, PoolM, PoolM2, PoolM3, PIdx, SlM, RwM, DelP, PWo, WldP0, PoolM4, HouseM, RawM, BackLaws, HouseI, PoolW, PoolW2, PoolW3, PRead, WldP, OpenW, OpenR, Itoa, Picked, RawS, OrdersZ.
-/
import Derived.WalkKit
import Derived.Lib.Bytealg
import Derived.Below
import Derived.Lib.Hide
import Derived.Deep.Draws
import Derived.Laws.OwnMore
import Derived.Test.YtpbaobmegomfpacGreatDoorRows
import Derived.Deep.QuietTactic
import Derived.BigQuiet
import Derived.IntWalk
import Derived.WalkSmall
import Derived.Maps.AppendAt
import Derived.OwnWalk
import Derived.Shelf.Spec.SlicesInsert
import Derived.Lib.AppendZerosOnto
import Derived.Shelf.Pu.Clone
import Derived.Deep.RegionWith
import Derived.Deep.RegionHeld3
import Derived.Maps.OwnSet
import Derived.Maps.Views
import Derived.Laws.MakeOwn
import Derived.Laws.Entries
import Derived.Maps.Own
import Derived.Maps.OwnOps
import Derived.WalkArith
import Derived.WalkSpells
import Derived.WalkLawsBesides
import Derived.Maps.RangeWalk
import Derived.ArgAppend
import Derived.Deep.Upon
import Derived.Laws.IdiomCopy
import Derived.Tactics
import Derived.Lib.SliceRun
import Derived.Deep.Slices
import Derived.Deep.SlicePairs
import Derived.SizedLaws
import Derived.ProofKit
import Derived.Lib.SmallJoins
import Derived.OrdersHeld
import Derived.Deep.RegionHeld
set_option linter.unusedVariables false
set_option linter.unusedSimpArgs false
set_option maxRecDepth 100000
open List renaming getElem_toArray → gTA, getElem_cons_zero → gCZ, getElem_cons_succ → gCS, setIfInBounds_toArray → sTA, set_cons_zero → sCZ, set_cons_succ → sCS
open Go.Lib renaming hid → jD
open Nat renaming le_refl → nL
namespace Go.Proofs.YtpbaobmegomfpacGreatDoor
open Go.RowKit
def bndB (lo hi lim : Nat) (s : ByteArray) : Bool := decide (1 ≤ s.size) && decide (s.size ≤ lim) && s.data.toList.all fun c => decide (lo ≤ c.toNat) && decide (c.toNat ≤ hi)
def msg (k : UInt8) (s : ByteArray) : ByteArray := ⟨#[k, UInt8.ofNat s.size]⟩ ++ s
def pickI (n m : Int) : Int := (if n < 0 then -(n + 1) else n) % m
theorem pickI_neg {n m : Int} (h : n < 0) : pickI n m = -(n + 1) % m := by unfold pickI; rw [if_pos h]
theorem pickI_pos {n m : Int} (h : ¬ n < 0) : pickI n m = n % m := by unfold pickI; rw [if_neg h]
theorem pickI_bd (n : Int) {m : Int} (hm : 0 < m) : 0 ≤ pickI n m ∧ pickI n m < m := ⟨Int.emod_nonneg _ (by omega), Int.emod_lt_of_pos _ hm⟩
theorem ret_int {k : IntKind} {a b : Int} (h : a = b) : Ending.returned (.int k a) = .returned (.int k b) := by rw [h]
end Go.Proofs.YtpbaobmegomfpacGreatDoor
namespace Go.Proofs.YtpbaobmegomfpacGreatDoor
open Go.RowKit
def blank : List UInt8 → Nat
 | [] => 0
 | c :: l => if c == 32 then 0 else blank l + 1
def cutI (s : ByteArray) : Nat := blank s.data.toList
def cutA (s : ByteArray) : ByteArray := s.extract 0 (cutI s)
def cutB (s : ByteArray) : ByteArray := s.extract (cutI s + 1) s.size
def cutF (s : ByteArray) : Bool := decide (cutI s < s.size)
def wordL : Nat → List UInt8
 | 1 => [98, 101, 103, 105, 110]
 | 2 => [99, 111, 109, 109, 105, 116]
 | 3 => [114, 111, 108, 108, 98, 97, 99, 107]
 | 4 => [114, 101, 115, 101, 116]
 | 5 => [102, 97, 105, 108]
 | 6 => [103, 101, 116]
 | 7 => [114, 101, 97, 100]
 | 8 => [101, 120, 101, 99]
 | 9 => [115, 101, 116]
 | 10 => [112, 117, 116]
 | 11 => [112, 114, 101, 112]
 | _ => []
def wordAt (k : Nat) : ByteArray := ⟨(wordL k).toArray⟩
def kindL (l : List UInt8) : Nat := ((List.range 12).find? fun k => decide (1 ≤ k) && (wordL k == l)).getD 0
def kindN (s : ByteArray) : Nat := kindL s.data.toList
def splitBad (t : ByteArray) : Bool := (cutF t && (cutA (cutB t)).toList.isEmpty) || (cutF (cutB t) && (cutB (cutB t)).toList.isEmpty)
def splitE (t : ByteArray) : Int := if kindN (cutA t) = 0 then 3 else if splitBad t = true then 4 else 0
def plainV (k : Int) (v : ByteArray) : Bool := if k = 9 ∨ k = 10 then bndB 33 126 20 v else v.toList.isEmpty
def keyB (k : Int) (key : ByteArray) : Bool := if 6 ≤ k ∧ k ≤ 11 then bndB 97 122 8 key else key.toList.isEmpty
def prepB (t : ByteArray) : Bool := decide (splitE t = 0) && (decide (kindN (cutA t) = 6 ∨ kindN (cutA t) = 7 ∨ kindN (cutA t) = 10) && (bndB 97 122 8 (cutA (cutB t)) && plainV (kindN (cutA t)) (cutB (cutB t))))
def valueB (k : Int) (v : ByteArray) : Bool := if k = 11 then prepB v else plainV k v
def checkE (k : Int) (key v : ByteArray) : Int := if k < 1 ∨ 11 < k then 3 else if (keyB k key && valueB k v) = true then 0 else 4
def readE (t : ByteArray) : Int := if 60 < t.size then 1 else if splitE t = 0 then checkE (kindN (cutA t)) (cutA (cutB t)) (cutB (cutB t)) else splitE t
end Go.Proofs.YtpbaobmegomfpacGreatDoor
namespace Go.Proofs.YtpbaobmegomfpacGreatDoor
open Go.RowKit
end Go.Proofs.YtpbaobmegomfpacGreatDoor
namespace Go.Proofs.YtpbaobmegomfpacGreatDoor
open Go.RowKit
abbrev PL := List (ByteArray × ByteArray)
def eqB (a b : ByteArray) : Bool := a.toList == b.toList
def ltB (a b : ByteArray) : Bool := Op.bytesLess a.toList b.toList
def atL : PL → ByteArray → Option ByteArray
 | [], _ => none
 | p :: l, k => if eqB p.1 k then some p.2 else atL l k
def plusGo (k v : ByteArray) : Bool → PL → PL
 | done, [] => if done then [] else [(k, v)]
 | done, p :: l => (if !done && !ltB p.1 k then [(k, v)] else []) ++ ((if eqB p.1 k then [] else [p]) ++ plusGo k v (done || !ltB p.1 k) l)
def plusL (l : PL) (k v : ByteArray) : PL := plusGo k v false l
def risingB : PL → Bool
 | [] => true
 | [_] => true
 | p :: q :: l => ltB p.1 q.1 && risingB (q :: l)
def pairsB (l : PL) (most : Nat) (kind : Int) : Bool := (l.all fun p => decide (checkE kind p.1 p.2 = 0)) && (risingB l && decide (l.length ≤ most))
structure Sess where
 st : Int
 set : PL
 prep : PL
 sav : PL
 wr : PL
structure Wd where
 rows : PL
 ss : List Sess
end Go.Proofs.YtpbaobmegomfpacGreatDoor
namespace Go.Proofs.YtpbaobmegomfpacGreatDoor
open Go.RowKit
structure Lst (w : World) (B : Nat) (v : Value) (l : PL) : Prop where
 form : ∃ A c, v = .slice A l.length c ∧ l.length ≤ c
 bytes : l.length * 32 ≤ 140737488351232
 sizes : ∀ p ∈ l, p.1.size ≤ 140737488351232 ∧ p.2.size ≤ 140737488351232
 cells : 0 < l.length → ∃ b off c, v = .slice (some ⟨b, off, none⟩) l.length c ∧ b < B ∧
  ∀ i (h : i < l.length), w.cell? ⟨b, off + i * 2, none⟩ = some (.string l[i].1) ∧ w.cell? ⟨b, off + i * 2 + 1, none⟩ = some (.string l[i].2)
 nil : ∀ n c, v = .slice none n c → c = 0
theorem Lst.keep {w w' : World} {B B' : Nat} {v : Value} {l : PL} (h : Lst w B v l) (hB : B ≤ B') (hk : ∀ p : Addr, p.block < B → w'.cell? p = w.cell? p) : Lst w' B' v l := by
 refine ⟨h.form, h.bytes, h.sizes, fun hn => ?_, h.nil⟩
 obtain ⟨b, off, c, e, hb, hc⟩ := h.cells hn
 exact ⟨b, off, c, e, by omega, fun i hi => ⟨(hk _ hb).trans (hc i hi).1, (hk _ hb).trans (hc i hi).2⟩⟩
theorem Lst.below {w w' : World} {B : Nat} {v : Value} {l : PL} (h : Lst w B v l) (hb : Below B w w') : Lst w' B v l := h.keep (nL _) fun _ hp => hb.cell hp
theorem Lst.more {w : World} {B B' : Nat} {v : Value} {l : PL} (h : Lst w B v l) (hB : B ≤ B') : Lst w B' v l := h.keep hB fun _ _ => rfl
theorem Lst.alloc {w : World} {B : Nat} {v : Value} {l : PL} (h : Lst w B v l) (hB : B ≤ w.heap.size) (o : Obj) : Lst (w.alloc o) B v l := h.keep (nL _) fun p hp => World.cell?_alloc_lt w o p (by omega)
theorem Lst.drew {w : World} {B : Nat} {v : Value} {l : PL} (h : Lst w B v l) : Lst w.drew B v l := h.keep (nL _) fun _ _ => rfl
theorem Lst.setCell {w : World} {B : Nat} {v : Value} {l : PL} (h : Lst w B v l) {p : Addr} (hB : B ≤ p.block) (u : Value) : Lst (w.setCell p u) B v l :=
 h.keep (nL _) fun q hq => World.cell?_setCell_other w p q u (fun e => by subst e; omega)
theorem Lst.at {w : World} {B : Nat} {v : Value} {l : PL} (h : Lst w B v l) {k : Nat} (hk : k < l.length) :
  ∃ b off c, v = .slice (some ⟨b, off, none⟩) l.length c ∧ b < B ∧ w.cell? ⟨b, off + k * 2, none⟩ = some (.string l[k].1) ∧ w.cell? ⟨b, off + k * 2 + 1, none⟩ = some (.string l[k].2) := by
 obtain ⟨b, off, c, e, hb, hc⟩ := h.cells (by omega)
 exact ⟨b, off, c, e, hb, (hc k hk).1, (hc k hk).2⟩
theorem Lst.key {w : World} {B : Nat} {v : Value} {l : PL} (h : Lst w B v l) {k : Nat} (hk : k < l.length) : l[k].1.size ≤ 140737488351232 ∧ l[k].2.size ≤ 140737488351232 := h.sizes _ (List.getElem_mem hk)
theorem Lst.pt {w : World} {B n c : Nat} {A : Option Addr} {l : PL} (h : Lst w B (.slice A n c) l) {k : Nat} (hk : k < l.length) :
  ∃ b off, A = some ⟨b, off, none⟩ ∧ b < B ∧ w.cell? ⟨b, off + k * 2, none⟩ = some (.string l[k].1) ∧ w.cell? ⟨b, off + k * 2 + 1, none⟩ = some (.string l[k].2) := by
 obtain ⟨b, off, c', e, hb, hc⟩ := h.at hk
 injection e with e1 e2 e3
 exact ⟨b, off, e1, hb, hc⟩
end Go.Proofs.YtpbaobmegomfpacGreatDoor
namespace Go.Proofs.YtpbaobmegomfpacGreatDoor
open Go.RowKit
def RowTo (w : World) (g t n : Nat) (xs : List Value) : Prop := ∃ cur : Array Value, w.heap[g]? = some (.cells cur t (0, 0)) ∧ cur.size = n ∧ cur.toList.take xs.length = xs
section
variable {w w' : World} {g t n B : Nat} {xs : List Value}
theorem RowTo.lt (h : RowTo w g t n xs) : g < w.heap.size := by
 obtain ⟨cur, hh, _⟩ := h
 exact (Array.getElem?_eq_some_iff.1 hh).1
theorem RowTo.same (h : RowTo w g t n xs) (e : w'.heap[g]? = w.heap[g]?) : RowTo w' g t n xs := by
 obtain ⟨cur, hh, r⟩ := h
 exact ⟨cur, e.trans hh, r⟩
theorem RowTo.below (h : RowTo w g t n xs) (hb : Below B w w') (hg : g < B) : RowTo w' g t n xs := h.same (hb.block g hg)
theorem RowTo.alloc (h : RowTo w g t n xs) (o : Obj) : RowTo (w.alloc o) g t n xs := h.same (Below.heap_alloc _ _ _ h.lt)
theorem RowTo.drew (h : RowTo w g t n xs) : RowTo w.drew g t n xs := h
theorem RowTo.other (h : RowTo w g t n xs) {p : Addr} (hp : p.block ≠ g) (u : Value) : RowTo (w.setCell p u) g t n xs := h.same (Below.heap_setCell _ _ _ _ (fun e => hp e.symm))
theorem RowTo.cell (h : RowTo w g t n xs) {j : Nat} (hj : j < xs.length) : w.cell? ⟨g, j, none⟩ = some xs[j] := by
 obtain ⟨cur, hh, hs, hx⟩ := h
 unfold World.cell?
 simp only [hh]
 have e : cur[j]? = cur.toList[j]? := by simp
 show cur[j]? = _
 rw [e]
 have : cur.toList[j]? = (cur.toList.take xs.length)[j]? := by rw [List.getElem?_take, if_pos hj]
 rw [this, hx, List.getElem?_eq_getElem hj]
theorem RowTo.any (h : RowTo w g t n xs) {j : Nat} (hj : j < n) : ∃ u, w.cell? ⟨g, j, none⟩ = some u := by
 obtain ⟨cur, hh, hs, hx⟩ := h
 refine ⟨cur[j]'(by omega), ?_⟩
 unfold World.cell?
 simp only [hh]
 show cur[j]? = _
 rw [Array.getElem?_eq_getElem (by omega)]
theorem RowTo.frozen (h : RowTo w g t n xs) (j : Nat) : w.frozen? ⟨g, j, none⟩ = false := by
 obtain ⟨cur, hh, hs, hx⟩ := h
 unfold World.frozen?
 simp [hh]
theorem RowTo.put (h : RowTo w g t n xs) {j : Nat} (hj : j < xs.length) (u : Value) : RowTo (w.setCell ⟨g, j, none⟩ u) g t n (xs.set j u) := by
 obtain ⟨cur, hh, hs, hx⟩ := h
 refine ⟨cur.setIfInBounds j u, ?_, by simpa using hs, ?_⟩
 ·simp [World.setCell, Array.getElem?_modify, hh]
 ·rw [Array.toList_setIfInBounds, List.length_set, List.take_set, hx]
theorem RowTo.new (w : World) (cs : Array Value) (t : TypeId) : RowTo (w.alloc (.cells cs t)) w.heap.size t cs.size [] :=
 ⟨cs, heap_alloc_new w _, rfl, rfl⟩
theorem RowTo.whole (w : World) (cs : Array Value) (t : TypeId) : RowTo (w.alloc (.cells cs t)) w.heap.size t cs.size cs.toList :=
 ⟨cs, heap_alloc_new w _, rfl, by rw [List.take_of_length_le (by simp)]⟩
theorem RowTo.front (h : RowTo w g t n xs) (k : Nat) : RowTo w g t n (xs.take k) := by
 obtain ⟨cur, hh, hs, hx⟩ := h
 refine ⟨cur, hh, hs, ?_⟩
 rw [List.length_take, ← List.take_take, hx]
end
theorem bel_add' {B : Nat} {a b c : World} (h : Below B a b) (k : Below b.heap.size b c) (hB : B ≤ b.heap.size) : Below B a c := h.trans (k.mono hB)
end Go.Proofs.YtpbaobmegomfpacGreatDoor
namespace Go.Proofs.YtpbaobmegomfpacGreatDoor
open Go.RowKit
theorem Lst.step {w w' : World} {v : Value} {l : PL} (h : Lst w w.heap.size v l) (hb : Below w.heap.size w w') : Lst w' w'.heap.size v l := (h.below hb).more hb.size
theorem RowTo.nil {w : World} {g t n : Nat} {xs : List Value} (h : RowTo w g t n xs) : RowTo w g t n [] := h.front 0
section
variable {w : World} {S o t n : Nat} {a0 a1 a2 a3 a4 : Value}
end
end Go.Proofs.YtpbaobmegomfpacGreatDoor
namespace Go.Proofs.YtpbaobmegomfpacGreatDoor
open Go.RowKit
end Go.Proofs.YtpbaobmegomfpacGreatDoor
namespace Go.Proofs.YtpbaobmegomfpacGreatDoor
open Go.RowKit
end Go.Proofs.YtpbaobmegomfpacGreatDoor
namespace Go.Proofs.YtpbaobmegomfpacGreatDoor
open Go.RowKit
end Go.Proofs.YtpbaobmegomfpacGreatDoor
namespace Go.Proofs.YtpbaobmegomfpacGreatDoor
open Go.RowKit
section
variable {l out : PL} {key val : ByteArray} {k : Nat} {p : ByteArray × ByteArray} {r : PL}
end
end Go.Proofs.YtpbaobmegomfpacGreatDoor
namespace Go.Proofs.YtpbaobmegomfpacGreatDoor
open Go.RowKit Go.Lib
end Go.Proofs.YtpbaobmegomfpacGreatDoor
namespace Go.Proofs.YtpbaobmegomfpacGreatDoor
open Go.RowKit
end Go.Proofs.YtpbaobmegomfpacGreatDoor
namespace Go.Proofs.YtpbaobmegomfpacGreatDoor
open Go.RowKit
end Go.Proofs.YtpbaobmegomfpacGreatDoor
namespace Go.Proofs.YtpbaobmegomfpacGreatDoor
open Go.RowKit
end Go.Proofs.YtpbaobmegomfpacGreatDoor
namespace Go.Proofs.YtpbaobmegomfpacGreatDoor
open Go.RowKit
end Go.Proofs.YtpbaobmegomfpacGreatDoor
namespace Go.Proofs.YtpbaobmegomfpacGreatDoor
open Go.RowKit
end Go.Proofs.YtpbaobmegomfpacGreatDoor
namespace Go.Proofs.YtpbaobmegomfpacGreatDoor
open Go.RowKit
def heldB (ss : List Sess) (me : Int) (key : ByteArray) : Bool := (List.range ss.length).any fun i => decide ((i : Int) ≠ me) && ((ss[i]?).any fun s => (atL s.wr key).isSome)
def allF (out : PL) (l : PL) : PL := l.foldl (fun a p => plusL a p.1 ⟨#[]⟩) out
def allL (W : Wd) : PL := allF W.rows (W.ss.flatMap (·.wr))
structure SessOk (s : Sess) : Prop where
 lo : 0 ≤ s.st
 hi : s.st ≤ 2
 set : pairsB s.set 6 9 = true
 prep : pairsB s.prep 6 11 = true
 sav : pairsB s.sav 6 9 = true
 wr : pairsB s.wr 100 10 = true
 idle : s.st = 0 → s.sav = []
 tx : s.st ≠ 1 → s.wr = []
structure WorldOk (W : Wd) : Prop where
 rows : pairsB W.rows 100 10 = true
 many : W.ss.length ≤ 8
 sess : ∀ i (hi : i < W.ss.length), SessOk W.ss[i]
 apart : ∀ i (hi : i < W.ss.length), ∀ p ∈ W.ss[i].wr, heldB W.ss i p.1 = false
 all : (allL W).length ≤ 100
end Go.Proofs.YtpbaobmegomfpacGreatDoor
namespace Go.Proofs.YtpbaobmegomfpacGreatDoor
open Go.RowKit Go.Maps
end Go.Proofs.YtpbaobmegomfpacGreatDoor
namespace Go.Proofs.YtpbaobmegomfpacGreatDoor
open Go.RowKit
end Go.Proofs.YtpbaobmegomfpacGreatDoor
namespace Go.Proofs.YtpbaobmegomfpacGreatDoor
open Go.RowKit
end Go.Proofs.YtpbaobmegomfpacGreatDoor
namespace Go.Proofs.YtpbaobmegomfpacGreatDoor
open Go.RowKit
structure Ans where
 kind : Int
 text : ByteArray
def Wd.at (W : Wd) (i : Nat) : Sess := W.ss.getD i ⟨0, [], [], [], []⟩
def Wd.put (W : Wd) (i : Nat) (s : Sess) : Wd := ⟨W.rows, W.ss.set i s⟩
end Go.Proofs.YtpbaobmegomfpacGreatDoor
namespace Go.Proofs.YtpbaobmegomfpacGreatDoor
open Go.RowKit
theorem Lst.none_ (w : World) (B : Nat) : Lst w B (.slice none 0 0) [] := ⟨⟨none, 0, rfl, nL _⟩, by simp, by simp, fun h => absurd h (by simp), fun n c h => by injection h with _ _ h; exact h.symm⟩
end Go.Proofs.YtpbaobmegomfpacGreatDoor
namespace Go.Proofs.YtpbaobmegomfpacGreatDoor
open Go.RowKit
end Go.Proofs.YtpbaobmegomfpacGreatDoor
namespace Go.Proofs.YtpbaobmegomfpacGreatDoor
open Go.RowKit
end Go.Proofs.YtpbaobmegomfpacGreatDoor
namespace Go.Proofs.YtpbaobmegomfpacGreatDoor
open Go.RowKit
section
variable {W : Wd} (h : WorldOk W)
include h
end
end Go.Proofs.YtpbaobmegomfpacGreatDoor
namespace Go.Proofs.YtpbaobmegomfpacGreatDoor
open Go.RowKit
end Go.Proofs.YtpbaobmegomfpacGreatDoor
namespace Go.Proofs.YtpbaobmegomfpacGreatDoor
open Go.RowKit
end Go.Proofs.YtpbaobmegomfpacGreatDoor
namespace Go.Proofs.YtpbaobmegomfpacGreatDoor
open Go.RowKit Go.Maps Go.WideMaps
end Go.Proofs.YtpbaobmegomfpacGreatDoor
namespace Go.Proofs.YtpbaobmegomfpacGreatDoor
open Go.RowKit Go.Maps Go.WideMaps
end Go.Proofs.YtpbaobmegomfpacGreatDoor
namespace Go.Proofs.YtpbaobmegomfpacGreatDoor
open Go.RowKit Go.Maps Go.WideMaps
end Go.Proofs.YtpbaobmegomfpacGreatDoor
namespace Go.Proofs.YtpbaobmegomfpacGreatDoor
open Go.RowKit Go.Maps Go.WideMaps
end Go.Proofs.YtpbaobmegomfpacGreatDoor
namespace Go.Proofs.YtpbaobmegomfpacGreatDoor
open Go.RowKit Go.Maps Go.WideMaps
end Go.Proofs.YtpbaobmegomfpacGreatDoor
namespace Go.Proofs.YtpbaobmegomfpacGreatDoor
open Go.RowKit Go.Maps Go.WideMaps
end Go.Proofs.YtpbaobmegomfpacGreatDoor
namespace Go.Proofs.YtpbaobmegomfpacGreatDoor
open Go.RowKit Go.Maps Go.WideMaps
end Go.Proofs.YtpbaobmegomfpacGreatDoor
namespace Go.Proofs.YtpbaobmegomfpacGreatDoor
open Go.RowKit Go.Maps Go.WideMaps
theorem RowTo.out_ {w : World} {g t n : Nat} {xs : List Value} (h : RowTo w g t n xs) {j : Nat} (hj : n ≤ j) : w.cell? ⟨g, j, none⟩ = none := by
 obtain ⟨cur, hh, hs, hx⟩ := h
 unfold World.cell?
 simp only [hh]
 show cur[j]? = _
 exact Array.getElem?_eq_none (by omega)
theorem RowTo.type {w : World} {g t n t' n' : Nat} {xs ys : List Value} (h : RowTo w g t n xs) (k : RowTo w g t' n' ys) : t = t' := by
 obtain ⟨cur, hh, _⟩ := h
 obtain ⟨cur', hk, _⟩ := k
 rw [hh] at hk
 injection hk with hk
 injection hk
theorem Lst.off {w w' : World} {B R : Nat} {v : Value} {l : PL} {x y : Int} {s : ByteArray} (hR : RowTo w R 38 3 [.int .i64 x, .string s, .int .i64 y]) (h : Lst w B v l) (hk : ∀ b, b ≠ R → w'.heap[b]? = w.heap[b]?) : Lst w' B v l := by
 refine ⟨h.form, h.bytes, h.sizes, fun hn => ?_, h.nil⟩
 obtain ⟨b, off, c, e, hb, hc⟩ := h.cells hn
 have hne : b ≠ R := by
  rintro rfl
  obtain ⟨h1, h2⟩ := hc 0 hn
  rw [Nat.zero_mul, Nat.add_zero] at h1 h2
  have r0 := hR.cell (j := 0) (by simp)
  have r2 := hR.cell (j := 2) (by simp)
  simp only [gCZ, gCS] at r0 r2
  rcases Nat.lt_or_ge off 3 with ho | ho
  ·obtain rfl | rfl | rfl : off = 0 ∨ off = 1 ∨ off = 2 := by omega
   ·rw [r0] at h1; cases h1
   ·rw [r2] at h2; cases h2
   ·rw [r2] at h1; cases h1
  ·rw [hR.out_ ho] at h1; cases h1
 exact ⟨b, off, c, e, hb, fun i hi => ⟨(World.cell?_of_block (hk b hne)).trans (hc i hi).1, (World.cell?_of_block (hk b hne)).trans (hc i hi).2⟩⟩
end Go.Proofs.YtpbaobmegomfpacGreatDoor
namespace Go.Proofs.YtpbaobmegomfpacGreatDoor
open Go.RowKit
end Go.Proofs.YtpbaobmegomfpacGreatDoor
namespace Go.Proofs.YtpbaobmegomfpacGreatDoor
open Go.RowKit
end Go.Proofs.YtpbaobmegomfpacGreatDoor
namespace Go.Proofs.YtpbaobmegomfpacGreatDoor
open Go.RowKit
end Go.Proofs.YtpbaobmegomfpacGreatDoor
namespace Go.Proofs.YtpbaobmegomfpacGreatDoor
open Go.RowKit
end Go.Proofs.YtpbaobmegomfpacGreatDoor
namespace Go.Proofs.YtpbaobmegomfpacGreatDoor
open Go.RowKit
end Go.Proofs.YtpbaobmegomfpacGreatDoor
namespace Go.Proofs.YtpbaobmegomfpacGreatDoor
open Go.RowKit
end Go.Proofs.YtpbaobmegomfpacGreatDoor
namespace Go.Proofs.YtpbaobmegomfpacGreatDoor
open Go.RowKit
end Go.Proofs.YtpbaobmegomfpacGreatDoor
namespace Go.Proofs.YtpbaobmegomfpacGreatDoor
open Go.RowKit
end Go.Proofs.YtpbaobmegomfpacGreatDoor
namespace Go.Proofs.YtpbaobmegomfpacGreatDoor
open Go.RowKit
structure Words (w : World) : Prop where
 room : 1 < w.heap.size
 cell : ∀ k, k ≤ 11 → w.cell? ⟨1, k, none⟩ = some (.string (wordAt k))
theorem Words.below {w w' : World} (h : Words w) (hb : Below w.heap.size w w') : Words w' :=
 ⟨Nat.lt_of_lt_of_le h.room hb.size, fun k hk => (hb.cell (p := ⟨1, k, none⟩) h.room).trans (h.cell k hk)⟩
theorem Words.alloc {w : World} (h : Words w) (o : Obj) : Words (w.alloc o) := h.below ((Below.refl _ _).alloc (nL _) _)
theorem bel_trans {a b c : World} (h : Below a.heap.size a b) (k : Below b.heap.size b c) : Below a.heap.size a c := h.trans (k.mono h.size)
end Go.Proofs.YtpbaobmegomfpacGreatDoor
namespace Go.Proofs.YtpbaobmegomfpacGreatDoor
open Go.RowKit
end Go.Proofs.YtpbaobmegomfpacGreatDoor
namespace Go.Proofs.YtpbaobmegomfpacGreatDoor
open Go.RowKit
end Go.Proofs.YtpbaobmegomfpacGreatDoor
namespace Go.Proofs.YtpbaobmegomfpacGreatDoor
open Go.RowKit
end Go.Proofs.YtpbaobmegomfpacGreatDoor
namespace Go.Proofs.YtpbaobmegomfpacGreatDoor
open Go.RowKit
end Go.Proofs.YtpbaobmegomfpacGreatDoor
namespace Go.Proofs.YtpbaobmegomfpacGreatDoor
open Go.RowKit
end Go.Proofs.YtpbaobmegomfpacGreatDoor
namespace Go.Proofs.YtpbaobmegomfpacGreatDoor
open Go.RowKit
end Go.Proofs.YtpbaobmegomfpacGreatDoor
namespace Go.Proofs.YtpbaobmegomfpacGreatDoor
open Go.RowKit Go.Maps Go.WideMaps
end Go.Proofs.YtpbaobmegomfpacGreatDoor
namespace Go.Proofs.YtpbaobmegomfpacGreatDoor
open Go.RowKit
end Go.Proofs.YtpbaobmegomfpacGreatDoor
namespace Go.Proofs.YtpbaobmegomfpacGreatDoor
open Go.RowKit
end Go.Proofs.YtpbaobmegomfpacGreatDoor
namespace Go.Proofs.YtpbaobmegomfpacGreatDoor
open Go.RowKit
end Go.Proofs.YtpbaobmegomfpacGreatDoor
namespace Go.Proofs.YtpbaobmegomfpacGreatDoor
open Go.RowKit
end Go.Proofs.YtpbaobmegomfpacGreatDoor
namespace Go.Proofs.YtpbaobmegomfpacGreatDoor
open Go.RowKit
end Go.Proofs.YtpbaobmegomfpacGreatDoor
namespace Go.Proofs.YtpbaobmegomfpacGreatDoor
open Go.RowKit
end Go.Proofs.YtpbaobmegomfpacGreatDoor
namespace Go.Proofs.YtpbaobmegomfpacGreatDoor
open Go.RowKit
end Go.Proofs.YtpbaobmegomfpacGreatDoor
namespace Go.Proofs.YtpbaobmegomfpacGreatDoor
open Go.RowKit
end Go.Proofs.YtpbaobmegomfpacGreatDoor
namespace Go.Proofs.YtpbaobmegomfpacGreatDoor
open Go.RowKit
end Go.Proofs.YtpbaobmegomfpacGreatDoor
namespace Go.Proofs.YtpbaobmegomfpacGreatDoor
open Go.RowKit
end Go.Proofs.YtpbaobmegomfpacGreatDoor
namespace Go.Proofs.YtpbaobmegomfpacGreatDoor
open Go.RowKit
section
variable {W : Wd} {i : Nat} {s' : Sess}
end
end Go.Proofs.YtpbaobmegomfpacGreatDoor
namespace Go.Proofs.YtpbaobmegomfpacGreatDoor
open Go.RowKit
section
variable {W : Wd} {i : Nat}
end
end Go.Proofs.YtpbaobmegomfpacGreatDoor
namespace Go.Proofs.YtpbaobmegomfpacGreatDoor
open Go.RowKit
end Go.Proofs.YtpbaobmegomfpacGreatDoor
namespace Go.Proofs.YtpbaobmegomfpacGreatDoor
open Go.RowKit
end Go.Proofs.YtpbaobmegomfpacGreatDoor
namespace Go.Proofs.YtpbaobmegomfpacGreatDoor
open Go.RowKit
theorem RowTo.set3 {w : World} {R t : Nat} {a b c : Value} (h : RowTo w R t 3 [a, b, c]) (x y z : Value) : RowTo (((w.setCell ⟨R, 0, none⟩ x).setCell ⟨R, 1, none⟩ y).setCell ⟨R, 2, none⟩ z) R t 3 [x, y, z] := ((h.put (j := 0) (by simp) x).put (j := 1) (by simp) y).put (j := 2) (by simp) z
theorem RowTo.oth3 {w : World} {R g t n : Nat} {xs : List Value} (h : RowTo w g t n xs) (hne : R ≠ g) (x y z : Value) : RowTo (((w.setCell ⟨R, 0, none⟩ x).setCell ⟨R, 1, none⟩ y).setCell ⟨R, 2, none⟩ z) g t n xs := ((h.other (p := ⟨R, 0, none⟩) hne x).other (p := ⟨R, 1, none⟩) hne y).other (p := ⟨R, 2, none⟩) hne z
theorem bel_set3 {B R : Nat} {a w : World} (h : Below B a w) (hR : B ≤ R) (x y z : Value) : Below B a (((w.setCell ⟨R, 0, none⟩ x).setCell ⟨R, 1, none⟩ y).setCell ⟨R, 2, none⟩ z) := ((h.setCell (p := ⟨R, 0, none⟩) hR x).setCell (p := ⟨R, 1, none⟩) hR y).setCell (p := ⟨R, 2, none⟩) hR z
theorem cells2 {w : World} {g t n : Nat} {a b : Value} (h : RowTo w g t n [a, b]) : w.cell? ⟨g, 0, none⟩ = some a ∧ w.cell? ⟨g, 1, none⟩ = some b := ⟨h.cell (j := 0) (by simp), h.cell (j := 1) (by simp)⟩
theorem cells3 {w : World} {g t n : Nat} {a b c : Value} (h : RowTo w g t n [a, b, c]) : w.cell? ⟨g, 0, none⟩ = some a ∧ w.cell? ⟨g, 1, none⟩ = some b ∧ w.cell? ⟨g, 2, none⟩ = some c := ⟨h.cell (j := 0) (by simp), h.cell (j := 1) (by simp), h.cell (j := 2) (by simp)⟩
end Go.Proofs.YtpbaobmegomfpacGreatDoor
namespace Go.Proofs.YtpbaobmegomfpacGreatDoor
open Go.RowKit
def leadL : Nat → List UInt8
 | 1 => [111, 107]
 | 2 => [61]
 | 3 => [110, 111, 110, 101]
 | 4 => [33]
 | _ => []
def leadAt (k : Nat) : ByteArray := ⟨(leadL k).toArray⟩
def markAt : Nat → ByteArray
 | 0 => ⟨#[73]⟩
 | 1 => ⟨#[84]⟩
 | _ => ⟨#[70]⟩
def tellT (k st : Nat) (x : ByteArray) : ByteArray := (markAt st ++ leadAt k) ++ x
end Go.Proofs.YtpbaobmegomfpacGreatDoor
namespace Go.Proofs.YtpbaobmegomfpacGreatDoor
open Go.RowKit
structure Req where
 k : Int
 key : ByteArray
 val : ByteArray
def Req.none_ : Req := ⟨0, ⟨#[]⟩, ⟨#[]⟩⟩
structure Deed where
 c : Nat
 r : Req
 a : Ans
 st : Int
structure Cl where
 bytes : ByteArray
 wait : List Req
 srv : Option Nat
def Cl.new : Cl := ⟨⟨#[]⟩, [], none⟩
structure Ops (E : Type) where
 exec : E → Nat → Nat → Req → E × Ans × Int
 state : E → Nat → Option Nat → Int
 grant : E → Nat → Nat → E
 free : E → Nat → Nat → E
 leave : E → Nat → Option Nat → E
structure Mach (E : Type) where
 e : E
 cl : List Cl
 busy : List Bool
 line : List Nat
 sent : List ByteArray
 deeds : List Deed
def tUnder : ByteArray := ⟨#[110, 111, 116, 32, 117, 110, 100, 101, 114, 115, 116, 111, 111, 100]⟩
def tMode : ByteArray := ⟨#[110, 111, 116, 32, 105, 110, 32, 116, 104, 105, 115, 32, 109, 111, 100, 101]⟩
def refuse (mode : Int) (r : Req) : ByteArray := if r.k = 0 then tUnder else if r.k = 1 ∧ mode = 3 then tMode else ⟨#[]⟩
def refB (mode : Int) (r : Req) : Bool := decide (r.k = 0 ∨ (r.k = 1 ∧ mode = 3))
def readyB (mode : Int) (x : Cl) : Bool := match x.wait with
 | [] => false
 | r :: _ => x.srv.isSome || refB mode r
section
variable {E : Type} (o : Ops E) (mode : Int)
def Mach.get (m : Mach E) (c : Nat) : Cl := m.cl.getD c Cl.new
def Mach.set (m : Mach E) (c : Nat) (x : Cl) : Mach E := { m with cl := m.cl.set c x }
def ansM (a : Ans) (st : Int) : ByteArray := msg 82 (tellT a.kind.toNat st.toNat a.text)
def Mach.tell (m : Mach E) (c : Nat) (a : Ans) (st : Int) : Mach E := { m with sent := m.sent.set c (m.sent.getD c ⟨#[]⟩ ++ ansM a st) }
def Mach.release (m : Mach E) (c s : Nat) : Mach E := { m with e := o.free m.e c s, busy := m.busy.set s false, cl := m.cl.set c { m.get c with srv := none } }
def Mach.proc (m : Mach E) (c : Nat) : Mach E := match (m.get c).wait with
 | [] => m
 | r :: rest =>
  if refB mode r then (m.set c { m.get c with wait := rest }).tell c ⟨4, refuse mode r⟩ (o.state m.e c (m.get c).srv)
  else
   let x := o.exec m.e c ((m.get c).srv.getD 0) r
   let m2 := Mach.tell { m.set c { m.get c with wait := rest } with e := x.1, deeds := m.deeds ++ [⟨c, r, x.2.1, x.2.2⟩] } c x.2.1 x.2.2
   if mode ≠ 1 ∧ x.2.2 = 0 then m2.release o c ((m.get c).srv.getD 0) else m2
def enqL (m : Mach E) (l : List Nat) (c : Nat) : List Nat := if (m.get c).wait ≠ [] ∧ ¬ c ∈ l then l ++ [c] else l
def Mach.enq (m : Mach E) : Mach E := { m with line := (List.range 6).foldl (enqL m) m.line }
def Mach.assign (m : Mach E) : Bool × Mach E := match m.line with
 | [] => (false, m)
 | c :: l => if m.busy.idxOf false < m.busy.length then (true, { m with line := l, busy := m.busy.set (m.busy.idxOf false) true, cl := m.cl.set c { m.get c with srv := some (m.busy.idxOf false) }, e := o.grant m.e c (m.busy.idxOf false) }) else (false, m)
def Mach.firstR (m : Mach E) : Option Nat := (List.range 6).find? (fun c => readyB mode (m.get c))
def Mach.step (m : Mach E) : Bool × Mach E := match m.firstR mode with
 | some c => (true, m.proc o mode c)
 | none => m.enq.assign o
def Mach.iter : Nat → Mach E → Mach E
 | 0, m => m
 | n + 1, m => if (m.step o mode).1 then Mach.iter n (m.step o mode).2 else (m.step o mode).2
def waits (l : List Cl) : Nat := (l.map fun x => x.wait.length).sum
def bare (l : List Cl) : Nat := l.countP fun x => x.srv.isNone
def Mach.mu (m : Mach E) : Nat := 2 * waits m.cl + bare m.cl
def Mach.all (m : Mach E) : Mach E := m.iter o mode (m.mu + 1)
def Mach.leave (m : Mach E) (c : Nat) : Mach E :=
 { m with e := o.leave m.e c (m.get c).srv, busy := match (m.get c).srv with
   | some s => m.busy.set s false
   | none => m.busy, line := m.line.filter (fun n => n != c), cl := m.cl.set c Cl.new }
def pull (b : ByteArray) : Option (UInt8 × ByteArray × Nat) := if h : 2 ≤ b.size then (if 2 + b[1].toNat ≤ b.size then some (b[0], b.extract 2 (2 + b[1].toNat), 2 + b[1].toNat) else none) else none
def reqOf (k : UInt8) (t : ByteArray) : Req := if k = 81 ∧ readE t = 0 then ⟨kindN (cutA t), cutA (cutB t), cutB (cutB t)⟩ else Req.none_
def Mach.feed : Nat → Mach E → Nat → Mach E
 | 0, m, _ => m
 | n + 1, m, c => match pull (m.get c).bytes with
  | none => m
  | some (k, t, j) => if k = 88 then (m.all o mode).leave o c else Mach.feed n (m.set c { m.get c with bytes := (m.get c).bytes.extract j (m.get c).bytes.size, wait := (m.get c).wait ++ [reqOf k t] }) c
def Mach.deliver (m : Mach E) (c : Nat) (data : ByteArray) : Mach E := (m.set c { m.get c with bytes := (m.get c).bytes ++ data }).feed o mode ((m.get c).bytes.size + data.size + 1) c
structure Act where
 kind : Int
 c : Int
 data : ByteArray
def Mach.act (m : Mach E) (a : Act) : Mach E := (if a.kind = 1 then m.deliver o mode a.c.toNat a.data else m.leave o a.c.toNat).all o mode
def Mach.run (m : Mach E) (l : List Act) : Mach E := l.foldl (fun m a => m.act o mode a) m
end
def setupE (mode servers : Int) : Int := if mode < 1 ∨ 3 < mode then 3 else if servers < 1 ∨ 4 < servers then 2 else 0
def actE (a : Act) : Int := if ¬ (a.kind = 1 ∨ a.kind = 2) then 3 else if a.c < 0 ∨ 6 ≤ a.c then 2 else if 1000 < a.data.size then 1 else 0
def actsE : List Act → Int
 | [] => 0
 | a :: l => if actE a ≠ 0 then actE a else actsE l
def runE (mode servers : Int) (l : List Act) : Int := if setupE mode servers ≠ 0 then setupE mode servers else if 300 < l.length then 1 else actsE l
structure PE where
 w : Wd
 kept : List (PL × PL)
def PE.free (e : PE) (c s : Nat) : PE := ⟨e.w, e.kept.set c ((e.w.at s).set, (e.w.at s).prep)⟩
def PE.state (e : PE) (srv : Option Nat) : Int := match srv with
 | none => 0
 | some s => (e.w.at s).st
def Sess.zero : Sess := ⟨0, [], [], [], []⟩
end Go.Proofs.YtpbaobmegomfpacGreatDoor
namespace Go.Proofs.YtpbaobmegomfpacGreatDoor
open Go.RowKit
section
variable {E : Type} {o : Ops E} {mode : Int} {m : Mach E}
end
end Go.Proofs.YtpbaobmegomfpacGreatDoor
namespace Go.Proofs.YtpbaobmegomfpacGreatDoor
open Go.RowKit
section
variable {A B : Wd} {s c : Nat}
end
section
variable {w : Wd} {s : Nat}
end
end Go.Proofs.YtpbaobmegomfpacGreatDoor
namespace Go.Proofs.YtpbaobmegomfpacGreatDoor
open Go.RowKit
end Go.Proofs.YtpbaobmegomfpacGreatDoor
namespace Go.Proofs.YtpbaobmegomfpacGreatDoor
open Go.RowKit
section
variable {w w' : World} {t size n : Nat} {v : Value} {g : Option Nat} {xs : List Value}
end
end Go.Proofs.YtpbaobmegomfpacGreatDoor
namespace Go.Proofs.YtpbaobmegomfpacGreatDoor
open Go.RowKit
section
variable {w w' : World} {t size b off cap : Nat} {d : List (List Value)}
end
section
variable {α : Type}
end
end Go.Proofs.YtpbaobmegomfpacGreatDoor
namespace Go.Proofs.YtpbaobmegomfpacGreatDoor
open Go.RowKit
section
variable {w : World} {b off cap : Nat} {d : List (ByteArray × ByteArray)}
end
end Go.Proofs.YtpbaobmegomfpacGreatDoor
namespace Go.Proofs.YtpbaobmegomfpacGreatDoor
open Go.RowKit
end Go.Proofs.YtpbaobmegomfpacGreatDoor
namespace Go.Proofs.YtpbaobmegomfpacGreatDoor
open Go.RowKit
end Go.Proofs.YtpbaobmegomfpacGreatDoor
namespace Go.Proofs.YtpbaobmegomfpacGreatDoor
open Go.RowKit
section
variable {P : Mach PE} {H : Mach Wd} {mode : Int}
end
end Go.Proofs.YtpbaobmegomfpacGreatDoor
namespace Go.Proofs.YtpbaobmegomfpacGreatDoor
open Go.RowKit
structure D where
 w : Wd
 sent : List ByteArray
 deeds : List Deed
def D.tell (d : D) (c : Nat) (a : Ans) (st : Int) : D := { d with sent := d.sent.set c (d.sent.getD c ⟨#[]⟩ ++ ansM a st) }
def Mach.d (m : Mach Wd) : D := ⟨m.e, m.sent, m.deeds⟩
section
variable {m : Mach Wd} {mode : Int} {c : Nat}
end
end Go.Proofs.YtpbaobmegomfpacGreatDoor
namespace Go.Proofs.YtpbaobmegomfpacGreatDoor
open Go.RowKit
end Go.Proofs.YtpbaobmegomfpacGreatDoor
namespace Go.Proofs.YtpbaobmegomfpacGreatDoor
open Go.RowKit
def Req.ok (r : Req) : Prop := checkE r.k r.key r.val = 0
section
variable {W : Wd} {i : Nat}
end
section
variable {W : Wd} {i : Nat}
end
end Go.Proofs.YtpbaobmegomfpacGreatDoor
namespace Go.Proofs.YtpbaobmegomfpacGreatDoor
open Go.RowKit
def Mach.b (m : Mach Wd) : Nat → ByteArray := fun c => (m.get c).bytes
def Mach.q (m : Mach Wd) : Nat → List Req := fun c => (m.get c).wait
abbrev JP := D → (Nat → ByteArray) → (Nat → List Req) → Prop
section
variable {mode : Int} {J : JP} {m : Mach Wd} {c : Nat}
end
section
variable {mode : Int} {m : Mach Wd}
end
section
variable {W : Wd} {c : Nat}
end
section
variable {W : Wd} {c : Nat}
end
end Go.Proofs.YtpbaobmegomfpacGreatDoor
namespace Go.Proofs.YtpbaobmegomfpacGreatDoor
open Go.RowKit
section
variable {w w' : World} {P : Nat} {f : Nat → Value}
end
section
variable {X : Nat} {w w' : World} {base P : Nat} {f : Nat → Value} {G : Nat → Option Nat} {mode : Int} {m m' : Mach PE}
end
end Go.Proofs.YtpbaobmegomfpacGreatDoor
namespace Go.Proofs.YtpbaobmegomfpacGreatDoor
open Go.RowKit
section
variable {w w' : World} {base P : Nat} {f : Nat → Value} {G : Nat → Option Nat} {mode : Int} {m m' : Mach PE}
end
end Go.Proofs.YtpbaobmegomfpacGreatDoor
namespace Go.Proofs.YtpbaobmegomfpacGreatDoor
open Go.RowKit
section
variable {w w' : World} {base P : Nat} {f : Nat → Value} {G : Nat → Option Nat} {mode : Int} {m m' : Mach PE}
end
end Go.Proofs.YtpbaobmegomfpacGreatDoor
namespace Go.Proofs.YtpbaobmegomfpacGreatDoor
open Go.RowKit
section
variable {base P : Nat} {f : Nat → Value} {G : Nat → Option Nat} {mode : Int} {m : Mach PE}
end
end Go.Proofs.YtpbaobmegomfpacGreatDoor
namespace Go.Proofs.YtpbaobmegomfpacGreatDoor
open Go.RowKit
end Go.Proofs.YtpbaobmegomfpacGreatDoor
namespace Go.Proofs.YtpbaobmegomfpacGreatDoor
open Go.RowKit Go.ChangeShapes Go.WideShapes Go.Deep Go.Joins
section
variable {H : Type} {enc : TypeId × Value → H} {w : World} {base : Nat} {spare : Nat → Bool} {held : Bool}
end
section
variable {H : Type} {enc : TypeId × Value → H} {w : World} {base : Nat} {spare : Nat → Bool} {held : Bool}
end
end Go.Proofs.YtpbaobmegomfpacGreatDoor
namespace Go.Proofs.YtpbaobmegomfpacGreatDoor
open Go.RowKit Go.ChangeShapes Go.WideShapes Go.Deep Go.Joins
section
variable {H : Type} {enc : TypeId × Value → H} {w : World} {base : Nat} {spare : Nat → Bool} {held : Bool}
end
end Go.Proofs.YtpbaobmegomfpacGreatDoor
namespace Go.Proofs.YtpbaobmegomfpacGreatDoor
open Go.RowKit
end Go.Proofs.YtpbaobmegomfpacGreatDoor
namespace Go.Proofs.YtpbaobmegomfpacGreatDoor
open Go.RowKit
theorem i64_bd {a : Int} (h : (Lit.int .i64 a).wf = true) : -9223372036854775808 ≤ a ∧ a ≤ 9223372036854775807 := by
 simpa [Lit.wf, IntKind.min, IntKind.max, IntKind.signed, IntKind.bits] using h
set_option maxHeartbeats 400000 in
theorem picked_any (n m : Int) (w : World) (hn : -9223372036854775808 ≤ n) (hn2 : n ≤ 9223372036854775807) (hm : 0 < m) (hm2 : m ≤ 9223372036854775807) :
  Calls Tryz.prog 31 #[.int .i64 n, .int .i64 m] w fun e w' => e = .returned (.int .i64 (pickI n m)) ∧ w = w' := by
 have hm0 : (m == 0) = false := beq_eq_false_iff_ne.2 (by omega)
 by_cases h : n < 0
 ·have hp := jD (pickI_neg (m := m) h)
  have h1 : 0 ≤ -(n + 1) := by omega
  go_enter Tryz.func31, Tryz.ntmps31
  go_wp2
  go_ret
  exact ⟨ret_int (by rw [hp.out, ← Int.neg_tmod, Int.tmod_eq_emod_of_nonneg h1]), rfl⟩
 ·have hp := jD (pickI_pos (m := m) h)
  go_enter Tryz.func31, Tryz.ntmps31
  go_wp2
  go_ret
  exact ⟨by rw [hp.out]; rfl, rfl⟩
end Go.Proofs.YtpbaobmegomfpacGreatDoor
namespace Go.Proofs.YtpbaobmegomfpacGreatDoor
open Go.RowKit
theorem pick_some (n : Int) (m : Nat) (hm : 0 < m) : ∃ p : Nat, pickI n m = (p : Int) ∧ p < m := by
 have := pickI_bd n (m := (m : Int)) (by omega)
 exact ⟨(pickI n m).toNat, by omega, by omega⟩
end Go.Proofs.YtpbaobmegomfpacGreatDoor
namespace Go.Proofs.YtpbaobmegomfpacGreatDoor
open Go
section
variable {P : Program} {ops : Array Oper} {Q : Exit → Go.Act → World → Prop} {md : Region.Mode} {S : World → Prop} {z : Nat}
def wpAnyZ (P : Program) (md : Region.Mode) (ops : Array Oper) (Q : Exit → Go.Act → World → Prop) (S : World → Prop) (z : Nat) : Nat → Array Bool → Go.Act → World → Prop
 | 0, listed, a, w => Region.ready md ops listed = [] ∧ Q .normal a w
 | fuel + 1, listed, a, w =>
  (Region.ready md ops listed = [] → Q .normal a w) ∧
  ∀ i ∈ Region.ready md ops listed, wpOp P ops Q i (fun a' w' => (i ≠ z → S w') ∧ wpAnyZ P md ops Q S z fuel (listed.setIfInBounds i true) a' w') a w
theorem wpAny_of_z : ∀ (fuel : Nat) (listed : Array Bool) (a : Go.Act) (w : World), wpAnyZ P md ops Q S z fuel listed a w → wpAny P md ops Q fuel listed a w
 | 0, _, _, _, h => h
 | fuel + 1, _, _, _, h => ⟨h.1, fun i hi => wpOp_mono (fun a' w' h' => wpAny_of_z fuel _ a' w' h'.2) (h.2 i hi)⟩
def waitsFor (md : Region.Mode) (ops : Array Oper) (z i : Nat) : Bool := match ops[z]? with
 | some oz => oz.after.any fun e => Region.binds md e && e.on == i
 | none => false
theorem wpAnyZ_first {i : Nat} {oi : Oper} {v : Value} (hi : ops[i]? = some oi) (hsel : ∀ (j : Nat) (o : Oper) cs b, ops[j]? = some o → o.op ≠ .select cs b) (hz : waitsFor md ops z i = true) (hiz : i ≠ z)
  (hQ : ∀ c a w, Q (.panic c) (a.put oi.dst v) w → Q (.panic c) a w) :
  ∀ (fuel : Nat) (listed : Array Bool) (a : Go.Act) (w : World),
   (∀ j oj, ops[j]? = some oj → j ≠ i → listed.getD j true = false → (∀ e ∈ oj.after, Region.binds md e = true → e.on ≠ i) → oi.apart ops oj = true) →
   i ∈ Region.ready md ops listed → YieldsIf P ops S oi v a → S w →
   wpAnyZ P md ops Q S z fuel (listed.setIfInBounds i true) (a.put oi.dst v) w → wpAnyZ P md ops Q S z (fuel + 1) listed a w := by
 intro fuel
 induction fuel with
 | zero =>
  intro listed a w _ hr hy hS H
  refine ⟨fun h => (by rw [h] at hr; cases hr), fun j hj => ?_⟩
  by_cases hji : j = i
  ·subst hji; exact hy.wpOp hi hS ⟨fun _ => hS, H⟩
  ·have := ready_mono hj hji
   rw [H.1] at this
   cases this
 | succ fuel ih =>
  intro listed a w hfree hr hy hS H
  refine ⟨fun h => (by rw [h] at hr; cases hr), fun j hj => ?_⟩
  by_cases hji : j = i
  ·subst hji; exact hy.wpOp hi hS ⟨fun _ => hS, H⟩
  ·have h1 := H.2 j (ready_mono hj hji)
   obtain ⟨hjun, oj, hoj, hall⟩ := mem_ready.1 hj
   have hnot : ∀ e ∈ oj.after, Region.binds md e = true → e.on ≠ i := fun e he hb heq => by
    have h1 := hall e he hb
    have h0 := (mem_ready.1 hr).1
    rw [heq] at h1
    rcases Nat.lt_or_ge i listed.size with h' | h'
    ·simp [h'] at h0 h1; rw [h0] at h1; cases h1
    ·simp [Array.getElem?_eq_none h'] at h1
   have hjz : j ≠ z := fun e => by
    unfold waitsFor at hz
    rw [← e, hoj] at hz
    simp only [Array.any_eq_true'] at hz
    obtain ⟨x, hx, hb⟩ := hz
    simp only [Bool.and_eq_true, beq_iff_eq] at hb
    exact hnot x hx hb.1 hb.2
   have h2 := wpOp_putIf hoj (hfree j oj hoj hji hjun hnot) (fun cs b => hsel i oi cs b hi) (fun cs b => hsel j oj cs b hoj) hQ hy h1
   have hfree' : ∀ k ok, ops[k]? = some ok → k ≠ i → (listed.setIfInBounds j true).getD k true = false →
     (∀ e ∈ ok.after, Region.binds md e = true → e.on ≠ i) → oi.apart ops ok = true := fun k ok hk hki hun hno => by
    refine hfree k ok hk hki ?_ hno
    by_cases hjk : j = k
    ·subst hjk; exact hjun
    ·rw [getD_set_ne true hjk] at hun; exact hun
   refine wpOp_mono (fun a' w' h3 => ⟨h3.2.1, ih (listed.setIfInBounds j true) a' w' hfree' (ready_mono hr (Ne.symm hji)) h3.1 (h3.2.1 hjz) ?_⟩) h2
   rw [Array.setIfInBounds_comm _ _ hji]
   exact h3.2.2
theorem wpAnyZ_take {i : Nat} {oi : Oper} {v : Value} {fuel : Nat} {listed : Array Bool} {a : Go.Act} {w : World} (hi : ops[i]? = some oi)
  (hs : Region.noSelect ops = true) (hf : Region.free md ops listed i = true) (hr : (Region.ready md ops listed).contains i = true) (hz : (waitsFor md ops z i && i != z) = true)
  (hQ : ∀ c a w, Q (.panic c) (a.put oi.dst v) w → Q (.panic c) a w) (hy : YieldsIf P ops S oi v a) (hS : S w)
  (h : wpAnyZ P md ops Q S z fuel (listed.setIfInBounds i true) (a.put oi.dst v) w) : wpAnyZ P md ops Q S z (fuel + 1) listed a w :=
 wpAnyZ_first hi (Region.noSelect_spec hs) (by simp only [Bool.and_eq_true] at hz; exact hz.1) (by simp only [Bool.and_eq_true, bne_iff_ne] at hz; exact hz.2) hQ fuel listed a w (Region.free_spec hi hf) (by simpa using hr) hy hS h
theorem wpAnyZ_one {i : Nat} {o : Oper} {fuel : Nat} {listed : Array Bool} {a : Go.Act} {w : World} (ho : ops[i]? = some o) (hg : o.guard = none) (hr : Region.ready md ops listed = [i])
  (h : ∀ K' : Go.Act → World → Prop, Shut (∀ a w, S w → wpAnyZ P md ops Q S z fuel (listed.setIfInBounds i true) a w → K' a w) → Oper.wp P o a w K' Q) : wpAnyZ P md ops Q S z (fuel + 1) listed a w := by
 refine ⟨fun h0 => (by rw [hr] at h0; cases h0), fun j hj => ?_⟩
 rw [hr] at hj
 obtain rfl := List.mem_singleton.1 hj
 refine wpOp_step ho fun K' hK => ?_
 rw [if_pos (by simp [Region.wanted, hg])]
 exact h K' (fun a w hS hW => hK a w ⟨fun _ => hS, hW⟩)
theorem wpAnyZ_last {o : Oper} {fuel : Nat} {listed : Array Bool} {a : Go.Act} {w : World} (ho : ops[z]? = some o) (hg : o.guard = none) (hr : Region.ready md ops listed = [z]) (hr' : Region.ready md ops (listed.setIfInBounds z true) = [])
  (h : ∀ K' : Go.Act → World → Prop, Shut (∀ a w, Q .normal a w → K' a w) → Oper.wp P o a w K' Q) : wpAnyZ P md ops Q S z (fuel + 1) listed a w := by
 refine ⟨fun h0 => (by rw [hr] at h0; cases h0), fun j hj => ?_⟩
 rw [hr] at hj
 obtain rfl := List.mem_singleton.1 hj
 refine wpOp_step ho fun K' hK => ?_
 rw [if_pos (by simp [Region.wanted, hg])]
 refine h K' (fun a w hq => hK a w ⟨fun hne => absurd rfl hne, ?_⟩)
 cases fuel with
 | zero => exact ⟨hr', hq⟩
 | succ n => exact ⟨fun _ => hq, by rw [hr']; simp⟩
theorem wp_region_z (z : Nat) (S : World → Prop) {id : Nat} {a : Go.Act} {w : World} (hm : P.follows .mixedOrders = true) (hS : S w.drew)
  (h : S w.drew → wpAnyZ P .any ops Q S z ops.size (Array.replicate ops.size false) a w.drew) : (Code.region id ops true).wp P Q a w :=
 wp_region_any hm (wpAny_of_z _ _ _ _ (h hS))
end
section
variable {P : Program} {ops : Array Oper} {Q : Exit → Go.Act → World → Prop} {md : Region.Mode} {S : World → Prop} {z : Nat}
theorem tkZ (i : Nat) {oi : Oper} (v : Value) {fuel : Nat} {listed : Array Bool} {a : Go.Act} {w : World} (hi : ops[i]? = some oi) (hv : ∀ w, S w → (execOp a.eval oi).run P w = .ok (.value v) w) (hS : S w)
    (h : wpAnyZ P md ops Q S z fuel (listed.setIfInBounds i true) (a.put oi.dst v) w) (hw : Region.wanted oi (yielded ops a.tmps) = true := by rfl)
    (hs : Region.noSelect ops = true := by kernel_rfl) (hf : Region.free md ops listed i = true := by kernel_rfl) (hr : (Region.ready md ops listed).contains i = true := by kernel_rfl) (hz : (waitsFor md ops z i && i != z) = true := by kernel_rfl)
    (hQ : ∀ c a w, Q (.panic c) (a.put oi.dst v) w → Q (.panic c) a w := by exact fun _ _ _ h => h) : wpAnyZ P md ops Q S z (fuel + 1) listed a w :=
  wpAnyZ_take hi hs hf hr hz hQ (Or.inl ⟨hw, hv⟩) hS h
end
end Go.Proofs.YtpbaobmegomfpacGreatDoor
