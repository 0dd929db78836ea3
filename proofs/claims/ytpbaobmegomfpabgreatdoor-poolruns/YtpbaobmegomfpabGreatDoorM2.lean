/-
  Texts of the proof, one behind the other: Lst, Mem, Wld, BackM2, BackM5.
-/
import Derived.Test.YtpbaobmegomfpabGreatDoorM1
import Derived.Below
import Derived.Lib.Hide
import Derived.Deep.Draws
import Derived.Laws.OwnMore
set_option linter.unusedVariables false
set_option linter.unusedSimpArgs false
set_option maxRecDepth 100000
open List renaming getElem_toArray → gTA, getElem_cons_zero → gCZ, getElem_cons_succ → gCS, setIfInBounds_toArray → sTA, set_cons_zero → sCZ, set_cons_succ → sCS
open Nat renaming le_refl → nL
namespace Go.Proofs.YtpbaobmegomfpabGreatDoor
open Go.RowKit
structure Lst (w : World) (B : Nat) (v : Value) (l : PL) : Prop where
 form : ∃ A c, v = .slice A l.length c ∧ l.length ≤ c
 bytes : l.length * 32 ≤ 140737488351232
 sizes : ∀ p ∈ l, p.1.size ≤ 140737488351232 ∧ p.2.size ≤ 140737488351232
 cells : 0 < l.length → ∃ b off c, v = .slice (some ⟨b, off, none⟩) l.length c ∧ b < B ∧
  ∀ i (h : i < l.length), w.cell? ⟨b, off + i * 2, none⟩ = some (.string l[i].1) ∧ w.cell? ⟨b, off + i * 2 + 1, none⟩ = some (.string l[i].2)
 nil : ∀ n c, v = .slice none n c → c = 0
theorem Lst.keep {w w' : World} {B B' : Nat} {v : Value} {l : PL} (h : Lst w B v l) (hB : B ≤ B') (hk : ∀ p : Addr, p.block < B → w'.cell? p = w.cell? p) : Lst w' B' v l := by
 refine ⟨h.form, h.bytes, h.sizes, fun hn => ?_, h.nil⟩
 obtain ⟨b, off, c, e, hb, hc⟩ := h.cells hn
 exact ⟨b, off, c, e, by omega, fun i hi => ⟨(hk _ hb).trans (hc i hi).1, (hk _ hb).trans (hc i hi).2⟩⟩
theorem Lst.below {w w' : World} {B : Nat} {v : Value} {l : PL} (h : Lst w B v l) (hb : Below B w w') : Lst w' B v l := h.keep (nL _) fun _ hp => hb.cell hp
theorem Lst.more {w : World} {B B' : Nat} {v : Value} {l : PL} (h : Lst w B v l) (hB : B ≤ B') : Lst w B' v l := h.keep hB fun _ _ => rfl
theorem Lst.alloc {w : World} {B : Nat} {v : Value} {l : PL} (h : Lst w B v l) (hB : B ≤ w.heap.size) (o : Obj) : Lst (w.alloc o) B v l := h.keep (nL _) fun p hp => World.cell?_alloc_lt w o p (by omega)
theorem Lst.drew {w : World} {B : Nat} {v : Value} {l : PL} (h : Lst w B v l) : Lst w.drew B v l := h.keep (nL _) fun _ _ => rfl
theorem Lst.drewN {w : World} {B : Nat} {v : Value} {l : PL} (h : Lst w B v l) (k : Nat) : Lst (w.drewN k) B v l := h.keep (nL _) fun _ _ => rfl
theorem Lst.setCell {w : World} {B : Nat} {v : Value} {l : PL} (h : Lst w B v l) {p : Addr} (hB : B ≤ p.block) (u : Value) : Lst (w.setCell p u) B v l :=
 h.keep (nL _) fun q hq => World.cell?_setCell_other w p q u (fun e => by subst e; omega)
theorem Lst.at {w : World} {B : Nat} {v : Value} {l : PL} (h : Lst w B v l) {k : Nat} (hk : k < l.length) :
  ∃ b off c, v = .slice (some ⟨b, off, none⟩) l.length c ∧ b < B ∧ w.cell? ⟨b, off + k * 2, none⟩ = some (.string l[k].1) ∧ w.cell? ⟨b, off + k * 2 + 1, none⟩ = some (.string l[k].2) := by
 obtain ⟨b, off, c, e, hb, hc⟩ := h.cells (by omega)
 exact ⟨b, off, c, e, hb, (hc k hk).1, (hc k hk).2⟩
theorem Lst.key {w : World} {B : Nat} {v : Value} {l : PL} (h : Lst w B v l) {k : Nat} (hk : k < l.length) : l[k].1.size ≤ 140737488351232 ∧ l[k].2.size ≤ 140737488351232 := h.sizes _ (List.getElem_mem hk)
theorem Lst.pt {w : World} {B n c : Nat} {A : Option Addr} {l : PL} (h : Lst w B (.slice A n c) l) {k : Nat} (hk : k < l.length) :
  ∃ b off, A = some ⟨b, off, none⟩ ∧ b < B ∧ w.cell? ⟨b, off + k * 2, none⟩ = some (.string l[k].1) ∧ w.cell? ⟨b, off + k * 2 + 1, none⟩ = some (.string l[k].2) := by
 obtain ⟨b, off, c', e, hb, hc⟩ := h.at hk
 injection e with e1 e2 e3
 exact ⟨b, off, e1, hb, hc⟩
def RowTo (w : World) (g t n : Nat) (xs : List Value) : Prop := ∃ cur : Array Value, w.heap[g]? = some (.cells cur t (0, 0)) ∧ cur.size = n ∧ cur.toList.take xs.length = xs
section
variable {w w' : World} {g t n B : Nat} {xs : List Value}
theorem RowTo.len (h : RowTo w g t n xs) : xs.length ≤ n := by
 obtain ⟨cur, _, hs, hx⟩ := h
 have := congrArg List.length hx
 simp at this
 omega
theorem RowTo.lt (h : RowTo w g t n xs) : g < w.heap.size := by
 obtain ⟨cur, hh, _⟩ := h
 exact (Array.getElem?_eq_some_iff.1 hh).1
theorem RowTo.same (h : RowTo w g t n xs) (e : w'.heap[g]? = w.heap[g]?) : RowTo w' g t n xs := by
 obtain ⟨cur, hh, r⟩ := h
 exact ⟨cur, e.trans hh, r⟩
theorem RowTo.below (h : RowTo w g t n xs) (hb : Below B w w') (hg : g < B) : RowTo w' g t n xs := h.same (hb.block g hg)
theorem RowTo.alloc (h : RowTo w g t n xs) (o : Obj) : RowTo (w.alloc o) g t n xs := h.same (Below.heap_alloc _ _ _ h.lt)
theorem RowTo.drew (h : RowTo w g t n xs) : RowTo w.drew g t n xs := h
theorem RowTo.drewN (h : RowTo w g t n xs) (k : Nat) : RowTo (w.drewN k) g t n xs := h
theorem RowTo.other (h : RowTo w g t n xs) {p : Addr} (hp : p.block ≠ g) (u : Value) : RowTo (w.setCell p u) g t n xs := h.same (Below.heap_setCell _ _ _ _ (fun e => hp e.symm))
theorem RowTo.cell (h : RowTo w g t n xs) {j : Nat} (hj : j < xs.length) : w.cell? ⟨g, j, none⟩ = some xs[j] := by
 obtain ⟨cur, hh, hs, hx⟩ := h
 unfold World.cell?
 simp only [hh]
 have e : cur[j]? = cur.toList[j]? := by simp
 show cur[j]? = _
 rw [e]
 have : cur.toList[j]? = (cur.toList.take xs.length)[j]? := by rw [List.getElem?_take, if_pos hj]
 rw [this, hx, List.getElem?_eq_getElem hj]
theorem RowTo.any (h : RowTo w g t n xs) {j : Nat} (hj : j < n) : ∃ u, w.cell? ⟨g, j, none⟩ = some u := by
 obtain ⟨cur, hh, hs, hx⟩ := h
 refine ⟨cur[j]'(by omega), ?_⟩
 unfold World.cell?
 simp only [hh]
 show cur[j]? = _
 rw [Array.getElem?_eq_getElem (by omega)]
theorem RowTo.frozen (h : RowTo w g t n xs) (j : Nat) : w.frozen? ⟨g, j, none⟩ = false := by
 obtain ⟨cur, hh, hs, hx⟩ := h
 unfold World.frozen?
 simp [hh]
theorem RowTo.push (h : RowTo w g t n xs) (hl : xs.length < n) (u : Value) {j : Nat} (hj : j = xs.length) : RowTo (w.setCell ⟨g, j, none⟩ u) g t n (xs ++ [u]) := by
 subst hj
 have hlt := h.lt
 obtain ⟨cur, hh, hs, hx⟩ := h
 refine ⟨cur.setIfInBounds xs.length u, ?_, by simpa using hs, ?_⟩
 ·simp [World.setCell, Array.getElem?_modify, hh]
 ·rw [Array.toList_setIfInBounds, List.length_append, List.length_singleton, List.take_add_one, List.getElem?_set, if_pos rfl, List.take_set_of_le (nL _), hx, if_pos (by simp; omega)]
  rfl
theorem RowTo.put (h : RowTo w g t n xs) {j : Nat} (hj : j < xs.length) (u : Value) : RowTo (w.setCell ⟨g, j, none⟩ u) g t n (xs.set j u) := by
 obtain ⟨cur, hh, hs, hx⟩ := h
 refine ⟨cur.setIfInBounds j u, ?_, by simpa using hs, ?_⟩
 ·simp [World.setCell, Array.getElem?_modify, hh]
 ·rw [Array.toList_setIfInBounds, List.length_set, List.take_set, hx]
theorem RowTo.new (w : World) (cs : Array Value) (t : TypeId) : RowTo (w.alloc (.cells cs t)) w.heap.size t cs.size [] :=
 ⟨cs, heap_alloc_new w _, rfl, rfl⟩
theorem RowTo.whole (w : World) (cs : Array Value) (t : TypeId) : RowTo (w.alloc (.cells cs t)) w.heap.size t cs.size cs.toList :=
 ⟨cs, heap_alloc_new w _, rfl, by rw [List.take_of_length_le (by simp)]⟩
theorem RowTo.front (h : RowTo w g t n xs) (k : Nat) : RowTo w g t n (xs.take k) := by
 obtain ⟨cur, hh, hs, hx⟩ := h
 refine ⟨cur, hh, hs, ?_⟩
 rw [List.length_take, ← List.take_take, hx]
end
def flat (l : PL) : List Value := l.flatMap fun p => [.string p.1, .string p.2]
theorem flat_nil : flat [] = [] := rfl
theorem flat_cons (p : ByteArray × ByteArray) (l : PL) : flat (p :: l) = .string p.1 :: .string p.2 :: flat l := rfl
theorem flat_append (l m : PL) : flat (l ++ m) = flat l ++ flat m := by unfold flat; rw [List.flatMap_append]
theorem flat_length (l : PL) : (flat l).length = l.length * 2 := by
 induction l with
 | nil => rfl
 | cons p l ih => rw [flat_cons]; simp only [List.length_cons, ih]; omega
theorem flat_fst : ∀ (l : PL) (i : Nat) (h : i < l.length), (flat l)[i * 2]? = some (.string l[i].1)
 | p :: l, 0, h => rfl
 | p :: l, i + 1, h => by rw [flat_cons, show (i + 1) * 2 = i * 2 + 1 + 1 by omega]; simpa using flat_fst l i (by simpa using h)
theorem flat_snd : ∀ (l : PL) (i : Nat) (h : i < l.length), (flat l)[i * 2 + 1]? = some (.string l[i].2)
 | p :: l, 0, h => rfl
 | p :: l, i + 1, h => by rw [flat_cons, show (i + 1) * 2 + 1 = i * 2 + 1 + 1 + 1 by omega]; simpa using flat_snd l i (by simpa using h)
theorem flat_take (l : PL) (k : Nat) : flat (l.take k) = (flat l).take (k * 2) := by
 induction l generalizing k with
 | nil => simp [flat_nil]
 | cons p l ih =>
  cases k with
  | zero => simp [flat_nil]
  | succ k => rw [List.take_succ_cons, flat_cons, flat_cons, ih, show (k + 1) * 2 = k * 2 + 1 + 1 by omega]; rfl
theorem flat_step (l : PL) (k : Nat) (h : k < l.length) : flat (l.take (k + 1)) = flat (l.take k) ++ [.string l[k].1] ++ [.string l[k].2] := by
 rw [List.take_succ_eq_append_getElem h, flat_append]; simp [flat]
theorem RowTo.lst {w : World} {g t n c B : Nat} {l : PL} (h : RowTo w g t n (flat l)) (hc : l.length ≤ c) (hB : g < B) (hby : l.length * 32 ≤ 140737488351232) (hs : ∀ p ∈ l, p.1.size ≤ 140737488351232 ∧ p.2.size ≤ 140737488351232) :
  Lst w B (.slice (some ⟨g, 0, none⟩) l.length c) l := by
 refine ⟨⟨_, c, rfl, hc⟩, hby, hs, fun _ => ⟨g, 0, c, rfl, hB, fun i hi => ⟨?_, ?_⟩⟩, fun n c h => by cases h⟩
 ·have h1 := h.cell (j := i * 2) (by rw [flat_length]; omega)
  have h2 := flat_fst l i hi
  rw [List.getElem?_eq_getElem (by rw [flat_length]; omega)] at h2
  rw [Nat.zero_add, h1, h2]
 ·have h1 := h.cell (j := i * 2 + 1) (by rw [flat_length]; omega)
  have h2 := flat_snd l i hi
  rw [List.getElem?_eq_getElem (by rw [flat_length]; omega)] at h2
  rw [Nat.zero_add, h1, h2]
theorem flat_one (l : PL) : ∀ u ∈ flat l, u.oneCell' = true := by
 intro u hu
 unfold flat at hu
 rw [List.mem_flatMap] at hu
 obtain ⟨p, _, hp⟩ := hu
 simp only [List.mem_cons, List.not_mem_nil, or_false] at hp
 rcases hp with rfl | rfl <;> rfl
theorem bel_add' {B : Nat} {a b c : World} (h : Below B a b) (k : Below b.heap.size b c) (hB : B ≤ b.heap.size) : Below B a c := h.trans (k.mono hB)
structure Ses (w : World) (B b o : Nat) (s : Sess) (v1 v2 v3 v4 : Value) : Prop where
 c0 : w.cell? ⟨b, o, none⟩ = some (.int .i64 s.st)
 c1 : w.cell? ⟨b, o + 1, none⟩ = some v1
 c2 : w.cell? ⟨b, o + 2, none⟩ = some v2
 c3 : w.cell? ⟨b, o + 3, none⟩ = some v3
 c4 : w.cell? ⟨b, o + 4, none⟩ = some v4
 l1 : Lst w B v1 s.set
 l2 : Lst w B v2 s.prep
 l3 : Lst w B v3 s.sav
 l4 : Lst w B v4 s.wr
theorem Ses.keep {w w' : World} {B B' b o : Nat} {s : Sess} {v1 v2 v3 v4 : Value} (h : Ses w B b o s v1 v2 v3 v4) (hb : b < B) (hB : B ≤ B') (hk : ∀ p : Addr, p.block < B → w'.cell? p = w.cell? p) : Ses w' B' b o s v1 v2 v3 v4 :=
 ⟨(hk _ hb).trans h.c0, (hk _ hb).trans h.c1, (hk _ hb).trans h.c2, (hk _ hb).trans h.c3, (hk _ hb).trans h.c4, h.l1.keep hB hk, h.l2.keep hB hk, h.l3.keep hB hk, h.l4.keep hB hk⟩
structure Sss (w : World) (B : Nat) (v : Value) (ss : List Sess) : Prop where
 form : ∃ A c, v = .slice A ss.length c ∧ ss.length ≤ c
 bytes : ss.length * 104 ≤ 140737488351232
 cells : 0 < ss.length → ∃ b off c, v = .slice (some ⟨b, off, none⟩) ss.length c ∧ b < B ∧
  ∀ i (h : i < ss.length), ∃ v1 v2 v3 v4, Ses w B b (off + i * 5) ss[i] v1 v2 v3 v4
theorem Sss.keep {w w' : World} {B B' : Nat} {v : Value} {ss : List Sess} (h : Sss w B v ss) (hB : B ≤ B') (hk : ∀ p : Addr, p.block < B → w'.cell? p = w.cell? p) : Sss w' B' v ss := by
 refine ⟨h.form, h.bytes, fun hn => ?_⟩
 obtain ⟨b, off, c, e, hb, hc⟩ := h.cells hn
 refine ⟨b, off, c, e, by omega, fun i hi => ?_⟩
 obtain ⟨v1, v2, v3, v4, hs⟩ := hc i hi
 exact ⟨v1, v2, v3, v4, hs.keep hb hB hk⟩
theorem Sss.below {w w' : World} {B : Nat} {v : Value} {l : List Sess} (h : Sss w B v l) (hb : Below B w w') : Sss w' B v l := h.keep (nL _) fun _ hp => hb.cell hp
theorem Sss.more {w : World} {B B' : Nat} {v : Value} {l : List Sess} (h : Sss w B v l) (hB : B ≤ B') : Sss w B' v l := h.keep hB fun _ _ => rfl
theorem Sss.alloc {w : World} {B : Nat} {v : Value} {l : List Sess} (h : Sss w B v l) (hB : B ≤ w.heap.size) (o : Obj) : Sss (w.alloc o) B v l := h.keep (nL _) fun p hp => World.cell?_alloc_lt w o p (by omega)
theorem Sss.pt {w : World} {B n c : Nat} {A : Option Addr} {ss : List Sess} (h : Sss w B (.slice A n c) ss) {k : Nat} (hk : k < ss.length) :
  ∃ b off v1 v2 v3 v4, A = some ⟨b, off, none⟩ ∧ b < B ∧ Ses w B b (off + k * 5) ss[k] v1 v2 v3 v4 := by
 obtain ⟨b, off, c', e, hb, hc⟩ := h.cells (by omega)
 injection e with e1 e2 e3
 obtain ⟨v1, v2, v3, v4, hs⟩ := hc k hk
 exact ⟨b, off, v1, v2, v3, v4, e1, hb, hs⟩
structure Wld (w : World) (B : Nat) (r s : Value) (W : Wd) : Prop where
 rows : Lst w B r W.rows
 sess : Sss w B s W.ss
theorem Wld.keep {w w' : World} {B B' : Nat} {r s : Value} {W : Wd} (h : Wld w B r s W) (hB : B ≤ B') (hk : ∀ p : Addr, p.block < B → w'.cell? p = w.cell? p) : Wld w' B' r s W := ⟨h.rows.keep hB hk, h.sess.keep hB hk⟩
theorem Wld.below {w w' : World} {B : Nat} {r s : Value} {W : Wd} (h : Wld w B r s W) (hb : Below B w w') : Wld w' B r s W := h.keep (nL _) fun _ hp => hb.cell hp
theorem Wld.more {w : World} {B B' : Nat} {r s : Value} {W : Wd} (h : Wld w B r s W) (hB : B ≤ B') : Wld w B' r s W := h.keep hB fun _ _ => rfl
theorem Wld.step {w w' : World} {r s : Value} {W : Wd} (h : Wld w w.heap.size r s W) (hb : Below w.heap.size w w') : Wld w' w'.heap.size r s W := (h.below hb).more hb.size
theorem Lst.step {w w' : World} {v : Value} {l : PL} (h : Lst w w.heap.size v l) (hb : Below w.heap.size w w') : Lst w' w'.heap.size v l := (h.below hb).more hb.size
theorem Sss.step {w w' : World} {v : Value} {l : List Sess} (h : Sss w w.heap.size v l) (hb : Below w.heap.size w w') : Sss w' w'.heap.size v l := (h.below hb).more hb.size
def sl (g n : Nat) : Value := .slice (some ⟨g, 0, none⟩) n n
def set5 (w : World) (S o : Nat) (a0 a1 a2 a3 a4 : Value) : World :=
 ((((w.setCell ⟨S, o, none⟩ a0).setCell ⟨S, o + 1, none⟩ a1).setCell ⟨S, o + 2, none⟩ a2).setCell ⟨S, o + 3, none⟩ a3).setCell ⟨S, o + 4, none⟩ a4
theorem cell_put {w : World} {g t n : Nat} {xs : List Value} (h : RowTo w g t n xs) {j : Nat} (hj : j < n) (u : Value) : (w.setCell ⟨g, j, none⟩ u).cell? ⟨g, j, none⟩ = some u := by
 obtain ⟨x, hx⟩ := h.any hj
 simp [go_sem, hx]
theorem cell_off {w : World} {g j i : Nat} (u : Value) (h : i ≠ j) : (w.setCell ⟨g, j, none⟩ u).cell? ⟨g, i, none⟩ = w.cell? ⟨g, i, none⟩ :=
 World.cell?_setCell_other _ _ _ _ (fun e => h (by injection e with e1 e2; exact e2.symm))
theorem RowTo.nil {w : World} {g t n : Nat} {xs : List Value} (h : RowTo w g t n xs) : RowTo w g t n [] := h.front 0
theorem RowTo.hit {w : World} {g t n j : Nat} (h : RowTo w g t n []) (u : Value) : RowTo (w.setCell ⟨g, j, none⟩ u) g t n [] := by
 obtain ⟨cur, hh, hs, hx⟩ := h
 refine ⟨cur.setIfInBounds j u, ?_, by simpa using hs, rfl⟩
 simp [World.setCell, Array.getElem?_modify, hh]
section
variable {w : World} {S o t n : Nat} {a0 a1 a2 a3 a4 : Value}
theorem set5_row (h : RowTo w S t n []) : RowTo (set5 w S o a0 a1 a2 a3 a4) S t n [] := ((((h.hit _).hit _).hit _).hit _).hit _
theorem set5_other {g t n : Nat} {xs : List Value} (h : RowTo w g t n xs) (hne : S ≠ g) : RowTo (set5 w S o a0 a1 a2 a3 a4) g t n xs := ((((h.other hne _).other hne _).other hne _).other hne _).other hne _
theorem set5_cells (h : RowTo w S t n []) (ho : o + 4 < n) : (set5 w S o a0 a1 a2 a3 a4).cell? ⟨S, o, none⟩ = some a0 ∧ (set5 w S o a0 a1 a2 a3 a4).cell? ⟨S, o + 1, none⟩ = some a1 ∧ (set5 w S o a0 a1 a2 a3 a4).cell? ⟨S, o + 2, none⟩ = some a2 ∧
  (set5 w S o a0 a1 a2 a3 a4).cell? ⟨S, o + 3, none⟩ = some a3 ∧ (set5 w S o a0 a1 a2 a3 a4).cell? ⟨S, o + 4, none⟩ = some a4 := by
 unfold set5
 refine ⟨?_, ?_, ?_, ?_, cell_put (xs := []) ((((h.hit _).hit _).hit _).hit _) (by omega) _⟩
 ·rw [cell_off _ (by omega), cell_off _ (by omega), cell_off _ (by omega), cell_off _ (by omega)]; exact cell_put h (by omega) _
 ·rw [cell_off _ (by omega), cell_off _ (by omega), cell_off _ (by omega)]; exact cell_put (h.hit _) (by omega) _
 ·rw [cell_off _ (by omega), cell_off _ (by omega)]; exact cell_put ((h.hit _).hit _) (by omega) _
 ·rw [cell_off _ (by omega)]; exact cell_put (((h.hit _).hit _).hit _) (by omega) _
theorem set5_off {i : Nat} (h : i < o ∨ o + 4 < i) : (set5 w S o a0 a1 a2 a3 a4).cell? ⟨S, i, none⟩ = w.cell? ⟨S, i, none⟩ := by
 unfold set5
 rw [cell_off _ (by omega), cell_off _ (by omega), cell_off _ (by omega), cell_off _ (by omega), cell_off _ (by omega)]
theorem set5_below {B : Nat} {a : World} (h : Below B a w) (hS : B ≤ S) : Below B a (set5 w S o a0 a1 a2 a3 a4) := ((((h.setCell hS _).setCell hS _).setCell hS _).setCell hS _).setCell hS _
theorem set5_cell {p : Addr} (h : p.block ≠ S) : (set5 w S o a0 a1 a2 a3 a4).cell? p = w.cell? p := by
 unfold set5
 rw [World.cell?_setCell_other _ _ _ _ (fun e => h (by rw [← e])), World.cell?_setCell_other _ _ _ _ (fun e => h (by rw [← e])), World.cell?_setCell_other _ _ _ _ (fun e => h (by rw [← e])), World.cell?_setCell_other _ _ _ _ (fun e => h (by rw [← e])), World.cell?_setCell_other _ _ _ _ (fun e => h (by rw [← e]))]
end
def Sess.li (s : Sess) : Nat → PL
 | 0 => s.set
 | 1 => s.prep
 | 2 => s.sav
 | _ => s.wr
structure OwnS (w : World) (base S n : Nat) (G : Nat → Nat → Nat) (ss : List Sess) (k : Nat) : Prop where
 blk : RowTo w S 115 (n * 5) []
 st : ∀ i (h : i < ss.length), i < k → w.cell? ⟨S, i * 5, none⟩ = some (.int .i64 ss[i].st)
 cs : ∀ i j (h : i < ss.length), i < k → j < 4 → w.cell? ⟨S, i * 5 + (j + 1), none⟩ = some (sl (G i j) (ss[i].li j).length)
 ls : ∀ i j (h : i < ss.length), i < k → j < 4 → RowTo w (G i j) 60 ((ss[i].li j).length * 2) (flat (ss[i].li j))
 lo : ∀ i j, i < k → j < 4 → base ≤ G i j
 ne : ∀ i j, i < k → j < 4 → G i j ≠ S
 inj : ∀ i j i' j', i < k → j < 4 → i' < k → j' < 4 → G i j = G i' j' → i = i' ∧ j = j'
def pick4 (g0 g1 g2 g3 : Nat) : Nat → Nat
 | 0 => g0
 | 1 => g1
 | 2 => g2
 | _ => g3
theorem j4 {j : Nat} (h : j < 4) : j = 0 ∨ j = 1 ∨ j = 2 ∨ j = 3 := by omega
theorem OwnS.step {wr w3 : World} {base S n k : Nat} {G : Nat → Nat → Nat} {ss : List Sess} (h : OwnS wr base S n G ss k) (hk : k < ss.length) (hn : ss.length = n) (hb : base ≤ wr.heap.size) (kb : Below wr.heap.size wr w3) {g0 g1 g2 g3 : Nat}
  (r0 : RowTo w3 g0 60 (ss[k].set.length * 2) (flat ss[k].set)) (r1 : RowTo w3 g1 60 (ss[k].prep.length * 2) (flat ss[k].prep))
  (r2 : RowTo w3 g2 60 (ss[k].sav.length * 2) (flat ss[k].sav)) (r3 : RowTo w3 g3 60 (ss[k].wr.length * 2) (flat ss[k].wr))
  (q0 : wr.heap.size ≤ g0) (q1 : g0 < g1) (q2 : g1 < g2) (q3 : g2 < g3) :
  OwnS (set5 w3 S (k * 5) (.int .i64 ss[k].st) (sl g0 ss[k].set.length) (sl g1 ss[k].prep.length) (sl g2 ss[k].sav.length) (sl g3 ss[k].wr.length)) base S n (fun i j => if i = k then pick4 g0 g1 g2 g3 j else G i j) ss (k + 1) := by
 have hS := h.blk.lt
 have b3 : RowTo w3 S 115 (n * 5) [] := h.blk.below kb hS
 have hc := set5_cells (a0 := .int .i64 ss[k].st) (a1 := sl g0 ss[k].set.length) (a2 := sl g1 ss[k].prep.length) (a3 := sl g2 ss[k].sav.length) (a4 := sl g3 ss[k].wr.length) b3 (o := k * 5) (by omega)
 refine ⟨set5_row b3, fun i hi hik => ?_, fun i j hi hik hj => ?_, fun i j hi hik hj => ?_, fun i j hik hj => ?_, fun i j hik hj => ?_, fun i j i' j' hik hj hik' hj' e => ?_⟩
 ·by_cases e : i = k
  ·subst e; exact hc.1
  ·rw [set5_off (by omega), kb.cell (p := ⟨S, i * 5, none⟩) hS]; exact h.st i hi (by omega)
 ·by_cases e : i = k
  ·subst e
   simp only [if_pos]
   rcases j4 hj with rfl | rfl | rfl | rfl
   ·exact hc.2.1
   ·exact hc.2.2.1
   ·exact hc.2.2.2.1
   ·exact hc.2.2.2.2
  ·simp only [if_neg e]
   rw [set5_off (by omega), kb.cell (p := ⟨S, i * 5 + (j + 1), none⟩) hS]; exact h.cs i j hi (by omega) hj
 ·by_cases e : i = k
  ·subst e
   simp only [if_pos]
   rcases j4 hj with rfl | rfl | rfl | rfl
   ·exact set5_other r0 (by show S ≠ g0; omega)
   ·exact set5_other r1 (by show S ≠ g1; omega)
   ·exact set5_other r2 (by show S ≠ g2; omega)
   ·exact set5_other r3 (by show S ≠ g3; omega)
  ·simp only [if_neg e]
   have h1 := h.ls i j hi (by omega) hj
   exact set5_other (h1.below kb h1.lt) (fun e' => h.ne i j (by omega) hj e'.symm)
 ·by_cases e : i = k
  ·simp only [if_pos e]; rcases j4 hj with rfl | rfl | rfl | rfl <;> simp only [pick4] <;> omega
  ·simp only [if_neg e]; exact h.lo i j (by omega) hj
 ·by_cases e : i = k
  ·simp only [if_pos e]; rcases j4 hj with rfl | rfl | rfl | rfl <;> simp only [pick4] <;> omega
  ·simp only [if_neg e]; exact h.ne i j (by omega) hj
 ·have old : ∀ a b, a < k → b < 4 → G a b < wr.heap.size := fun a b ha hb => (h.ls a b (by omega) ha hb).lt
  by_cases e1 : i = k <;> by_cases e2 : i' = k
  ·simp only [if_pos e1, if_pos e2] at e
   refine ⟨by omega, ?_⟩
   rcases j4 hj with rfl | rfl | rfl | rfl <;> rcases j4 hj' with rfl | rfl | rfl | rfl <;> simp only [pick4] at e <;> omega
  ·simp only [if_pos e1, if_neg e2] at e
   have := old i' j' (by omega) hj'
   rcases j4 hj with rfl | rfl | rfl | rfl <;> simp only [pick4] at e <;> omega
  ·simp only [if_neg e1, if_pos e2] at e
   have := old i j (by omega) hj
   rcases j4 hj' with rfl | rfl | rfl | rfl <;> simp only [pick4] at e <;> omega
  ·simp only [if_neg e1, if_neg e2] at e
   exact h.inj i j i' j' (by omega) hj (by omega) hj' e
theorem OwnS.kept {w w' : World} {base S n k : Nat} {G : Nat → Nat → Nat} {ss : List Sess} (h : OwnS w base S n G ss k) (hk : k ≤ ss.length) (kb : Below w.heap.size w w') : OwnS w' base S n G ss k := by
 have hS := h.blk.lt
 refine ⟨h.blk.below kb hS, fun i hi hik => (kb.cell (p := ⟨S, i * 5, none⟩) hS).trans (h.st i hi hik), fun i j hi hik hj => (kb.cell (p := ⟨S, i * 5 + (j + 1), none⟩) hS).trans (h.cs i j hi hik hj), fun i j hi hik hj => ?_, h.lo, h.ne, h.inj⟩
 have := h.ls i j hi hik hj
 exact this.below kb this.lt
theorem eqB_false {a b : ByteArray} : eqB a b = false ↔ a ≠ b := by
 rw [← Bool.not_eq_true, eqB_iff]
theorem risingB_iff : ∀ {l : PL}, risingB l = true ↔ ∀ j (h : j + 1 < l.length), ltB l[j].1 l[j + 1].1 = true
 | [] => by simp [risingB]
 | [p] => by simp [risingB]
 | p :: q :: l => by
  unfold risingB
  rw [Bool.and_eq_true, risingB_iff]
  constructor
  ·rintro ⟨h0, h1⟩ j hj
   cases j with
   | zero => exact h0
   | succ j => exact h1 j (by simpa using hj)
  ·intro h
   exact ⟨h 0 (by simp), fun j hj => h (j + 1) (by simpa using hj)⟩
theorem rising_tail {p : ByteArray × ByteArray} {l : PL} (h : risingB (p :: l) = true) : risingB l = true := by
 cases l with
 | nil => rfl
 | cons q l => unfold risingB at h; rw [Bool.and_eq_true] at h; exact h.2
theorem rising_head : ∀ {l : PL} {p : ByteArray × ByteArray}, risingB (p :: l) = true → ∀ q ∈ l, ltB p.1 q.1 = true
 | q0 :: l, p, h, q, hq => by
  have h' := h
  unfold risingB at h'
  rw [Bool.and_eq_true] at h'
  rcases List.mem_cons.1 hq with rfl | hq
  ·exact h'.1
  ·exact ltB_trans h'.1 (rising_head h'.2 q hq)
theorem rising_cons {l : PL} {p : ByteArray × ByteArray} (h : risingB l = true) (hp : ∀ q ∈ l, ltB p.1 q.1 = true) : risingB (p :: l) = true := by
 cases l with
 | nil => rfl
 | cons q l => unfold risingB; rw [hp q (by simp), h]; rfl
theorem rising_lt {l : PL} (h : risingB l = true) : ∀ i j (hi : i < j) (hj : j < l.length), ltB (l[i]'(by omega)).1 l[j].1 = true := by
 intro i j hi hj
 induction j with
 | zero => omega
 | succ j ih =>
  have h1 := (risingB_iff.1 h) j hj
  by_cases e : i = j
  ·subst e; exact h1
  ·exact ltB_trans (ih (by omega) (by omega)) h1
theorem pairsB_yes {l : PL} {most : Nat} {kind : Int} (h1 : ∀ j (h : j < l.length), checkE kind l[j].1 l[j].2 = 0) (h2 : ∀ j (h : j + 1 < l.length), ltB l[j].1 l[j + 1].1 = true) (h3 : l.length ≤ most) : pairsB l most kind = true := by
 unfold pairsB
 rw [risingB_iff.2 h2, decide_eq_true h3, Bool.and_true, Bool.and_true, List.all_eq_true]
 intro p hp
 obtain ⟨j, hj, rfl⟩ := List.getElem_of_mem hp
 exact decide_eq_true (h1 j hj)
theorem pairsB_long {l : PL} {most : Nat} {kind : Int} (h : ¬ l.length ≤ most) : pairsB l most kind = false := by
 unfold pairsB; rw [decide_eq_false h]; simp
theorem pairsB_bad {l : PL} {most : Nat} {kind : Int} {j : Nat} (hj : j < l.length) (h : checkE kind l[j].1 l[j].2 ≠ 0) : pairsB l most kind = false := by
 unfold pairsB
 have : (l.all fun p => decide (checkE kind p.1 p.2 = 0)) = false := by
  rw [List.all_eq_false]
  exact ⟨l[j], List.getElem_mem hj, by simpa using h⟩
 rw [this]; rfl
theorem pairsB_fall {l : PL} {most : Nat} {kind : Int} {j : Nat} (hj : j + 1 < l.length) (h : ltB l[j].1 l[j + 1].1 = false) : pairsB l most kind = false := by
 unfold pairsB
 have : risingB l = false := by
  rw [← Bool.not_eq_true]
  intro hr
  have := risingB_iff.1 hr j hj
  rw [h] at this; cases this
 rw [this]; simp
theorem pairsB_rising {l : PL} {most : Nat} {kind : Int} (h : pairsB l most kind = true) : risingB l = true ∧ l.length ≤ most ∧ ∀ p ∈ l, checkE kind p.1 p.2 = 0 := by
 unfold pairsB at h
 simp only [Bool.and_eq_true, decide_eq_true_eq, List.all_eq_true] at h
 exact ⟨h.2.1, h.2.2, h.1⟩
def insL : PL → ByteArray → ByteArray → PL
 | [], k, v => [(k, v)]
 | p :: l, k, v => if ltB p.1 k then p :: insL l k v else if eqB p.1 k then (k, v) :: l else (k, v) :: p :: l
theorem plusGo_done : ∀ {l : PL} {k v : ByteArray}, (∀ q ∈ l, ltB k q.1 = true) → plusGo k v true l = l
 | [], _, _, _ => rfl
 | p :: l, k, v, h => by
  unfold plusGo
  have hp := h p (by simp)
  have : eqB p.1 k = false := eqB_false.2 (fun e => ltB_ne hp e.symm)
  rw [this, Bool.true_or, plusGo_done (fun q hq => h q (by simp [hq]))]
  rfl
theorem plus_ins : ∀ {l : PL} {k v : ByteArray}, risingB l = true → plusL l k v = insL l k v
 | [], _, _, _ => rfl
 | p :: l, k, v, h => by
  unfold plusL plusGo insL
  cases h1 : ltB p.1 k
  ·have hd : ∀ q ∈ l, ltB k q.1 = true := fun q hq => by
    cases h2 : eqB p.1 k
    ·have : ltB k p.1 = true := by
      cases h3 : ltB k p.1
      ·exact absurd (ltB_total h1 h3) (eqB_false.1 h2)
      ·rfl
     exact ltB_trans this (rising_head h q hq)
    ·rw [← eqB_iff.1 h2]; exact rising_head h q hq
   rw [Bool.false_or, Bool.not_false, plusGo_done hd]
   cases h2 : eqB p.1 k <;> simp
  ·have : eqB p.1 k = false := eqB_false.2 (ltB_ne h1)
   rw [this, Bool.false_or]
   have ih := plus_ins (k := k) (v := v) (rising_tail h)
   unfold plusL at ih
   simp [ih]
theorem ins_mem : ∀ {l : PL} {k v : ByteArray} {q : ByteArray × ByteArray}, q ∈ insL l k v → q = (k, v) ∨ q ∈ l
 | [], k, v, q, h => by simpa [insL] using h
 | p :: l, k, v, q, h => by
  unfold insL at h
  split at h
  ·rcases List.mem_cons.1 h with rfl | h
   ·exact .inr (by simp)
   ·rcases ins_mem h with h | h
    ·exact .inl h
    ·exact .inr (by simp [h])
  ·split at h
   ·rcases List.mem_cons.1 h with rfl | h
    ·exact .inl rfl
    ·exact .inr (by simp [h])
   ·rcases List.mem_cons.1 h with rfl | h
    ·exact .inl rfl
    ·exact .inr h
theorem ins_rising : ∀ {l : PL} {k v : ByteArray}, risingB l = true → risingB (insL l k v) = true
 | [], _, _, _ => rfl
 | p :: l, k, v, h => by
  unfold insL
  cases h1 : ltB p.1 k
  ·rw [if_neg (by simp)]
   cases h2 : eqB p.1 k
   ·rw [if_neg (by simp)]
    have hk : ltB k p.1 = true := by
     cases h3 : ltB k p.1
     ·exact absurd (ltB_total h1 h3) (eqB_false.1 h2)
     ·rfl
    exact rising_cons h (fun q hq => by
     rcases List.mem_cons.1 hq with rfl | hq
     ·exact hk
     ·exact ltB_trans hk (rising_head h q hq))
   ·rw [if_pos rfl]
    exact rising_cons (rising_tail h) (fun q hq => by show ltB k q.1 = true; rw [← eqB_iff.1 h2]; exact rising_head h q hq)
  ·rw [if_pos rfl]
   refine rising_cons (ins_rising (rising_tail h)) (fun q hq => ?_)
   rcases ins_mem hq with rfl | hq
   ·exact h1
   ·exact rising_head h q hq
theorem atL_yes {p : ByteArray × ByteArray} {l : PL} {k : ByteArray} (h : eqB p.1 k = true) : atL (p :: l) k = some p.2 := by rw [atL, if_pos h]
theorem atL_no {p : ByteArray × ByteArray} {l : PL} {k : ByteArray} (h : eqB p.1 k = false) : atL (p :: l) k = atL l k := by rw [atL, if_neg (by simp [h])]
theorem insL_lt {p : ByteArray × ByteArray} {l : PL} {k v : ByteArray} (h : ltB p.1 k = true) : insL (p :: l) k v = p :: insL l k v := by rw [insL, if_pos h]
theorem insL_eq {p : ByteArray × ByteArray} {l : PL} {k v : ByteArray} (h1 : ltB p.1 k = false) (h : eqB p.1 k = true) : insL (p :: l) k v = (k, v) :: l := by rw [insL, if_neg (by simp [h1]), if_pos h]
theorem insL_gt {p : ByteArray × ByteArray} {l : PL} {k v : ByteArray} (h1 : ltB p.1 k = false) (h : eqB p.1 k = false) : insL (p :: l) k v = (k, v) :: p :: l := by rw [insL, if_neg (by simp [h1]), if_neg (by simp [h])]
theorem at_ins : ∀ {l : PL} {k v k' : ByteArray}, risingB l = true → atL (insL l k v) k' = if eqB k k' then some v else atL l k'
 | [], k, v, k', _ => by simp [insL, atL]
 | p :: l, k, v, k', h => by
  cases h1 : ltB p.1 k
  ·cases h2 : eqB p.1 k
   ·rw [insL_gt h1 h2, atL]
   ·rw [insL_eq h1 h2]
    cases h3 : eqB k k'
    ·rw [atL_no h3, atL_no (by rw [eqB_iff.1 h2]; exact h3), if_neg (by simp)]
    ·rw [atL_yes h3, if_pos rfl]
  ·rw [insL_lt h1]
   cases h3 : eqB p.1 k'
   ·rw [atL_no h3, atL_no h3, at_ins (rising_tail h)]
   ·have : eqB k k' = false := eqB_false.2 (fun e => ltB_ne h1 (by rw [eqB_iff.1 h3, e]))
    rw [atL_yes h3, atL_yes h3, this, if_neg (by simp)]
theorem atL_none {l : PL} {k : ByteArray} (hd : ∀ q ∈ l, eqB q.1 k = false) : atL l k = none := by
 induction l with
 | nil => rfl
 | cons q l ih => rw [atL_no (hd q (by simp))]; exact ih (fun q hq => hd q (by simp [hq]))
theorem lt_of_not {p k : ByteArray} (h1 : ltB p k = false) (h2 : eqB p k = false) : ltB k p = true := by
 cases h3 : ltB k p
 ·exact absurd (ltB_total h1 h3) (eqB_false.1 h2)
 ·rfl
theorem ins_length : ∀ {l : PL} {k v : ByteArray}, risingB l = true → (insL l k v).length = if (atL l k).isSome then l.length else l.length + 1
 | [], _, _, _ => rfl
 | p :: l, k, v, h => by
  cases h1 : ltB p.1 k
  ·cases h2 : eqB p.1 k
   ·have hk := lt_of_not h1 h2
    rw [insL_gt h1 h2, atL_no h2, atL_none (fun q hq => eqB_false.2 (fun e => ltB_ne (ltB_trans hk (rising_head h q hq)) e.symm))]
    simp
   ·rw [insL_eq h1 h2, atL_yes h2]; simp
  ·rw [insL_lt h1, atL_no (eqB_false.2 (ltB_ne h1)), List.length_cons, ins_length (rising_tail h), List.length_cons]
   split <;> rfl
theorem atL_mem : ∀ {l : PL} {k v : ByteArray}, atL l k = some v → (k, v) ∈ l
 | p :: l, k, v, h => by
  unfold atL at h
  split at h
  ·rename_i h1
   have := eqB_iff.1 h1
   simp only [Option.some.injEq] at h
   subst this h
   simp
  ·exact List.mem_cons_of_mem _ (atL_mem h)
theorem atL_of_mem : ∀ {l : PL} {p : ByteArray × ByteArray}, p ∈ l → (atL l p.1).isSome = true
 | q :: l, p, h => by
  unfold atL
  cases h1 : eqB q.1 p.1
  ·rw [if_neg (by simp)]
   rcases List.mem_cons.1 h with rfl | h
   ·rw [eqB_self] at h1; cases h1
   ·exact atL_of_mem h
  ·rw [if_pos rfl]; rfl
def posL : PL → ByteArray → Nat
 | [], _ => 0
 | p :: l, k => if ltB p.1 k then posL l k + 1 else 0
def fndL (l : PL) (k : ByteArray) : Bool := (atL l k).isSome
theorem posL_lt {p : ByteArray × ByteArray} {l : PL} {k : ByteArray} (h : ltB p.1 k = true) : posL (p :: l) k = posL l k + 1 := by rw [posL, if_pos h]
theorem posL_ge {p : ByteArray × ByteArray} {l : PL} {k : ByteArray} (h : ltB p.1 k = false) : posL (p :: l) k = 0 := by rw [posL, if_neg (by simp [h])]
theorem posL_le : ∀ (l : PL) (k : ByteArray), posL l k ≤ l.length
 | [], _ => nL _
 | p :: l, k => by
  have := posL_le l k
  unfold posL; split <;> simp <;> omega
theorem pos_before : ∀ {l : PL} {k : ByteArray} {j : Nat} (hj : j < l.length), j < posL l k → ltB l[j].1 k = true
 | p :: l, k, j, hj, h => by
  cases e : ltB p.1 k
  ·rw [posL_ge e] at h; omega
  ·rw [posL_lt e] at h
   cases j with
   | zero => exact e
   | succ j => exact pos_before (l := l) (by simpa using hj) (by omega)
theorem pos_after : ∀ {l : PL} {k : ByteArray} {j : Nat}, risingB l = true → (hj : j < l.length) → posL l k ≤ j → ltB l[j].1 k = false
 | p :: l, k, j, hr, hj, h => by
  cases e : ltB p.1 k
  ·cases j with
   | zero => exact e
   | succ j =>
    have hj' : j < l.length := by simpa using hj
    have h1 := rising_head hr l[j] (List.getElem_mem hj')
    show ltB l[j].1 k = false
    cases e2 : ltB l[j].1 k
    ·rfl
    ·rw [ltB_trans h1 e2] at e; cases e
  ·rw [posL_lt e] at h
   cases j with
   | zero => omega
   | succ j => exact pos_after (l := l) (rising_tail hr) (by simpa using hj) (by omega)
theorem fnd_none : ∀ {l : PL} {k : ByteArray}, risingB l = true → l.length ≤ posL l k → fndL l k = false
 | [], _, _, _ => rfl
 | p :: l, k, hr, h => by
  cases e : ltB p.1 k
  ·rw [posL_ge e] at h; simp at h
  ·rw [posL_lt e] at h
   unfold fndL
   rw [atL_no (eqB_false.2 (ltB_ne e))]
   exact fnd_none (rising_tail hr) (by simpa using h)
theorem fnd_at : ∀ {l : PL} {k : ByteArray}, risingB l = true → (h : posL l k < l.length) → fndL l k = eqB (l[posL l k]).1 k ∧ (fndL l k = true → atL l k = some (l[posL l k]).2)
 | p :: l, k, hr, h => by
  cases e : ltB p.1 k
  ·have hp := posL_ge (l := l) e
   simp only [hp, gCZ]
   cases e2 : eqB p.1 k
   ·have hk := lt_of_not e e2
    have : fndL (p :: l) k = false := by
     unfold fndL
     rw [atL_no e2, atL_none (fun q hq => eqB_false.2 (fun e' => ltB_ne (ltB_trans hk (rising_head hr q hq)) e'.symm))]; rfl
    exact ⟨this, fun h => by rw [this] at h; cases h⟩
   ·have : fndL (p :: l) k = true := by unfold fndL; rw [atL_yes e2]; rfl
    exact ⟨this, fun _ => atL_yes e2⟩
  ·have hp := posL_lt (l := l) e
   have e2 : eqB p.1 k = false := eqB_false.2 (ltB_ne e)
   have hl : posL l k < l.length := by rw [hp] at h; simpa using h
   obtain ⟨h1, h2⟩ := fnd_at (rising_tail hr) hl
   have hf : fndL (p :: l) k = fndL l k := by unfold fndL; rw [atL_no e2]
   simp only [hp, gCS]
   exact ⟨hf.trans h1, fun h => by rw [atL_no e2]; exact h2 (hf ▸ h)⟩
theorem fnd_pos {l : PL} {k : ByteArray} (hr : risingB l = true) (h : fndL l k = true) : posL l k < l.length := by
 apply Classical.byContradiction
 intro hn
 rw [fnd_none hr (by omega)] at h; cases h
theorem ins_found : ∀ {l : PL} {k v : ByteArray}, risingB l = true → fndL l k = true → insL l k v = l.set (posL l k) (k, v)
 | [], _, _, _, h => by cases h
 | p :: l, k, v, hr, h => by
  cases e : ltB p.1 k
  ·rw [posL_ge e]
   have hl := fnd_at hr (by rw [posL_ge e]; simp)
   rw [h] at hl
   simp only [posL_ge (l := l) e, gCZ] at hl
   rw [insL_eq e hl.1.symm, sCZ]
  ·rw [posL_lt e, insL_lt e, sCS, ins_found (rising_tail hr)]
   unfold fndL at h ⊢
   rwa [atL_no (eqB_false.2 (ltB_ne e))] at h
theorem ins_new : ∀ {l : PL} {k v : ByteArray}, risingB l = true → fndL l k = false → insL l k v = l.take (posL l k) ++ (k, v) :: l.drop (posL l k)
 | [], _, _, _, _ => rfl
 | p :: l, k, v, hr, h => by
  cases e : ltB p.1 k
  ·rw [posL_ge e]
   have hl := fnd_at hr (by rw [posL_ge e]; simp)
   rw [h] at hl
   simp only [posL_ge (l := l) e, gCZ] at hl
   rw [insL_gt e hl.1.symm]; rfl
  ·rw [posL_lt e, insL_lt e, ins_new (rising_tail hr)]
   ·rfl
   ·unfold fndL at h ⊢
    rwa [atL_no (eqB_false.2 (ltB_ne e))] at h
end Go.Proofs.YtpbaobmegomfpabGreatDoor
