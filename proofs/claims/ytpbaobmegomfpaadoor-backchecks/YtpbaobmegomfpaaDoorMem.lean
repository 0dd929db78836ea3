/-
  Blocks that a call fills from the front.
-/
import Derived.Test.YtpbaobmegomfpaaDoorLst
import Derived.Laws.OwnMore
namespace Go.Proofs.YtpbaobmegomfpaaDoor
open Go.RowKit
set_option linter.unusedVariables false

/-- block g has n cells of type t, none of them frozen, and they begin with xs -/
def RowTo (w : World) (g t n : Nat) (xs : List Value) : Prop := ∃ cur : Array Value, w.heap[g]? = some (.cells cur t (0, 0)) ∧ cur.size = n ∧ cur.toList.take xs.length = xs

section
variable {w w' : World} {g t n B : Nat} {xs : List Value}
theorem RowTo.len (h : RowTo w g t n xs) : xs.length ≤ n := by
  obtain ⟨cur, _, hs, hx⟩ := h
  have := congrArg List.length hx
  simp at this
  omega
theorem RowTo.lt (h : RowTo w g t n xs) : g < w.heap.size := by
  obtain ⟨cur, hh, _⟩ := h
  exact (Array.getElem?_eq_some_iff.1 hh).1
theorem RowTo.same (h : RowTo w g t n xs) (e : w'.heap[g]? = w.heap[g]?) : RowTo w' g t n xs := by
  obtain ⟨cur, hh, r⟩ := h
  exact ⟨cur, e.trans hh, r⟩
theorem RowTo.below (h : RowTo w g t n xs) (hb : Below B w w') (hg : g < B) : RowTo w' g t n xs := h.same (hb.block g hg)
theorem RowTo.alloc (h : RowTo w g t n xs) (o : Obj) : RowTo (w.alloc o) g t n xs := h.same (Below.heap_alloc _ _ _ h.lt)
theorem RowTo.drew (h : RowTo w g t n xs) : RowTo w.drew g t n xs := h
theorem RowTo.drewN (h : RowTo w g t n xs) (k : Nat) : RowTo (w.drewN k) g t n xs := h
theorem RowTo.other (h : RowTo w g t n xs) {p : Addr} (hp : p.block ≠ g) (u : Value) : RowTo (w.setCell p u) g t n xs := h.same (Below.heap_setCell _ _ _ _ (fun e => hp e.symm))
theorem RowTo.cell (h : RowTo w g t n xs) {j : Nat} (hj : j < xs.length) : w.cell? ⟨g, j, none⟩ = some xs[j] := by
  obtain ⟨cur, hh, hs, hx⟩ := h
  unfold World.cell?
  simp only [hh]
  have e : cur[j]? = cur.toList[j]? := by simp
  show cur[j]? = _
  rw [e]
  have : cur.toList[j]? = (cur.toList.take xs.length)[j]? := by rw [List.getElem?_take, if_pos hj]
  rw [this, hx, List.getElem?_eq_getElem hj]
theorem RowTo.any (h : RowTo w g t n xs) {j : Nat} (hj : j < n) : ∃ u, w.cell? ⟨g, j, none⟩ = some u := by
  obtain ⟨cur, hh, hs, hx⟩ := h
  refine ⟨cur[j]'(by omega), ?_⟩
  unfold World.cell?
  simp only [hh]
  show cur[j]? = _
  rw [Array.getElem?_eq_getElem (by omega)]
theorem RowTo.frozen (h : RowTo w g t n xs) (j : Nat) : w.frozen? ⟨g, j, none⟩ = false := by
  obtain ⟨cur, hh, hs, hx⟩ := h
  unfold World.frozen?
  simp [hh]
theorem RowTo.push (h : RowTo w g t n xs) (hl : xs.length < n) (u : Value) {j : Nat} (hj : j = xs.length) : RowTo (w.setCell ⟨g, j, none⟩ u) g t n (xs ++ [u]) := by
  subst hj
  have hlt := h.lt
  obtain ⟨cur, hh, hs, hx⟩ := h
  refine ⟨cur.setIfInBounds xs.length u, ?_, by simpa using hs, ?_⟩
  · simp [World.setCell, Array.getElem?_modify, hh]
  · rw [Array.toList_setIfInBounds, List.length_append, List.length_singleton, List.take_add_one, List.getElem?_set, if_pos rfl, List.take_set_of_le (Nat.le_refl _), hx, if_pos (by simp; omega)]
    rfl
/-- a store within what is known -/
theorem RowTo.put (h : RowTo w g t n xs) {j : Nat} (hj : j < xs.length) (u : Value) : RowTo (w.setCell ⟨g, j, none⟩ u) g t n (xs.set j u) := by
  obtain ⟨cur, hh, hs, hx⟩ := h
  refine ⟨cur.setIfInBounds j u, ?_, by simpa using hs, ?_⟩
  · simp [World.setCell, Array.getElem?_modify, hh]
  · rw [Array.toList_setIfInBounds, List.length_set, List.take_set, hx]
theorem RowTo.new (w : World) (cs : Array Value) (t : TypeId) : RowTo (w.alloc (.cells cs t)) w.heap.size t cs.size [] :=
  ⟨cs, heap_alloc_new w _, rfl, rfl⟩
theorem RowTo.whole (w : World) (cs : Array Value) (t : TypeId) : RowTo (w.alloc (.cells cs t)) w.heap.size t cs.size cs.toList :=
  ⟨cs, heap_alloc_new w _, rfl, by rw [List.take_of_length_le (by simp)]⟩
theorem RowTo.front (h : RowTo w g t n xs) (k : Nat) : RowTo w g t n (xs.take k) := by
  obtain ⟨cur, hh, hs, hx⟩ := h
  refine ⟨cur, hh, hs, ?_⟩
  rw [List.length_take, ← List.take_take, hx]
end

/-- the cells of pairs -/
def flat (l : PL) : List Value := l.flatMap fun p => [.string p.1, .string p.2]
theorem flat_nil : flat [] = [] := rfl
theorem flat_cons (p : ByteArray × ByteArray) (l : PL) : flat (p :: l) = .string p.1 :: .string p.2 :: flat l := rfl
theorem flat_append (l m : PL) : flat (l ++ m) = flat l ++ flat m := by unfold flat; rw [List.flatMap_append]
theorem flat_length (l : PL) : (flat l).length = l.length * 2 := by
  induction l with
  | nil => rfl
  | cons p l ih => rw [flat_cons]; simp only [List.length_cons, ih]; omega
theorem flat_fst : ∀ (l : PL) (i : Nat) (h : i < l.length), (flat l)[i * 2]? = some (.string l[i].1)
  | p :: l, 0, h => rfl
  | p :: l, i + 1, h => by rw [flat_cons, show (i + 1) * 2 = i * 2 + 1 + 1 by omega]; simpa using flat_fst l i (by simpa using h)
theorem flat_snd : ∀ (l : PL) (i : Nat) (h : i < l.length), (flat l)[i * 2 + 1]? = some (.string l[i].2)
  | p :: l, 0, h => rfl
  | p :: l, i + 1, h => by rw [flat_cons, show (i + 1) * 2 + 1 = i * 2 + 1 + 1 + 1 by omega]; simpa using flat_snd l i (by simpa using h)
theorem flat_take (l : PL) (k : Nat) : flat (l.take k) = (flat l).take (k * 2) := by
  induction l generalizing k with
  | nil => simp [flat_nil]
  | cons p l ih =>
    cases k with
    | zero => simp [flat_nil]
    | succ k => rw [List.take_succ_cons, flat_cons, flat_cons, ih, show (k + 1) * 2 = k * 2 + 1 + 1 by omega]; rfl
theorem flat_step (l : PL) (k : Nat) (h : k < l.length) : flat (l.take (k + 1)) = flat (l.take k) ++ [.string l[k].1] ++ [.string l[k].2] := by
  rw [List.take_succ_eq_append_getElem h, flat_append]; simp [flat]

/-- what is filled reads as a list -/
theorem RowTo.lst {w : World} {g t n c B : Nat} {l : PL} (h : RowTo w g t n (flat l)) (hc : l.length ≤ c) (hB : g < B) (hby : l.length * 32 ≤ 140737488351232) (hs : ∀ p ∈ l, p.1.size ≤ 140737488351232 ∧ p.2.size ≤ 140737488351232) :
    Lst w B (.slice (some ⟨g, 0, none⟩) l.length c) l := by
  refine ⟨⟨_, c, rfl, hc⟩, hby, hs, fun _ => ⟨g, 0, c, rfl, hB, fun i hi => ⟨?_, ?_⟩⟩, fun n c h => by cases h⟩
  · have h1 := h.cell (j := i * 2) (by rw [flat_length]; omega)
    have h2 := flat_fst l i hi
    rw [List.getElem?_eq_getElem (by rw [flat_length]; omega)] at h2
    rw [Nat.zero_add, h1, h2]
  · have h1 := h.cell (j := i * 2 + 1) (by rw [flat_length]; omega)
    have h2 := flat_snd l i hi
    rw [List.getElem?_eq_getElem (by rw [flat_length]; omega)] at h2
    rw [Nat.zero_add, h1, h2]


theorem Lst.flat_cells {w : World} {B n c : Nat} {ad : Addr} {l : PL} (h : Lst w B (.slice (some ad) n c) l) : ∀ j u, (flat l)[j]? = some u → w.cell? (ad.add j) = some u := by
  intro j u hj
  have hlt : j < (flat l).length := (List.getElem?_eq_some_iff.1 hj).1
  rw [flat_length] at hlt
  obtain ⟨b, off, e, _, c0, c1⟩ := h.pt (k := j / 2) (by omega)
  injection e with e
  subst e
  rw [Addr.add_lit]
  rcases Nat.mod_two_eq_zero_or_one j with h2 | h2
  · have h3 : j / 2 * 2 = j := by omega
    have h4 := flat_fst l (j / 2) (by omega)
    rw [h3] at h4 c0
    rw [c0, ← h4, hj]
  · have h3 : j / 2 * 2 + 1 = j := by omega
    have h4 := flat_snd l (j / 2) (by omega)
    rw [Nat.add_assoc, h3] at c1
    rw [h3] at h4
    rw [c1, ← h4, hj]
theorem flat_one (l : PL) : ∀ u ∈ flat l, u.oneCell' = true := by
  intro u hu
  unfold flat at hu
  rw [List.mem_flatMap] at hu
  obtain ⟨p, _, hp⟩ := hu
  simp only [List.mem_cons, List.not_mem_nil, or_false] at hp
  rcases hp with rfl | rfl <;> rfl
theorem ownsRow_less {w : World} {base base' e size n : Nat} {v : Value} {xs : List Value} (h : w.ownsRow base e size v n xs) (hb : base' ≤ base) : w.ownsRow base' e size v n xs := by
  obtain ⟨h1, h2 | ⟨g, cap, cur, hv, hg, r⟩⟩ := h
  · exact ⟨h1, .inl h2⟩
  · exact ⟨h1, .inr ⟨g, cap, cur, hv, Nat.le_trans hb hg, r⟩⟩
theorem bel_add' {B : Nat} {a b c : World} (h : Below B a b) (k : Below b.heap.size b c) (hB : B ≤ b.heap.size) : Below B a c := h.trans (k.mono hB)
/-- a list of the call's own reads as it does -/
theorem own_lst {w : World} {base t : Nat} {v : Value} {l : PL} (h : w.ownsRow base t 2 v l.length (flat l)) (hby : l.length * 32 ≤ 140737488351232) (hs : ∀ p ∈ l, p.1.size ≤ 140737488351232 ∧ p.2.size ≤ 140737488351232) : Lst w w.heap.size v l := by
  obtain ⟨hl, h1 | ⟨g, cap, cur, hv, hg, hh, hc, hm, hz, hx⟩⟩ := h
  · obtain ⟨hv, hn⟩ := h1
    subst hv
    exact ⟨⟨none, 0, by rw [hn], by omega⟩, hby, hs, fun h => by omega, fun n c h => by injection h with _ _ h; exact h.symm⟩
  · subst hv
    have hr : RowTo w g t (cap * 2) (flat l) := ⟨cur, hh, hz, by rw [flat_length]; exact hx⟩
    exact hr.lst hc hr.lt hby hs

end Go.Proofs.YtpbaobmegomfpaaDoor
