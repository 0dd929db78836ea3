/-
  Sessions and worlds in memory.
-/
import Derived.Test.YtpbaobmegomfpaaDoorMem
namespace Go.Proofs.YtpbaobmegomfpaaDoor
open Go.RowKit
set_option linter.unusedVariables false

/-- a session in five cells from o on -/
structure Ses (w : World) (B b o : Nat) (s : Sess) (v1 v2 v3 v4 : Value) : Prop where
  c0 : w.cell? ⟨b, o, none⟩ = some (.int .i64 s.st)
  c1 : w.cell? ⟨b, o + 1, none⟩ = some v1
  c2 : w.cell? ⟨b, o + 2, none⟩ = some v2
  c3 : w.cell? ⟨b, o + 3, none⟩ = some v3
  c4 : w.cell? ⟨b, o + 4, none⟩ = some v4
  l1 : Lst w B v1 s.set
  l2 : Lst w B v2 s.prep
  l3 : Lst w B v3 s.sav
  l4 : Lst w B v4 s.wr
theorem Ses.keep {w w' : World} {B B' b o : Nat} {s : Sess} {v1 v2 v3 v4 : Value} (h : Ses w B b o s v1 v2 v3 v4) (hb : b < B) (hB : B ≤ B') (hk : ∀ p : Addr, p.block < B → w'.cell? p = w.cell? p) : Ses w' B' b o s v1 v2 v3 v4 :=
  ⟨(hk _ hb).trans h.c0, (hk _ hb).trans h.c1, (hk _ hb).trans h.c2, (hk _ hb).trans h.c3, (hk _ hb).trans h.c4, h.l1.keep hB hk, h.l2.keep hB hk, h.l3.keep hB hk, h.l4.keep hB hk⟩
/-- the slice value v reads as the sessions ss, in blocks below B -/
structure Sss (w : World) (B : Nat) (v : Value) (ss : List Sess) : Prop where
  form : ∃ A c, v = .slice A ss.length c ∧ ss.length ≤ c
  bytes : ss.length * 104 ≤ 140737488351232
  cells : 0 < ss.length → ∃ b off c, v = .slice (some ⟨b, off, none⟩) ss.length c ∧ b < B ∧
    ∀ i (h : i < ss.length), ∃ v1 v2 v3 v4, Ses w B b (off + i * 5) ss[i] v1 v2 v3 v4
theorem Sss.keep {w w' : World} {B B' : Nat} {v : Value} {ss : List Sess} (h : Sss w B v ss) (hB : B ≤ B') (hk : ∀ p : Addr, p.block < B → w'.cell? p = w.cell? p) : Sss w' B' v ss := by
  refine ⟨h.form, h.bytes, fun hn => ?_⟩
  obtain ⟨b, off, c, e, hb, hc⟩ := h.cells hn
  refine ⟨b, off, c, e, by omega, fun i hi => ?_⟩
  obtain ⟨v1, v2, v3, v4, hs⟩ := hc i hi
  exact ⟨v1, v2, v3, v4, hs.keep hb hB hk⟩
theorem Sss.below {w w' : World} {B : Nat} {v : Value} {l : List Sess} (h : Sss w B v l) (hb : Below B w w') : Sss w' B v l := h.keep (Nat.le_refl _) fun _ hp => hb.cell hp
theorem Sss.more {w : World} {B B' : Nat} {v : Value} {l : List Sess} (h : Sss w B v l) (hB : B ≤ B') : Sss w B' v l := h.keep hB fun _ _ => rfl
theorem Sss.alloc {w : World} {B : Nat} {v : Value} {l : List Sess} (h : Sss w B v l) (hB : B ≤ w.heap.size) (o : Obj) : Sss (w.alloc o) B v l := h.keep (Nat.le_refl _) fun p hp => World.cell?_alloc_lt w o p (by omega)
theorem Sss.pt {w : World} {B n c : Nat} {A : Option Addr} {ss : List Sess} (h : Sss w B (.slice A n c) ss) {k : Nat} (hk : k < ss.length) :
    ∃ b off v1 v2 v3 v4, A = some ⟨b, off, none⟩ ∧ b < B ∧ Ses w B b (off + k * 5) ss[k] v1 v2 v3 v4 := by
  obtain ⟨b, off, c', e, hb, hc⟩ := h.cells (by omega)
  injection e with e1 e2 e3
  obtain ⟨v1, v2, v3, v4, hs⟩ := hc k hk
  exact ⟨b, off, v1, v2, v3, v4, e1, hb, hs⟩
/-- a world as a value -/
structure Wld (w : World) (B : Nat) (r s : Value) (W : Wd) : Prop where
  rows : Lst w B r W.rows
  sess : Sss w B s W.ss
theorem Wld.keep {w w' : World} {B B' : Nat} {r s : Value} {W : Wd} (h : Wld w B r s W) (hB : B ≤ B') (hk : ∀ p : Addr, p.block < B → w'.cell? p = w.cell? p) : Wld w' B' r s W := ⟨h.rows.keep hB hk, h.sess.keep hB hk⟩
theorem Wld.below {w w' : World} {B : Nat} {r s : Value} {W : Wd} (h : Wld w B r s W) (hb : Below B w w') : Wld w' B r s W := h.keep (Nat.le_refl _) fun _ hp => hb.cell hp
theorem Wld.more {w : World} {B B' : Nat} {r s : Value} {W : Wd} (h : Wld w B r s W) (hB : B ≤ B') : Wld w B' r s W := h.keep hB fun _ _ => rfl
theorem Wld.step {w w' : World} {r s : Value} {W : Wd} (h : Wld w w.heap.size r s W) (hb : Below w.heap.size w w') : Wld w' w'.heap.size r s W := (h.below hb).more hb.size
theorem Lst.step {w w' : World} {v : Value} {l : PL} (h : Lst w w.heap.size v l) (hb : Below w.heap.size w w') : Lst w' w'.heap.size v l := (h.below hb).more hb.size
theorem Sss.step {w w' : World} {v : Value} {l : List Sess} (h : Sss w w.heap.size v l) (hb : Below w.heap.size w w') : Sss w' w'.heap.size v l := (h.below hb).more hb.size

/-- the slice of a block from its front -/
def sl (g n : Nat) : Value := .slice (some ⟨g, 0, none⟩) n n
/-- a store of a session -/
def set5 (w : World) (S o : Nat) (a0 a1 a2 a3 a4 : Value) : World :=
  ((((w.setCell ⟨S, o, none⟩ a0).setCell ⟨S, o + 1, none⟩ a1).setCell ⟨S, o + 2, none⟩ a2).setCell ⟨S, o + 3, none⟩ a3).setCell ⟨S, o + 4, none⟩ a4
theorem cell_put {w : World} {g t n : Nat} {xs : List Value} (h : RowTo w g t n xs) {j : Nat} (hj : j < n) (u : Value) : (w.setCell ⟨g, j, none⟩ u).cell? ⟨g, j, none⟩ = some u := by
  obtain ⟨x, hx⟩ := h.any hj
  simp [go_sem, hx]
theorem cell_off {w : World} {g j i : Nat} (u : Value) (h : i ≠ j) : (w.setCell ⟨g, j, none⟩ u).cell? ⟨g, i, none⟩ = w.cell? ⟨g, i, none⟩ :=
  World.cell?_setCell_other _ _ _ _ (fun e => h (by injection e with e1 e2; exact e2.symm))
theorem RowTo.nil {w : World} {g t n : Nat} {xs : List Value} (h : RowTo w g t n xs) : RowTo w g t n [] := h.front 0
theorem RowTo.hit {w : World} {g t n j : Nat} (h : RowTo w g t n []) (u : Value) : RowTo (w.setCell ⟨g, j, none⟩ u) g t n [] := by
  obtain ⟨cur, hh, hs, hx⟩ := h
  refine ⟨cur.setIfInBounds j u, ?_, by simpa using hs, rfl⟩
  simp [World.setCell, Array.getElem?_modify, hh]
section
variable {w : World} {S o t n : Nat} {a0 a1 a2 a3 a4 : Value}
theorem set5_row (h : RowTo w S t n []) : RowTo (set5 w S o a0 a1 a2 a3 a4) S t n [] := ((((h.hit _).hit _).hit _).hit _).hit _
theorem set5_other {g t n : Nat} {xs : List Value} (h : RowTo w g t n xs) (hne : S ≠ g) : RowTo (set5 w S o a0 a1 a2 a3 a4) g t n xs := ((((h.other hne _).other hne _).other hne _).other hne _).other hne _
theorem set5_cells (h : RowTo w S t n []) (ho : o + 4 < n) : (set5 w S o a0 a1 a2 a3 a4).cell? ⟨S, o, none⟩ = some a0 ∧ (set5 w S o a0 a1 a2 a3 a4).cell? ⟨S, o + 1, none⟩ = some a1 ∧ (set5 w S o a0 a1 a2 a3 a4).cell? ⟨S, o + 2, none⟩ = some a2 ∧
    (set5 w S o a0 a1 a2 a3 a4).cell? ⟨S, o + 3, none⟩ = some a3 ∧ (set5 w S o a0 a1 a2 a3 a4).cell? ⟨S, o + 4, none⟩ = some a4 := by
  unfold set5
  refine ⟨?_, ?_, ?_, ?_, cell_put (xs := []) ((((h.hit _).hit _).hit _).hit _) (by omega) _⟩
  · rw [cell_off _ (by omega), cell_off _ (by omega), cell_off _ (by omega), cell_off _ (by omega)]; exact cell_put h (by omega) _
  · rw [cell_off _ (by omega), cell_off _ (by omega), cell_off _ (by omega)]; exact cell_put (h.hit _) (by omega) _
  · rw [cell_off _ (by omega), cell_off _ (by omega)]; exact cell_put ((h.hit _).hit _) (by omega) _
  · rw [cell_off _ (by omega)]; exact cell_put (((h.hit _).hit _).hit _) (by omega) _
theorem set5_off {i : Nat} (h : i < o ∨ o + 4 < i) : (set5 w S o a0 a1 a2 a3 a4).cell? ⟨S, i, none⟩ = w.cell? ⟨S, i, none⟩ := by
  unfold set5
  rw [cell_off _ (by omega), cell_off _ (by omega), cell_off _ (by omega), cell_off _ (by omega), cell_off _ (by omega)]
theorem set5_below {B : Nat} {a : World} (h : Below B a w) (hS : B ≤ S) : Below B a (set5 w S o a0 a1 a2 a3 a4) := ((((h.setCell hS _).setCell hS _).setCell hS _).setCell hS _).setCell hS _
theorem set5_cell {p : Addr} (h : p.block ≠ S) : (set5 w S o a0 a1 a2 a3 a4).cell? p = w.cell? p := by
  unfold set5
  rw [World.cell?_setCell_other _ _ _ _ (fun e => h (by rw [← e])), World.cell?_setCell_other _ _ _ _ (fun e => h (by rw [← e])), World.cell?_setCell_other _ _ _ _ (fun e => h (by rw [← e])), World.cell?_setCell_other _ _ _ _ (fun e => h (by rw [← e])), World.cell?_setCell_other _ _ _ _ (fun e => h (by rw [← e]))]
end

/-- the four lists of a session -/
def Sess.li (s : Sess) : Nat → PL
  | 0 => s.set
  | 1 => s.prep
  | 2 => s.sav
  | _ => s.wr
/-- the first k sessions lie in block S, each list in a block of its own, G says which -/
structure OwnS (w : World) (base S n : Nat) (G : Nat → Nat → Nat) (ss : List Sess) (k : Nat) : Prop where
  blk : RowTo w S 77 (n * 5) []
  st : ∀ i (h : i < ss.length), i < k → w.cell? ⟨S, i * 5, none⟩ = some (.int .i64 ss[i].st)
  cs : ∀ i j (h : i < ss.length), i < k → j < 4 → w.cell? ⟨S, i * 5 + (j + 1), none⟩ = some (sl (G i j) (ss[i].li j).length)
  ls : ∀ i j (h : i < ss.length), i < k → j < 4 → RowTo w (G i j) 81 ((ss[i].li j).length * 2) (flat (ss[i].li j))
  lo : ∀ i j, i < k → j < 4 → base ≤ G i j
  ne : ∀ i j, i < k → j < 4 → G i j ≠ S
  inj : ∀ i j i' j', i < k → j < 4 → i' < k → j' < 4 → G i j = G i' j' → i = i' ∧ j = j'

def pick4 (g0 g1 g2 g3 : Nat) : Nat → Nat
  | 0 => g0
  | 1 => g1
  | 2 => g2
  | _ => g3
theorem j4 {j : Nat} (h : j < 4) : j = 0 ∨ j = 1 ∨ j = 2 ∨ j = 3 := by omega
theorem OwnS.step {wr w3 : World} {base S n k : Nat} {G : Nat → Nat → Nat} {ss : List Sess} (h : OwnS wr base S n G ss k) (hk : k < ss.length) (hn : ss.length = n) (hb : base ≤ wr.heap.size) (kb : Below wr.heap.size wr w3) {g0 g1 g2 g3 : Nat}
    (r0 : RowTo w3 g0 81 (ss[k].set.length * 2) (flat ss[k].set)) (r1 : RowTo w3 g1 81 (ss[k].prep.length * 2) (flat ss[k].prep))
    (r2 : RowTo w3 g2 81 (ss[k].sav.length * 2) (flat ss[k].sav)) (r3 : RowTo w3 g3 81 (ss[k].wr.length * 2) (flat ss[k].wr))
    (q0 : wr.heap.size ≤ g0) (q1 : g0 < g1) (q2 : g1 < g2) (q3 : g2 < g3) :
    OwnS (set5 w3 S (k * 5) (.int .i64 ss[k].st) (sl g0 ss[k].set.length) (sl g1 ss[k].prep.length) (sl g2 ss[k].sav.length) (sl g3 ss[k].wr.length)) base S n (fun i j => if i = k then pick4 g0 g1 g2 g3 j else G i j) ss (k + 1) := by
  have hS := h.blk.lt
  have b3 : RowTo w3 S 77 (n * 5) [] := h.blk.below kb hS
  have hc := set5_cells (a0 := .int .i64 ss[k].st) (a1 := sl g0 ss[k].set.length) (a2 := sl g1 ss[k].prep.length) (a3 := sl g2 ss[k].sav.length) (a4 := sl g3 ss[k].wr.length) b3 (o := k * 5) (by omega)
  refine ⟨set5_row b3, fun i hi hik => ?_, fun i j hi hik hj => ?_, fun i j hi hik hj => ?_, fun i j hik hj => ?_, fun i j hik hj => ?_, fun i j i' j' hik hj hik' hj' e => ?_⟩
  · by_cases e : i = k
    · subst e; exact hc.1
    · rw [set5_off (by omega), kb.cell (p := ⟨S, i * 5, none⟩) hS]; exact h.st i hi (by omega)
  · by_cases e : i = k
    · subst e
      simp only [if_pos]
      rcases j4 hj with rfl | rfl | rfl | rfl
      · exact hc.2.1
      · exact hc.2.2.1
      · exact hc.2.2.2.1
      · exact hc.2.2.2.2
    · simp only [if_neg e]
      rw [set5_off (by omega), kb.cell (p := ⟨S, i * 5 + (j + 1), none⟩) hS]; exact h.cs i j hi (by omega) hj
  · by_cases e : i = k
    · subst e
      simp only [if_pos]
      rcases j4 hj with rfl | rfl | rfl | rfl
      · exact set5_other r0 (by show S ≠ g0; omega)
      · exact set5_other r1 (by show S ≠ g1; omega)
      · exact set5_other r2 (by show S ≠ g2; omega)
      · exact set5_other r3 (by show S ≠ g3; omega)
    · simp only [if_neg e]
      have h1 := h.ls i j hi (by omega) hj
      exact set5_other (h1.below kb h1.lt) (fun e' => h.ne i j (by omega) hj e'.symm)
  · by_cases e : i = k
    · simp only [if_pos e]; rcases j4 hj with rfl | rfl | rfl | rfl <;> simp only [pick4] <;> omega
    · simp only [if_neg e]; exact h.lo i j (by omega) hj
  · by_cases e : i = k
    · simp only [if_pos e]; rcases j4 hj with rfl | rfl | rfl | rfl <;> simp only [pick4] <;> omega
    · simp only [if_neg e]; exact h.ne i j (by omega) hj
  · have old : ∀ a b, a < k → b < 4 → G a b < wr.heap.size := fun a b ha hb => (h.ls a b (by omega) ha hb).lt
    by_cases e1 : i = k <;> by_cases e2 : i' = k
    · simp only [if_pos e1, if_pos e2] at e
      refine ⟨by omega, ?_⟩
      rcases j4 hj with rfl | rfl | rfl | rfl <;> rcases j4 hj' with rfl | rfl | rfl | rfl <;> simp only [pick4] at e <;> omega
    · simp only [if_pos e1, if_neg e2] at e
      have := old i' j' (by omega) hj'
      rcases j4 hj with rfl | rfl | rfl | rfl <;> simp only [pick4] at e <;> omega
    · simp only [if_neg e1, if_pos e2] at e
      have := old i j (by omega) hj
      rcases j4 hj' with rfl | rfl | rfl | rfl <;> simp only [pick4] at e <;> omega
    · simp only [if_neg e1, if_neg e2] at e
      exact h.inj i j i' j' (by omega) hj (by omega) hj' e
theorem OwnS.kept {w w' : World} {base S n k : Nat} {G : Nat → Nat → Nat} {ss : List Sess} (h : OwnS w base S n G ss k) (hk : k ≤ ss.length) (kb : Below w.heap.size w w') : OwnS w' base S n G ss k := by
  have hS := h.blk.lt
  refine ⟨h.blk.below kb hS, fun i hi hik => (kb.cell (p := ⟨S, i * 5, none⟩) hS).trans (h.st i hi hik), fun i j hi hik hj => (kb.cell (p := ⟨S, i * 5 + (j + 1), none⟩) hS).trans (h.cs i j hi hik hj), fun i j hi hik hj => ?_, h.lo, h.ne, h.inj⟩
  have := h.ls i j hi hik hj
  exact this.below kb this.lt

end Go.Proofs.YtpbaobmegomfpaaDoor
