/-
  Lists of pairs in memory: a slice value that reads as a list of pairs of strings.
-/
import Derived.Test.YtpbaobmegomfpaaDoorBackM
import Derived.Below
import Derived.Lib.Hide
import Derived.Deep.Draws
namespace Go.Proofs.YtpbaobmegomfpaaDoor
open Go.RowKit
set_option linter.unusedVariables false

/-- the slice value v reads as the list l of pairs, in blocks below B -/
structure Lst (w : World) (B : Nat) (v : Value) (l : PL) : Prop where
  form : ∃ A c, v = .slice A l.length c ∧ l.length ≤ c
  bytes : l.length * 32 ≤ 140737488351232
  sizes : ∀ p ∈ l, p.1.size ≤ 140737488351232 ∧ p.2.size ≤ 140737488351232
  cells : 0 < l.length → ∃ b off c, v = .slice (some ⟨b, off, none⟩) l.length c ∧ b < B ∧
    ∀ i (h : i < l.length), w.cell? ⟨b, off + i * 2, none⟩ = some (.string l[i].1) ∧ w.cell? ⟨b, off + i * 2 + 1, none⟩ = some (.string l[i].2)
  nil : ∀ n c, v = .slice none n c → c = 0

theorem Lst.keep {w w' : World} {B B' : Nat} {v : Value} {l : PL} (h : Lst w B v l) (hB : B ≤ B') (hk : ∀ p : Addr, p.block < B → w'.cell? p = w.cell? p) : Lst w' B' v l := by
  refine ⟨h.form, h.bytes, h.sizes, fun hn => ?_, h.nil⟩
  obtain ⟨b, off, c, e, hb, hc⟩ := h.cells hn
  exact ⟨b, off, c, e, by omega, fun i hi => ⟨(hk _ hb).trans (hc i hi).1, (hk _ hb).trans (hc i hi).2⟩⟩
theorem Lst.below {w w' : World} {B : Nat} {v : Value} {l : PL} (h : Lst w B v l) (hb : Below B w w') : Lst w' B v l := h.keep (Nat.le_refl _) fun _ hp => hb.cell hp
theorem Lst.more {w : World} {B B' : Nat} {v : Value} {l : PL} (h : Lst w B v l) (hB : B ≤ B') : Lst w B' v l := h.keep hB fun _ _ => rfl
theorem Lst.alloc {w : World} {B : Nat} {v : Value} {l : PL} (h : Lst w B v l) (hB : B ≤ w.heap.size) (o : Obj) : Lst (w.alloc o) B v l := h.keep (Nat.le_refl _) fun p hp => World.cell?_alloc_lt w o p (by omega)
theorem Lst.drew {w : World} {B : Nat} {v : Value} {l : PL} (h : Lst w B v l) : Lst w.drew B v l := h.keep (Nat.le_refl _) fun _ _ => rfl
theorem Lst.drewN {w : World} {B : Nat} {v : Value} {l : PL} (h : Lst w B v l) (k : Nat) : Lst (w.drewN k) B v l := h.keep (Nat.le_refl _) fun _ _ => rfl
theorem Lst.setCell {w : World} {B : Nat} {v : Value} {l : PL} (h : Lst w B v l) {p : Addr} (hB : B ≤ p.block) (u : Value) : Lst (w.setCell p u) B v l :=
  h.keep (Nat.le_refl _) fun q hq => World.cell?_setCell_other w p q u (fun e => by subst e; omega)
theorem Lst.at {w : World} {B : Nat} {v : Value} {l : PL} (h : Lst w B v l) {k : Nat} (hk : k < l.length) :
    ∃ b off c, v = .slice (some ⟨b, off, none⟩) l.length c ∧ b < B ∧ w.cell? ⟨b, off + k * 2, none⟩ = some (.string l[k].1) ∧ w.cell? ⟨b, off + k * 2 + 1, none⟩ = some (.string l[k].2) := by
  obtain ⟨b, off, c, e, hb, hc⟩ := h.cells (by omega)
  exact ⟨b, off, c, e, hb, (hc k hk).1, (hc k hk).2⟩
theorem Lst.key {w : World} {B : Nat} {v : Value} {l : PL} (h : Lst w B v l) {k : Nat} (hk : k < l.length) : l[k].1.size ≤ 140737488351232 ∧ l[k].2.size ≤ 140737488351232 := h.sizes _ (List.getElem_mem hk)
theorem Lst.pt {w : World} {B n c : Nat} {A : Option Addr} {l : PL} (h : Lst w B (.slice A n c) l) {k : Nat} (hk : k < l.length) :
    ∃ b off, A = some ⟨b, off, none⟩ ∧ b < B ∧ w.cell? ⟨b, off + k * 2, none⟩ = some (.string l[k].1) ∧ w.cell? ⟨b, off + k * 2 + 1, none⟩ = some (.string l[k].2) := by
  obtain ⟨b, off, c', e, hb, hc⟩ := h.at hk
  injection e with e1 e2 e3
  exact ⟨b, off, e1, hb, hc⟩

end Go.Proofs.YtpbaobmegomfpaaDoor
