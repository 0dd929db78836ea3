/-
  Texts of the proof, one behind the other: PoolW, PoolW2, PoolW3, PRead.
-/
import Derived.Test.YtpbaobmegomfpabGreatDoorM21
import Derived.Test.YtpbaobmegomfpabGreatDoorM22
import Derived.Test.YtpbaobmegomfpabGreatDoorM20
import Derived.Test.YtpbaobmegomfpabGreatDoorM23
import Derived.Test.YtpbaobmegomfpabGreatDoorRows
import Derived.WalkKit
import Derived.WalkSpells
import Derived.WalkLawsBesides
import Derived.Lib.Hide
import Derived.Deep.QuietTactic
import Derived.BigQuiet
import Derived.IntWalk
import Derived.WalkSmall
set_option linter.unusedVariables false
set_option linter.unusedSimpArgs false
set_option maxRecDepth 100000
open List renaming getElem_toArray → gTA, getElem_cons_zero → gCZ, getElem_cons_succ → gCS, setIfInBounds_toArray → sTA, set_cons_zero → sCZ, set_cons_succ → sCS
open Go.Lib renaming hid → jD
open Nat renaming le_refl → nL
namespace Go.Proofs.YtpbaobmegomfpabGreatDoor
open Go.RowKit
def PRow (w : World) (P : Nat) (f : Nat → Value) : Prop := ∃ cur : Array Value, w.heap[P]? = some (.cells cur 83 (0, 0)) ∧ cur.size = 48 ∧ ∀ j, j < 48 → cur[j]? = some (f j)
section
variable {w w' : World} {P : Nat} {f : Nat → Value}
theorem PRow.cell (h : PRow w P f) {j : Nat} (hj : j < 48) : w.cell? ⟨P, j, none⟩ = some (f j) := by
 obtain ⟨cur, hh, hs, hc⟩ := h
 unfold World.cell?
 simp only [hh]
 exact hc j hj
theorem PRow.frozen (h : PRow w P f) (j : Nat) : w.frozen? ⟨P, j, none⟩ = false := by
 obtain ⟨cur, hh, _⟩ := h
 unfold World.frozen?
 simp [hh]
theorem PRow.lt (h : PRow w P f) : P < w.heap.size := by
 obtain ⟨cur, hh, _⟩ := h
 exact (Array.getElem?_eq_some_iff.1 hh).1
theorem PRow.same (h : PRow w P f) (e : w'.heap[P]? = w.heap[P]?) : PRow w' P f := by
 obtain ⟨cur, hh, r⟩ := h
 exact ⟨cur, e.trans hh, r⟩
theorem PRow.set (h : PRow w P f) (j : Nat) (u : Value) : PRow (w.setCell ⟨P, j, none⟩ u) P (upd f j u) := by
 obtain ⟨cur, hh, hs, hc⟩ := h
 refine ⟨cur.setIfInBounds j u, ?_, by simpa using hs, fun i hi => ?_⟩
 ·simp [World.setCell, Array.getElem?_modify, hh]
 ·rw [Array.getElem?_setIfInBounds]
  unfold upd
  by_cases e : j = i
  ·subst e; rw [if_pos rfl, if_pos (by omega), if_pos rfl]
  ·rw [if_neg e, if_neg (fun h => e h.symm)]; exact hc i hi
theorem PRow.new (w : World) (cs : Array Value) (hs : cs.size = 48) (f : Nat → Value) (hf : ∀ j, j < 48 → cs[j]? = some (f j)) : PRow (w.alloc (.cells cs 83)) w.heap.size f :=
 ⟨cs, heap_alloc_new w _, hs, hf⟩
end
def slT (k : Nat) : Nat := if k = 1 then 4 else if k < 8 then 41 else if k = 8 then 3 else if k < 15 then 5 else 70
def slZ (k : Nat) : Nat := if k = 1 then 1 else if k < 8 then 3 else if k < 15 then 1 else 7
def slC (k : Nat) : Nat := if k = 1 then 3 else if k < 8 then 4 + (k - 2) * 6 + 1 else if k = 8 then 40 else if k < 15 then 41 + (k - 9) else 47
def reqV (r : Req) : List Value := [.int .i64 r.k, .string r.key, .string r.val]
def deedV (d : Deed) : List Value := [.int .i64 d.c, .int .i64 d.r.k, .string d.r.key, .string d.r.val, .int .i64 d.a.kind, .string d.a.text, .int .i64 d.st]
def items (m : Mach PE) (k : Nat) : List (List Value) := if k = 1 then m.busy.map (fun b => [.bool b]) else if k < 8 then (m.get (k - 2)).wait.map reqV else if k = 8 then m.line.map (fun (n : Nat) => [Value.int .i64 (n : Int)])
 else if k < 15 then (m.sent.getD (k - 9) ⟨#[]⟩).data.toList.map (fun b => [.int .u8 b.toNat]) else m.deeds.map deedV
def Free (G : Nat → Option Nat) (b : Nat) : Prop := ∀ i, G i ≠ some b
structure PMem (X : Nat) (w : World) (base P : Nat) (f : Nat → Value) (G : Nat → Option Nat) (mode : Int) (m : Mach PE) : Prop where
 row : PRow w P f
 p0 : G 0 = some P
 lo : ∀ i b, G i = some b → base ≤ b ∧ b < w.heap.size
 inj : ∀ i j b, G i = some b → G j = some b → i = j
 sl : ∀ k, 1 ≤ k → k ≤ 15 → k ≠ X → Sl w (slT k) (slZ k) (f (slC k)) (G k) (items m k).length (items m k).flatten
 md : f 0 = .int .i64 mode
 wld : WldP w (Free G) (f 1) (f 2) m.e.w
 bytes : ∀ c, c < 6 → f (4 + c * 6) = .string (m.get c).bytes
 has : ∀ c, c < 6 → f (4 + c * 6 + 2) = .bool (m.get c).srv.isSome
 srv : ∀ c, c < 6 → ∃ q : Int, f (4 + c * 6 + 3) = .int .i64 q ∧ ∀ s, (m.get c).srv = some s → q = s
 set : ∀ c, c < 6 → Lst w w.heap.size (f (4 + c * 6 + 4)) (m.e.of c).1 ∧ InP (Free G) (f (4 + c * 6 + 4)) (m.e.of c).1
 prep : ∀ c, c < 6 → Lst w w.heap.size (f (4 + c * 6 + 5)) (m.e.of c).2 ∧ InP (Free G) (f (4 + c * 6 + 5)) (m.e.of c).2
section
variable {X : Nat} {w w' : World} {base P : Nat} {f : Nat → Value} {G : Nat → Option Nat} {mode : Int} {m m' : Mach PE}
theorem lst_free {v : Value} {l : PL} (h : Lst w w.heap.size v l ∧ InP (Free G) v l) (hs : w.heap.size ≤ w'.heap.size) (hk : ∀ b, Free G b → b < w.heap.size → w'.heap[b]? = w.heap[b]?) : Lst w' w'.heap.size v l ∧ InP (Free G) v l :=
 ⟨h.1.keepP (own_lt h.1 h.2) (fun b hb => hk b hb.1 hb.2) (fun b hb => Nat.lt_of_lt_of_le hb.2 hs), h.2⟩
theorem PMem.keep (h : PMem X w base P f G mode m) (hX : 0 < X) (hs : w.heap.size ≤ w'.heap.size) (hk : ∀ b, b < w.heap.size → G X ≠ some b → w'.heap[b]? = w.heap[b]?) : PMem X w' base P f G mode m := by
 have fr : ∀ b, Free G b → b < w.heap.size → w'.heap[b]? = w.heap[b]? := fun b hb hlt => hk b hlt (hb X)
 have hP : w'.heap[P]? = w.heap[P]? := hk P h.row.lt (fun e => by have := h.inj X 0 P e h.p0; omega)
 refine ⟨h.row.same hP, h.p0, fun i b hb => ⟨(h.lo i b hb).1, Nat.lt_of_lt_of_le (h.lo i b hb).2 hs⟩, h.inj, fun k h1 h2 h3 => ?_, h.md, h.wld.keep hs fr, h.bytes, h.has, h.srv, fun c hc => lst_free (h.set c hc) hs fr, fun c hc => lst_free (h.prep c hc) hs fr⟩
 exact (h.sl k h1 h2 h3).keep fun b hb => hk b (h.lo k b hb).2 (fun e => h3 (h.inj k X b hb e))
theorem PMem.below (h : PMem X w base P f G mode m) (hb : Below w.heap.size w w') : PMem X w' base P f G mode m := by
 have fr : ∀ b, Free G b → b < w.heap.size → w'.heap[b]? = w.heap[b]? := fun b _ hlt => hb.block b hlt
 refine ⟨h.row.same (hb.block P h.row.lt), h.p0, fun i b hb' => ⟨(h.lo i b hb').1, Nat.lt_of_lt_of_le (h.lo i b hb').2 hb.size⟩, h.inj, fun k h1 h2 h3 => ?_, h.md, h.wld.keep hb.size fr, h.bytes, h.has, h.srv, fun c hc => lst_free (h.set c hc) hb.size fr, fun c hc => lst_free (h.prep c hc) hb.size fr⟩
 exact (h.sl k h1 h2 h3).keep fun b hb' => hb.block b (h.lo k b hb').2
theorem PMem.but (h : PMem 0 w base P f G mode m) (X : Nat) : PMem X w base P f G mode m := ⟨h.row, h.p0, h.lo, h.inj, fun k h1 h2 _ => h.sl k h1 h2 (by omega), h.md, h.wld, h.bytes, h.has, h.srv, h.set, h.prep⟩
theorem free_upd {G : Nat → Option Nat} {k b x : Nat} (h : Free G x) (hne : x ≠ b) : Free (upd G k (some b)) x := fun i => by
 unfold upd
 by_cases e : i = k
 ·rw [if_pos e]; intro h'; injection h' with h'; exact hne h'.symm
 ·rw [if_neg e]; exact h i
theorem InP.lt_free {v : Value} {l : PL} {G : Nat → Option Nat} {k b : Nat} (hl : Lst w w.heap.size v l) (h : InP (Free G) v l) (hb : w.heap.size ≤ b) : InP (Free (upd G k (some b))) v l :=
 (own_lt hl h).mono fun x hx => free_upd hx.1 (by have := hx.2; omega)
theorem PMem.move (h : PMem X w base P f G mode m) (hX : 0 < X) (hs : w.heap.size ≤ w'.heap.size) (hk : ∀ b, b < w.heap.size → G X ≠ some b → w'.heap[b]? = w.heap[b]?) {b : Nat} (hb : w.heap.size ≤ b) (hb' : b < w'.heap.size) (hbase : base ≤ w.heap.size) : PMem X w' base P f (upd G X (some b)) mode m := by
 have h2 := h.keep hX hs hk
 have hlt : ∀ i x, G i = some x → x < w.heap.size := fun i x hx => (h.lo i x hx).2
 have up : ∀ i, i ≠ X → upd G X (some b) i = G i := fun i hi => by unfold upd; rw [if_neg hi]
 have upX : upd G X (some b) X = some b := by unfold upd; rw [if_pos rfl]
 refine ⟨h2.row, (up 0 (by omega)).trans h.p0, fun i x hx => ?_, fun i j x hi hj => ?_, fun k h1 h3 h4 => ?_, h.md, ?_, h.bytes, h.has, h.srv, fun c hc => ⟨(h2.set c hc).1, ?_⟩, fun c hc => ⟨(h2.prep c hc).1, ?_⟩⟩
 ·by_cases e : i = X
  ·subst e; rw [upX] at hx; injection hx with hx; omega
  ·rw [up i e] at hx; exact h2.lo i x hx
 ·by_cases ei : i = X <;> by_cases ej : j = X
  ·omega
  ·subst ei; rw [upX] at hi; rw [up j ej] at hj; injection hi with hi; have := hlt j x hj; omega
  ·subst ej; rw [upX] at hj; rw [up i ei] at hi; injection hj with hj; have := hlt i x hi; omega
  ·rw [up i ei] at hi; rw [up j ej] at hj; exact h.inj i j x hi hj
 ·rw [up k h4]; exact h2.sl k h1 h3 h4
 ·exact (h.wld.small.keep hs (fun x hx hlt' => hk x hlt' (hx.1 X))).mono fun x hx => free_upd hx.1 (by have := hx.2; omega)
 ·exact InP.lt_free (h.set c hc).1 (h.set c hc).2 hb
 ·exact InP.lt_free (h.prep c hc).1 (h.prep c hc).2 hb
theorem Sl.ne {t size n : Nat} {v : Value} {g : Option Nat} {xs : List Value} (h : Sl w t size v g n xs) (hg : g ≠ some P) (hk : ∀ b, b ≠ P → w'.heap[b]? = w.heap[b]?) : Sl w' t size v g n xs := h.keep fun b hb => hk b fun e => hg (by rw [hb, e])
theorem PMem.noP (h : PMem X w base P f G mode m) {k : Nat} (hk : 1 ≤ k) : G k ≠ some P := fun e => by have := h.inj k 0 P e h.p0; omega
theorem PMem.free_ne (h : PMem X w base P f G mode m) {b : Nat} (hb : Free G b) : b ≠ P := fun e => hb 0 (by rw [h.p0, e])
theorem PMem.slK (h : PMem X w base P f G mode m) (hk : ∀ b, b ≠ P → w'.heap[b]? = w.heap[b]?) {k : Nat} (h1 : 1 ≤ k) (h2 : k ≤ 15) (h3 : k ≠ X) : Sl w' (slT k) (slZ k) (f (slC k)) (G k) (items m k).length (items m k).flatten := (h.sl k h1 h2 h3).ne (h.noP h1) hk
theorem PMem.wldK (h : PMem X w base P f G mode m) (hs : w'.heap.size = w.heap.size) (hk : ∀ b, b ≠ P → w'.heap[b]? = w.heap[b]?) {r s : Value} {W : Wd} (hw : WldP w (Free G) r s W) : WldP w' (Free G) r s W := hw.keep (by omega) fun b hb _ => hk b (h.free_ne hb)
theorem PMem.lstK (h : PMem X w base P f G mode m) (hs : w'.heap.size = w.heap.size) (hk : ∀ b, b ≠ P → w'.heap[b]? = w.heap[b]?) {v : Value} {l : PL} (hl : Lst w w.heap.size v l ∧ InP (Free G) v l) : Lst w' w'.heap.size v l ∧ InP (Free G) v l := lst_free hl (by omega) fun b hb _ => hk b (h.free_ne hb)
theorem PMem.loK (h : PMem X w base P f G mode m) (hs : w'.heap.size = w.heap.size) : ∀ i b, G i = some b → base ≤ b ∧ b < w'.heap.size := fun i b hb => by rw [hs]; exact h.lo i b hb
theorem size_set (w : World) (p : Addr) (u : Value) : (w.setCell p u).heap.size = w.heap.size := by simp [World.setCell]
theorem set_off (w : World) (P j : Nat) (u : Value) : ∀ b, b ≠ P → (w.setCell ⟨P, j, none⟩ u).heap[b]? = w.heap[b]? := fun b hb => Below.heap_setCell _ _ _ _ hb
theorem upd_ne {f : Nat → Value} {j i : Nat} {u : Value} (h : i ≠ j) : upd f j u i = f i := by unfold upd; rw [if_neg h]
theorem upd_at {f : Nat → Value} {j : Nat} {u : Value} : upd f j u j = u := by unfold upd; rw [if_pos rfl]
theorem slC_inj {k k' : Nat} (h1 : 1 ≤ k) (h2 : k ≤ 15) (h1' : 1 ≤ k') (h2' : k' ≤ 15) (h : slC k = slC k') : k = k' := by
 unfold slC at h
 repeat' split at h
 all_goals omega
theorem slC_no {k c : Nat} (h1 : 1 ≤ k) (h2 : k ≤ 15) (hc : c < 6) : slC k ≠ 0 ∧ slC k ≠ 1 ∧ slC k ≠ 2 ∧ slC k ≠ 4 + c * 6 ∧ slC k ≠ 4 + c * 6 + 2 ∧ slC k ≠ 4 + c * 6 + 3 ∧ slC k ≠ 4 + c * 6 + 4 ∧ slC k ≠ 4 + c * 6 + 5 := by
 unfold slC
 repeat' split
 all_goals omega
theorem PMem.fill (h : PMem X w base P f G mode m) (hs : Sl w (slT X) (slZ X) (f (slC X)) (G X) (items m' X).length (items m' X).flatten) (ho : ∀ k, k ≠ X → items m' k = items m k) (he : m'.e = m.e) (hb : ∀ c, (m'.get c).bytes = (m.get c).bytes) (hv : ∀ c, (m'.get c).srv = (m.get c).srv) : PMem 0 w base P f G mode m' := by
 refine ⟨h.row, h.p0, h.lo, h.inj, fun k h1 h2 _ => ?_, h.md, by rw [he]; exact h.wld, fun c hc => by rw [hb]; exact h.bytes c hc, fun c hc => by rw [hv]; exact h.has c hc, fun c hc => by rw [hv]; exact h.srv c hc, fun c hc => by rw [he]; exact h.set c hc, fun c hc => by rw [he]; exact h.prep c hc⟩
 by_cases e : k = X
 ·subst e; exact hs
 ·rw [ho k e]; exact h.sl k h1 h2 e
theorem PMem.cellX (h : PMem X w base P f G mode m) (h1 : 1 ≤ X) (h2 : X ≤ 15) (v : Value) : PMem X (w.setCell ⟨P, slC X, none⟩ v) base P (upd f (slC X) v) G mode m := by
 have hk := set_off w P (slC X) v
 have hz := size_set w ⟨P, slC X, none⟩ v
 have no := fun c (hc : c < 6) => slC_no (c := c) h1 h2 hc
 refine ⟨h.row.set _ _, h.p0, h.loK hz, h.inj, fun k a b e => ?_, ?_, ?_, fun c hc => ?_, fun c hc => ?_, fun c hc => ?_, fun c hc => ?_, fun c hc => ?_⟩
 ·rw [upd_ne (fun e' => e (slC_inj a b h1 h2 e'))]; exact h.slK hk a b e
 ·rw [upd_ne (no 0 (by omega)).1.symm]; exact h.md
 ·rw [upd_ne (no 0 (by omega)).2.1.symm, upd_ne (no 0 (by omega)).2.2.1.symm]; exact h.wldK hz hk h.wld
 ·rw [upd_ne (no c hc).2.2.2.1.symm]; exact h.bytes c hc
 ·rw [upd_ne (no c hc).2.2.2.2.1.symm]; exact h.has c hc
 ·rw [upd_ne (no c hc).2.2.2.2.2.1.symm]; exact h.srv c hc
 ·rw [upd_ne (no c hc).2.2.2.2.2.2.1.symm]; exact h.lstK hz hk (h.set c hc)
 ·rw [upd_ne (no c hc).2.2.2.2.2.2.2.symm]; exact h.lstK hz hk (h.prep c hc)
theorem PMem.grow {k n' : Nat} {w1 : World} {v : Value} {xs : List Value} {b : Nat} (h : PMem 0 w base P f G mode m) (h1 : 1 ≤ k) (h2 : k ≤ 15) (hbase : base ≤ w.heap.size) (hg : w.grownBy w1 (G k)) (hs : Sl w1 (slT k) (slZ k) v (some b) n' xs) (hb : G k = some b ∨ (w.heap.size ≤ b ∧ b < w1.heap.size))
  (hn : n' = (items m' k).length) (hx : xs = (items m' k).flatten) (ho : ∀ k', k' ≠ k → items m' k' = items m k') (he : m'.e = m.e) (hby : ∀ c, (m'.get c).bytes = (m.get c).bytes) (hv : ∀ c, (m'.get c).srv = (m.get c).srv) :
  PMem 0 (w1.setCell ⟨P, slC k, none⟩ v) base P (upd f (slC k) v) (upd G k (some b)) mode m' := by
 have hkb : ∀ b, b < w.heap.size → G k ≠ some b → w1.heap[b]? = w.heap[b]? := fun b hlt hne => hg.block b hlt (fun e => hne e.symm)
 have h3 : PMem k w1 base P f (upd G k (some b)) mode m := by
  rcases hb with hb | ⟨hb, hb'⟩
  ·have : upd G k (some b) = G := by
    funext i; unfold upd; split
    ·rename_i e; rw [e, hb]
    ·rfl
   rw [this]; exact (h.but k).keep (by omega) hg.size hkb
  ·exact (h.but k).move (by omega) hg.size hkb hb hb' hbase
 have h4 := h3.cellX h1 h2 v
 refine h4.fill ?_ ho he hby hv
 have e1 : upd f (slC k) v (slC k) = v := upd_at
 have e2 : upd G k (some b) k = some b := by unfold upd; rw [if_pos rfl]
 rw [e1, e2, ← hn, ← hx]
 refine hs.ne ?_ (set_off w1 P (slC k) v)
 intro e
 injection e with e
 have := h3.inj k 0 P (by rw [e2, e]) h3.p0
 omega
end
section
variable {w w' : World} {base P : Nat} {f : Nat → Value} {G : Nat → Option Nat} {mode : Int} {m m' : Mach PE}
theorem items_turn {c : Nat} (hc : c < m.cl.length) {x : Cl} (hw : x.wait = (m.get c).wait) (k : Nat) : items (m.set c x) k = items m k := by
 unfold items
 have : ((m.set c x).get (k - 2)).wait = (m.get (k - 2)).wait := by
  rw [get_set hc]; split
  ·rename_i e; rw [hw, e]
  ·rfl
 rw [this]; rfl
theorem items_same (h1 : m'.cl = m.cl) (h2 : m'.busy = m.busy) (h3 : m'.line = m.line) (h4 : m'.sent = m.sent) (h5 : m'.deeds = m.deeds) (k : Nat) : items m' k = items m k := by
 unfold items Mach.get; rw [h1, h2, h3, h4, h5]
theorem set_get {c d : Nat} (hc : c < m.cl.length) (x : Cl) : (m.set c x).get d = if c = d then x else m.get d := get_set hc
theorem PMem.setBytes (h : PMem 0 w base P f G mode m) {c : Nat} (hc : c < 6) (hcl : m.cl.length = 6) (b : ByteArray) : PMem 0 (w.setCell ⟨P, 4 + c * 6, none⟩ (.string b)) base P (upd f (4 + c * 6) (.string b)) G mode (m.set c { m.get c with bytes := b }) := by
 have hk := set_off w P (4 + c * 6) (.string b)
 have hz := size_set w ⟨P, 4 + c * 6, none⟩ (.string b)
 have hcl' : c < m.cl.length := by omega
 have gs : ∀ d, ((m.set c { m.get c with bytes := b }).get d).srv = (m.get d).srv := fun d => by rw [set_get hcl']; split <;> simp_all
 refine ⟨h.row.set _ _, h.p0, h.loK hz, h.inj, fun k a b' e => ?_, ?_, ?_, fun d hd => ?_, fun d hd => ?_, fun d hd => ?_, fun d hd => ?_, fun d hd => ?_⟩
 ·have := slC_no (c := c) a b' hc
  rw [upd_ne this.2.2.2.1, items_turn hcl' (x := { m.get c with bytes := b }) rfl]; exact h.slK hk a b' e
 ·rw [upd_ne (by omega)]; exact h.md
 ·rw [upd_ne (by omega), upd_ne (by omega)]; exact h.wldK hz hk h.wld
 ·rw [set_get hcl']
  by_cases e : c = d
  ·subst e; rw [upd_at, if_pos rfl]
  ·rw [upd_ne (by omega), if_neg e]; exact h.bytes d hd
 ·rw [upd_ne (by omega), gs]; exact h.has d hd
 ·rw [upd_ne (by omega)]; simp only [gs]; exact h.srv d hd
 ·rw [upd_ne (by omega)]; exact h.lstK hz hk (h.set d hd)
 ·rw [upd_ne (by omega)]; exact h.lstK hz hk (h.prep d hd)
theorem PMem.setNone (h : PMem 0 w base P f G mode m) {c : Nat} (hc : c < 6) (hcl : m.cl.length = 6) : PMem 0 (w.setCell ⟨P, 4 + c * 6 + 2, none⟩ (.bool false)) base P (upd f (4 + c * 6 + 2) (.bool false)) G mode (m.set c { m.get c with srv := none }) := by
 have hk := set_off w P (4 + c * 6 + 2) (.bool false)
 have hz := size_set w ⟨P, 4 + c * 6 + 2, none⟩ (.bool false)
 have hcl' : c < m.cl.length := by omega
 refine ⟨h.row.set _ _, h.p0, h.loK hz, h.inj, fun k a b' e => ?_, ?_, ?_, fun d hd => ?_, fun d hd => ?_, fun d hd => ?_, fun d hd => ?_, fun d hd => ?_⟩
 ·have := slC_no (c := c) a b' hc
  rw [upd_ne this.2.2.2.2.1, items_turn hcl' (x := { m.get c with srv := none }) rfl]; exact h.slK hk a b' e
 ·rw [upd_ne (by omega)]; exact h.md
 ·rw [upd_ne (by omega), upd_ne (by omega)]; exact h.wldK hz hk h.wld
 ·rw [upd_ne (by omega), set_get hcl']
  by_cases e : c = d
  ·subst e; rw [if_pos rfl]; exact h.bytes c hd
  ·rw [if_neg e]; exact h.bytes d hd
 ·rw [set_get hcl']
  by_cases e : c = d
  ·subst e; rw [upd_at, if_pos rfl]; rfl
  ·rw [upd_ne (by omega), if_neg e]; exact h.has d hd
 ·rw [upd_ne (by omega), set_get hcl']
  obtain ⟨q, hq, hs⟩ := h.srv d hd
  refine ⟨q, hq, fun s hs' => ?_⟩
  by_cases e : c = d
  ·rw [if_pos e] at hs'; cases hs'
  ·rw [if_neg e] at hs'; exact hs s hs'
 ·rw [upd_ne (by omega)]; exact h.lstK hz hk (h.set d hd)
 ·rw [upd_ne (by omega)]; exact h.lstK hz hk (h.prep d hd)
theorem PMem.setSrv (h : PMem 0 w base P f G mode m) {c : Nat} (hc : c < 6) (hcl : m.cl.length = 6) (s : Nat) : PMem 0 ((w.setCell ⟨P, 4 + c * 6 + 2, none⟩ (.bool true)).setCell ⟨P, 4 + c * 6 + 3, none⟩ (.int .i64 s)) base P (upd (upd f (4 + c * 6 + 2) (.bool true)) (4 + c * 6 + 3) (.int .i64 s)) G mode (m.set c { m.get c with srv := some s }) := by
 have hk : ∀ b, b ≠ P → ((w.setCell ⟨P, 4 + c * 6 + 2, none⟩ (.bool true)).setCell ⟨P, 4 + c * 6 + 3, none⟩ (.int .i64 s)).heap[b]? = w.heap[b]? := fun b hb => (set_off _ P (4 + c * 6 + 3) _ b hb).trans (set_off w P (4 + c * 6 + 2) _ b hb)
 have hz : ((w.setCell ⟨P, 4 + c * 6 + 2, none⟩ (.bool true)).setCell ⟨P, 4 + c * 6 + 3, none⟩ (.int .i64 s)).heap.size = w.heap.size := by rw [size_set, size_set]
 have hcl' : c < m.cl.length := by omega
 refine ⟨(h.row.set _ _).set _ _, h.p0, h.loK hz, h.inj, fun k a b' e => ?_, ?_, ?_, fun d hd => ?_, fun d hd => ?_, fun d hd => ?_, fun d hd => ?_, fun d hd => ?_⟩
 ·have := slC_no (c := c) a b' hc
  rw [upd_ne this.2.2.2.2.2.1, upd_ne this.2.2.2.2.1, items_turn hcl' (x := { m.get c with srv := some s }) rfl]; exact h.slK hk a b' e
 ·rw [upd_ne (by omega), upd_ne (by omega)]; exact h.md
 ·rw [upd_ne (by omega), upd_ne (by omega), upd_ne (by omega), upd_ne (by omega)]; exact h.wldK hz hk h.wld
 ·rw [upd_ne (by omega), upd_ne (by omega), set_get hcl']
  by_cases e : c = d
  ·subst e; rw [if_pos rfl]; exact h.bytes c hd
  ·rw [if_neg e]; exact h.bytes d hd
 ·rw [upd_ne (by omega), set_get hcl']
  by_cases e : c = d
  ·subst e; rw [upd_at, if_pos rfl]; rfl
  ·rw [upd_ne (by omega), if_neg e]; exact h.has d hd
 ·rw [set_get hcl']
  by_cases e : c = d
  ·subst e
   rw [upd_at, if_pos rfl]
   exact ⟨s, rfl, fun s' hs' => by injection hs' with hs'; rw [hs']⟩
  ·rw [upd_ne (by omega), upd_ne (by omega), if_neg e]; exact h.srv d hd
 ·rw [upd_ne (by omega), upd_ne (by omega)]; exact h.lstK hz hk (h.set d hd)
 ·rw [upd_ne (by omega), upd_ne (by omega)]; exact h.lstK hz hk (h.prep d hd)
theorem PMem.setWorld (h : PMem 0 w base P f G mode m) {r s : Value} {W : Wd} (hw : WldP w (Free G) r s W) : PMem 0 ((w.setCell ⟨P, 1, none⟩ r).setCell ⟨P, 2, none⟩ s) base P (upd (upd f 1 r) 2 s) G mode { m with e := ⟨W, m.e.kept⟩ } := by
 have hk : ∀ b, b ≠ P → ((w.setCell ⟨P, 1, none⟩ r).setCell ⟨P, 2, none⟩ s).heap[b]? = w.heap[b]? := fun b hb => (set_off _ P 2 _ b hb).trans (set_off w P 1 _ b hb)
 have hz : ((w.setCell ⟨P, 1, none⟩ r).setCell ⟨P, 2, none⟩ s).heap.size = w.heap.size := by rw [size_set, size_set]
 refine ⟨(h.row.set _ _).set _ _, h.p0, h.loK hz, h.inj, fun k a b' e => ?_, ?_, ?_, fun d hd => ?_, fun d hd => ?_, fun d hd => ?_, fun d hd => ?_, fun d hd => ?_⟩
 ·have := slC_no (c := 0) a b' (by omega)
  rw [upd_ne this.2.2.1, upd_ne this.2.1, items_same rfl rfl rfl rfl rfl]; exact h.slK hk a b' e
 ·rw [upd_ne (by omega), upd_ne (by omega)]; exact h.md
 ·rw [upd_ne (by omega), upd_at, upd_at]; exact h.wldK hz hk hw
 ·rw [upd_ne (by omega), upd_ne (by omega)]; exact h.bytes d hd
 ·rw [upd_ne (by omega), upd_ne (by omega)]; exact h.has d hd
 ·rw [upd_ne (by omega), upd_ne (by omega)]; exact h.srv d hd
 ·rw [upd_ne (by omega), upd_ne (by omega)]; exact h.lstK hz hk (h.set d hd)
 ·rw [upd_ne (by omega), upd_ne (by omega)]; exact h.lstK hz hk (h.prep d hd)
theorem of_set {e : PE} {c d : Nat} (hc : c < e.kept.length) (p : PL × PL) : PE.of ⟨e.w, e.kept.set c p⟩ d = if c = d then p else e.of d := by
 unfold PE.of; simp only; rw [getD_set]; by_cases h : c = d
 ·rw [if_pos ⟨h, hc⟩, if_pos h]
 ·rw [if_neg (fun h' => h h'.1), if_neg h]
theorem PMem.setLists (h : PMem 0 w base P f G mode m) {c : Nat} (hc : c < 6) (hkl : m.e.kept.length = 6) {v1 v2 : Value} {l1 l2 : PL} (h1 : Lst w w.heap.size v1 l1 ∧ InP (Free G) v1 l1) (h2 : Lst w w.heap.size v2 l2 ∧ InP (Free G) v2 l2) :
  PMem 0 ((w.setCell ⟨P, 4 + c * 6 + 4, none⟩ v1).setCell ⟨P, 4 + c * 6 + 5, none⟩ v2) base P (upd (upd f (4 + c * 6 + 4) v1) (4 + c * 6 + 5) v2) G mode { m with e := ⟨m.e.w, m.e.kept.set c (l1, l2)⟩ } := by
 have hk : ∀ b, b ≠ P → ((w.setCell ⟨P, 4 + c * 6 + 4, none⟩ v1).setCell ⟨P, 4 + c * 6 + 5, none⟩ v2).heap[b]? = w.heap[b]? := fun b hb => (set_off _ P (4 + c * 6 + 5) _ b hb).trans (set_off w P (4 + c * 6 + 4) _ b hb)
 have hz : ((w.setCell ⟨P, 4 + c * 6 + 4, none⟩ v1).setCell ⟨P, 4 + c * 6 + 5, none⟩ v2).heap.size = w.heap.size := by rw [size_set, size_set]
 have hc' : c < m.e.kept.length := by omega
 refine ⟨(h.row.set _ _).set _ _, h.p0, h.loK hz, h.inj, fun k a b' e => ?_, ?_, ?_, fun d hd => ?_, fun d hd => ?_, fun d hd => ?_, fun d hd => ?_, fun d hd => ?_⟩
 ·have := slC_no (c := c) a b' hc
  rw [upd_ne this.2.2.2.2.2.2.2, upd_ne this.2.2.2.2.2.2.1, items_same rfl rfl rfl rfl rfl]; exact h.slK hk a b' e
 ·rw [upd_ne (by omega), upd_ne (by omega)]; exact h.md
 ·rw [upd_ne (by omega), upd_ne (by omega), upd_ne (by omega), upd_ne (by omega)]; exact h.wldK hz hk h.wld
 ·rw [upd_ne (by omega), upd_ne (by omega)]; exact h.bytes d hd
 ·rw [upd_ne (by omega), upd_ne (by omega)]; exact h.has d hd
 ·rw [upd_ne (by omega), upd_ne (by omega)]; exact h.srv d hd
 ·rw [upd_ne (by omega), show ({ m with e := ⟨m.e.w, m.e.kept.set c (l1, l2)⟩ } : Mach PE).e.of d = if c = d then (l1, l2) else m.e.of d from of_set hc' _]
  by_cases e : c = d
  ·subst e; rw [upd_at, if_pos rfl]; exact h.lstK hz hk h1
  ·rw [upd_ne (by omega), if_neg e]; exact h.lstK hz hk (h.set d hd)
 ·rw [show ({ m with e := ⟨m.e.w, m.e.kept.set c (l1, l2)⟩ } : Mach PE).e.of d = if c = d then (l1, l2) else m.e.of d from of_set hc' _]
  by_cases e : c = d
  ·subst e; rw [upd_at, if_pos rfl]; exact h.lstK hz hk h2
  ·rw [upd_ne (by omega), upd_ne (by omega), if_neg e]; exact h.lstK hz hk (h.prep d hd)
end
def set6 (w : World) (P o : Nat) : World := (((((w.setCell ⟨P, o, none⟩ (.string ⟨#[]⟩)).setCell ⟨P, o + 1, none⟩ (.slice none 0 0)).setCell ⟨P, o + 2, none⟩ (.bool false)).setCell ⟨P, o + 3, none⟩ (.int .i64 0)).setCell ⟨P, o + 4, none⟩ (.slice none 0 0)).setCell ⟨P, o + 5, none⟩ (.slice none 0 0)
def upd6 (f : Nat → Value) (o : Nat) : Nat → Value := upd (upd (upd (upd (upd (upd f o (.string ⟨#[]⟩)) (o + 1) (.slice none 0 0)) (o + 2) (.bool false)) (o + 3) (.int .i64 0)) (o + 4) (.slice none 0 0)) (o + 5) (.slice none 0 0)
section
variable {w w' : World} {base P : Nat} {f : Nat → Value} {G : Nat → Option Nat} {mode : Int} {m m' : Mach PE}
theorem upd6_ne {o i : Nat} (h : i < o ∨ o + 5 < i) : upd6 f o i = f i := by
 unfold upd6
 rw [upd_ne (by omega), upd_ne (by omega), upd_ne (by omega), upd_ne (by omega), upd_ne (by omega), upd_ne (by omega)]
theorem upd6_at {o : Nat} : upd6 f o o = .string ⟨#[]⟩ ∧ upd6 f o (o + 1) = .slice none 0 0 ∧ upd6 f o (o + 2) = .bool false ∧ upd6 f o (o + 3) = .int .i64 0 ∧ upd6 f o (o + 4) = .slice none 0 0 ∧ upd6 f o (o + 5) = .slice none 0 0 := by
 unfold upd6
 refine ⟨?_, ?_, ?_, ?_, ?_, upd_at⟩
 ·rw [upd_ne (by omega), upd_ne (by omega), upd_ne (by omega), upd_ne (by omega), upd_ne (by omega), upd_at]
 ·rw [upd_ne (by omega), upd_ne (by omega), upd_ne (by omega), upd_ne (by omega), upd_at]
 ·rw [upd_ne (by omega), upd_ne (by omega), upd_ne (by omega), upd_at]
 ·rw [upd_ne (by omega), upd_ne (by omega), upd_at]
 ·rw [upd_ne (by omega), upd_at]
theorem lst_nil (w : World) (B : Nat) : Lst w B (.slice none 0 0) [] := ⟨⟨none, 0, rfl, nL _⟩, by simp, by simp, fun h => absurd h (by simp), fun n c h => by injection h with _ _ h; exact h.symm⟩
theorem free_less {k b : Nat} (h : Free G b) : Free (upd G k none) b := fun i => by
 unfold upd; split
 ·simp
 ·exact h i
theorem slC_range {k c : Nat} (h1 : 1 ≤ k) (h2 : k ≤ 15) (hc : c < 6) (hne : k ≠ 2 + c) : slC k < 4 + c * 6 ∨ 4 + c * 6 + 5 < slC k := by
 unfold slC
 repeat' split
 all_goals omega
theorem PMem.clear (h : PMem 0 w base P f G mode m) {c : Nat} (hc : c < 6) (hcl : m.cl.length = 6) (hkl : m.e.kept.length = 6) :
  PMem 0 (set6 w P (4 + c * 6)) base P (upd6 f (4 + c * 6)) (upd G (2 + c) none) mode { m with cl := m.cl.set c Cl.new, e := ⟨m.e.w, m.e.kept.set c ([], [])⟩ } := by
 have hk : ∀ b, b ≠ P → (set6 w P (4 + c * 6)).heap[b]? = w.heap[b]? := fun b hb => by
  unfold set6
  rw [set_off _ P _ _ b hb, set_off _ P _ _ b hb, set_off _ P _ _ b hb, set_off _ P _ _ b hb, set_off _ P _ _ b hb, set_off _ P _ _ b hb]
 have hz : (set6 w P (4 + c * 6)).heap.size = w.heap.size := by unfold set6; rw [size_set, size_set, size_set, size_set, size_set, size_set]
 have hcl' : c < m.cl.length := by omega
 have hc' : c < m.e.kept.length := by omega
 have gt : ∀ d, ({ m with cl := m.cl.set c Cl.new, e := ⟨m.e.w, m.e.kept.set c ([], [])⟩ } : Mach PE).get d = if c = d then Cl.new else m.get d := fun d => get_set (m := m) hcl'
 have at6 := upd6_at (f := f) (o := 4 + c * 6)
 have up : ∀ i, i ≠ 2 + c → upd G (2 + c) none i = G i := fun i hi => by unfold upd; rw [if_neg hi]
 have upX : upd G (2 + c) none (2 + c) = none := by unfold upd; rw [if_pos rfl]
 have sub : ∀ i b, upd G (2 + c) none i = some b → G i = some b := fun i b hb => by
  by_cases e : i = 2 + c
  ·rw [e, upX] at hb; cases hb
  ·rw [up i e] at hb; exact hb
 refine ⟨(((((h.row.set _ _).set _ _).set _ _).set _ _).set _ _).set _ _, by rw [up 0 (by omega)]; exact h.p0, fun i b hb => h.loK hz i b (sub i b hb), fun i j b hi hj => h.inj i j b (sub i b hi) (sub j b hj), fun k a b' e => ?_, ?_, ?_, fun d hd => ?_, fun d hd => ?_, fun d hd => ?_, fun d hd => ?_, fun d hd => ?_⟩
 ·by_cases ek : k = 2 + c
  ·subst ek
   have e1 : slC (2 + c) = 4 + c * 6 + 1 := by unfold slC; rw [if_neg (by omega), if_pos (by omega)]; omega
   have e2 : items ({ m with cl := m.cl.set c Cl.new, e := ⟨m.e.w, m.e.kept.set c ([], [])⟩ } : Mach PE) (2 + c) = [] := by
    unfold items; rw [if_neg (by omega), if_pos (by omega), gt, if_pos (by omega)]; rfl
   rw [upX, e1, e2, at6.2.1]
   exact Sl.nil_ _ _ _
  ·have e2 : items ({ m with cl := m.cl.set c Cl.new, e := ⟨m.e.w, m.e.kept.set c ([], [])⟩ } : Mach PE) k = items m k := by
    unfold items
    rw [gt]
    by_cases ek' : k = 1
    ·rw [if_pos ek', if_pos ek']
    ·rw [if_neg ek', if_neg ek']
     by_cases e8 : k < 8
     ·rw [if_pos e8, if_pos e8, if_neg (by omega)]
     ·rw [if_neg e8, if_neg e8]
   rw [up k ek, upd6_ne (slC_range a b' hc ek), e2]; exact h.slK hk a b' e
 ·rw [upd6_ne (by omega)]; exact h.md
 ·rw [upd6_ne (by omega), upd6_ne (by omega)]; exact (h.wldK hz hk h.wld).mono fun b hb => free_less hb
 ·rw [gt]
  by_cases e : c = d
  ·subst e; rw [at6.1, if_pos rfl]; rfl
  ·rw [upd6_ne (by omega), if_neg e]; exact h.bytes d hd
 ·rw [gt]
  by_cases e : c = d
  ·subst e; rw [at6.2.2.1, if_pos rfl]; rfl
  ·rw [upd6_ne (by omega), if_neg e]; exact h.has d hd
 ·rw [gt]
  by_cases e : c = d
  ·subst e; rw [at6.2.2.2.1, if_pos rfl]
   exact ⟨0, rfl, fun s hs => by cases hs⟩
  ·rw [upd6_ne (by omega), if_neg e]; exact h.srv d hd
 ·rw [show ({ m with cl := m.cl.set c Cl.new, e := ⟨m.e.w, m.e.kept.set c ([], [])⟩ } : Mach PE).e.of d = if c = d then ([], []) else m.e.of d from of_set hc' _]
  by_cases e : c = d
  ·subst e; rw [at6.2.2.2.2.1, if_pos rfl]
   exact ⟨lst_nil _ _, InP.nil_ _ _⟩
  ·rw [upd6_ne (by omega), if_neg e]
   have := h.lstK hz hk (h.set d hd)
   exact ⟨this.1, this.2.mono fun b hb => free_less hb⟩
 ·rw [show ({ m with cl := m.cl.set c Cl.new, e := ⟨m.e.w, m.e.kept.set c ([], [])⟩ } : Mach PE).e.of d = if c = d then ([], []) else m.e.of d from of_set hc' _]
  by_cases e : c = d
  ·subst e; rw [at6.2.2.2.2.2, if_pos rfl]
   exact ⟨lst_nil _ _, InP.nil_ _ _⟩
  ·rw [upd6_ne (by omega), if_neg e]
   have := h.lstK hz hk (h.prep d hd)
   exact ⟨this.1, this.2.mono fun b hb => free_less hb⟩
end
def ptr (P o : Nat) : Value := .pointer (some ⟨P, o, none⟩)
set_option maxHeartbeats 1000000 in
theorem refusal_any (P : Nat) (mode k : Int) (key val : ByteArray) (w : World) (h0 : w.cell? ⟨P, 0, none⟩ = some (.int .i64 mode)) (hP : P < w.heap.size) :
  Calls Tryz.prog 118 #[ptr P 0, .agg #[.int .i64 k, .string key, .string val]] w fun e w' => e = .returned (.string (refuse mode ⟨k, key, val⟩)) ∧ Below w.heap.size w w' := by
 have nn := (Below.refl w.heap.size w).alloc (nL _) (.cells #[.int .i64 k, .string key, .string val] 41)
 have HN := jD nn
 unfold ptr
 by_cases h1 : k = 0
 ·have t1 : (k == 0) = true := by simp [h1]
  have HE := jD (show refuse mode ⟨k, key, val⟩ = tUnder by unfold refuse; rw [if_pos h1])
  clear h1 nn
  go_enter Tryz.func118, Tryz.ntmps118
  go_wp2
  go_ret
  exact ⟨by rw [HE.out]; rfl, HN.out⟩
 have t1 : (k == 0) = false := by simp [h1]
 by_cases h2 : k = 1
 ·have t2 : (k == 1) = true := by simp [h2]
  by_cases h3 : mode = 3
  ·have t3 : (mode == 3) = true := by simp [h3]
   have HE := jD (show refuse mode ⟨k, key, val⟩ = tMode by unfold refuse; rw [if_neg h1, if_pos ⟨h2, h3⟩])
   clear h1 h2 h3 nn
   go_enter Tryz.func118, Tryz.ntmps118
   go_wp2
   go_ret
   exact ⟨by rw [HE.out]; rfl, HN.out⟩
  ·have t3 : (mode == 3) = false := by simp [h3]
   have HE := jD (show refuse mode ⟨k, key, val⟩ = ⟨#[]⟩ by unfold refuse; rw [if_neg h1, if_neg (fun h => h3 h.2)])
   clear h1 h2 h3 nn
   go_enter Tryz.func118, Tryz.ntmps118
   go_wp2
   go_ret
   exact ⟨by rw [HE.out]; rfl, HN.out⟩
 have t2 : (k == 1) = false := by simp [h2]
 have HE := jD (show refuse mode ⟨k, key, val⟩ = ⟨#[]⟩ by unfold refuse; rw [if_neg h1, if_neg (fun h => h2 h.1)])
 clear h1 h2 nn
 go_enter Tryz.func118, Tryz.ntmps118
 go_wp2
 go_ret
 exact ⟨by rw [HE.out]; rfl, HN.out⟩
section
variable {base P : Nat} {f : Nat → Value} {G : Nat → Option Nat} {mode : Int} {m : Mach PE}
set_option maxHeartbeats 1000000 in
theorem state_any (w : World) (h : PMem 0 w base P f G mode m) (hm : MOk mode m) (hp : m.e.w.ss.length = m.busy.length) {c : Nat} (hc : c < 6) :
  Calls Tryz.prog 74 #[ptr P 0, ptr P (4 + c * 6)] w fun e w' => e = .returned (.int .i64 (m.e.state (m.get c).srv)) ∧ ∃ n, w' = w.drewN n := by
 have h2 := h.row.cell (j := 4 + c * 6 + 2) (by omega)
 have h3 := h.row.cell (j := 4 + c * 6 + 3) (by omega)
 have h5 := h.row.cell (j := 2) (by omega)
 rw [h.has c hc] at h2
 obtain ⟨q, hq, hqs⟩ := h.srv c hc
 rw [hq] at h3
 have hP := h.row.lt
 unfold ptr
 cases hs : (m.get c).srv with
 | none =>
  have HE := jD (show m.e.state none = 0 from rfl)
  rw [hs] at h2
  simp only [Option.isSome] at h2
  clear hqs hs hq
  go_enter Tryz.func74, Tryz.ntmps74
  go_wp2
  go_ret
  exact ⟨by rw [HE.out]; rfl, 0, rfl⟩
 | some s =>
  have HE := jD (show m.e.state (some s) = (m.e.w.at s).st from rfl)
  rw [hs] at h2
  simp only [Option.isSome] at h2
  have hb := (List.getElem?_eq_some_iff.1 (hm.srv c s hs)).1
  have hlt : s < m.e.w.ss.length := by omega
  obtain rfl := hqs s hs
  obtain ⟨A, cc, hv, _⟩ := h.wld.wld.sess.form
  rw [hv] at h5
  have hss := h.wld.wld.sess
  rw [hv] at hss
  obtain ⟨g, o, v1, v2, v3, v4, rfl, hg, sA⟩ := hss.pt hlt
  have s0 := sA.c0
  rw [← at_lt hlt] at s0
  have hbd := hss.bytes
  clear hqs hs hq hv hss sA h hm hp hb
  generalize m.e.w.ss.length = n at *
  go_enter Tryz.func74, Tryz.ntmps74
  go_wp2
  go_quiet (fail)
  go_wp2
  go_ret
  exact ⟨by rw [HE.out]; rfl, _, rfl⟩
end
end Go.Proofs.YtpbaobmegomfpabGreatDoor
