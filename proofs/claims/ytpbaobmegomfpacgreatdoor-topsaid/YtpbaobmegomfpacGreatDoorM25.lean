/-
  Texts of the proof, one behind the other: PoolW2, PoolW3, PRead.
-/
import Derived.Test.YtpbaobmegomfpacGreatDoorM24
import Derived.Test.YtpbaobmegomfpacGreatDoorRows
import Derived.WalkKit
import Derived.WalkSpells
import Derived.WalkLawsBesides
import Derived.Lib.Hide
import Derived.Deep.QuietTactic
import Derived.BigQuiet
import Derived.IntWalk
import Derived.WalkSmall
set_option linter.unusedVariables false
set_option linter.unusedSimpArgs false
set_option maxRecDepth 100000
open List renaming getElem_toArray → gTA, getElem_cons_zero → gCZ, getElem_cons_succ → gCS, setIfInBounds_toArray → sTA, set_cons_zero → sCZ, set_cons_succ → sCS
open Go.Lib renaming hid → jD
open Nat renaming le_refl → nL
namespace Go.Proofs.YtpbaobmegomfpacGreatDoor
open Go.RowKit
section
variable {w w' : World} {base P : Nat} {f : Nat → Value} {G : Nat → Option Nat} {mode : Int} {m m' : Mach PE}
theorem items_turn {c : Nat} (hc : c < m.cl.length) {x : Cl} (hw : x.wait = (m.get c).wait) (k : Nat) : items (m.set c x) k = items m k := by
 unfold items
 have : ((m.set c x).get (k - 2)).wait = (m.get (k - 2)).wait := by
  rw [get_set hc]; split
  ·rename_i e; rw [hw, e]
  ·rfl
 rw [this]; rfl
theorem items_same (h1 : m'.cl = m.cl) (h2 : m'.busy = m.busy) (h3 : m'.line = m.line) (h4 : m'.sent = m.sent) (h5 : m'.deeds = m.deeds) (k : Nat) : items m' k = items m k := by
 unfold items Mach.get; rw [h1, h2, h3, h4, h5]
theorem set_get {c d : Nat} (hc : c < m.cl.length) (x : Cl) : (m.set c x).get d = if c = d then x else m.get d := get_set hc
theorem PMem.setBytes (h : PMem 0 w base P f G mode m) {c : Nat} (hc : c < 6) (hcl : m.cl.length = 6) (b : ByteArray) : PMem 0 (w.setCell ⟨P, 4 + c * 6, none⟩ (.string b)) base P (upd f (4 + c * 6) (.string b)) G mode (m.set c { m.get c with bytes := b }) := by
 have hk := set_off w P (4 + c * 6) (.string b)
 have hz := size_set w ⟨P, 4 + c * 6, none⟩ (.string b)
 have hcl' : c < m.cl.length := by omega
 have gs : ∀ d, ((m.set c { m.get c with bytes := b }).get d).srv = (m.get d).srv := fun d => by rw [set_get hcl']; split <;> simp_all
 refine ⟨h.row.set _ _, h.p0, h.loK hz, h.inj, fun k a b' e => ?_, ?_, ?_, fun d hd => ?_, fun d hd => ?_, fun d hd => ?_, fun d hd => ?_, fun d hd => ?_⟩
 ·have := slC_no (c := c) a b' hc
  rw [upd_ne this.2.2.2.1, items_turn hcl' (x := { m.get c with bytes := b }) rfl]; exact h.slK hk a b' e
 ·rw [upd_ne (by omega)]; exact h.md
 ·rw [upd_ne (by omega), upd_ne (by omega)]; exact h.wldK hz hk h.wld
 ·rw [set_get hcl']
  by_cases e : c = d
  ·subst e; rw [upd_at, if_pos rfl]
  ·rw [upd_ne (by omega), if_neg e]; exact h.bytes d hd
 ·rw [upd_ne (by omega), gs]; exact h.has d hd
 ·rw [upd_ne (by omega)]; simp only [gs]; exact h.srv d hd
 ·rw [upd_ne (by omega)]; exact h.lstK hz hk (h.set d hd)
 ·rw [upd_ne (by omega)]; exact h.lstK hz hk (h.prep d hd)
theorem PMem.setNone (h : PMem 0 w base P f G mode m) {c : Nat} (hc : c < 6) (hcl : m.cl.length = 6) : PMem 0 (w.setCell ⟨P, 4 + c * 6 + 2, none⟩ (.bool false)) base P (upd f (4 + c * 6 + 2) (.bool false)) G mode (m.set c { m.get c with srv := none }) := by
 have hk := set_off w P (4 + c * 6 + 2) (.bool false)
 have hz := size_set w ⟨P, 4 + c * 6 + 2, none⟩ (.bool false)
 have hcl' : c < m.cl.length := by omega
 refine ⟨h.row.set _ _, h.p0, h.loK hz, h.inj, fun k a b' e => ?_, ?_, ?_, fun d hd => ?_, fun d hd => ?_, fun d hd => ?_, fun d hd => ?_, fun d hd => ?_⟩
 ·have := slC_no (c := c) a b' hc
  rw [upd_ne this.2.2.2.2.1, items_turn hcl' (x := { m.get c with srv := none }) rfl]; exact h.slK hk a b' e
 ·rw [upd_ne (by omega)]; exact h.md
 ·rw [upd_ne (by omega), upd_ne (by omega)]; exact h.wldK hz hk h.wld
 ·rw [upd_ne (by omega), set_get hcl']
  by_cases e : c = d
  ·subst e; rw [if_pos rfl]; exact h.bytes c hd
  ·rw [if_neg e]; exact h.bytes d hd
 ·rw [set_get hcl']
  by_cases e : c = d
  ·subst e; rw [upd_at, if_pos rfl]; rfl
  ·rw [upd_ne (by omega), if_neg e]; exact h.has d hd
 ·rw [upd_ne (by omega), set_get hcl']
  obtain ⟨q, hq, hs⟩ := h.srv d hd
  refine ⟨q, hq, fun s hs' => ?_⟩
  by_cases e : c = d
  ·rw [if_pos e] at hs'; cases hs'
  ·rw [if_neg e] at hs'; exact hs s hs'
 ·rw [upd_ne (by omega)]; exact h.lstK hz hk (h.set d hd)
 ·rw [upd_ne (by omega)]; exact h.lstK hz hk (h.prep d hd)
theorem PMem.setSrv (h : PMem 0 w base P f G mode m) {c : Nat} (hc : c < 6) (hcl : m.cl.length = 6) (s : Nat) : PMem 0 ((w.setCell ⟨P, 4 + c * 6 + 2, none⟩ (.bool true)).setCell ⟨P, 4 + c * 6 + 3, none⟩ (.int .i64 s)) base P (upd (upd f (4 + c * 6 + 2) (.bool true)) (4 + c * 6 + 3) (.int .i64 s)) G mode (m.set c { m.get c with srv := some s }) := by
 have hk : ∀ b, b ≠ P → ((w.setCell ⟨P, 4 + c * 6 + 2, none⟩ (.bool true)).setCell ⟨P, 4 + c * 6 + 3, none⟩ (.int .i64 s)).heap[b]? = w.heap[b]? := fun b hb => (set_off _ P (4 + c * 6 + 3) _ b hb).trans (set_off w P (4 + c * 6 + 2) _ b hb)
 have hz : ((w.setCell ⟨P, 4 + c * 6 + 2, none⟩ (.bool true)).setCell ⟨P, 4 + c * 6 + 3, none⟩ (.int .i64 s)).heap.size = w.heap.size := by rw [size_set, size_set]
 have hcl' : c < m.cl.length := by omega
 refine ⟨(h.row.set _ _).set _ _, h.p0, h.loK hz, h.inj, fun k a b' e => ?_, ?_, ?_, fun d hd => ?_, fun d hd => ?_, fun d hd => ?_, fun d hd => ?_, fun d hd => ?_⟩
 ·have := slC_no (c := c) a b' hc
  rw [upd_ne this.2.2.2.2.2.1, upd_ne this.2.2.2.2.1, items_turn hcl' (x := { m.get c with srv := some s }) rfl]; exact h.slK hk a b' e
 ·rw [upd_ne (by omega), upd_ne (by omega)]; exact h.md
 ·rw [upd_ne (by omega), upd_ne (by omega), upd_ne (by omega), upd_ne (by omega)]; exact h.wldK hz hk h.wld
 ·rw [upd_ne (by omega), upd_ne (by omega), set_get hcl']
  by_cases e : c = d
  ·subst e; rw [if_pos rfl]; exact h.bytes c hd
  ·rw [if_neg e]; exact h.bytes d hd
 ·rw [upd_ne (by omega), set_get hcl']
  by_cases e : c = d
  ·subst e; rw [upd_at, if_pos rfl]; rfl
  ·rw [upd_ne (by omega), if_neg e]; exact h.has d hd
 ·rw [set_get hcl']
  by_cases e : c = d
  ·subst e
   rw [upd_at, if_pos rfl]
   exact ⟨s, rfl, fun s' hs' => by injection hs' with hs'; rw [hs']⟩
  ·rw [upd_ne (by omega), upd_ne (by omega), if_neg e]; exact h.srv d hd
 ·rw [upd_ne (by omega), upd_ne (by omega)]; exact h.lstK hz hk (h.set d hd)
 ·rw [upd_ne (by omega), upd_ne (by omega)]; exact h.lstK hz hk (h.prep d hd)
theorem PMem.setWorld (h : PMem 0 w base P f G mode m) {r s : Value} {W : Wd} (hw : WldP w (Free G) r s W) : PMem 0 ((w.setCell ⟨P, 1, none⟩ r).setCell ⟨P, 2, none⟩ s) base P (upd (upd f 1 r) 2 s) G mode { m with e := ⟨W, m.e.kept⟩ } := by
 have hk : ∀ b, b ≠ P → ((w.setCell ⟨P, 1, none⟩ r).setCell ⟨P, 2, none⟩ s).heap[b]? = w.heap[b]? := fun b hb => (set_off _ P 2 _ b hb).trans (set_off w P 1 _ b hb)
 have hz : ((w.setCell ⟨P, 1, none⟩ r).setCell ⟨P, 2, none⟩ s).heap.size = w.heap.size := by rw [size_set, size_set]
 refine ⟨(h.row.set _ _).set _ _, h.p0, h.loK hz, h.inj, fun k a b' e => ?_, ?_, ?_, fun d hd => ?_, fun d hd => ?_, fun d hd => ?_, fun d hd => ?_, fun d hd => ?_⟩
 ·have := slC_no (c := 0) a b' (by omega)
  rw [upd_ne this.2.2.1, upd_ne this.2.1, items_same rfl rfl rfl rfl rfl]; exact h.slK hk a b' e
 ·rw [upd_ne (by omega), upd_ne (by omega)]; exact h.md
 ·rw [upd_ne (by omega), upd_at, upd_at]; exact h.wldK hz hk hw
 ·rw [upd_ne (by omega), upd_ne (by omega)]; exact h.bytes d hd
 ·rw [upd_ne (by omega), upd_ne (by omega)]; exact h.has d hd
 ·rw [upd_ne (by omega), upd_ne (by omega)]; exact h.srv d hd
 ·rw [upd_ne (by omega), upd_ne (by omega)]; exact h.lstK hz hk (h.set d hd)
 ·rw [upd_ne (by omega), upd_ne (by omega)]; exact h.lstK hz hk (h.prep d hd)
theorem of_set {e : PE} {c d : Nat} (hc : c < e.kept.length) (p : PL × PL) : PE.of ⟨e.w, e.kept.set c p⟩ d = if c = d then p else e.of d := by
 unfold PE.of; simp only; rw [getD_set]; by_cases h : c = d
 ·rw [if_pos ⟨h, hc⟩, if_pos h]
 ·rw [if_neg (fun h' => h h'.1), if_neg h]
theorem PMem.setLists (h : PMem 0 w base P f G mode m) {c : Nat} (hc : c < 6) (hkl : m.e.kept.length = 6) {v1 v2 : Value} {l1 l2 : PL} (h1 : Lst w w.heap.size v1 l1 ∧ InP (Free G) v1 l1) (h2 : Lst w w.heap.size v2 l2 ∧ InP (Free G) v2 l2) :
  PMem 0 ((w.setCell ⟨P, 4 + c * 6 + 4, none⟩ v1).setCell ⟨P, 4 + c * 6 + 5, none⟩ v2) base P (upd (upd f (4 + c * 6 + 4) v1) (4 + c * 6 + 5) v2) G mode { m with e := ⟨m.e.w, m.e.kept.set c (l1, l2)⟩ } := by
 have hk : ∀ b, b ≠ P → ((w.setCell ⟨P, 4 + c * 6 + 4, none⟩ v1).setCell ⟨P, 4 + c * 6 + 5, none⟩ v2).heap[b]? = w.heap[b]? := fun b hb => (set_off _ P (4 + c * 6 + 5) _ b hb).trans (set_off w P (4 + c * 6 + 4) _ b hb)
 have hz : ((w.setCell ⟨P, 4 + c * 6 + 4, none⟩ v1).setCell ⟨P, 4 + c * 6 + 5, none⟩ v2).heap.size = w.heap.size := by rw [size_set, size_set]
 have hc' : c < m.e.kept.length := by omega
 refine ⟨(h.row.set _ _).set _ _, h.p0, h.loK hz, h.inj, fun k a b' e => ?_, ?_, ?_, fun d hd => ?_, fun d hd => ?_, fun d hd => ?_, fun d hd => ?_, fun d hd => ?_⟩
 ·have := slC_no (c := c) a b' hc
  rw [upd_ne this.2.2.2.2.2.2.2, upd_ne this.2.2.2.2.2.2.1, items_same rfl rfl rfl rfl rfl]; exact h.slK hk a b' e
 ·rw [upd_ne (by omega), upd_ne (by omega)]; exact h.md
 ·rw [upd_ne (by omega), upd_ne (by omega), upd_ne (by omega), upd_ne (by omega)]; exact h.wldK hz hk h.wld
 ·rw [upd_ne (by omega), upd_ne (by omega)]; exact h.bytes d hd
 ·rw [upd_ne (by omega), upd_ne (by omega)]; exact h.has d hd
 ·rw [upd_ne (by omega), upd_ne (by omega)]; exact h.srv d hd
 ·rw [upd_ne (by omega), show ({ m with e := ⟨m.e.w, m.e.kept.set c (l1, l2)⟩ } : Mach PE).e.of d = if c = d then (l1, l2) else m.e.of d from of_set hc' _]
  by_cases e : c = d
  ·subst e; rw [upd_at, if_pos rfl]; exact h.lstK hz hk h1
  ·rw [upd_ne (by omega), if_neg e]; exact h.lstK hz hk (h.set d hd)
 ·rw [show ({ m with e := ⟨m.e.w, m.e.kept.set c (l1, l2)⟩ } : Mach PE).e.of d = if c = d then (l1, l2) else m.e.of d from of_set hc' _]
  by_cases e : c = d
  ·subst e; rw [upd_at, if_pos rfl]; exact h.lstK hz hk h2
  ·rw [upd_ne (by omega), upd_ne (by omega), if_neg e]; exact h.lstK hz hk (h.prep d hd)
end
def set6 (w : World) (P o : Nat) : World := (((((w.setCell ⟨P, o, none⟩ (.string ⟨#[]⟩)).setCell ⟨P, o + 1, none⟩ (.slice none 0 0)).setCell ⟨P, o + 2, none⟩ (.bool false)).setCell ⟨P, o + 3, none⟩ (.int .i64 0)).setCell ⟨P, o + 4, none⟩ (.slice none 0 0)).setCell ⟨P, o + 5, none⟩ (.slice none 0 0)
def upd6 (f : Nat → Value) (o : Nat) : Nat → Value := upd (upd (upd (upd (upd (upd f o (.string ⟨#[]⟩)) (o + 1) (.slice none 0 0)) (o + 2) (.bool false)) (o + 3) (.int .i64 0)) (o + 4) (.slice none 0 0)) (o + 5) (.slice none 0 0)
section
variable {w w' : World} {base P : Nat} {f : Nat → Value} {G : Nat → Option Nat} {mode : Int} {m m' : Mach PE}
theorem upd6_ne {o i : Nat} (h : i < o ∨ o + 5 < i) : upd6 f o i = f i := by
 unfold upd6
 rw [upd_ne (by omega), upd_ne (by omega), upd_ne (by omega), upd_ne (by omega), upd_ne (by omega), upd_ne (by omega)]
theorem upd6_at {o : Nat} : upd6 f o o = .string ⟨#[]⟩ ∧ upd6 f o (o + 1) = .slice none 0 0 ∧ upd6 f o (o + 2) = .bool false ∧ upd6 f o (o + 3) = .int .i64 0 ∧ upd6 f o (o + 4) = .slice none 0 0 ∧ upd6 f o (o + 5) = .slice none 0 0 := by
 unfold upd6
 refine ⟨?_, ?_, ?_, ?_, ?_, upd_at⟩
 ·rw [upd_ne (by omega), upd_ne (by omega), upd_ne (by omega), upd_ne (by omega), upd_ne (by omega), upd_at]
 ·rw [upd_ne (by omega), upd_ne (by omega), upd_ne (by omega), upd_ne (by omega), upd_at]
 ·rw [upd_ne (by omega), upd_ne (by omega), upd_ne (by omega), upd_at]
 ·rw [upd_ne (by omega), upd_ne (by omega), upd_at]
 ·rw [upd_ne (by omega), upd_at]
theorem lst_nil (w : World) (B : Nat) : Lst w B (.slice none 0 0) [] := ⟨⟨none, 0, rfl, nL _⟩, by simp, by simp, fun h => absurd h (by simp), fun n c h => by injection h with _ _ h; exact h.symm⟩
theorem free_less {k b : Nat} (h : Free G b) : Free (upd G k none) b := fun i => by
 unfold upd; split
 ·simp
 ·exact h i
theorem slC_range {k c : Nat} (h1 : 1 ≤ k) (h2 : k ≤ 15) (hc : c < 6) (hne : k ≠ 2 + c) : slC k < 4 + c * 6 ∨ 4 + c * 6 + 5 < slC k := by
 unfold slC
 repeat' split
 all_goals omega
theorem PMem.clear (h : PMem 0 w base P f G mode m) {c : Nat} (hc : c < 6) (hcl : m.cl.length = 6) (hkl : m.e.kept.length = 6) :
  PMem 0 (set6 w P (4 + c * 6)) base P (upd6 f (4 + c * 6)) (upd G (2 + c) none) mode { m with cl := m.cl.set c Cl.new, e := ⟨m.e.w, m.e.kept.set c ([], [])⟩ } := by
 have hk : ∀ b, b ≠ P → (set6 w P (4 + c * 6)).heap[b]? = w.heap[b]? := fun b hb => by
  unfold set6
  rw [set_off _ P _ _ b hb, set_off _ P _ _ b hb, set_off _ P _ _ b hb, set_off _ P _ _ b hb, set_off _ P _ _ b hb, set_off _ P _ _ b hb]
 have hz : (set6 w P (4 + c * 6)).heap.size = w.heap.size := by unfold set6; rw [size_set, size_set, size_set, size_set, size_set, size_set]
 have hcl' : c < m.cl.length := by omega
 have hc' : c < m.e.kept.length := by omega
 have gt : ∀ d, ({ m with cl := m.cl.set c Cl.new, e := ⟨m.e.w, m.e.kept.set c ([], [])⟩ } : Mach PE).get d = if c = d then Cl.new else m.get d := fun d => get_set (m := m) hcl'
 have at6 := upd6_at (f := f) (o := 4 + c * 6)
 have up : ∀ i, i ≠ 2 + c → upd G (2 + c) none i = G i := fun i hi => by unfold upd; rw [if_neg hi]
 have upX : upd G (2 + c) none (2 + c) = none := by unfold upd; rw [if_pos rfl]
 have sub : ∀ i b, upd G (2 + c) none i = some b → G i = some b := fun i b hb => by
  by_cases e : i = 2 + c
  ·rw [e, upX] at hb; cases hb
  ·rw [up i e] at hb; exact hb
 refine ⟨(((((h.row.set _ _).set _ _).set _ _).set _ _).set _ _).set _ _, by rw [up 0 (by omega)]; exact h.p0, fun i b hb => h.loK hz i b (sub i b hb), fun i j b hi hj => h.inj i j b (sub i b hi) (sub j b hj), fun k a b' e => ?_, ?_, ?_, fun d hd => ?_, fun d hd => ?_, fun d hd => ?_, fun d hd => ?_, fun d hd => ?_⟩
 ·by_cases ek : k = 2 + c
  ·subst ek
   have e1 : slC (2 + c) = 4 + c * 6 + 1 := by unfold slC; rw [if_neg (by omega), if_pos (by omega)]; omega
   have e2 : items ({ m with cl := m.cl.set c Cl.new, e := ⟨m.e.w, m.e.kept.set c ([], [])⟩ } : Mach PE) (2 + c) = [] := by
    unfold items; rw [if_neg (by omega), if_pos (by omega), gt, if_pos (by omega)]; rfl
   rw [upX, e1, e2, at6.2.1]
   exact Sl.nil_ _ _ _
  ·have e2 : items ({ m with cl := m.cl.set c Cl.new, e := ⟨m.e.w, m.e.kept.set c ([], [])⟩ } : Mach PE) k = items m k := by
    unfold items
    rw [gt]
    by_cases ek' : k = 1
    ·rw [if_pos ek', if_pos ek']
    ·rw [if_neg ek', if_neg ek']
     by_cases e8 : k < 8
     ·rw [if_pos e8, if_pos e8, if_neg (by omega)]
     ·rw [if_neg e8, if_neg e8]
   rw [up k ek, upd6_ne (slC_range a b' hc ek), e2]; exact h.slK hk a b' e
 ·rw [upd6_ne (by omega)]; exact h.md
 ·rw [upd6_ne (by omega), upd6_ne (by omega)]; exact (h.wldK hz hk h.wld).mono fun b hb => free_less hb
 ·rw [gt]
  by_cases e : c = d
  ·subst e; rw [at6.1, if_pos rfl]; rfl
  ·rw [upd6_ne (by omega), if_neg e]; exact h.bytes d hd
 ·rw [gt]
  by_cases e : c = d
  ·subst e; rw [at6.2.2.1, if_pos rfl]; rfl
  ·rw [upd6_ne (by omega), if_neg e]; exact h.has d hd
 ·rw [gt]
  by_cases e : c = d
  ·subst e; rw [at6.2.2.2.1, if_pos rfl]
   exact ⟨0, rfl, fun s hs => by cases hs⟩
  ·rw [upd6_ne (by omega), if_neg e]; exact h.srv d hd
 ·rw [show ({ m with cl := m.cl.set c Cl.new, e := ⟨m.e.w, m.e.kept.set c ([], [])⟩ } : Mach PE).e.of d = if c = d then ([], []) else m.e.of d from of_set hc' _]
  by_cases e : c = d
  ·subst e; rw [at6.2.2.2.2.1, if_pos rfl]
   exact ⟨lst_nil _ _, InP.nil_ _ _⟩
  ·rw [upd6_ne (by omega), if_neg e]
   have := h.lstK hz hk (h.set d hd)
   exact ⟨this.1, this.2.mono fun b hb => free_less hb⟩
 ·rw [show ({ m with cl := m.cl.set c Cl.new, e := ⟨m.e.w, m.e.kept.set c ([], [])⟩ } : Mach PE).e.of d = if c = d then ([], []) else m.e.of d from of_set hc' _]
  by_cases e : c = d
  ·subst e; rw [at6.2.2.2.2.2, if_pos rfl]
   exact ⟨lst_nil _ _, InP.nil_ _ _⟩
  ·rw [upd6_ne (by omega), if_neg e]
   have := h.lstK hz hk (h.prep d hd)
   exact ⟨this.1, this.2.mono fun b hb => free_less hb⟩
end
def ptr (P o : Nat) : Value := .pointer (some ⟨P, o, none⟩)
set_option maxHeartbeats 1000000 in
theorem refusal_any (P : Nat) (mode k : Int) (key val : ByteArray) (w : World) (h0 : w.cell? ⟨P, 0, none⟩ = some (.int .i64 mode)) (hP : P < w.heap.size) :
  Calls Tryz.prog 102 #[ptr P 0, .agg #[.int .i64 k, .string key, .string val]] w fun e w' => e = .returned (.string (refuse mode ⟨k, key, val⟩)) ∧ Below w.heap.size w w' := by
 have nn := (Below.refl w.heap.size w).alloc (nL _) (.cells #[.int .i64 k, .string key, .string val] 36)
 have HN := jD nn
 unfold ptr
 by_cases h1 : k = 0
 ·have t1 : (k == 0) = true := by simp [h1]
  have HE := jD (show refuse mode ⟨k, key, val⟩ = tUnder by unfold refuse; rw [if_pos h1])
  clear h1 nn
  go_enter Tryz.func102, Tryz.ntmps102
  go_wp2
  go_ret
  exact ⟨by rw [HE.out]; rfl, HN.out⟩
 have t1 : (k == 0) = false := by simp [h1]
 by_cases h2 : k = 1
 ·have t2 : (k == 1) = true := by simp [h2]
  by_cases h3 : mode = 3
  ·have t3 : (mode == 3) = true := by simp [h3]
   have HE := jD (show refuse mode ⟨k, key, val⟩ = tMode by unfold refuse; rw [if_neg h1, if_pos ⟨h2, h3⟩])
   clear h1 h2 h3 nn
   go_enter Tryz.func102, Tryz.ntmps102
   go_wp2
   go_ret
   exact ⟨by rw [HE.out]; rfl, HN.out⟩
  ·have t3 : (mode == 3) = false := by simp [h3]
   have HE := jD (show refuse mode ⟨k, key, val⟩ = ⟨#[]⟩ by unfold refuse; rw [if_neg h1, if_neg (fun h => h3 h.2)])
   clear h1 h2 h3 nn
   go_enter Tryz.func102, Tryz.ntmps102
   go_wp2
   go_ret
   exact ⟨by rw [HE.out]; rfl, HN.out⟩
 have t2 : (k == 1) = false := by simp [h2]
 have HE := jD (show refuse mode ⟨k, key, val⟩ = ⟨#[]⟩ by unfold refuse; rw [if_neg h1, if_neg (fun h => h2 h.1)])
 clear h1 h2 nn
 go_enter Tryz.func102, Tryz.ntmps102
 go_wp2
 go_ret
 exact ⟨by rw [HE.out]; rfl, HN.out⟩
section
variable {base P : Nat} {f : Nat → Value} {G : Nat → Option Nat} {mode : Int} {m : Mach PE}
set_option maxHeartbeats 1000000 in
theorem state_any (w : World) (h : PMem 0 w base P f G mode m) (hm : MOk mode m) (hp : m.e.w.ss.length = m.busy.length) {c : Nat} (hc : c < 6) :
  Calls Tryz.prog 71 #[ptr P 0, ptr P (4 + c * 6)] w fun e w' => e = .returned (.int .i64 (m.e.state (m.get c).srv)) ∧ ∃ n, w' = w.drewN n := by
 have h2 := h.row.cell (j := 4 + c * 6 + 2) (by omega)
 have h3 := h.row.cell (j := 4 + c * 6 + 3) (by omega)
 have h5 := h.row.cell (j := 2) (by omega)
 rw [h.has c hc] at h2
 obtain ⟨q, hq, hqs⟩ := h.srv c hc
 rw [hq] at h3
 have hP := h.row.lt
 unfold ptr
 cases hs : (m.get c).srv with
 | none =>
  have HE := jD (show m.e.state none = 0 from rfl)
  rw [hs] at h2
  simp only [Option.isSome] at h2
  clear hqs hs hq
  go_enter Tryz.func71, Tryz.ntmps71
  go_wp2
  go_ret
  exact ⟨by rw [HE.out]; rfl, 0, rfl⟩
 | some s =>
  have HE := jD (show m.e.state (some s) = (m.e.w.at s).st from rfl)
  rw [hs] at h2
  simp only [Option.isSome] at h2
  have hb := (List.getElem?_eq_some_iff.1 (hm.srv c s hs)).1
  have hlt : s < m.e.w.ss.length := by omega
  obtain rfl := hqs s hs
  obtain ⟨A, cc, hv, _⟩ := h.wld.wld.sess.form
  rw [hv] at h5
  have hss := h.wld.wld.sess
  rw [hv] at hss
  obtain ⟨g, o, v1, v2, v3, v4, rfl, hg, sA⟩ := hss.pt hlt
  have s0 := sA.c0
  rw [← at_lt hlt] at s0
  have hbd := hss.bytes
  clear hqs hs hq hv hss sA h hm hp hb
  generalize m.e.w.ss.length = n at *
  go_enter Tryz.func71, Tryz.ntmps71
  go_wp2
  go_quiet (fail)
  go_wp2
  go_ret
  exact ⟨by rw [HE.out]; rfl, _, rfl⟩
end
end Go.Proofs.YtpbaobmegomfpacGreatDoor
