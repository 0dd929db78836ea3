/-
  Texts of the proof, one behind the other: DelA, PStay, Laid, LaidWords, LaidLeads, TabsL.
-/
import Derived.Test.YtpbaobmegomfpacGreatDoorM21
import Derived.Test.YtpbaobmegomfpacGreatDoorM19
import Derived.Test.YtpbaobmegomfpacGreatDoorRows
import Derived.WalkKit
import Derived.WalkSpells
import Derived.WalkLawsBesides
import Derived.Lib.Hide
import Derived.IntWalk
import Derived.WalkSmall
import Derived.Deep.Upon
import Derived.Test.YtpbaobmegomfpacGreatDoorM42
import Derived.Test.YtpbaobmegomfpacGreatDoorM38
import Derived.ProofKit
import Derived.Lib.LaidTab
import Derived.Test.YtpbaobmegomfpacGreatDoorM15
import Derived.Test.YtpbaobmegomfpacGreatDoorM28
import Derived.Test.YtpbaobmegomfpacGreatDoorM29
set_option linter.unusedVariables false
set_option linter.unusedSimpArgs false
set_option maxRecDepth 100000
open List renaming getElem_toArray → gTA, getElem_cons_zero → gCZ, getElem_cons_succ → gCS, setIfInBounds_toArray → sTA, set_cons_zero → sCZ, set_cons_succ → sCS
open Go.Lib renaming hid → jD
open Nat renaming le_refl → nL
namespace Go.Proofs.YtpbaobmegomfpacGreatDoor
open Go.RowKit
def encA (x : Act) : List Value := [.int .i64 x.kind, .int .i64 x.c, .string x.data]
section
variable {w : World} {b off cap : Nat} {d : List (Act)}
theorem Rw.cA (h : Rw w 45 3 b off cap (d.map encA)) {i : Nat} (hi : i < d.length) : w.cell? ⟨b, off + i * 3, none⟩ = some (.int .i64 d[i].kind) ∧ w.cell? ⟨b, off + i * 3 + 1, none⟩ = some (.int .i64 d[i].c) ∧ w.cell? ⟨b, off + i * 3 + 2, none⟩ = some (.string d[i].data) := by
 have hi' : i < (d.map encA).length := by simpa using hi
 have h0 := h.cell i hi' 0 (by omega)
 have h1 := h.cell i hi' 1 (by omega)
 have h2 := h.cell i hi' 2 (by omega)
 rw [List.getElem_map] at h0
 rw [List.getElem_map] at h1
 rw [List.getElem_map] at h2
 exact ⟨by simpa [encA] using h0, by simpa [encA] using h1, by simpa [encA] using h2⟩
end
theorem actV_len (al : List Act) : ∀ e ∈ al.map actV, e.length = 3 := fun e he => by obtain ⟨x, _, rfl⟩ := List.mem_map.1 he; rfl
theorem Sl.alst {w : World} {out : Value} {g : Option Nat} {al : List Act} (h : Sl w 45 3 out g al.length (al.map actV).flatten) (hby : al.length * 32 ≤ 140737488351232) (hs : ∀ a ∈ al, a.data.size ≤ 140737488351232) : ALst w w.heap.size out al := by
 obtain ⟨A, c, rfl, hc⟩ := h.shape
 refine ⟨⟨A, c, rfl, hc⟩, hby, hs, fun hn => ?_⟩
 obtain ⟨b, off, cap, h1, h2, h3, h4⟩ := h.at hn
 refine ⟨b, off, cap, h2, h.lt h1, fun i hi => ?_⟩
 have hf : ∀ j, j < 3 → w.cell? ⟨b, off + (i * 3 + j), none⟩ = (actV al[i])[j]? := fun j hj => by
  have hf := flat_get (d := al.map actV) (size := 3) (actV_len al) (i := i) (by simpa using hi) hj
  rw [List.getElem_map] at hf
  have hl : i * 3 + j < (al.map actV).flatten.length := by rw [h.len]; exact at_in hi hj
  rw [h4 _ hl, ← List.getElem?_eq_getElem hl]
  exact hf
 have h0 := hf 0 (by omega)
 have h1 := hf 1 (by omega)
 have h2 := hf 2 (by omega)
 rw [← Nat.add_assoc] at h0 h1 h2
 exact ⟨h0, h1, h2⟩
theorem ActsAt.alst {w w' : World} {out : Value} {al : List Act} (h : ActsAt w w' out al) (hby : al.length ≤ 1000) (hs : ∀ a ∈ al, a.data.size ≤ 1000) : ALst w' w'.heap.size out al := by
 obtain ⟨g, h1, _⟩ := h.sl
 exact h1.alst (by omega) (fun a ha => by have := hs a ha; omega)
theorem Rw.alst {w : World} {b off cap : Nat} {al : List Act} (h : Rw w 45 3 b off cap (al.map encA)) (hby : al.length ≤ 1000) (hs : ∀ a ∈ al, a.data.size ≤ 1000) : ALst w w.heap.size (.slice (some ⟨b, off, none⟩) al.length cap) al :=
 ⟨⟨_, _, rfl, by simpa using h.room⟩, by omega, fun a ha => by have := hs a ha; omega, fun _ => ⟨b, off, cap, rfl, h.row.lt, fun i hi => h.cA hi⟩⟩
theorem laid_mem {P : Program} {w : World} {n : String} {d : DataW Unit} : ∀ {l : List (String × DataW Unit)} {ps : List MemPlace}, DataW.LaidVars P w l ps → (n, d) ∈ l →
  ∃ g t cs fuel p, P.globalNamed n = some g ∧ (P.globals[g]?).map (·.type) = some t ∧ w.var? P n = some cs ∧ DataW.trod (fun _ => ()) P w 0 (fun _ => true) false fuel t cs.toList = some (d, p)
 | [], _, _, h => by cases h
 | (m, e) :: l, ps, hl, h => by
  obtain ⟨g, t, cs, fuel, p, q, h1, h2, h3, h4, h5, _⟩ := hl
  rcases List.mem_cons.1 h with he | he
  ·cases he
   exact ⟨g, t, cs, fuel, p, h1, h2, h3, h4⟩
  ·exact laid_mem h5 he
theorem strs_of {P : Program} {w : World} {fuel : Nat} {t e : TypeId} {n : Nat} {cs : List Value} {ss : List (List UInt8)} {p : List MemPlace}
  (ht : P.underlying t = some (.array n e)) (he : P.underlying e = some .string) (hce : P.cellsOf e = 1) (hct : P.cellsOf t = n)
  (h : DataW.trod (fun _ => ()) P w 0 (fun _ => true) false fuel t cs = some (.agg (ss.map fun s => .lit (.string s)), p)) : cs = ss.map fun s => Value.string ⟨s.toArray⟩ := by
 cases fuel with
 | zero => simp [DataW.trod] at h
 | succ fuel =>
  simp only [DataW.trod, ht, hce, hct, Nat.mul_one] at h
  split at h
  ·obtain ⟨xs, hm, hx⟩ := Option.map_eq_some_iff.1 h
   have hxs : xs.map (·.1) = ss.map fun s => (DataW.lit (.string s) : DataW Unit) := by
    have := congrArg Prod.fst hx
    simpa using this
   have hxl : xs.length = n := by simpa using Lib.mapM_length hm
   have hzl : ss.length = n := by
    have := congrArg List.length hxs
    simp at this
    omega
   apply List.ext_getElem?
   intro i
   by_cases hi : i < n
   ·obtain ⟨b, hb, hf⟩ := Lib.mapM_at hm i i (by simp [hi])
    obtain ⟨z, hc, rfl, _⟩ := DataW.trod_string he hf
    have h1 : cs[i]? = some (.string z) := by
     have := congrArg (·[0]?) hc
     simpa [List.getElem?_take, List.getElem?_drop] using this
    have h2 : (xs.map (·.1))[i]? = some (DataW.lit (.string z.data.toList) : DataW Unit) := by simp [hb]
    rw [hxs] at h2
    simp only [List.getElem?_map, Option.map_eq_some_iff, DataW.lit.injEq, Lit.string.injEq] at h2
    obtain ⟨s, hs, rfl⟩ := h2
    simp [h1, hs]
   ·rw [List.getElem?_eq_none (by omega), List.getElem?_eq_none (by simp; omega)]
  ·cases h
theorem tab_of {P : Program} {w : World} {n : String} {l : List (String × DataW Unit)} {ss : List (List UInt8)} {g : Nat} {t e : TypeId} {m : Nat}
  (hg : P.globalNamed n = some g) (hty : (P.globals[g]?).map (·.type) = some t) (ht : P.underlying t = some (.array m e)) (he : P.underlying e = some .string) (hce : P.cellsOf e = 1) (hct : P.cellsOf t = m)
  (h : laidMet P l w) (hin : (n, DataW.agg (ss.map fun s => .lit (.string s))) ∈ l) : g < w.heap.size ∧ ∀ i, i < ss.length → w.cell? ⟨g, i, none⟩ = some (.string ⟨(ss.getD i []).toArray⟩) := by
 obtain ⟨ps, hl, _⟩ := h
 obtain ⟨g', t', cs, fuel, p, h1, h2, h3, h4⟩ := laid_mem hl hin
 obtain rfl := Option.some.inj (hg.symm.trans h1)
 obtain rfl := Option.some.inj (hty.symm.trans h2)
 have hcs := strs_of ht he hce hct h4
 refine ⟨?_, fun i hi => ?_⟩
 ·simp only [World.var?, hg, Option.bind_some] at h3
  split at h3
  ·rename_i hh
   exact (Array.getElem?_eq_some_iff.1 hh).1
  ·cases h3
 ·rw [World.var?_cell hg h3 i]
  have : cs[i]? = cs.toList[i]? := by simp
  rw [this, hcs]
  simp [List.getD, hi]
theorem words_of {l : List (String × DataW Unit)} {w : World} (h : laidMet Tryz.prog l w) (hin : ("tillerman/say.words", DataW.agg ((List.range 12).map fun k => .lit (.string (wordL k)))) ∈ l) : Words w := by
 have h2 : ("tillerman/say.words", DataW.agg (((List.range 12).map wordL).map fun s => .lit (.string s))) ∈ l := by
  rw [List.map_map]; exact hin
 obtain ⟨h3, h4⟩ := tab_of (P := Tryz.prog) (g := 1) (t := 125) (e := 9) (m := 12) (by kernel_rfl) (by kernel_rfl) Tryz.underlying125 Tryz.underlying9 (by kernel_rfl) (by kernel_rfl) h h2
 refine ⟨h3, fun k hk => ?_⟩
 rw [h4 k (by simp; omega)]
 have : ((List.range 12).map wordL).getD k [] = wordL k := by
  simp [List.getD, show k < 12 by omega]
 rw [this]; rfl
theorem leads_of {l : List (String × DataW Unit)} {w : World} (h : laidMet Tryz.prog l w) (hin : ("tillerman/say.leads", DataW.agg ((List.range 5).map fun k => .lit (.string (leadL k)))) ∈ l) : Leads w := by
 have h2 : ("tillerman/say.leads", DataW.agg (((List.range 5).map leadL).map fun s => .lit (.string s))) ∈ l := by
  rw [List.map_map]; exact hin
 obtain ⟨h3, h4⟩ := tab_of (P := Tryz.prog) (g := 0) (t := 73) (e := 9) (m := 5) (by kernel_rfl) (by kernel_rfl) Tryz.underlying73 Tryz.underlying9 (by kernel_rfl) (by kernel_rfl) h h2
 refine ⟨h3, fun k hk => ?_⟩
 rw [h4 k (by simp; omega)]
 have : ((List.range 5).map leadL).getD k [] = leadL k := by
  simp [List.getD, show k < 5 by omega]
 rw [this]; rfl
theorem tabs_of {w : World} (h1 : Words w) (h2 : Leads w) : Tabs w w.heap.size := ⟨h1, h2, h1.room, h2.room⟩
end Go.Proofs.YtpbaobmegomfpacGreatDoor
