/-
  Texts of the proof, one behind the other: DelN, PLve, PReq.
-/
import Derived.Test.YtpbaobmegomfpabGreatDoorM21
import Derived.Test.YtpbaobmegomfpabGreatDoorM20
import Derived.Test.YtpbaobmegomfpabGreatDoorRows
import Derived.WalkKit
import Derived.WalkSpells
import Derived.WalkLawsBesides
import Derived.Lib.Hide
import Derived.IntWalk
import Derived.WalkSmall
import Derived.Deep.Upon
import Derived.Test.YtpbaobmegomfpabGreatDoorM34
import Derived.Test.YtpbaobmegomfpabGreatDoorM28
import Derived.Test.YtpbaobmegomfpabGreatDoorM15
set_option linter.unusedVariables false
set_option linter.unusedSimpArgs false
set_option maxRecDepth 100000
open List renaming getElem_toArray → gTA, getElem_cons_zero → gCZ, getElem_cons_succ → gCS, setIfInBounds_toArray → sTA, set_cons_zero → sCZ, set_cons_succ → sCS
open Go.Lib renaming hid → jD
open Nat renaming le_refl → nL
namespace Go.Proofs.YtpbaobmegomfpabGreatDoor
open Go.RowKit
def encN (x : Nat) : List Value := [.int .i64 (x : Int)]
section
variable {w : World} {b off cap : Nat} {d : List (Nat)}
theorem encN_each : ∀ e ∈ d.map encN, e.length = 1 := fun e he => by
 obtain ⟨x, _, rfl⟩ := List.mem_map.1 he
 rfl
theorem Rw.cN (h : Rw w 3 1 b off cap (d.map encN)) {i : Nat} (hi : i < d.length) : w.cell? ⟨b, off + i, none⟩ = some (.int .i64 (d[i] : Int)) := by
 have hi' : i < (d.map encN).length := by simpa using hi
 have h0 := h.cell i hi' 0 (by omega)
 rw [List.getElem_map] at h0
 simpa [encN] using h0
end
set_option maxHeartbeats 400000 in
theorem indexFuncN (lbv : Value) (p : Nat → Bool) (w : World) (b off cap B : Nat) (d : List (Nat)) (hR : Rw w 3 1 b off cap (d.map encN)) (hby : d.length ≤ 1000000000000000) (hB : B ≤ b)
  (hp : ∀ x ∈ d, ∀ wc, Below B w wc → (∀ g, g < w.heap.size → g ≠ b → wc.heap[g]? = w.heap[g]?) → Calls Tryz.prog 78 #[.int .i64 (x : Int), lbv] wc fun e w' => e = .returned (.bool (p x)) ∧ Below wc.heap.size wc w') :
  Calls Tryz.prog 98 #[.slice (some ⟨b, off, none⟩) d.length cap, .func (.func 78) #[] #[lbv]] w fun e w' => (∃ i : Int, e = .returned (.int .i64 i) ∧ ((i = -1 ∧ ∀ x ∈ d, p x = false) ∨ ∃ k, ∃ hk : k < d.length, i = k ∧ p d[k] = true ∧ ∀ x ∈ d.take k, p x = false)) ∧ Below w.heap.size w w' := by
 have hbl := hR.row.lt
 have HR := jD hR
 have HP := jD hp
 have hcap : d.length ≤ cap := by simpa using hR.room
 clear hR hp
 go_enter Tryz.func98, Tryz.ntmps98
 go_wp2
 go_loopw [8] (fun i wr => ∃ k : Nat, k ≤ d.length ∧ i = .int .i64 k ∧ Hid ((∀ x ∈ d.take k, p x = false) ∧ Below w.heap.size w wr)) (fun i _ => d.length - (intOf i).toNat)
 case atStart => exact ⟨0, by omega, rfl, (fun x hx => by simp at hx), Below.refl _ _⟩
 case round =>
  obtain ⟨k, hk, rfl, HZ⟩ := hrel
  by_cases hlt : k < d.length
  ·have hRk := HR.out.below HZ.out.2 hbl
   have a0 := hRk.cN hlt
   have hblr : b < wr.heap.size := Nat.lt_of_lt_of_le hbl HZ.out.2.size
   have HC := jD (HP.out d[k] (List.getElem_mem hlt) wr (HZ.out.2.mono (by omega)) (fun g hg _ => HZ.out.2.block g hg))
   have HT := jD (fun (h : p d[k] = true) => (show ∃ k', ∃ hk : k' < d.length, (k : Int) = k' ∧ p d[k'] = true ∧ ∀ x ∈ d.take k', p x = false from ⟨k, hlt, rfl, h, HZ.out.1⟩))
   have HF := jD (fun (h : p d[k] = false) => (show ∀ x ∈ d.take (k + 1), p x = false from fun x hx => by
    rw [List.take_succ_eq_append_getElem hlt] at hx
    rcases List.mem_append.1 hx with hx | hx
    ·exact HZ.out.1 x hx
    ·rw [List.mem_singleton.1 hx]; exact h))
   have HZ2 := jD HZ.out.2
   generalize d[k] = x at *
   clear HZ hRk
   cases hq : p x with
   | true =>
    have HT2 := jD (HT.out hq)
    rw [hq] at HC
    clear HT HF hq
    go_wp2_with fail
    refine HC.out.mono ?_
    rintro e w2 ⟨rfl, hb2⟩
    have HB2 := jD (HZ2.out.trans (hb2.mono HZ2.out.size))
    clear hb2
    go_wp2
    go_ret
    exact ⟨⟨k, rfl, .inr HT2.out⟩, HB2.out⟩
   | false =>
    have HF2 := jD (HF.out hq)
    rw [hq] at HC
    clear HT HF hq
    go_wp2_with fail
    refine HC.out.mono ?_
    rintro e w2 ⟨rfl, hb2⟩
    have HB2 := jD (HZ2.out.trans (hb2.mono HZ2.out.size))
    clear hb2
    go_wp2
    go_roundw
    case rel => exact ⟨k + 1, by omega, by go_num, HF2.out, HB2.out⟩
    case measure => simp [intOf]; omega
  ·obtain rfl : k = d.length := by omega
   rw [List.take_length] at HZ
   go_wp2
   go_ret
   exact ⟨⟨-1, rfl, .inl ⟨rfl, HZ.out.1⟩⟩, HZ.out.2⟩
theorem behind1 {w : World} {t b off cap : Nat} {d : List (List Value)} (h : Rw w t 1 b off cap d) {i : Nat} (hi : i ≤ d.length) (vs : List Value) : Rw (w.setCells b (off + i) vs) t 1 b off cap (d.take i) := by
 have := h.behind hi vs
 rw [Nat.mul_one] at this
 exact this
set_option maxHeartbeats 1000000 in
theorem deleteFuncN (lbv : Value) (p : Nat → Bool) (w : World) (b off cap B : Nat) (d : List (Nat)) (hR : Rw w 3 1 b off cap (d.map encN)) (hby : d.length ≤ 1000000000000000) (hB : B ≤ b)
  (hp : ∀ x ∈ d, ∀ wc, Below B w wc → (∀ g, g < w.heap.size → g ≠ b → wc.heap[g]? = w.heap[g]?) → Calls Tryz.prog 78 #[.int .i64 (x : Int), lbv] wc fun e w' => e = .returned (.bool (p x)) ∧ Below wc.heap.size wc w') :
  Calls Tryz.prog 77 #[.slice (some ⟨b, off, none⟩) d.length cap, .func (.func 78) #[] #[lbv]] w fun e w' => e = .returned (.slice (some ⟨b, off, none⟩) (d.filter fun x => !p x).length cap) ∧ Rw w' 3 1 b off cap ((d.filter fun x => !p x).map encN) ∧ Below B w w' ∧ ∀ g, g < w.heap.size → g ≠ b → w'.heap[g]? = w.heap[g]? := by
 have hbl := hR.row.lt
 have HI := jD (indexFuncN lbv p w b off cap B d hR hby hB hp)
 have HR := jD hR
 have HP := jD hp
 have hcap : d.length ≤ cap := by simpa using hR.room
 clear hR hp
 go_enter Tryz.func77, Tryz.ntmps77
 go_wp2_with fail
 refine HI.out.mono ?_
 rintro e w1 ⟨⟨i, rfl, hi⟩, hb1⟩
 have HB1 := jD hb1
 clear HI hb1
 rcases hi with ⟨rfl, hall⟩ | ⟨k, hk, rfl, h1, h0⟩
 ·have HA := jD (show (d.filter fun x => !p x) = d from List.filter_eq_self.2 fun x hx => by rw [hall x hx]; rfl)
  clear hall
  go_wp2
  go_ret
  rw [HA.out]
  exact ⟨rfl, HR.out.below HB1.out hbl, HB1.out.mono (by omega), fun g hg _ => HB1.out.block g hg⟩
 ·have HK := jD (KeepI.start hk h1 h0)
  have hne : ((k : Int) == -1) = false := beq_eq_false_iff_ne.2 (by omega)
  clear h1 h0
  go_wp2_with fail
  go_loopw [5, 6, 7] (fun s5 s6 s7 wr => ∃ (i j : Nat) (dk : List (Nat)), s5 = .int .i64 i ∧ s6 = .int .i64 j ∧ i < j ∧ j ≤ d.length ∧ Hid (KeepI p d i j dk ∧ Rw wr 3 1 b off cap (dk.map encN) ∧ Below B w wr ∧ (w.heap.size ≤ wr.heap.size) ∧ ∀ g, g < w.heap.size → g ≠ b → wr.heap[g]? = w.heap[g]?)) (fun _ s6 _ _ => d.length - (intOf s6).toNat)
  case atStart => exact ⟨k, k + 1, d, rfl, by go_num, by omega, by omega, HK.out, HR.out.below HB1.out hbl, HB1.out.mono (by omega), HB1.out.size, fun g hg _ => HB1.out.block g hg⟩
  case round =>
   obtain ⟨i, j, dk, rfl, rfl, hij, hjn, HZ⟩ := hrel
   clear HK HB1
   by_cases hlt : j < d.length
   ·have hRk := HZ.out.2.1
    have hlk := HZ.out.1.len
    have c0 := hRk.cN (i := j) (by omega)
    have z0 := hRk.cN (i := i) (by omega)
    rw [HZ.out.1.at hlt] at c0
    have a0 := c0
    skip
    have f0 := hRk.row.frozen (off + i)
    have hbr := hRk.row.lt
    skip
    have HC := jD (HP.out d[j] (List.getElem_mem hlt) wr HZ.out.2.2.1 HZ.out.2.2.2.2)
    have HKK := jD (fun (h : p d[j] = false) => HZ.out.1.keep hlt h)
    have HKS := jD (fun (h : p d[j] = true) => HZ.out.1.skip hlt h)
    have hjI : (j : Int) < (d.length : Int) := by omega
    have HM := jD (List.getElem_mem hlt)
    generalize d[j] = x at *
    skip
    clear hRk
    cases hq : p x with
    | true =>
     have HK2 := jD (HKS.out hq)
     rw [hq] at HC
     clear HKS HKK hq
     go_wp2_with fail
     refine HC.out.mono ?_
     rintro e w2 ⟨rfl, hb2⟩
     have HB2 := jD hb2
     clear hb2
     have hw2 : Below wr.heap.size wr w2 := HB2.out
     have hn2 : ∀ g, g < wr.heap.size → w2.heap[g]? = wr.heap[g]? := fun g hg => hw2.block g hg
     have H2 := jD (And.intro (HZ.out.2.1.keep (hn2 b hbr)) (And.intro (show Below B w w2 from HZ.out.2.2.1.trans (hw2.mono (by have := HZ.out.2.2.2.1; omega))) (And.intro (show w.heap.size ≤ w2.heap.size by have := HZ.out.2.2.2.1; have := hw2.size; omega) (fun g (hg : g < w.heap.size) (hne : g ≠ b) => (hn2 g (by have := HZ.out.2.2.2.1; omega)).trans (HZ.out.2.2.2.2 g hg hne)))))
     have hb2' : b < w2.heap.size := by have := hw2.size; omega
     go_wp2
     go_roundw
     case rel => exact ⟨i, j + 1, dk, rfl, by go_num, by omega, by omega, HK2.out, H2.out.1, H2.out.2.1, H2.out.2.2.1, H2.out.2.2.2⟩
     case measure => simp [intOf]; omega
    | false =>
     have HK2 := jD (HKK.out hq)
     rw [hq] at HC
     clear HKS HKK hq
     go_wp2_with fail
     refine HC.out.mono ?_
     rintro e w2 ⟨rfl, hb2⟩
     have HB2 := jD hb2
     clear hb2
     have hw2 : Below wr.heap.size wr w2 := HB2.out
     have hn2 : ∀ g, g < wr.heap.size → w2.heap[g]? = wr.heap[g]? := fun g hg => hw2.block g hg
     have H2 := jD (And.intro (HZ.out.2.1.keep (hn2 b hbr)) (And.intro (show Below B w w2 from HZ.out.2.2.1.trans (hw2.mono (by have := HZ.out.2.2.2.1; omega))) (And.intro (show w.heap.size ≤ w2.heap.size by have := HZ.out.2.2.2.1; have := hw2.size; omega) (fun g (hg : g < w.heap.size) (hne : g ≠ b) => (hn2 g (by have := HZ.out.2.2.2.1; omega)).trans (HZ.out.2.2.2.2 g hg hne)))))
     have hb2' : b < w2.heap.size := by have := hw2.size; omega
     have hi2 : i < (dk.map encN).length := by rw [List.length_map, HZ.out.1.len]; omega
     have H3 := jD (And.intro ((show Rw (w2.setCells b (off + i) (encN x)) 3 1 b off cap ((dk.map encN).set i (encN x)) by have := H2.out.1.set hi2 (e := encN x) rfl; rw [Nat.mul_one] at this; exact this)) (And.intro (below_setCells H2.out.2.1 hB (off + i) (encN x)) (And.intro (show w.heap.size ≤ (w2.setCells b (off + i) (encN x)).heap.size by rw [(setCells_keeps b _ _ _).2.2.2]; exact H2.out.2.2.1) (fun g (hg : g < w.heap.size) (hne : g ≠ b) => (setCells_other w2 b (off + i) (encN x) hne).trans (H2.out.2.2.2 g hg hne)))))
     rw [← List.map_set] at H3
     have v0 := (World.cell?_of_block (a := ⟨b, off + i, none⟩) (hn2 b hbr)).trans z0
     have g0 := (World.frozen?_of_block (a := ⟨b, off + i, none⟩) (hn2 b hbr)).trans f0
     simp only [World.setCells, encN, Nat.mul_one] at H3
     go_wp2
     go_roundw
     case rel => exact ⟨i + 1, j + 1, dk.set i x, by go_num, by go_num, by omega, by omega, HK2.out, H3.out.1, H3.out.2.1, H3.out.2.2.1, H3.out.2.2.2⟩
     case measure => simp [intOf]; omega
   ·obtain rfl : j = d.length := by omega
    have hRk := HZ.out.2.1
    have hlk := HZ.out.1.len
    have hbr := hRk.row.lt
    have hcl : ∀ ty, (Builtin.clear_ #[79] ty #[.slice (some ⟨b, off + i, none⟩) (d.length - i) (cap - i)]).run Tryz.prog wr = .ok (.tuple #[]) (wr.setCells b (off + i) (Builtin.zeroCells ((.int .i64 0) : Value).cells (d.length - i)).toList) := fun ty => by
     refine run_clear_cells (P := Tryz.prog) wr 79 3 ty (.int .i64 0) Tryz.underlying79 Tryz.zeroValue3 (by simp [Value.cells, Value.oneCell']) (by decide) b (off + i) (d.length - i) (cap - i) (by omega) (fun q hq => ?_) (fun q => hRk.row.frozen _)
     obtain ⟨u, hu⟩ := hRk.row.any (j := off + i + q) (by have : q < (d.length - i) * 1 := hq; have : d.length ≤ cap := hcap; omega)
     rw [hu]; rfl
    have H2 := jD (behind1 hRk (i := i) (by rw [List.length_map]; omega) (Builtin.zeroCells ((.int .i64 0) : Value).cells (d.length - i)).toList)
    rw [← List.map_take, HZ.out.1.done] at H2
    have HN := jD HZ.out.1.num
    have H3 := jD (And.intro (below_setCells HZ.out.2.2.1 hB (off + i) (Builtin.zeroCells ((.int .i64 0) : Value).cells (d.length - i)).toList) (fun g (hg : g < w.heap.size) (hne : g ≠ b) => (setCells_other wr b (off + i) (Builtin.zeroCells ((.int .i64 0) : Value).cells (d.length - i)).toList hne).trans (HZ.out.2.2.2.2 g hg hne)))
    clear hRk
    go_wp2
    go_ret
    refine ⟨by rw [HN.out]; rfl, H2.out, H3.out.1, H3.out.2⟩
set_option maxHeartbeats 400000 in
theorem indexFuncN_nil (A : Option Addr) (c : Nat) (fv : Value) (w : World) : Calls Tryz.prog 98 #[.slice A 0 c, .func (.func 78) #[] #[fv]] w fun e w' => e = .returned (.int .i64 (-1)) ∧ w' = w := by
 go_enter Tryz.func98, Tryz.ntmps98
 go_wp2
 go_loopw [8] (fun i wr => i = .int .i64 0 ∧ wr = w) (fun i _ => 0)
 case atStart => exact ⟨rfl, rfl⟩
 case round =>
  obtain ⟨rfl, rfl⟩ := hrel
  go_wp2
  go_ret
  exact ⟨rfl, rfl⟩
set_option maxHeartbeats 400000 in
theorem deleteFuncN_nil (A : Option Addr) (c : Nat) (fv : Value) (w : World) : Calls Tryz.prog 77 #[.slice A 0 c, .func (.func 78) #[] #[fv]] w fun e w' => e = .returned (.slice A 0 c) ∧ w' = w := by
 have HI := jD (indexFuncN_nil A c fv)
 go_enter Tryz.func77, Tryz.ntmps77
 go_wp2_with fail
 refine (HI.out _).mono ?_
 rintro e w1 ⟨rfl, rfl⟩
 go_wp2
 go_ret
 exact ⟨rfl, rfl⟩
set_option maxHeartbeats 400000 in
theorem leaveC_any (x c X : Nat) (w : World) (hx : w.cell? ⟨X, 0, none⟩ = some (.int .i64 (c : Int))) (hX : X < w.heap.size) :
  Calls Tryz.prog 78 #[.int .i64 (x : Int), .pointer (some ⟨X, 0, none⟩)] w fun e w' => e = .returned (.bool (x == c)) ∧ Below w.heap.size w w' := by
 by_cases h : x = c
 ·subst h
  have hb : ((x : Int) == (x : Int)) = true := by simp
  have hb2 : (x == x) = true := by simp
  rw [hb2]
  go_enter Tryz.func78, Tryz.ntmps78
  go_wp2
  go_ret
  exact ⟨rfl, Below.refl _ _⟩
 ·have hb : ((x : Int) == (c : Int)) = false := beq_eq_false_iff_ne.2 (by omega)
  have hb2 : (x == c) = false := beq_eq_false_iff_ne.2 h
  rw [hb2]
  go_enter Tryz.func78, Tryz.ntmps78
  go_wp2
  go_ret
  exact ⟨rfl, Below.refl _ _⟩
section
variable {base P : Nat} {f : Nat → Value} {G : Nat → Option Nat} {mode : Int} {m : Mach PE} {N : Nat}
def DelPost (w : World) (base P c : Nat) (f : Nat → Value) (G : Nat → Option Nat) (mode : Int) (m : Mach PE) (e : Ending) (w' : World) : Prop :=
 ∃ A n q, e = .returned (.slice A n q) ∧ P < w'.heap.size ∧ w'.cell? ⟨P, 40, none⟩ = some (f 40) ∧ w'.frozen? ⟨P, 40, none⟩ = false ∧
  PMem 0 (w'.setCell ⟨P, 40, none⟩ (.slice A n q)) base P (upd f 40 (.slice A n q)) G mode { m with line := m.line.filter (fun k => k != c) } ∧ Below base w w'
theorem delQ_any (w : World) (h : PMem 0 w base P f G mode m) (hl : m.line.length ≤ 6) {X c : Nat} (hX : Free G X) (hXl : X < w.heap.size) (hXc : w.cell? ⟨X, 0, none⟩ = some (.int .i64 (c : Int))) :
  Calls Tryz.prog 77 #[f 40, .func (.func 78) #[] #[.pointer (some ⟨X, 0, none⟩)]] w (DelPost w base P c f G mode m) := by
 have hi8 : ∀ q : Mach PE, items q 8 = q.line.map encN := fun q => by rw [items_line]; rfl
 have hoth : ∀ k, k ≠ 8 → items { m with line := m.line.filter (fun k => k != c) } k = items m k := fun k hk => items_less rfl rfl rfl rfl hk
 have hP := h.row.lt
 have hbP := (h.lo 0 P h.p0).1
 by_cases h0 : m.line = []
 ·obtain ⟨A, q, hf, _⟩ := h.lineSl.shape
  rw [h0] at hf
  simp only [List.length_nil] at hf
  rw [hf]
  refine (deleteFuncN_nil A q (.pointer (some ⟨X, 0, none⟩)) w).mono ?_
  rintro e w' ⟨rfl, rfl⟩
  refine ⟨A, 0, q, rfl, hP, h.row.cell (j := 40) (by omega), h.row.frozen 40, ?_, Below.refl _ _⟩
  have hx := (h.but 8).cellX (by omega) (by omega) (.slice A 0 q)
  refine hx.fill ?_ hoth rfl (fun _ => rfl) (fun _ => rfl)
  have hs := h.sl 8 (by omega) (by omega) (by omega)
  rw [upd_at]
  rw [hi8, h0] at hs ⊢
  have e8 : f (slC 8) = .slice A 0 q := hf
  rw [e8] at hs
  exact hs.ne (h.noP (by omega)) (set_off w' P _ _)
 ·have hn : 0 < m.line.length := List.length_pos_iff.2 h0
  have hs := h.sl 8 (by omega) (by omega) (by omega)
  rw [hi8, List.length_map] at hs
  obtain ⟨b, off, cap, hG, hf, hR⟩ := hs.rw encN_each (by simp) hn
  have hf' : f 40 = .slice (some ⟨b, off, none⟩) m.line.length cap := hf
  have hbb := h.lo 8 b hG
  have hXb : X ≠ b := fun e => hX 8 (by rw [hG, e])
  have hPb : P ≠ b := fun e => h.noP (k := 8) (by omega) (by rw [hG, e])
  rw [hf']
  refine (deleteFuncN (.pointer (some ⟨X, 0, none⟩)) (fun x => x == c) w b off cap base m.line hR (by omega) hbb.1 (fun x _ wc _ hk => ?_)).mono ?_
  ·refine leaveC_any x c X wc ?_ ?_
   ·exact (World.cell?_of_block (hk X hXl hXb)).trans hXc
   ·have := hk X hXl hXb
    rw [Array.getElem?_eq_getElem hXl] at this
    exact (Array.getElem?_eq_some_iff.1 this).1
  ·rintro e w' ⟨rfl, hR', hB, hk⟩
   refine ⟨_, _, _, rfl, Nat.lt_of_lt_of_le hP hB.size, ?_, ?_, ?_, hB⟩
   ·exact (World.cell?_of_block (hk P hP hPb)).trans (h.row.cell (j := 40) (by omega))
   ·exact (World.frozen?_of_block (hk P hP hPb)).trans (h.row.frozen 40)
   ·have hk8 := (h.but 8).keep (by omega) hB.size (fun g hg hne => hk g hg (fun e => hne (by rw [hG, e])))
    have hx := hk8.cellX (by omega) (by omega) (.slice (some ⟨b, off, none⟩) (m.line.filter fun x => !(x == c)).length cap)
    refine hx.fill ?_ hoth rfl (fun _ => rfl) (fun _ => rfl)
    rw [upd_at, hi8, hG]
    have hsl := hR'.sl (by omega)
    rw [List.length_map] at hsl
    have := hsl.ne (P := P) (fun e => hPb (by injection e with e; exact e.symm)) (set_off w' P (slC 8) (.slice (some ⟨b, off, none⟩) (m.line.filter fun x => !(x == c)).length cap))
    rw [List.length_map]
    exact this
theorem leave_none {c : Nat} (hs : (m.get c).srv = none) : ({ ({ m with line := m.line.filter (fun k => k != c) } : Mach PE) with cl := m.cl.set c Cl.new, e := ⟨m.e.w, m.e.kept.set c ([], [])⟩ } : Mach PE) = m.leave poolO c := by
 unfold Mach.leave poolO
 rw [hs]
theorem leave_some {c s : Nat} (hs : (m.get c).srv = some s) {W1 : Wd} (hW : W1 = if (m.e.w.at s).st ≠ 0 then (doR m.e.w s ⟨3, ⟨#[]⟩, ⟨#[]⟩⟩).1 else m.e.w) (m2 : Mach PE) (h2 : m2 = Mach.release poolO { m with e := ⟨W1, m.e.kept⟩ } c s) :
  ({ ({ m2 with line := m2.line.filter (fun k => k != c) } : Mach PE) with cl := m2.cl.set c Cl.new, e := ⟨m2.e.w, m2.e.kept.set c ([], [])⟩ } : Mach PE) = m.leave poolO c := by
 subst h2
 unfold Mach.leave poolO Mach.release PE.free
 simp only [hs, List.set_set]
 subst hW
 rfl
set_option maxHeartbeats 2000000 in
theorem leave_any (w : World) (h : PMem 0 w base P f G mode m) (hT : Tabs w base) (hI : Inv mode m N) {c : Nat} (hc : c < 6) :
  Calls Tryz.prog 50 #[ptr P 0, .int .i64 (c : Int)] w (PPost w base P mode (m.leave poolO c)) := by
 have hP := h.row.lt
 have hbP := (h.lo 0 P h.p0).1
 have n0 := (Below.refl w.heap.size w).alloc (nL _) (.cells #[.int .i64 (c : Int)] 3)
 have x0 := (RowTo.whole w #[.int .i64 (c : Int)] 3).cell (j := 0) (by simp)
 simp only [gTA, gCZ] at x0
 have hcI : (c : Int) < 6 := by omega
 have HFX := jD (show Free G w.heap.size from fun i e => absurd (h.lo i _ e).2 (Nat.lt_irrefl _))
 have HM0 := jD (h.below n0)
 have HB0 := jD (n0.mono (Nat.le_trans hbP (Nat.le_of_lt hP)))
 have HX0 := jD x0
 have HT := jD hT
 have HI := jD hI
 have HZ0 := jD (show (w.alloc (.cells #[.int .i64 (c : Int)] 3)).heap.size = w.heap.size + 1 by simp)
 have hPX : P ≠ w.heap.size := by omega
 clear h n0 hT hI
 unfold ptr
 go_enter Tryz.func50, Tryz.ntmps50
 go_wp2_with fail
 go_quiet (fail)
 have hMd := HM0.out.below (below_drewN (Below.refl _ _) nq)
 have hBd := below_drewN HB0.out nq
 have hXd : ((w.alloc (.cells #[.int .i64 (c : Int)] 3)).drewN nq).cell? ⟨w.heap.size, 0, none⟩ = some (.int .i64 (c : Int)) := by simp
 have hZd : ((w.alloc (.cells #[.int .i64 (c : Int)] 3)).drewN nq).heap.size = w.heap.size + 1 := by simp
 obtain ⟨X, HXX⟩ : ∃ X, Hid (w.heap.size = X) := ⟨_, jD rfl⟩
 obtain ⟨W, HW⟩ : ∃ u, Hid ((w.alloc (.cells #[.int .i64 (c : Int)] 3)).drewN nq = u) := ⟨_, jD rfl⟩
 rw [HW.out] at hMd hBd hXd hZd ⊢
 rw [HXX.out] at hXd hZd HFX ⊢
 clear HW x0 HX0 HM0 HB0 HZ0 hPX
 have HM := jD hMd
 have HB := jD hBd
 have HX := jD hXd
 have hXl : X < W.heap.size := by omega
 clear hMd hBd hXd hZd HXX
 have HST := jD (state_any W HM.out HI.out.ok HI.out.plen hc)
 unfold ptr at HST
 go_wp2_with fail
 refine HST.out.mono ?_
 rintro e w1 ⟨rfl, n1, hw1⟩
 have hMd := HM.out.below (show Below W.heap.size W w1 by rw [hw1]; exact below_drewN (Below.refl _ _) n1)
 have hBd := HB.out.trans (show Below base W w1 by rw [hw1]; exact below_drewN (Below.refl _ _) n1)
 have hXd : w1.cell? ⟨X, 0, none⟩ = some (.int .i64 (c : Int)) := by rw [hw1]; simpa using HX.out
 have hXl1 : X < w1.heap.size := by rw [hw1]; simpa using hXl
 clear hw1 HST HM HB HX hXl
 have HM := jD hMd
 have HB := jD hBd
 have HX := jD hXd
 have hP1 := hMd.row.lt
 have a2 := hMd.row.cell (j := 4 + c * 6 + 2) (by omega)
 have a3 := hMd.row.cell (j := 4 + c * 6 + 3) (by omega)
 rw [hMd.has c hc] at a2
 obtain ⟨q, hq, hqs⟩ := hMd.srv c hc
 rw [hq] at a3
 cases hs : (m.get c).srv with
 | none =>
  have HE := jD (leave_none hs)
  have HNK := jD (And.intro HI.out.ok.n6 HI.out.klen)
  have HL := jD HI.out.line
  rw [hs] at a2
  simp only [Option.isSome] at a2
  have hst : m.e.state none = 0 := rfl
  rw [hst]
  clear hMd hBd hXd hqs hs hq hst a3
  have q0 := HM.out.row.cell (j := 40) (by omega)
  obtain ⟨A4, c4, hf4, hc4⟩ := HM.out.lineSl.shape
  have HD := jD (delQ_any w1 HM.out HL.out HFX.out hXl1 HX.out)
  rw [hf4] at q0 HD
  have HF4 := jD hf4
  clear hf4 hc4
  generalize m.line.length = nl at *
  go_wp2_with fail
  refine HD.out.mono ?_
  rintro e w5 ⟨A5, n5, q5, rfl, hP5, hc5, hz5, hM5, hB5⟩
  rw [HF4.out] at hc5
  have r0 := hM5.row
  have k0 := r0.cell (j := 4 + c * 6) (by omega)
  have z0 := r0.frozen (4 + c * 6)
  have r1 := r0.set (4 + c * 6) (.string ⟨#[]⟩)
  have k1 := r1.cell (j := 4 + c * 6 + 1) (by omega)
  have z1 := r1.frozen (4 + c * 6 + 1)
  have r2 := r1.set (4 + c * 6 + 1) (.slice none 0 0)
  have k2 := r2.cell (j := 4 + c * 6 + 2) (by omega)
  have z2 := r2.frozen (4 + c * 6 + 2)
  have r3 := r2.set (4 + c * 6 + 2) (.bool false)
  have k3 := r3.cell (j := 4 + c * 6 + 3) (by omega)
  have z3 := r3.frozen (4 + c * 6 + 3)
  have r4 := r3.set (4 + c * 6 + 3) (.int .i64 0)
  have k4 := r4.cell (j := 4 + c * 6 + 4) (by omega)
  have z4 := r4.frozen (4 + c * 6 + 4)
  have r5 := r4.set (4 + c * 6 + 4) (.slice none 0 0)
  have k5 := r5.cell (j := 4 + c * 6 + 5) (by omega)
  have z5 := r5.frozen (4 + c * 6 + 5)
  have hM6 := hM5.clear hc HNK.out.1 HNK.out.2
  unfold set6 at hM6
  have hB6 := ((((((((HB.out.trans hB5).setCell (p := ⟨P, 40, none⟩) hbP (.slice A5 n5 q5)).setCell (p := ⟨P, 4 + c * 6, none⟩) hbP (.string ⟨#[]⟩)).setCell (p := ⟨P, 4 + c * 6 + 1, none⟩) hbP (.slice none 0 0)).setCell (p := ⟨P, 4 + c * 6 + 2, none⟩) hbP (.bool false)).setCell (p := ⟨P, 4 + c * 6 + 3, none⟩) hbP (.int .i64 0)).setCell (p := ⟨P, 4 + c * 6 + 4, none⟩) hbP (.slice none 0 0)).setCell (p := ⟨P, 4 + c * 6 + 5, none⟩) hbP (.slice none 0 0))
  have e6 : ({ ({ m with line := m.line.filter (fun k => k != c) } : Mach PE) with cl := m.cl.set c Cl.new, e := ⟨m.e.w, m.e.kept.set c ([], [])⟩ } : Mach PE) = m.leave poolO c := HE.out
  have HF6 := jD (And.intro hM6 hB6)
  clear hM5 hB5 hM6 hB6 r0 r1 r2 r3 r4 r5 HD q0
  go_wp2
  go_end0
  rw [← e6]
  exact ⟨_, _, rfl, HF6.out.1, HF6.out.2⟩
 | some s =>
  obtain rfl := hqs s hs
  have hok := HI.out.w
  have hlt := HI.out.srvlt hs
  rw [hs] at a2
  simp only [Option.isSome] at a2
  have hst : m.e.state (some s) = (m.e.w.at s).st := rfl
  rw [hst]
  by_cases h0 : (m.e.w.at s).st = 0
  ·have hRl := release_keeps w1 hMd HI.out.ok HI.out.plen HI.out.klen hc hs
   have hE := leave_some hs (W1 := m.e.w) (by rw [if_neg (by simp [h0])]) _ rfl
   have hn6 : (m.release poolO c s).cl.length = 6 := by show (m.cl.set c _).length = 6; rw [List.length_set]; exact HI.out.ok.n6
   have hk6 : (m.release poolO c s).e.kept.length = 6 := by show (m.e.kept.set c _).length = 6; rw [List.length_set]; exact HI.out.klen
   have hL6 : (m.release poolO c s).line.length ≤ 6 := HI.out.line
   have hem : ({ m with e := ⟨m.e.w, m.e.kept⟩ } : Mach PE) = m := rfl
   rw [hem] at hE
   obtain ⟨m2, HM2⟩ : ∃ u, Hid (m.release poolO c s = u) := ⟨_, jD rfl⟩
   rw [HM2.out] at hRl hE hn6 hk6 hL6
   have HE := jD hE
   have HRL := jD hRl
   have HNK := jD (And.intro hn6 hk6)
   have HL := jD hL6
   rw [h0]
   unfold ptr at HRL
   clear hMd hBd hXd hqs hs hq hst a3 hRl hE hn6 hk6 hL6 hok hlt hem h0
   go_wp2_with fail
   refine HRL.out.mono ?_
   rintro e w2 ⟨f2, rfl, hM2, hB2, hK2⟩
   have hX2 := (World.cell?_of_block (a := ⟨X, 0, none⟩) (hK2.2 X hXl1 HFX.out)).trans HX.out
   have hXl2 : X < w2.heap.size := Nat.lt_of_lt_of_le hXl1 hK2.1
   have hBB := HB.out.trans hB2
   clear HM HB HX HRL hK2 hB2 a2 hP1
   have HM := jD hM2
   have HB := jD hBB
   have HX := jD hX2
   have hP1 := hM2.row.lt
   clear hM2 hBB hX2
   have q0 := HM.out.row.cell (j := 40) (by omega)
   obtain ⟨A4, c4, hf4, hc4⟩ := HM.out.lineSl.shape
   have HD := jD (delQ_any w2 HM.out HL.out HFX.out hXl2 HX.out)
   rw [hf4] at q0 HD
   have HF4 := jD hf4
   clear hf4 hc4
   generalize m2.line.length = nl at *
   go_wp2_with fail
   refine HD.out.mono ?_
   rintro e w5 ⟨A5, n5, q5, rfl, hP5, hc5, hz5, hM5, hB5⟩
   rw [HF4.out] at hc5
   have r0 := hM5.row
   have k0 := r0.cell (j := 4 + c * 6) (by omega)
   have z0 := r0.frozen (4 + c * 6)
   have r1 := r0.set (4 + c * 6) (.string ⟨#[]⟩)
   have k1 := r1.cell (j := 4 + c * 6 + 1) (by omega)
   have z1 := r1.frozen (4 + c * 6 + 1)
   have r2 := r1.set (4 + c * 6 + 1) (.slice none 0 0)
   have k2 := r2.cell (j := 4 + c * 6 + 2) (by omega)
   have z2 := r2.frozen (4 + c * 6 + 2)
   have r3 := r2.set (4 + c * 6 + 2) (.bool false)
   have k3 := r3.cell (j := 4 + c * 6 + 3) (by omega)
   have z3 := r3.frozen (4 + c * 6 + 3)
   have r4 := r3.set (4 + c * 6 + 3) (.int .i64 0)
   have k4 := r4.cell (j := 4 + c * 6 + 4) (by omega)
   have z4 := r4.frozen (4 + c * 6 + 4)
   have r5 := r4.set (4 + c * 6 + 4) (.slice none 0 0)
   have k5 := r5.cell (j := 4 + c * 6 + 5) (by omega)
   have z5 := r5.frozen (4 + c * 6 + 5)
   have hM6 := hM5.clear hc HNK.out.1 HNK.out.2
   unfold set6 at hM6
   have hB6 := ((((((((HB.out.trans hB5).setCell (p := ⟨P, 40, none⟩) hbP (.slice A5 n5 q5)).setCell (p := ⟨P, 4 + c * 6, none⟩) hbP (.string ⟨#[]⟩)).setCell (p := ⟨P, 4 + c * 6 + 1, none⟩) hbP (.slice none 0 0)).setCell (p := ⟨P, 4 + c * 6 + 2, none⟩) hbP (.bool false)).setCell (p := ⟨P, 4 + c * 6 + 3, none⟩) hbP (.int .i64 0)).setCell (p := ⟨P, 4 + c * 6 + 4, none⟩) hbP (.slice none 0 0)).setCell (p := ⟨P, 4 + c * 6 + 5, none⟩) hbP (.slice none 0 0))
   have e6 : ({ ({ m2 with line := m2.line.filter (fun k => k != c) } : Mach PE) with cl := m2.cl.set c Cl.new, e := ⟨m2.e.w, m2.e.kept.set c ([], [])⟩ } : Mach PE) = m.leave poolO c := HE.out
   have HF6 := jD (And.intro hM6 hB6)
   clear hM5 hB5 hM6 hB6 r0 r1 r2 r3 r4 r5 HD q0
   go_wp2
   go_end0
   rw [← e6]
   exact ⟨_, _, rfl, HF6.out.1, HF6.out.2⟩
  ·have hr3 : Req.ok ⟨3, ⟨#[]⟩, ⟨#[]⟩⟩ := small_ok (n := 3) (by omega) (by omega)
   have hDo := doP_any w1 hMd (HT.out.below hBd) hok s hlt ⟨3, ⟨#[]⟩, ⟨#[]⟩⟩ hr3
   have hd := doR_ok hok hlt hr3
   have hE := leave_some hs (W1 := (doR m.e.w s ⟨3, ⟨#[]⟩, ⟨#[]⟩⟩).1) (by rw [if_pos h0]) _ rfl
   obtain ⟨R, HR⟩ : ∃ u, Hid (doR m.e.w s ⟨3, ⟨#[]⟩, ⟨#[]⟩⟩ = u) := ⟨_, jD rfl⟩
   rw [HR.out] at hDo hd hE
   have hok1 : MOk mode ({ m with e := ⟨R.1, m.e.kept⟩ } : Mach PE) := HI.out.ok.same rfl rfl rfl HI.out.ok.s6
   have hpl1 : R.1.ss.length = m.busy.length := hd.2.trans HI.out.plen
   have HRL := jD (fun w2 f2 (hM : PMem 0 w2 base P f2 G mode { m with e := ⟨R.1, m.e.kept⟩ }) => release_keeps w2 hM hok1 hpl1 HI.out.klen hc (s := s) hs)
   have hn6 : (Mach.release poolO ({ m with e := ⟨R.1, m.e.kept⟩ } : Mach PE) c s).cl.length = 6 := by show (m.cl.set c _).length = 6; rw [List.length_set]; exact HI.out.ok.n6
   have hk6 : (Mach.release poolO ({ m with e := ⟨R.1, m.e.kept⟩ } : Mach PE) c s).e.kept.length = 6 := by show (m.e.kept.set c _).length = 6; rw [List.length_set]; exact HI.out.klen
   have hL6 : (Mach.release poolO ({ m with e := ⟨R.1, m.e.kept⟩ } : Mach PE) c s).line.length ≤ 6 := HI.out.line
   have hhs : ∀ c, c < 6 → (Mach.get ({ m with e := ⟨R.1, m.e.kept⟩ } : Mach PE) c).srv = (m.get c).srv := fun _ _ => rfl
   obtain ⟨m2, HM2⟩ : ∃ u, Hid (Mach.release poolO ({ m with e := ⟨R.1, m.e.kept⟩ } : Mach PE) c s = u) := ⟨_, jD rfl⟩
   rw [HM2.out] at HRL hE hn6 hk6 hL6
   have HE := jD hE
   have HNK := jD (And.intro hn6 hk6)
   have HL := jD hL6
   have HDO := jD hDo
   have HS := jD hs
   have hne : (((m.e.w.at s).st) != (0 : Int)) = true := bne_iff_ne.2 h0
   generalize (m.e.w.at s).st = st at *
   unfold ptr at HRL HDO
   clear hMd hBd hXd hqs hs hq hst hE hn6 hk6 hL6 hok hlt h0 hDo hd hok1 hpl1 hhs
   go_wp2_with fail
   refine HDO.out.mono ?_
   rintro e wd ⟨fd, rfl, hMd, hBd, hKd⟩
   have hXd := (World.cell?_of_block (a := ⟨X, 0, none⟩) (hKd.2 X hXl1 (fun e => HFX.out 0 (by rw [hMd.p0, e])))).trans HX.out
   have hXld : X < wd.heap.size := Nat.lt_of_lt_of_le hXl1 hKd.1
   have hBB := HB.out.trans hBd
   have hsd := hMd.has c hc
   have hRd := HRL.out wd fd hMd
   have ad2 := hMd.row.cell (j := 4 + c * 6 + 2) (by omega)
   have hPd := hMd.row.lt
   have hsd2 : (Mach.get ({ m with e := ⟨R.1, m.e.kept⟩ } : Mach PE) c).srv = some s := HS.out
   rw [hsd, hsd2] at ad2
   simp only [Option.isSome] at ad2
   clear HM HB HX HRL HDO hKd hBd a2 a3 hP1 hsd hsd2 hMd
   have HB := jD hBB
   have HX := jD hXd
   have HRD := jD hRd
   clear hBB hXd hRd
   go_wp2_with fail
   refine HRD.out.mono ?_
   rintro e w2 ⟨f2, rfl, hM2, hB2, hK2⟩
   have hX2 := (World.cell?_of_block (a := ⟨X, 0, none⟩) (hK2.2 X hXld HFX.out)).trans HX.out
   have hXl2 : X < w2.heap.size := Nat.lt_of_lt_of_le hXld hK2.1
   have hBB := HB.out.trans hB2
   clear HB HX HRD hK2 hB2 ad2 hPd
   have HM := jD hM2
   have HB := jD hBB
   have HX := jD hX2
   have hP1 := hM2.row.lt
   clear hM2 hBB hX2
   have q0 := HM.out.row.cell (j := 40) (by omega)
   obtain ⟨A4, c4, hf4, hc4⟩ := HM.out.lineSl.shape
   have HD := jD (delQ_any w2 HM.out HL.out HFX.out hXl2 HX.out)
   rw [hf4] at q0 HD
   have HF4 := jD hf4
   clear hf4 hc4
   generalize m2.line.length = nl at *
   go_wp2_with fail
   refine HD.out.mono ?_
   rintro e w5 ⟨A5, n5, q5, rfl, hP5, hc5, hz5, hM5, hB5⟩
   rw [HF4.out] at hc5
   have r0 := hM5.row
   have k0 := r0.cell (j := 4 + c * 6) (by omega)
   have z0 := r0.frozen (4 + c * 6)
   have r1 := r0.set (4 + c * 6) (.string ⟨#[]⟩)
   have k1 := r1.cell (j := 4 + c * 6 + 1) (by omega)
   have z1 := r1.frozen (4 + c * 6 + 1)
   have r2 := r1.set (4 + c * 6 + 1) (.slice none 0 0)
   have k2 := r2.cell (j := 4 + c * 6 + 2) (by omega)
   have z2 := r2.frozen (4 + c * 6 + 2)
   have r3 := r2.set (4 + c * 6 + 2) (.bool false)
   have k3 := r3.cell (j := 4 + c * 6 + 3) (by omega)
   have z3 := r3.frozen (4 + c * 6 + 3)
   have r4 := r3.set (4 + c * 6 + 3) (.int .i64 0)
   have k4 := r4.cell (j := 4 + c * 6 + 4) (by omega)
   have z4 := r4.frozen (4 + c * 6 + 4)
   have r5 := r4.set (4 + c * 6 + 4) (.slice none 0 0)
   have k5 := r5.cell (j := 4 + c * 6 + 5) (by omega)
   have z5 := r5.frozen (4 + c * 6 + 5)
   have hM6 := hM5.clear hc HNK.out.1 HNK.out.2
   unfold set6 at hM6
   have hB6 := ((((((((HB.out.trans hB5).setCell (p := ⟨P, 40, none⟩) hbP (.slice A5 n5 q5)).setCell (p := ⟨P, 4 + c * 6, none⟩) hbP (.string ⟨#[]⟩)).setCell (p := ⟨P, 4 + c * 6 + 1, none⟩) hbP (.slice none 0 0)).setCell (p := ⟨P, 4 + c * 6 + 2, none⟩) hbP (.bool false)).setCell (p := ⟨P, 4 + c * 6 + 3, none⟩) hbP (.int .i64 0)).setCell (p := ⟨P, 4 + c * 6 + 4, none⟩) hbP (.slice none 0 0)).setCell (p := ⟨P, 4 + c * 6 + 5, none⟩) hbP (.slice none 0 0))
   have e6 : ({ ({ m2 with line := m2.line.filter (fun k => k != c) } : Mach PE) with cl := m2.cl.set c Cl.new, e := ⟨m2.e.w, m2.e.kept.set c ([], [])⟩ } : Mach PE) = m.leave poolO c := HE.out
   have HF6 := jD (And.intro hM6 hB6)
   clear hM5 hB5 hM6 hB6 r0 r1 r2 r3 r4 r5 HD q0
   go_wp2
   go_end0
   rw [← e6]
   exact ⟨_, _, rfl, HF6.out.1, HF6.out.2⟩
end
set_option maxHeartbeats 1000000 in
theorem request_any (k : UInt8) (t : ByteArray) (w : World) (hW : Words w) :
  Calls Tryz.prog 73 #[.int .u8 k.toNat, .string t] w fun e w' => e = .returned (.agg #[.int .i64 (reqOf k t).k, .string (reqOf k t).key, .string (reqOf k t).val]) ∧ Below w.heap.size w w' := by
 have HW := jD hW
 have n0 := (Below.refl w.heap.size w).alloc (nL _) (.cells #[.int .i64 0, .string ⟨#[]⟩, .string ⟨#[]⟩] 41)
 have HN := jD n0
 have X0 := RowTo.whole w #[.int .i64 0, .string ⟨#[]⟩, .string ⟨#[]⟩] 41
 obtain ⟨x0, x1, x2⟩ := cells3 X0
 clear n0 hW
 by_cases hk : k = 81
 case neg =>
  have hki : ((k.toNat : Int) != 81) = true := bne_iff_ne.2 (fun h => hk (UInt8.toNat_inj.1 (by show k.toNat = 81; omega)))
  have HE := jD (show reqOf k t = Req.none_ by unfold reqOf; rw [if_neg (fun h => hk h.1)])
  clear X0
  go_enter Tryz.func73, Tryz.ntmps73
  go_wp2
  refine bodyPost_ret (v := .agg #[.int .i64 0, .string ⟨#[]⟩, .string ⟨#[]⟩]) (by simp [results, Tryz.results73, go_sem, x0, x1, x2]) rfl ⟨by rw [HE.out]; rfl, HN.out⟩
 obtain ⟨q, HQ⟩ : ∃ q, Hid (reqOf k t = q) := ⟨_, jD rfl⟩
 have HRD : Hid (∀ wc : World, Words wc → Calls Tryz.prog 96 #[.string t] wc fun e w' => ∃ er, e = .returned (.tuple #[.agg #[.int .i64 q.k, .string q.key, .string q.val], .int .i64 er]) ∧ Below wc.heap.size wc w') := jD fun wc hw => by
  rw [← HQ.out]
  by_cases hr : readE t = 0
  ·refine (read_ok t wc hw hr).mono ?_
   rintro e w' ⟨rfl, hb⟩
   unfold reqOf
   rw [if_pos ⟨hk, hr⟩]
   exact ⟨_, rfl, hb⟩
  ·refine (read_no t wc hw hr).mono ?_
   rintro e w' ⟨rfl, hb⟩
   unfold reqOf
   rw [if_neg (fun h => hr h.2)]
   exact ⟨_, rfl, hb⟩
 rw [HQ.out]
 subst hk
 have hki : (((81 : UInt8).toNat : Int) != 81) = false := by decide
 clear HQ x0 x1 x2
 have HX0 := jD X0
 clear X0
 go_enter Tryz.func73, Tryz.ntmps73
 go_wp2_with fail
 refine (HRD.out _ (HW.out.below HN.out)).mono ?_
 rintro e w1 ⟨er, rfl, hb1⟩
 have X1 := (HX0.out.below hb1 HX0.out.lt).alloc (.cells #[.int .i64 q.k, .string q.key, .string q.val] 41)
 have hz := hb1.size
 simp only [World.size_alloc] at hz
 obtain ⟨x0, x1, x2⟩ := cells3 X1
 have f0 := X1.frozen 0
 have f1 := X1.frozen 1
 have f2 := X1.frozen 2
 have HB := jD (bel_set3 ((bel_add' HN.out hb1 HN.out.size).alloc (by omega) (.cells #[.int .i64 q.k, .string q.key, .string q.val] 41)) (nL w.heap.size) (.int .i64 q.k) (.string q.key) (.string q.val))
 have X2 := X1.set3 (.int .i64 q.k) (.string q.key) (.string q.val)
 obtain ⟨y0, y1, y2⟩ := cells3 X2
 clear X1 X2 hb1 HX0
 go_wp2
 refine bodyPost_ret (v := .agg #[.int .i64 q.k, .string q.key, .string q.val]) (by simp [results, Tryz.results73, go_sem, x0, x1, x2, y0, y1, y2]) rfl ⟨rfl, HB.out⟩
end Go.Proofs.YtpbaobmegomfpabGreatDoor
