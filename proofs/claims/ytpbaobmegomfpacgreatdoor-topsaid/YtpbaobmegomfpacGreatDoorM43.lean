/-
  Texts of the proof, one behind the other: DelA, PStay, Laid, LaidWords, LaidLeads, TabsL.
-/
import Derived.Test.YtpbaobmegomfpacGreatDoorM21
import Derived.Test.YtpbaobmegomfpacGreatDoorM19
import Derived.Test.YtpbaobmegomfpacGreatDoorRows
import Derived.WalkKit
import Derived.WalkSpells
import Derived.WalkLawsBesides
import Derived.Lib.Hide
import Derived.IntWalk
import Derived.WalkSmall
import Derived.Deep.Upon
import Derived.Test.YtpbaobmegomfpacGreatDoorM42
import Derived.Test.YtpbaobmegomfpacGreatDoorM38
import Derived.ProofKit
import Derived.Lib.LaidTab
import Derived.Test.YtpbaobmegomfpacGreatDoorM15
import Derived.Test.YtpbaobmegomfpacGreatDoorM28
import Derived.Test.YtpbaobmegomfpacGreatDoorM29
set_option linter.unusedVariables false
set_option linter.unusedSimpArgs false
set_option maxRecDepth 100000
open List renaming getElem_toArray → gTA, getElem_cons_zero → gCZ, getElem_cons_succ → gCS, setIfInBounds_toArray → sTA, set_cons_zero → sCZ, set_cons_succ → sCS
open Go.Lib renaming hid → jD
open Nat renaming le_refl → nL
namespace Go.Proofs.YtpbaobmegomfpacGreatDoor
open Go.RowKit
def encA (x : Act) : List Value := [.int .i64 x.kind, .int .i64 x.c, .string x.data]
section
variable {w : World} {b off cap : Nat} {d : List (Act)}
theorem Rw.cA (h : Rw w 45 3 b off cap (d.map encA)) {i : Nat} (hi : i < d.length) : w.cell? ⟨b, off + i * 3, none⟩ = some (.int .i64 d[i].kind) ∧ w.cell? ⟨b, off + i * 3 + 1, none⟩ = some (.int .i64 d[i].c) ∧ w.cell? ⟨b, off + i * 3 + 2, none⟩ = some (.string d[i].data) := by
 have hi' : i < (d.map encA).length := by simpa using hi
 have h0 := h.cell i hi' 0 (by omega)
 have h1 := h.cell i hi' 1 (by omega)
 have h2 := h.cell i hi' 2 (by omega)
 rw [List.getElem_map] at h0
 rw [List.getElem_map] at h1
 rw [List.getElem_map] at h2
 exact ⟨by simpa [encA] using h0, by simpa [encA] using h1, by simpa [encA] using h2⟩
end
set_option maxHeartbeats 400000 in
theorem indexFuncA (p : Act → Bool) (w : World) (b off cap B : Nat) (d : List (Act)) (hR : Rw w 45 3 b off cap (d.map encA)) (hby : d.length ≤ 1000000000000000) (hB : B ≤ b)
  (hp : ∀ x ∈ d, ∀ wc, Below B w wc → Calls Tryz.prog 39 #[.agg #[.int .i64 x.kind, .int .i64 x.c, .string x.data]] wc fun e w' => e = .returned (.bool (p x)) ∧ Below wc.heap.size wc w') :
  Calls Tryz.prog 54 #[.slice (some ⟨b, off, none⟩) d.length cap, .func (.func 39) #[] #[]] w fun e w' => (∃ i : Int, e = .returned (.int .i64 i) ∧ ((i = -1 ∧ ∀ x ∈ d, p x = false) ∨ ∃ k, ∃ hk : k < d.length, i = k ∧ p d[k] = true ∧ ∀ x ∈ d.take k, p x = false)) ∧ Below w.heap.size w w' := by
 have hbl := hR.row.lt
 have HR := jD hR
 have HP := jD hp
 have hcap : d.length ≤ cap := by simpa using hR.room
 clear hR hp
 go_enter Tryz.func54, Tryz.ntmps54
 go_wp2
 go_loopw [8] (fun i wr => ∃ k : Nat, k ≤ d.length ∧ i = .int .i64 k ∧ Hid ((∀ x ∈ d.take k, p x = false) ∧ Below w.heap.size w wr)) (fun i _ => d.length - (intOf i).toNat)
 case atStart => exact ⟨0, by omega, rfl, (fun x hx => by simp at hx), Below.refl _ _⟩
 case round =>
  obtain ⟨k, hk, rfl, HZ⟩ := hrel
  by_cases hlt : k < d.length
  ·have hRk := HR.out.below HZ.out.2 hbl
   obtain ⟨a0, a1, a2⟩ := hRk.cA hlt
   have hblr : b < wr.heap.size := Nat.lt_of_lt_of_le hbl HZ.out.2.size
   have HC := jD (HP.out d[k] (List.getElem_mem hlt) wr (HZ.out.2.mono (by omega)))
   have HT := jD (fun (h : p d[k] = true) => (show ∃ k', ∃ hk : k' < d.length, (k : Int) = k' ∧ p d[k'] = true ∧ ∀ x ∈ d.take k', p x = false from ⟨k, hlt, rfl, h, HZ.out.1⟩))
   have HF := jD (fun (h : p d[k] = false) => (show ∀ x ∈ d.take (k + 1), p x = false from fun x hx => by
    rw [List.take_succ_eq_append_getElem hlt] at hx
    rcases List.mem_append.1 hx with hx | hx
    ·exact HZ.out.1 x hx
    ·rw [List.mem_singleton.1 hx]; exact h))
   have HZ2 := jD HZ.out.2
   generalize d[k] = x at *
   clear HZ hRk
   cases hq : p x with
   | true =>
    have HT2 := jD (HT.out hq)
    rw [hq] at HC
    clear HT HF hq
    go_wp2_with fail
    refine HC.out.mono ?_
    rintro e w2 ⟨rfl, hb2⟩
    have HB2 := jD (HZ2.out.trans (hb2.mono HZ2.out.size))
    clear hb2
    go_wp2
    go_ret
    exact ⟨⟨k, rfl, .inr HT2.out⟩, HB2.out⟩
   | false =>
    have HF2 := jD (HF.out hq)
    rw [hq] at HC
    clear HT HF hq
    go_wp2_with fail
    refine HC.out.mono ?_
    rintro e w2 ⟨rfl, hb2⟩
    have HB2 := jD (HZ2.out.trans (hb2.mono HZ2.out.size))
    clear hb2
    go_wp2
    go_roundw
    case rel => exact ⟨k + 1, by omega, by go_num, HF2.out, HB2.out⟩
    case measure => simp [intOf]; omega
  ·obtain rfl : k = d.length := by omega
   rw [List.take_length] at HZ
   go_wp2
   go_ret
   exact ⟨⟨-1, rfl, .inl ⟨rfl, HZ.out.1⟩⟩, HZ.out.2⟩
set_option maxHeartbeats 1000000 in
theorem deleteFuncA (p : Act → Bool) (w : World) (b off cap B : Nat) (d : List (Act)) (hR : Rw w 45 3 b off cap (d.map encA)) (hby : d.length ≤ 1000000000000000) (hB : B ≤ b)
  (hp : ∀ x ∈ d, ∀ wc, Below B w wc → Calls Tryz.prog 39 #[.agg #[.int .i64 x.kind, .int .i64 x.c, .string x.data]] wc fun e w' => e = .returned (.bool (p x)) ∧ Below wc.heap.size wc w') :
  Calls Tryz.prog 38 #[.slice (some ⟨b, off, none⟩) d.length cap, .func (.func 39) #[] #[]] w fun e w' => e = .returned (.slice (some ⟨b, off, none⟩) (d.filter fun x => !p x).length cap) ∧ Rw w' 45 3 b off cap ((d.filter fun x => !p x).map encA) ∧ Below B w w' ∧ ∀ g, g < w.heap.size → g ≠ b → w'.heap[g]? = w.heap[g]? := by
 have hbl := hR.row.lt
 have HI := jD (indexFuncA p w b off cap B d hR hby hB hp)
 have HR := jD hR
 have HP := jD hp
 have hcap : d.length ≤ cap := by simpa using hR.room
 clear hR hp
 go_enter Tryz.func38, Tryz.ntmps38
 go_wp2_with fail
 refine HI.out.mono ?_
 rintro e w1 ⟨⟨i, rfl, hi⟩, hb1⟩
 have HB1 := jD hb1
 clear HI hb1
 rcases hi with ⟨rfl, hall⟩ | ⟨k, hk, rfl, h1, h0⟩
 ·have HA := jD (show (d.filter fun x => !p x) = d from List.filter_eq_self.2 fun x hx => by rw [hall x hx]; rfl)
  clear hall
  go_wp2
  go_ret
  rw [HA.out]
  exact ⟨rfl, HR.out.below HB1.out hbl, HB1.out.mono (by omega), fun g hg _ => HB1.out.block g hg⟩
 ·have HK := jD (KeepI.start hk h1 h0)
  have hne : ((k : Int) == -1) = false := beq_eq_false_iff_ne.2 (by omega)
  clear h1 h0
  go_wp2_with fail
  go_loopw [5, 6, 7] (fun s5 s6 s7 wr => ∃ (i j : Nat) (dk : List (Act)), s5 = .int .i64 i ∧ s6 = .int .i64 j ∧ i < j ∧ j ≤ d.length ∧ Hid (KeepI p d i j dk ∧ Rw wr 45 3 b off cap (dk.map encA) ∧ Below B w wr ∧ (w.heap.size ≤ wr.heap.size) ∧ ∀ g, g < w.heap.size → g ≠ b → wr.heap[g]? = w.heap[g]?)) (fun _ s6 _ _ => d.length - (intOf s6).toNat)
  case atStart => exact ⟨k, k + 1, d, rfl, by go_num, by omega, by omega, HK.out, HR.out.below HB1.out hbl, HB1.out.mono (by omega), HB1.out.size, fun g hg _ => HB1.out.block g hg⟩
  case round =>
   obtain ⟨i, j, dk, rfl, rfl, hij, hjn, HZ⟩ := hrel
   clear HK HB1
   by_cases hlt : j < d.length
   ·have hRk := HZ.out.2.1
    have hlk := HZ.out.1.len
    have c0 := hRk.cA (i := j) (by omega)
    have z0 := hRk.cA (i := i) (by omega)
    rw [HZ.out.1.at hlt] at c0
    obtain ⟨a0, a1, a2⟩ := c0
    obtain ⟨z0, z1, z2⟩ := z0
    have f0 := hRk.row.frozen (off + i * 3)
    have f1 := hRk.row.frozen (off + i * 3 + 1)
    have f2 := hRk.row.frozen (off + i * 3 + 2)
    have hbr := hRk.row.lt
    have y0 := (RowTo.whole wr #[.int .i64 d[j].kind, .int .i64 d[j].c, .string d[j].data] 45).cell (j := 0) (by simp)
    have y1 := (RowTo.whole wr #[.int .i64 d[j].kind, .int .i64 d[j].c, .string d[j].data] 45).cell (j := 1) (by simp)
    have y2 := (RowTo.whole wr #[.int .i64 d[j].kind, .int .i64 d[j].c, .string d[j].data] 45).cell (j := 2) (by simp)
    have HC := jD (HP.out d[j] (List.getElem_mem hlt) (wr.alloc (.cells #[.int .i64 d[j].kind, .int .i64 d[j].c, .string d[j].data] 45)) (HZ.out.2.2.1.alloc (by have := HZ.out.2.2.2.1; omega) _))
    have HKK := jD (fun (h : p d[j] = false) => HZ.out.1.keep hlt h)
    have HKS := jD (fun (h : p d[j] = true) => HZ.out.1.skip hlt h)
    have hjI : (j : Int) < (d.length : Int) := by omega
    have HM := jD (List.getElem_mem hlt)
    generalize d[j] = x at *
    skip
    clear hRk
    cases hq : p x with
    | true =>
     have HK2 := jD (HKS.out hq)
     rw [hq] at HC
     clear HKS HKK hq
     go_wp2_with fail
     refine HC.out.mono ?_
     rintro e w2 ⟨rfl, hb2⟩
     have HB2 := jD hb2
     clear hb2
     have hw2 : Below (wr.alloc (.cells #[.int .i64 x.kind, .int .i64 x.c, .string x.data] 45)).heap.size (wr.alloc (.cells #[.int .i64 x.kind, .int .i64 x.c, .string x.data] 45)) w2 := HB2.out
     have hz2 := hw2.size
     simp only [World.size_alloc] at hz2
     have hn2 : ∀ g, g < wr.heap.size → w2.heap[g]? = wr.heap[g]? := fun g hg => (hw2.block g (by simp; omega)).trans (Below.heap_alloc _ _ _ hg)
     have H2 := jD (And.intro (HZ.out.2.1.keep (hn2 b hbr)) (And.intro (show Below B w w2 from (HZ.out.2.2.1.alloc (by have := HZ.out.2.2.2.1; omega) _).trans (hw2.mono (by simp; have := HZ.out.2.2.2.1; omega))) (And.intro (show w.heap.size ≤ w2.heap.size by have := HZ.out.2.2.2.1; have := hw2.size; omega) (fun g (hg : g < w.heap.size) (hne : g ≠ b) => (hn2 g (by have := HZ.out.2.2.2.1; omega)).trans (HZ.out.2.2.2.2 g hg hne)))))
     have hb2' : b < w2.heap.size := by have := hw2.size; simp at this; omega
     have u0 := (hw2.cell (p := ⟨wr.heap.size, 0, none⟩) (by simp)).trans y0
     have u1 := (hw2.cell (p := ⟨wr.heap.size, 1, none⟩) (by simp)).trans y1
     have u2 := (hw2.cell (p := ⟨wr.heap.size, 2, none⟩) (by simp)).trans y2
     go_wp2
     go_roundw
     case rel => exact ⟨i, j + 1, dk, rfl, by go_num, by omega, by omega, HK2.out, H2.out.1, H2.out.2.1, H2.out.2.2.1, H2.out.2.2.2⟩
     case measure => simp [intOf]; omega
    | false =>
     have HK2 := jD (HKK.out hq)
     rw [hq] at HC
     clear HKS HKK hq
     go_wp2_with fail
     refine HC.out.mono ?_
     rintro e w2 ⟨rfl, hb2⟩
     have HB2 := jD hb2
     clear hb2
     have hw2 : Below (wr.alloc (.cells #[.int .i64 x.kind, .int .i64 x.c, .string x.data] 45)).heap.size (wr.alloc (.cells #[.int .i64 x.kind, .int .i64 x.c, .string x.data] 45)) w2 := HB2.out
     have hz2 := hw2.size
     simp only [World.size_alloc] at hz2
     have hn2 : ∀ g, g < wr.heap.size → w2.heap[g]? = wr.heap[g]? := fun g hg => (hw2.block g (by simp; omega)).trans (Below.heap_alloc _ _ _ hg)
     have H2 := jD (And.intro (HZ.out.2.1.keep (hn2 b hbr)) (And.intro (show Below B w w2 from (HZ.out.2.2.1.alloc (by have := HZ.out.2.2.2.1; omega) _).trans (hw2.mono (by simp; have := HZ.out.2.2.2.1; omega))) (And.intro (show w.heap.size ≤ w2.heap.size by have := HZ.out.2.2.2.1; have := hw2.size; omega) (fun g (hg : g < w.heap.size) (hne : g ≠ b) => (hn2 g (by have := HZ.out.2.2.2.1; omega)).trans (HZ.out.2.2.2.2 g hg hne)))))
     have hb2' : b < w2.heap.size := by have := hw2.size; simp at this; omega
     have u0 := (hw2.cell (p := ⟨wr.heap.size, 0, none⟩) (by simp)).trans y0
     have u1 := (hw2.cell (p := ⟨wr.heap.size, 1, none⟩) (by simp)).trans y1
     have u2 := (hw2.cell (p := ⟨wr.heap.size, 2, none⟩) (by simp)).trans y2
     have hi2 : i < (dk.map encA).length := by rw [List.length_map, HZ.out.1.len]; omega
     have H3 := jD (And.intro (H2.out.1.set hi2 (e := encA x) rfl) (And.intro (below_setCells H2.out.2.1 hB (off + i * 3) (encA x)) (And.intro (show w.heap.size ≤ (w2.setCells b (off + i * 3) (encA x)).heap.size by rw [(setCells_keeps b _ _ _).2.2.2]; exact H2.out.2.2.1) (fun g (hg : g < w.heap.size) (hne : g ≠ b) => (setCells_other w2 b (off + i * 3) (encA x) hne).trans (H2.out.2.2.2 g hg hne)))))
     rw [← List.map_set] at H3
     have v0 := (World.cell?_of_block (a := ⟨b, off + i * 3, none⟩) (hn2 b hbr)).trans z0
     have g0 := (World.frozen?_of_block (a := ⟨b, off + i * 3, none⟩) (hn2 b hbr)).trans f0
     have v1 := (World.cell?_of_block (a := ⟨b, off + i * 3 + 1, none⟩) (hn2 b hbr)).trans z1
     have g1 := (World.frozen?_of_block (a := ⟨b, off + i * 3 + 1, none⟩) (hn2 b hbr)).trans f1
     have v2 := (World.cell?_of_block (a := ⟨b, off + i * 3 + 2, none⟩) (hn2 b hbr)).trans z2
     have g2 := (World.frozen?_of_block (a := ⟨b, off + i * 3 + 2, none⟩) (hn2 b hbr)).trans f2
     simp only [World.setCells, encA] at H3
     go_wp2
     go_roundw
     case rel => exact ⟨i + 1, j + 1, dk.set i x, by go_num, by go_num, by omega, by omega, HK2.out, H3.out.1, H3.out.2.1, H3.out.2.2.1, H3.out.2.2.2⟩
     case measure => simp [intOf]; omega
   ·obtain rfl : j = d.length := by omega
    have hRk := HZ.out.2.1
    have hlk := HZ.out.1.len
    have hbr := hRk.row.lt
    have hcl : ∀ ty, (Builtin.clear_ #[33] ty #[.slice (some ⟨b, off + i * 3, none⟩) (d.length - i) (cap - i)]).run Tryz.prog wr = .ok (.tuple #[]) (wr.setCells b (off + i * 3) (Builtin.zeroCells ((.agg #[.int .i64 0, .int .i64 0, .string ⟨#[]⟩]) : Value).cells (d.length - i)).toList) := fun ty => by
     refine run_clear_cells (P := Tryz.prog) wr 33 45 ty (.agg #[.int .i64 0, .int .i64 0, .string ⟨#[]⟩]) Tryz.underlying33 Tryz.zeroValue45 (by simp [Value.cells, Value.oneCell']) (by decide) b (off + i * 3) (d.length - i) (cap - i) (by omega) (fun q hq => ?_) (fun q => hRk.row.frozen _)
     obtain ⟨u, hu⟩ := hRk.row.any (j := off + i * 3 + q) (by have : q < (d.length - i) * 3 := hq; have : d.length * 3 ≤ cap * 3 := Nat.mul_le_mul_right _ hcap; omega)
     rw [hu]; rfl
    have H2 := jD (hRk.behind (i := i) (by rw [List.length_map]; omega) (Builtin.zeroCells ((.agg #[.int .i64 0, .int .i64 0, .string ⟨#[]⟩]) : Value).cells (d.length - i)).toList)
    rw [← List.map_take, HZ.out.1.done] at H2
    have HN := jD HZ.out.1.num
    have H3 := jD (And.intro (below_setCells HZ.out.2.2.1 hB (off + i * 3) (Builtin.zeroCells ((.agg #[.int .i64 0, .int .i64 0, .string ⟨#[]⟩]) : Value).cells (d.length - i)).toList) (fun g (hg : g < w.heap.size) (hne : g ≠ b) => (setCells_other wr b (off + i * 3) (Builtin.zeroCells ((.agg #[.int .i64 0, .int .i64 0, .string ⟨#[]⟩]) : Value).cells (d.length - i)).toList hne).trans (HZ.out.2.2.2.2 g hg hne)))
    clear hRk
    go_wp2
    go_ret
    refine ⟨by rw [HN.out]; rfl, H2.out, H3.out.1, H3.out.2⟩
theorem byte_x (s : ByteArray) (h : 1 ≤ s.size) : ((s.extract 0 1).toList == [88]) = decide (s.data[0]? = some 88) := by
 have h0 : 0 < s.data.size := h
 have e : (s.extract 0 1).toList = [s.data[0]] := by
  rw [Lib.toList_data, ext_list]
  simp only [List.drop_zero]
  cases hl : s.data.toList with
  | nil => exfalso; have := congrArg List.length hl; rw [Array.length_toList] at this; simp only [List.length_nil] at this; omega
  | cons a l =>
   have : s.data[0] = a := by
    have : s.data.toList[0]'(by rw [hl]; simp) = a := by simp [hl]
    simpa using this
   simp [this]
 rw [e, Array.getElem?_eq_getElem h0]
 by_cases h88 : s.data[0] = 88
 ·rw [h88]; rfl
 ·rw [decide_eq_false (fun hh => h88 (by injection hh))]
  refine beq_eq_false_iff_ne.2 fun hh => h88 ?_
  injection hh
theorem prefX_any (s : ByteArray) (w : World) (hs : s.size ≤ maxLen) : Calls Tryz.prog 27 #[.string s, .string ⟨#[88]⟩] w fun e w' => e = .returned (.bool (decide (1 ≤ s.size) && decide (s.data[0]? = some 88))) ∧ w = w' := by
 by_cases h : 1 ≤ s.size
 ·have hx := byte_x s h
  have h1 : decide (1 ≤ s.size) = true := decide_eq_true h
  have h2 : decide (1 ≤ (s.size : Int)) = true := decide_eq_true (by omega)
  have hI : (1 : Int) ≤ (s.size : Int) := by omega
  obtain ⟨q, hq⟩ : ∃ q, decide (s.data[0]? = some 88) = q := ⟨_, rfl⟩
  rw [hq] at hx ⊢
  rw [h1, Bool.true_and]
  clear h1 hq
  go_enter Tryz.func27, Tryz.ntmps27
  go_wp2
  go_ret
  exact ⟨rfl, rfl⟩
 ·have h1 : decide (1 ≤ s.size) = false := decide_eq_false h
  have h2 : decide (1 ≤ (s.size : Int)) = false := decide_eq_false (by omega)
  rw [h1, Bool.false_and]
  clear h1
  go_enter Tryz.func27, Tryz.ntmps27
  go_wp2
  go_ret
  exact ⟨rfl, rfl⟩
theorem gone_any (a : Act) (w : World) (hs : a.data.size ≤ maxLen) : Calls Tryz.prog 39 #[.agg #[.int .i64 a.kind, .int .i64 a.c, .string a.data]] w fun e w' => e = .returned (.bool (goneB a)) ∧ Below w.heap.size w w' := by
 have HP := jD (fun wc => prefX_any a.data wc hs)
 by_cases h : a.kind = 2
 ·have t1 : (a.kind == 2) = true := by simp [h]
  have hg : goneB a = true := by unfold goneB; rw [decide_eq_true h]; rfl
  rw [hg]
  clear h hg
  generalize a.kind = k at *
  generalize a.c = c at *
  generalize a.data = d at *
  go_enter Tryz.func39, Tryz.ntmps39
  go_wp2
  go_ret
  exact ⟨rfl, (Below.refl _ _).alloc (nL _) _⟩
 ·have t1 : (a.kind == 2) = false := by simp [h]
  have hg : goneB a = (decide (1 ≤ a.data.size) && decide (a.data.data[0]? = some 88)) := by unfold goneB; rw [decide_eq_false h]; rfl
  rw [hg]
  clear h hg
  generalize a.kind = k at *
  generalize a.c = c at *
  generalize a.data = d at *
  generalize (decide (1 ≤ d.size) && decide (d.data[0]? = some 88)) = q at *
  go_enter Tryz.func39, Tryz.ntmps39
  go_wp2_with fail
  refine (HP.out _).mono ?_
  rintro e w1 ⟨rfl, rfl⟩
  go_wp2
  go_ret
  exact ⟨rfl, (Below.refl _ _).alloc (nL _) _⟩
theorem actV_len (al : List Act) : ∀ e ∈ al.map actV, e.length = 3 := fun e he => by obtain ⟨x, _, rfl⟩ := List.mem_map.1 he; rfl
theorem Sl.alst {w : World} {out : Value} {g : Option Nat} {al : List Act} (h : Sl w 45 3 out g al.length (al.map actV).flatten) (hby : al.length * 32 ≤ 140737488351232) (hs : ∀ a ∈ al, a.data.size ≤ 140737488351232) : ALst w w.heap.size out al := by
 obtain ⟨A, c, rfl, hc⟩ := h.shape
 refine ⟨⟨A, c, rfl, hc⟩, hby, hs, fun hn => ?_⟩
 obtain ⟨b, off, cap, h1, h2, h3, h4⟩ := h.at hn
 refine ⟨b, off, cap, h2, h.lt h1, fun i hi => ?_⟩
 have hf : ∀ j, j < 3 → w.cell? ⟨b, off + (i * 3 + j), none⟩ = (actV al[i])[j]? := fun j hj => by
  have hf := flat_get (d := al.map actV) (size := 3) (actV_len al) (i := i) (by simpa using hi) hj
  rw [List.getElem_map] at hf
  have hl : i * 3 + j < (al.map actV).flatten.length := by rw [h.len]; exact at_in hi hj
  rw [h4 _ hl, ← List.getElem?_eq_getElem hl]
  exact hf
 have h0 := hf 0 (by omega)
 have h1 := hf 1 (by omega)
 have h2 := hf 2 (by omega)
 rw [← Nat.add_assoc] at h0 h1 h2
 exact ⟨h0, h1, h2⟩
theorem ActsAt.alst {w w' : World} {out : Value} {al : List Act} (h : ActsAt w w' out al) (hby : al.length ≤ 1000) (hs : ∀ a ∈ al, a.data.size ≤ 1000) : ALst w' w'.heap.size out al := by
 obtain ⟨g, h1, _⟩ := h.sl
 exact h1.alst (by omega) (fun a ha => by have := hs a ha; omega)
theorem Rw.alst {w : World} {b off cap : Nat} {al : List Act} (h : Rw w 45 3 b off cap (al.map encA)) (hby : al.length ≤ 1000) (hs : ∀ a ∈ al, a.data.size ≤ 1000) : ALst w w.heap.size (.slice (some ⟨b, off, none⟩) al.length cap) al :=
 ⟨⟨_, _, rfl, by simpa using h.room⟩, by omega, fun a ha => by have := hs a ha; omega, fun _ => ⟨b, off, cap, rfl, h.row.lt, fun i hi => h.cA hi⟩⟩
set_option maxHeartbeats 400000 in
theorem indexFuncA_nil (A : Option Addr) (c : Nat) (w : World) : Calls Tryz.prog 54 #[.slice A 0 c, .func (.func 39) #[] #[]] w fun e w' => e = .returned (.int .i64 (-1)) ∧ w' = w := by
 go_enter Tryz.func54, Tryz.ntmps54
 go_wp2
 go_loopw [8] (fun i wr => i = .int .i64 0 ∧ wr = w) (fun i _ => 0)
 case atStart => exact ⟨rfl, rfl⟩
 case round =>
  obtain ⟨rfl, rfl⟩ := hrel
  go_wp2
  go_ret
  exact ⟨rfl, rfl⟩
set_option maxHeartbeats 400000 in
theorem deleteFuncA_nil (A : Option Addr) (c : Nat) (w : World) : Calls Tryz.prog 38 #[.slice A 0 c, .func (.func 39) #[] #[]] w fun e w' => e = .returned (.slice A 0 c) ∧ w' = w := by
 have HI := jD (indexFuncA_nil A c)
 go_enter Tryz.func38, Tryz.ntmps38
 go_wp2_with fail
 refine (HI.out _).mono ?_
 rintro e w1 ⟨rfl, rfl⟩
 go_wp2
 go_ret
 exact ⟨rfl, rfl⟩
set_option maxHeartbeats 1000000 in
theorem staying_any (v : Value) (l : List Raw) (most n : Nat) (w : World) (hl : RLst w w.heap.size v l) (hWo : Words w) (hn : 0 < n) (hn6 : n ≤ 6) (hm : most ≤ 1000) :
  Calls Tryz.prog 20 #[v, .int .i64 most, .int .i64 n] w fun e w' => ∃ out, e = .returned out ∧ ALst w' w'.heap.size out (stayR l most n) ∧ Below w.heap.size w w' := by
 obtain ⟨E, e, rfl, he⟩ := hl.form
 have HA := jD (acts_any (.slice E l.length e) l most n w hl hWo hn hn6 hm)
 have hlen := actsR_len (l := l) (most := most) (n := n)
 have hsz : ∀ a ∈ actsR l most n, a.data.size ≤ 1000 := fun a ha => by
  obtain ⟨r, _, rfl⟩ := List.mem_map.1 ha
  have := dataR_size r
  show (dataR r).size ≤ _
  omega
 have HSR := jD (show stayR l most n = (actsR l most n).filter (fun a => !goneB a) from rfl)
 rw [HSR.out]
 generalize actsR l most n = al at *
 clear hl hWo HSR
 go_enter Tryz.func20, Tryz.ntmps20
 go_wp2_with fail
 refine HA.out.mono ?_
 rintro e w1 ⟨out, rfl, hA⟩
 obtain ⟨g, hs, hg⟩ := hA.sl
 have HB1 := jD hA.bel
 by_cases h0 : al.length = 0
 ·have ha0 : al = [] := List.eq_nil_of_length_eq_zero h0
  subst ha0
  obtain ⟨A, c, rfl, _⟩ := hs.shape
  have HN := jD (show ALst w1 w1.heap.size (.slice A 0 c) [] from ⟨⟨A, c, rfl, Nat.zero_le _⟩, (by simp), (fun a ha => (by cases ha)), fun h => absurd h (by simp)⟩)
  have HD := jD (deleteFuncA_nil A c)
  simp only [List.length_nil]
  clear hA hs hg HA
  go_wp2_with fail
  refine (HD.out _).mono ?_
  rintro e w2 ⟨rfl, rfl⟩
  go_wp2
  go_ret
  exact ⟨_, rfl, HN.out, HB1.out⟩
 ·obtain ⟨b, off, cap, h1, rfl, hR⟩ := hs.rw (actV_len al) (by simp) (by omega)
  have HD := jD (deleteFuncA goneB w1 b off cap w.heap.size al hR (by omega) (hg b h1) (fun x hx wc _ => gone_any x wc (by have := hsz x hx; unfold maxLen; omega)))
  have HF := jD (show ∀ w2, Rw w2 45 3 b off cap ((al.filter fun x => !goneB x).map encA) → ALst w2 w2.heap.size (.slice (some ⟨b, off, none⟩) (al.filter fun x => !goneB x).length cap) (al.filter fun x => !goneB x) from fun w2 h => h.alst (by have := List.length_filter_le (fun x => !goneB x) al; omega) (fun a ha => hsz a (List.mem_filter.1 ha).1))
  clear hA hs hg HA h1 hR
  go_wp2_with fail
  refine HD.out.mono ?_
  rintro e w2 ⟨rfl, hR2, hB2, hk2⟩
  have H2 := jD (And.intro (HF.out _ hR2) (HB1.out.trans hB2))
  clear hR2 hB2 hk2
  go_wp2
  go_ret
  exact ⟨_, rfl, H2.out.1, H2.out.2⟩
theorem laid_mem {P : Program} {w : World} {n : String} {d : DataW Unit} : ∀ {l : List (String × DataW Unit)} {ps : List MemPlace}, DataW.LaidVars P w l ps → (n, d) ∈ l →
  ∃ g t cs fuel p, P.globalNamed n = some g ∧ (P.globals[g]?).map (·.type) = some t ∧ w.var? P n = some cs ∧ DataW.trod (fun _ => ()) P w 0 (fun _ => true) false fuel t cs.toList = some (d, p)
 | [], _, _, h => by cases h
 | (m, e) :: l, ps, hl, h => by
  obtain ⟨g, t, cs, fuel, p, q, h1, h2, h3, h4, h5, _⟩ := hl
  rcases List.mem_cons.1 h with he | he
  ·cases he
   exact ⟨g, t, cs, fuel, p, h1, h2, h3, h4⟩
  ·exact laid_mem h5 he
theorem strs_of {P : Program} {w : World} {fuel : Nat} {t e : TypeId} {n : Nat} {cs : List Value} {ss : List (List UInt8)} {p : List MemPlace}
  (ht : P.underlying t = some (.array n e)) (he : P.underlying e = some .string) (hce : P.cellsOf e = 1) (hct : P.cellsOf t = n)
  (h : DataW.trod (fun _ => ()) P w 0 (fun _ => true) false fuel t cs = some (.agg (ss.map fun s => .lit (.string s)), p)) : cs = ss.map fun s => Value.string ⟨s.toArray⟩ := by
 cases fuel with
 | zero => simp [DataW.trod] at h
 | succ fuel =>
  simp only [DataW.trod, ht, hce, hct, Nat.mul_one] at h
  split at h
  ·obtain ⟨xs, hm, hx⟩ := Option.map_eq_some_iff.1 h
   have hxs : xs.map (·.1) = ss.map fun s => (DataW.lit (.string s) : DataW Unit) := by
    have := congrArg Prod.fst hx
    simpa using this
   have hxl : xs.length = n := by simpa using Lib.mapM_length hm
   have hzl : ss.length = n := by
    have := congrArg List.length hxs
    simp at this
    omega
   apply List.ext_getElem?
   intro i
   by_cases hi : i < n
   ·obtain ⟨b, hb, hf⟩ := Lib.mapM_at hm i i (by simp [hi])
    obtain ⟨z, hc, rfl, _⟩ := DataW.trod_string he hf
    have h1 : cs[i]? = some (.string z) := by
     have := congrArg (·[0]?) hc
     simpa [List.getElem?_take, List.getElem?_drop] using this
    have h2 : (xs.map (·.1))[i]? = some (DataW.lit (.string z.data.toList) : DataW Unit) := by simp [hb]
    rw [hxs] at h2
    simp only [List.getElem?_map, Option.map_eq_some_iff, DataW.lit.injEq, Lit.string.injEq] at h2
    obtain ⟨s, hs, rfl⟩ := h2
    simp [h1, hs]
   ·rw [List.getElem?_eq_none (by omega), List.getElem?_eq_none (by simp; omega)]
  ·cases h
theorem tab_of {P : Program} {w : World} {n : String} {l : List (String × DataW Unit)} {ss : List (List UInt8)} {g : Nat} {t e : TypeId} {m : Nat}
  (hg : P.globalNamed n = some g) (hty : (P.globals[g]?).map (·.type) = some t) (ht : P.underlying t = some (.array m e)) (he : P.underlying e = some .string) (hce : P.cellsOf e = 1) (hct : P.cellsOf t = m)
  (h : laidMet P l w) (hin : (n, DataW.agg (ss.map fun s => .lit (.string s))) ∈ l) : g < w.heap.size ∧ ∀ i, i < ss.length → w.cell? ⟨g, i, none⟩ = some (.string ⟨(ss.getD i []).toArray⟩) := by
 obtain ⟨ps, hl, _⟩ := h
 obtain ⟨g', t', cs, fuel, p, h1, h2, h3, h4⟩ := laid_mem hl hin
 obtain rfl := Option.some.inj (hg.symm.trans h1)
 obtain rfl := Option.some.inj (hty.symm.trans h2)
 have hcs := strs_of ht he hce hct h4
 refine ⟨?_, fun i hi => ?_⟩
 ·simp only [World.var?, hg, Option.bind_some] at h3
  split at h3
  ·rename_i hh
   exact (Array.getElem?_eq_some_iff.1 hh).1
  ·cases h3
 ·rw [World.var?_cell hg h3 i]
  have : cs[i]? = cs.toList[i]? := by simp
  rw [this, hcs]
  simp [List.getD, hi]
theorem words_of {l : List (String × DataW Unit)} {w : World} (h : laidMet Tryz.prog l w) (hin : ("tillerman/say.words", DataW.agg ((List.range 12).map fun k => .lit (.string (wordL k)))) ∈ l) : Words w := by
 have h2 : ("tillerman/say.words", DataW.agg (((List.range 12).map wordL).map fun s => .lit (.string s))) ∈ l := by
  rw [List.map_map]; exact hin
 obtain ⟨h3, h4⟩ := tab_of (P := Tryz.prog) (g := 1) (t := 125) (e := 9) (m := 12) (by kernel_rfl) (by kernel_rfl) Tryz.underlying125 Tryz.underlying9 (by kernel_rfl) (by kernel_rfl) h h2
 refine ⟨h3, fun k hk => ?_⟩
 rw [h4 k (by simp; omega)]
 have : ((List.range 12).map wordL).getD k [] = wordL k := by
  simp [List.getD, show k < 12 by omega]
 rw [this]; rfl
theorem leads_of {l : List (String × DataW Unit)} {w : World} (h : laidMet Tryz.prog l w) (hin : ("tillerman/say.leads", DataW.agg ((List.range 5).map fun k => .lit (.string (leadL k)))) ∈ l) : Leads w := by
 have h2 : ("tillerman/say.leads", DataW.agg (((List.range 5).map leadL).map fun s => .lit (.string s))) ∈ l := by
  rw [List.map_map]; exact hin
 obtain ⟨h3, h4⟩ := tab_of (P := Tryz.prog) (g := 0) (t := 73) (e := 9) (m := 5) (by kernel_rfl) (by kernel_rfl) Tryz.underlying73 Tryz.underlying9 (by kernel_rfl) (by kernel_rfl) h h2
 refine ⟨h3, fun k hk => ?_⟩
 rw [h4 k (by simp; omega)]
 have : ((List.range 5).map leadL).getD k [] = leadL k := by
  simp [List.getD, show k < 5 by omega]
 rw [this]; rfl
theorem tabs_of {w : World} (h1 : Words w) (h2 : Leads w) : Tabs w w.heap.size := ⟨h1, h2, h1.room, h2.room⟩
end Go.Proofs.YtpbaobmegomfpacGreatDoor
