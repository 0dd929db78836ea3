/-
  Texts of the proof, one behind the other: DelA, PStay, EqP, Laid, LaidWords, LaidLeads, TabsL, WTopPrivate.
-/
import Derived.Test.YtpbaobmegomfpabGreatDoorM16
import Derived.Test.YtpbaobmegomfpabGreatDoorM15
import Derived.Test.YtpbaobmegomfpabGreatDoorRows
import Derived.WalkKit
import Derived.WalkSpells
import Derived.WalkLawsBesides
import Derived.Lib.Hide
import Derived.IntWalk
import Derived.WalkSmall
import Derived.Deep.Upon
import Derived.Test.YtpbaobmegomfpabGreatDoorM35
import Derived.Test.YtpbaobmegomfpabGreatDoorM32
import Derived.Test.YtpbaobmegomfpabGreatDoorM1
import Derived.Deep.QuietTactic
import Derived.BigQuiet
import Derived.ProofKit
import Derived.Lib.LaidTab
import Derived.Test.YtpbaobmegomfpabGreatDoorM10
import Derived.Test.YtpbaobmegomfpabGreatDoorM22
import Derived.Test.YtpbaobmegomfpabGreatDoorM23
import Derived.Test.YtpbaobmegomfpabGreatDoorM34
import Derived.Test.YtpbaobmegomfpabGreatDoorM29
set_option linter.unusedVariables false
set_option linter.unusedSimpArgs false
set_option maxRecDepth 100000
open List renaming getElem_toArray → gTA, getElem_cons_zero → gCZ, getElem_cons_succ → gCS, setIfInBounds_toArray → sTA, set_cons_zero → sCZ, set_cons_succ → sCS
open Go.Lib renaming hid → jD
open Nat renaming le_refl → nL
namespace Go.Proofs.YtpbaobmegomfpabGreatDoor
open Go.RowKit
def encA (x : Act) : List Value := [.int .i64 x.kind, .int .i64 x.c, .string x.data]
section
variable {w : World} {b off cap : Nat} {d : List (Act)}
theorem Rw.cA (h : Rw w 54 3 b off cap (d.map encA)) {i : Nat} (hi : i < d.length) : w.cell? ⟨b, off + i * 3, none⟩ = some (.int .i64 d[i].kind) ∧ w.cell? ⟨b, off + i * 3 + 1, none⟩ = some (.int .i64 d[i].c) ∧ w.cell? ⟨b, off + i * 3 + 2, none⟩ = some (.string d[i].data) := by
 have hi' : i < (d.map encA).length := by simpa using hi
 have h0 := h.cell i hi' 0 (by omega)
 have h1 := h.cell i hi' 1 (by omega)
 have h2 := h.cell i hi' 2 (by omega)
 rw [List.getElem_map] at h0
 rw [List.getElem_map] at h1
 rw [List.getElem_map] at h2
 exact ⟨by simpa [encA] using h0, by simpa [encA] using h1, by simpa [encA] using h2⟩
end
set_option maxHeartbeats 400000 in
theorem indexFuncA (p : Act → Bool) (w : World) (b off cap B : Nat) (d : List (Act)) (hR : Rw w 54 3 b off cap (d.map encA)) (hby : d.length ≤ 1000000000000000) (hB : B ≤ b)
  (hp : ∀ x ∈ d, ∀ wc, Below B w wc → Calls Tryz.prog 41 #[.agg #[.int .i64 x.kind, .int .i64 x.c, .string x.data]] wc fun e w' => e = .returned (.bool (p x)) ∧ Below wc.heap.size wc w') :
  Calls Tryz.prog 60 #[.slice (some ⟨b, off, none⟩) d.length cap, .func (.func 41) #[] #[]] w fun e w' => (∃ i : Int, e = .returned (.int .i64 i) ∧ ((i = -1 ∧ ∀ x ∈ d, p x = false) ∨ ∃ k, ∃ hk : k < d.length, i = k ∧ p d[k] = true ∧ ∀ x ∈ d.take k, p x = false)) ∧ Below w.heap.size w w' := by
 have hbl := hR.row.lt
 have HR := jD hR
 have HP := jD hp
 have hcap : d.length ≤ cap := by simpa using hR.room
 clear hR hp
 go_enter Tryz.func60, Tryz.ntmps60
 go_wp2
 go_loopw [8] (fun i wr => ∃ k : Nat, k ≤ d.length ∧ i = .int .i64 k ∧ Hid ((∀ x ∈ d.take k, p x = false) ∧ Below w.heap.size w wr)) (fun i _ => d.length - (intOf i).toNat)
 case atStart => exact ⟨0, by omega, rfl, (fun x hx => by simp at hx), Below.refl _ _⟩
 case round =>
  obtain ⟨k, hk, rfl, HZ⟩ := hrel
  by_cases hlt : k < d.length
  ·have hRk := HR.out.below HZ.out.2 hbl
   obtain ⟨a0, a1, a2⟩ := hRk.cA hlt
   have hblr : b < wr.heap.size := Nat.lt_of_lt_of_le hbl HZ.out.2.size
   have HC := jD (HP.out d[k] (List.getElem_mem hlt) wr (HZ.out.2.mono (by omega)))
   have HT := jD (fun (h : p d[k] = true) => (show ∃ k', ∃ hk : k' < d.length, (k : Int) = k' ∧ p d[k'] = true ∧ ∀ x ∈ d.take k', p x = false from ⟨k, hlt, rfl, h, HZ.out.1⟩))
   have HF := jD (fun (h : p d[k] = false) => (show ∀ x ∈ d.take (k + 1), p x = false from fun x hx => by
    rw [List.take_succ_eq_append_getElem hlt] at hx
    rcases List.mem_append.1 hx with hx | hx
    ·exact HZ.out.1 x hx
    ·rw [List.mem_singleton.1 hx]; exact h))
   have HZ2 := jD HZ.out.2
   generalize d[k] = x at *
   clear HZ hRk
   cases hq : p x with
   | true =>
    have HT2 := jD (HT.out hq)
    rw [hq] at HC
    clear HT HF hq
    go_wp2_with fail
    refine HC.out.mono ?_
    rintro e w2 ⟨rfl, hb2⟩
    have HB2 := jD (HZ2.out.trans (hb2.mono HZ2.out.size))
    clear hb2
    go_wp2
    go_ret
    exact ⟨⟨k, rfl, .inr HT2.out⟩, HB2.out⟩
   | false =>
    have HF2 := jD (HF.out hq)
    rw [hq] at HC
    clear HT HF hq
    go_wp2_with fail
    refine HC.out.mono ?_
    rintro e w2 ⟨rfl, hb2⟩
    have HB2 := jD (HZ2.out.trans (hb2.mono HZ2.out.size))
    clear hb2
    go_wp2
    go_roundw
    case rel => exact ⟨k + 1, by omega, by go_num, HF2.out, HB2.out⟩
    case measure => simp [intOf]; omega
  ·obtain rfl : k = d.length := by omega
   rw [List.take_length] at HZ
   go_wp2
   go_ret
   exact ⟨⟨-1, rfl, .inl ⟨rfl, HZ.out.1⟩⟩, HZ.out.2⟩
set_option maxHeartbeats 1000000 in
theorem deleteFuncA (p : Act → Bool) (w : World) (b off cap B : Nat) (d : List (Act)) (hR : Rw w 54 3 b off cap (d.map encA)) (hby : d.length ≤ 1000000000000000) (hB : B ≤ b)
  (hp : ∀ x ∈ d, ∀ wc, Below B w wc → Calls Tryz.prog 41 #[.agg #[.int .i64 x.kind, .int .i64 x.c, .string x.data]] wc fun e w' => e = .returned (.bool (p x)) ∧ Below wc.heap.size wc w') :
  Calls Tryz.prog 39 #[.slice (some ⟨b, off, none⟩) d.length cap, .func (.func 41) #[] #[]] w fun e w' => e = .returned (.slice (some ⟨b, off, none⟩) (d.filter fun x => !p x).length cap) ∧ Rw w' 54 3 b off cap ((d.filter fun x => !p x).map encA) ∧ Below B w w' ∧ ∀ g, g < w.heap.size → g ≠ b → w'.heap[g]? = w.heap[g]? := by
 have hbl := hR.row.lt
 have HI := jD (indexFuncA p w b off cap B d hR hby hB hp)
 have HR := jD hR
 have HP := jD hp
 have hcap : d.length ≤ cap := by simpa using hR.room
 clear hR hp
 go_enter Tryz.func39, Tryz.ntmps39
 go_wp2_with fail
 refine HI.out.mono ?_
 rintro e w1 ⟨⟨i, rfl, hi⟩, hb1⟩
 have HB1 := jD hb1
 clear HI hb1
 rcases hi with ⟨rfl, hall⟩ | ⟨k, hk, rfl, h1, h0⟩
 ·have HA := jD (show (d.filter fun x => !p x) = d from List.filter_eq_self.2 fun x hx => by rw [hall x hx]; rfl)
  clear hall
  go_wp2
  go_ret
  rw [HA.out]
  exact ⟨rfl, HR.out.below HB1.out hbl, HB1.out.mono (by omega), fun g hg _ => HB1.out.block g hg⟩
 ·have HK := jD (KeepI.start hk h1 h0)
  have hne : ((k : Int) == -1) = false := beq_eq_false_iff_ne.2 (by omega)
  clear h1 h0
  go_wp2_with fail
  go_loopw [5, 6, 7] (fun s5 s6 s7 wr => ∃ (i j : Nat) (dk : List (Act)), s5 = .int .i64 i ∧ s6 = .int .i64 j ∧ i < j ∧ j ≤ d.length ∧ Hid (KeepI p d i j dk ∧ Rw wr 54 3 b off cap (dk.map encA) ∧ Below B w wr ∧ (w.heap.size ≤ wr.heap.size) ∧ ∀ g, g < w.heap.size → g ≠ b → wr.heap[g]? = w.heap[g]?)) (fun _ s6 _ _ => d.length - (intOf s6).toNat)
  case atStart => exact ⟨k, k + 1, d, rfl, by go_num, by omega, by omega, HK.out, HR.out.below HB1.out hbl, HB1.out.mono (by omega), HB1.out.size, fun g hg _ => HB1.out.block g hg⟩
  case round =>
   obtain ⟨i, j, dk, rfl, rfl, hij, hjn, HZ⟩ := hrel
   clear HK HB1
   by_cases hlt : j < d.length
   ·have hRk := HZ.out.2.1
    have hlk := HZ.out.1.len
    have c0 := hRk.cA (i := j) (by omega)
    have z0 := hRk.cA (i := i) (by omega)
    rw [HZ.out.1.at hlt] at c0
    obtain ⟨a0, a1, a2⟩ := c0
    obtain ⟨z0, z1, z2⟩ := z0
    have f0 := hRk.row.frozen (off + i * 3)
    have f1 := hRk.row.frozen (off + i * 3 + 1)
    have f2 := hRk.row.frozen (off + i * 3 + 2)
    have hbr := hRk.row.lt
    have y0 := (RowTo.whole wr #[.int .i64 d[j].kind, .int .i64 d[j].c, .string d[j].data] 54).cell (j := 0) (by simp)
    have y1 := (RowTo.whole wr #[.int .i64 d[j].kind, .int .i64 d[j].c, .string d[j].data] 54).cell (j := 1) (by simp)
    have y2 := (RowTo.whole wr #[.int .i64 d[j].kind, .int .i64 d[j].c, .string d[j].data] 54).cell (j := 2) (by simp)
    have HC := jD (HP.out d[j] (List.getElem_mem hlt) (wr.alloc (.cells #[.int .i64 d[j].kind, .int .i64 d[j].c, .string d[j].data] 54)) (HZ.out.2.2.1.alloc (by have := HZ.out.2.2.2.1; omega) _))
    have HKK := jD (fun (h : p d[j] = false) => HZ.out.1.keep hlt h)
    have HKS := jD (fun (h : p d[j] = true) => HZ.out.1.skip hlt h)
    have hjI : (j : Int) < (d.length : Int) := by omega
    have HM := jD (List.getElem_mem hlt)
    generalize d[j] = x at *
    skip
    clear hRk
    cases hq : p x with
    | true =>
     have HK2 := jD (HKS.out hq)
     rw [hq] at HC
     clear HKS HKK hq
     go_wp2_with fail
     refine HC.out.mono ?_
     rintro e w2 ⟨rfl, hb2⟩
     have HB2 := jD hb2
     clear hb2
     have hw2 : Below (wr.alloc (.cells #[.int .i64 x.kind, .int .i64 x.c, .string x.data] 54)).heap.size (wr.alloc (.cells #[.int .i64 x.kind, .int .i64 x.c, .string x.data] 54)) w2 := HB2.out
     have hz2 := hw2.size
     simp only [World.size_alloc] at hz2
     have hn2 : ∀ g, g < wr.heap.size → w2.heap[g]? = wr.heap[g]? := fun g hg => (hw2.block g (by simp; omega)).trans (Below.heap_alloc _ _ _ hg)
     have H2 := jD (And.intro (HZ.out.2.1.keep (hn2 b hbr)) (And.intro (show Below B w w2 from (HZ.out.2.2.1.alloc (by have := HZ.out.2.2.2.1; omega) _).trans (hw2.mono (by simp; have := HZ.out.2.2.2.1; omega))) (And.intro (show w.heap.size ≤ w2.heap.size by have := HZ.out.2.2.2.1; have := hw2.size; omega) (fun g (hg : g < w.heap.size) (hne : g ≠ b) => (hn2 g (by have := HZ.out.2.2.2.1; omega)).trans (HZ.out.2.2.2.2 g hg hne)))))
     have hb2' : b < w2.heap.size := by have := hw2.size; simp at this; omega
     have u0 := (hw2.cell (p := ⟨wr.heap.size, 0, none⟩) (by simp)).trans y0
     have u1 := (hw2.cell (p := ⟨wr.heap.size, 1, none⟩) (by simp)).trans y1
     have u2 := (hw2.cell (p := ⟨wr.heap.size, 2, none⟩) (by simp)).trans y2
     go_wp2
     go_roundw
     case rel => exact ⟨i, j + 1, dk, rfl, by go_num, by omega, by omega, HK2.out, H2.out.1, H2.out.2.1, H2.out.2.2.1, H2.out.2.2.2⟩
     case measure => simp [intOf]; omega
    | false =>
     have HK2 := jD (HKK.out hq)
     rw [hq] at HC
     clear HKS HKK hq
     go_wp2_with fail
     refine HC.out.mono ?_
     rintro e w2 ⟨rfl, hb2⟩
     have HB2 := jD hb2
     clear hb2
     have hw2 : Below (wr.alloc (.cells #[.int .i64 x.kind, .int .i64 x.c, .string x.data] 54)).heap.size (wr.alloc (.cells #[.int .i64 x.kind, .int .i64 x.c, .string x.data] 54)) w2 := HB2.out
     have hz2 := hw2.size
     simp only [World.size_alloc] at hz2
     have hn2 : ∀ g, g < wr.heap.size → w2.heap[g]? = wr.heap[g]? := fun g hg => (hw2.block g (by simp; omega)).trans (Below.heap_alloc _ _ _ hg)
     have H2 := jD (And.intro (HZ.out.2.1.keep (hn2 b hbr)) (And.intro (show Below B w w2 from (HZ.out.2.2.1.alloc (by have := HZ.out.2.2.2.1; omega) _).trans (hw2.mono (by simp; have := HZ.out.2.2.2.1; omega))) (And.intro (show w.heap.size ≤ w2.heap.size by have := HZ.out.2.2.2.1; have := hw2.size; omega) (fun g (hg : g < w.heap.size) (hne : g ≠ b) => (hn2 g (by have := HZ.out.2.2.2.1; omega)).trans (HZ.out.2.2.2.2 g hg hne)))))
     have hb2' : b < w2.heap.size := by have := hw2.size; simp at this; omega
     have u0 := (hw2.cell (p := ⟨wr.heap.size, 0, none⟩) (by simp)).trans y0
     have u1 := (hw2.cell (p := ⟨wr.heap.size, 1, none⟩) (by simp)).trans y1
     have u2 := (hw2.cell (p := ⟨wr.heap.size, 2, none⟩) (by simp)).trans y2
     have hi2 : i < (dk.map encA).length := by rw [List.length_map, HZ.out.1.len]; omega
     have H3 := jD (And.intro (H2.out.1.set hi2 (e := encA x) rfl) (And.intro (below_setCells H2.out.2.1 hB (off + i * 3) (encA x)) (And.intro (show w.heap.size ≤ (w2.setCells b (off + i * 3) (encA x)).heap.size by rw [(setCells_keeps b _ _ _).2.2.2]; exact H2.out.2.2.1) (fun g (hg : g < w.heap.size) (hne : g ≠ b) => (setCells_other w2 b (off + i * 3) (encA x) hne).trans (H2.out.2.2.2 g hg hne)))))
     rw [← List.map_set] at H3
     have v0 := (World.cell?_of_block (a := ⟨b, off + i * 3, none⟩) (hn2 b hbr)).trans z0
     have g0 := (World.frozen?_of_block (a := ⟨b, off + i * 3, none⟩) (hn2 b hbr)).trans f0
     have v1 := (World.cell?_of_block (a := ⟨b, off + i * 3 + 1, none⟩) (hn2 b hbr)).trans z1
     have g1 := (World.frozen?_of_block (a := ⟨b, off + i * 3 + 1, none⟩) (hn2 b hbr)).trans f1
     have v2 := (World.cell?_of_block (a := ⟨b, off + i * 3 + 2, none⟩) (hn2 b hbr)).trans z2
     have g2 := (World.frozen?_of_block (a := ⟨b, off + i * 3 + 2, none⟩) (hn2 b hbr)).trans f2
     simp only [World.setCells, encA] at H3
     go_wp2
     go_roundw
     case rel => exact ⟨i + 1, j + 1, dk.set i x, by go_num, by go_num, by omega, by omega, HK2.out, H3.out.1, H3.out.2.1, H3.out.2.2.1, H3.out.2.2.2⟩
     case measure => simp [intOf]; omega
   ·obtain rfl : j = d.length := by omega
    have hRk := HZ.out.2.1
    have hlk := HZ.out.1.len
    have hbr := hRk.row.lt
    have hcl : ∀ ty, (Builtin.clear_ #[24] ty #[.slice (some ⟨b, off + i * 3, none⟩) (d.length - i) (cap - i)]).run Tryz.prog wr = .ok (.tuple #[]) (wr.setCells b (off + i * 3) (Builtin.zeroCells ((.agg #[.int .i64 0, .int .i64 0, .string ⟨#[]⟩]) : Value).cells (d.length - i)).toList) := fun ty => by
     refine run_clear_cells (P := Tryz.prog) wr 24 54 ty (.agg #[.int .i64 0, .int .i64 0, .string ⟨#[]⟩]) Tryz.underlying24 Tryz.zeroValue54 (by simp [Value.cells, Value.oneCell']) (by decide) b (off + i * 3) (d.length - i) (cap - i) (by omega) (fun q hq => ?_) (fun q => hRk.row.frozen _)
     obtain ⟨u, hu⟩ := hRk.row.any (j := off + i * 3 + q) (by have : q < (d.length - i) * 3 := hq; have : d.length * 3 ≤ cap * 3 := Nat.mul_le_mul_right _ hcap; omega)
     rw [hu]; rfl
    have H2 := jD (hRk.behind (i := i) (by rw [List.length_map]; omega) (Builtin.zeroCells ((.agg #[.int .i64 0, .int .i64 0, .string ⟨#[]⟩]) : Value).cells (d.length - i)).toList)
    rw [← List.map_take, HZ.out.1.done] at H2
    have HN := jD HZ.out.1.num
    have H3 := jD (And.intro (below_setCells HZ.out.2.2.1 hB (off + i * 3) (Builtin.zeroCells ((.agg #[.int .i64 0, .int .i64 0, .string ⟨#[]⟩]) : Value).cells (d.length - i)).toList) (fun g (hg : g < w.heap.size) (hne : g ≠ b) => (setCells_other wr b (off + i * 3) (Builtin.zeroCells ((.agg #[.int .i64 0, .int .i64 0, .string ⟨#[]⟩]) : Value).cells (d.length - i)).toList hne).trans (HZ.out.2.2.2.2 g hg hne)))
    clear hRk
    go_wp2
    go_ret
    refine ⟨by rw [HN.out]; rfl, H2.out, H3.out.1, H3.out.2⟩
end Go.Proofs.YtpbaobmegomfpabGreatDoor
namespace Go.Proofs.YtpbaobmegomfpabGreatDoor
open Go.RowKit
theorem byte_x (s : ByteArray) (h : 1 ≤ s.size) : ((s.extract 0 1).toList == [88]) = decide (s.data[0]? = some 88) := by
 have h0 : 0 < s.data.size := h
 have e : (s.extract 0 1).toList = [s.data[0]] := by
  rw [Lib.toList_data, ext_list]
  simp only [List.drop_zero]
  cases hl : s.data.toList with
  | nil => exfalso; have := congrArg List.length hl; rw [Array.length_toList] at this; simp only [List.length_nil] at this; omega
  | cons a l =>
   have : s.data[0] = a := by
    have : s.data.toList[0]'(by rw [hl]; simp) = a := by simp [hl]
    simpa using this
   simp [this]
 rw [e, Array.getElem?_eq_getElem h0]
 by_cases h88 : s.data[0] = 88
 ·rw [h88]; rfl
 ·rw [decide_eq_false (fun hh => h88 (by injection hh))]
  refine beq_eq_false_iff_ne.2 fun hh => h88 ?_
  injection hh
theorem prefX_any (s : ByteArray) (w : World) (hs : s.size ≤ maxLen) : Calls Tryz.prog 42 #[.string s, .string ⟨#[88]⟩] w fun e w' => e = .returned (.bool (decide (1 ≤ s.size) && decide (s.data[0]? = some 88))) ∧ w = w' := by
 by_cases h : 1 ≤ s.size
 ·have hx := byte_x s h
  have h1 : decide (1 ≤ s.size) = true := decide_eq_true h
  have h2 : decide (1 ≤ (s.size : Int)) = true := decide_eq_true (by omega)
  have hI : (1 : Int) ≤ (s.size : Int) := by omega
  obtain ⟨q, hq⟩ : ∃ q, decide (s.data[0]? = some 88) = q := ⟨_, rfl⟩
  rw [hq] at hx ⊢
  rw [h1, Bool.true_and]
  clear h1 hq
  go_enter Tryz.func42, Tryz.ntmps42
  go_wp2
  go_ret
  exact ⟨rfl, rfl⟩
 ·have h1 : decide (1 ≤ s.size) = false := decide_eq_false h
  have h2 : decide (1 ≤ (s.size : Int)) = false := decide_eq_false (by omega)
  rw [h1, Bool.false_and]
  clear h1
  go_enter Tryz.func42, Tryz.ntmps42
  go_wp2
  go_ret
  exact ⟨rfl, rfl⟩
theorem gone_any (a : Act) (w : World) (hs : a.data.size ≤ maxLen) : Calls Tryz.prog 41 #[.agg #[.int .i64 a.kind, .int .i64 a.c, .string a.data]] w fun e w' => e = .returned (.bool (goneB a)) ∧ Below w.heap.size w w' := by
 have HP := jD (fun wc => prefX_any a.data wc hs)
 by_cases h : a.kind = 2
 ·have t1 : (a.kind == 2) = true := by simp [h]
  have hg : goneB a = true := by unfold goneB; rw [decide_eq_true h]; rfl
  rw [hg]
  clear h hg
  generalize a.kind = k at *
  generalize a.c = c at *
  generalize a.data = d at *
  go_enter Tryz.func41, Tryz.ntmps41
  go_wp2
  go_ret
  exact ⟨rfl, (Below.refl _ _).alloc (nL _) _⟩
 ·have t1 : (a.kind == 2) = false := by simp [h]
  have hg : goneB a = (decide (1 ≤ a.data.size) && decide (a.data.data[0]? = some 88)) := by unfold goneB; rw [decide_eq_false h]; rfl
  rw [hg]
  clear h hg
  generalize a.kind = k at *
  generalize a.c = c at *
  generalize a.data = d at *
  generalize (decide (1 ≤ d.size) && decide (d.data[0]? = some 88)) = q at *
  go_enter Tryz.func41, Tryz.ntmps41
  go_wp2_with fail
  refine (HP.out _).mono ?_
  rintro e w1 ⟨rfl, rfl⟩
  go_wp2
  go_ret
  exact ⟨rfl, (Below.refl _ _).alloc (nL _) _⟩
theorem actV_len (al : List Act) : ∀ e ∈ al.map actV, e.length = 3 := fun e he => by obtain ⟨x, _, rfl⟩ := List.mem_map.1 he; rfl
theorem Sl.alst {w : World} {out : Value} {g : Option Nat} {al : List Act} (h : Sl w 54 3 out g al.length (al.map actV).flatten) (hby : al.length * 32 ≤ 140737488351232) (hs : ∀ a ∈ al, a.data.size ≤ 140737488351232) : ALst w w.heap.size out al := by
 obtain ⟨A, c, rfl, hc⟩ := h.shape
 refine ⟨⟨A, c, rfl, hc⟩, hby, hs, fun hn => ?_⟩
 obtain ⟨b, off, cap, h1, h2, h3, h4⟩ := h.at hn
 refine ⟨b, off, cap, h2, h.lt h1, fun i hi => ?_⟩
 have hf : ∀ j, j < 3 → w.cell? ⟨b, off + (i * 3 + j), none⟩ = (actV al[i])[j]? := fun j hj => by
  have hf := flat_get (d := al.map actV) (size := 3) (actV_len al) (i := i) (by simpa using hi) hj
  rw [List.getElem_map] at hf
  have hl : i * 3 + j < (al.map actV).flatten.length := by rw [h.len]; exact at_in hi hj
  rw [h4 _ hl, ← List.getElem?_eq_getElem hl]
  exact hf
 have h0 := hf 0 (by omega)
 have h1 := hf 1 (by omega)
 have h2 := hf 2 (by omega)
 rw [← Nat.add_assoc] at h0 h1 h2
 exact ⟨h0, h1, h2⟩
theorem ActsAt.alst {w w' : World} {out : Value} {al : List Act} (h : ActsAt w w' out al) (hby : al.length ≤ 1000) (hs : ∀ a ∈ al, a.data.size ≤ 1000) : ALst w' w'.heap.size out al := by
 obtain ⟨g, h1, _⟩ := h.sl
 exact h1.alst (by omega) (fun a ha => by have := hs a ha; omega)
theorem Rw.alst {w : World} {b off cap : Nat} {al : List Act} (h : Rw w 54 3 b off cap (al.map encA)) (hby : al.length ≤ 1000) (hs : ∀ a ∈ al, a.data.size ≤ 1000) : ALst w w.heap.size (.slice (some ⟨b, off, none⟩) al.length cap) al :=
 ⟨⟨_, _, rfl, by simpa using h.room⟩, by omega, fun a ha => by have := hs a ha; omega, fun _ => ⟨b, off, cap, rfl, h.row.lt, fun i hi => h.cA hi⟩⟩
set_option maxHeartbeats 400000 in
theorem indexFuncA_nil (A : Option Addr) (c : Nat) (w : World) : Calls Tryz.prog 60 #[.slice A 0 c, .func (.func 41) #[] #[]] w fun e w' => e = .returned (.int .i64 (-1)) ∧ w' = w := by
 go_enter Tryz.func60, Tryz.ntmps60
 go_wp2
 go_loopw [8] (fun i wr => i = .int .i64 0 ∧ wr = w) (fun i _ => 0)
 case atStart => exact ⟨rfl, rfl⟩
 case round =>
  obtain ⟨rfl, rfl⟩ := hrel
  go_wp2
  go_ret
  exact ⟨rfl, rfl⟩
set_option maxHeartbeats 400000 in
theorem deleteFuncA_nil (A : Option Addr) (c : Nat) (w : World) : Calls Tryz.prog 39 #[.slice A 0 c, .func (.func 41) #[] #[]] w fun e w' => e = .returned (.slice A 0 c) ∧ w' = w := by
 have HI := jD (indexFuncA_nil A c)
 go_enter Tryz.func39, Tryz.ntmps39
 go_wp2_with fail
 refine (HI.out _).mono ?_
 rintro e w1 ⟨rfl, rfl⟩
 go_wp2
 go_ret
 exact ⟨rfl, rfl⟩
set_option maxHeartbeats 1000000 in
theorem staying_any (v : Value) (l : List Raw) (most n : Nat) (w : World) (hl : RLst w w.heap.size v l) (hWo : Words w) (hn : 0 < n) (hn6 : n ≤ 6) (hm : most ≤ 1000) :
  Calls Tryz.prog 22 #[v, .int .i64 most, .int .i64 n] w fun e w' => ∃ out, e = .returned out ∧ ALst w' w'.heap.size out (stayR l most n) ∧ Below w.heap.size w w' := by
 obtain ⟨E, e, rfl, he⟩ := hl.form
 have HA := jD (acts_any (.slice E l.length e) l most n w hl hWo hn hn6 hm)
 have hlen := actsR_len (l := l) (most := most) (n := n)
 have hsz : ∀ a ∈ actsR l most n, a.data.size ≤ 1000 := fun a ha => by
  obtain ⟨r, _, rfl⟩ := List.mem_map.1 ha
  have := dataR_size r
  show (dataR r).size ≤ _
  omega
 have HSR := jD (show stayR l most n = (actsR l most n).filter (fun a => !goneB a) from rfl)
 rw [HSR.out]
 generalize actsR l most n = al at *
 clear hl hWo HSR
 go_enter Tryz.func22, Tryz.ntmps22
 go_wp2_with fail
 refine HA.out.mono ?_
 rintro e w1 ⟨out, rfl, hA⟩
 obtain ⟨g, hs, hg⟩ := hA.sl
 have HB1 := jD hA.bel
 by_cases h0 : al.length = 0
 ·have ha0 : al = [] := List.eq_nil_of_length_eq_zero h0
  subst ha0
  obtain ⟨A, c, rfl, _⟩ := hs.shape
  have HN := jD (show ALst w1 w1.heap.size (.slice A 0 c) [] from ⟨⟨A, c, rfl, Nat.zero_le _⟩, (by simp), (fun a ha => (by cases ha)), fun h => absurd h (by simp)⟩)
  have HD := jD (deleteFuncA_nil A c)
  simp only [List.length_nil]
  clear hA hs hg HA
  go_wp2_with fail
  refine (HD.out _).mono ?_
  rintro e w2 ⟨rfl, rfl⟩
  go_wp2
  go_ret
  exact ⟨_, rfl, HN.out, HB1.out⟩
 ·obtain ⟨b, off, cap, h1, rfl, hR⟩ := hs.rw (actV_len al) (by simp) (by omega)
  have HD := jD (deleteFuncA goneB w1 b off cap w.heap.size al hR (by omega) (hg b h1) (fun x hx wc _ => gone_any x wc (by have := hsz x hx; unfold maxLen; omega)))
  have HF := jD (show ∀ w2, Rw w2 54 3 b off cap ((al.filter fun x => !goneB x).map encA) → ALst w2 w2.heap.size (.slice (some ⟨b, off, none⟩) (al.filter fun x => !goneB x).length cap) (al.filter fun x => !goneB x) from fun w2 h => h.alst (by have := List.length_filter_le (fun x => !goneB x) al; omega) (fun a ha => hsz a (List.mem_filter.1 ha).1))
  clear hA hs hg HA h1 hR
  go_wp2_with fail
  refine HD.out.mono ?_
  rintro e w2 ⟨rfl, hR2, hB2, hk2⟩
  have H2 := jD (And.intro (HF.out _ hR2) (HB1.out.trans hB2))
  clear hR2 hB2 hk2
  go_wp2
  go_ret
  exact ⟨_, rfl, H2.out.1, H2.out.2⟩
end Go.Proofs.YtpbaobmegomfpabGreatDoor
namespace Go.Proofs.YtpbaobmegomfpabGreatDoor
open Go.RowKit
set_option maxHeartbeats 400000 in
theorem equalP_same (v v' : Value) (l : PL) (w : World) (B : Nat) (hl : Lst w B v l) (hl' : Lst w B v' l) :
  Calls Tryz.prog 18 #[v, v'] w fun e w' => e = .returned (.bool true) ∧ ∃ n, w' = w.drewN n := by
 obtain ⟨A, c, rfl, hc⟩ := hl.form
 obtain ⟨A', c', rfl, hc'⟩ := hl'.form
 have hby := hl.bytes
 have HL := jD hl
 have HL' := jD hl'
 have hne : ((l.length : Int) != (l.length : Int)) = false := by simp
 clear hl hl'
 go_enter Tryz.func18, Tryz.ntmps18
 go_wp2
 go_loopw [13] (fun i wr => ∃ k : Nat, k ≤ l.length ∧ i = .int .i64 k ∧ ∃ n, wr = w.drewN n) (fun i _ => l.length - (intOf i).toNat)
 case atStart => exact ⟨0, by omega, rfl, 0, rfl⟩
 case round =>
  obtain ⟨k, hk, rfl, n, rfl⟩ := hrel
  by_cases hlt : k < l.length
  ·obtain ⟨b, off, rfl, hb, c0, c1⟩ := HL.out.pt hlt
   obtain ⟨b', off', rfl, hb', c0', c1'⟩ := HL'.out.pt hlt
   go_wp2
   go_quiet (fail)
   go_wp2
   go_roundw
   case rel => exact ⟨k + 1, by omega, by go_num, n + nq, rfl⟩
   case measure => simp [intOf]; omega
  ·go_wp2
   go_ret
   exact ⟨rfl, _, rfl⟩
end Go.Proofs.YtpbaobmegomfpabGreatDoor
namespace Go.Proofs.YtpbaobmegomfpabGreatDoor
open Go.RowKit
theorem laid_mem {P : Program} {w : World} {n : String} {d : DataW Unit} : ∀ {l : List (String × DataW Unit)} {ps : List MemPlace}, DataW.LaidVars P w l ps → (n, d) ∈ l →
  ∃ g t cs fuel p, P.globalNamed n = some g ∧ (P.globals[g]?).map (·.type) = some t ∧ w.var? P n = some cs ∧ DataW.trod (fun _ => ()) P w 0 (fun _ => true) false fuel t cs.toList = some (d, p)
 | [], _, _, h => by cases h
 | (m, e) :: l, ps, hl, h => by
  obtain ⟨g, t, cs, fuel, p, q, h1, h2, h3, h4, h5, _⟩ := hl
  rcases List.mem_cons.1 h with he | he
  ·cases he
   exact ⟨g, t, cs, fuel, p, h1, h2, h3, h4⟩
  ·exact laid_mem h5 he
theorem strs_of {P : Program} {w : World} {fuel : Nat} {t e : TypeId} {n : Nat} {cs : List Value} {ss : List (List UInt8)} {p : List MemPlace}
  (ht : P.underlying t = some (.array n e)) (he : P.underlying e = some .string) (hce : P.cellsOf e = 1) (hct : P.cellsOf t = n)
  (h : DataW.trod (fun _ => ()) P w 0 (fun _ => true) false fuel t cs = some (.agg (ss.map fun s => .lit (.string s)), p)) : cs = ss.map fun s => Value.string ⟨s.toArray⟩ := by
 cases fuel with
 | zero => simp [DataW.trod] at h
 | succ fuel =>
  simp only [DataW.trod, ht, hce, hct, Nat.mul_one] at h
  split at h
  ·obtain ⟨xs, hm, hx⟩ := Option.map_eq_some_iff.1 h
   have hxs : xs.map (·.1) = ss.map fun s => (DataW.lit (.string s) : DataW Unit) := by
    have := congrArg Prod.fst hx
    simpa using this
   have hxl : xs.length = n := by simpa using Lib.mapM_length hm
   have hzl : ss.length = n := by
    have := congrArg List.length hxs
    simp at this
    omega
   apply List.ext_getElem?
   intro i
   by_cases hi : i < n
   ·obtain ⟨b, hb, hf⟩ := Lib.mapM_at hm i i (by simp [hi])
    obtain ⟨z, hc, rfl, _⟩ := DataW.trod_string he hf
    have h1 : cs[i]? = some (.string z) := by
     have := congrArg (·[0]?) hc
     simpa [List.getElem?_take, List.getElem?_drop] using this
    have h2 : (xs.map (·.1))[i]? = some (DataW.lit (.string z.data.toList) : DataW Unit) := by simp [hb]
    rw [hxs] at h2
    simp only [List.getElem?_map, Option.map_eq_some_iff, DataW.lit.injEq, Lit.string.injEq] at h2
    obtain ⟨s, hs, rfl⟩ := h2
    simp [h1, hs]
   ·rw [List.getElem?_eq_none (by omega), List.getElem?_eq_none (by simp; omega)]
  ·cases h
theorem tab_of {P : Program} {w : World} {n : String} {l : List (String × DataW Unit)} {ss : List (List UInt8)} {g : Nat} {t e : TypeId} {m : Nat}
  (hg : P.globalNamed n = some g) (hty : (P.globals[g]?).map (·.type) = some t) (ht : P.underlying t = some (.array m e)) (he : P.underlying e = some .string) (hce : P.cellsOf e = 1) (hct : P.cellsOf t = m)
  (h : laidMet P l w) (hin : (n, DataW.agg (ss.map fun s => .lit (.string s))) ∈ l) : g < w.heap.size ∧ ∀ i, i < ss.length → w.cell? ⟨g, i, none⟩ = some (.string ⟨(ss.getD i []).toArray⟩) := by
 obtain ⟨ps, hl, _⟩ := h
 obtain ⟨g', t', cs, fuel, p, h1, h2, h3, h4⟩ := laid_mem hl hin
 obtain rfl := Option.some.inj (hg.symm.trans h1)
 obtain rfl := Option.some.inj (hty.symm.trans h2)
 have hcs := strs_of ht he hce hct h4
 refine ⟨?_, fun i hi => ?_⟩
 ·simp only [World.var?, hg, Option.bind_some] at h3
  split at h3
  ·rename_i hh
   exact (Array.getElem?_eq_some_iff.1 hh).1
  ·cases h3
 ·rw [World.var?_cell hg h3 i]
  have : cs[i]? = cs.toList[i]? := by simp
  rw [this, hcs]
  simp [List.getD, hi]
end Go.Proofs.YtpbaobmegomfpabGreatDoor
namespace Go.Proofs.YtpbaobmegomfpabGreatDoor
open Go.RowKit
theorem words_of {l : List (String × DataW Unit)} {w : World} (h : laidMet Tryz.prog l w) (hin : ("tillerman/say.words", DataW.agg ((List.range 12).map fun k => .lit (.string (wordL k)))) ∈ l) : Words w := by
 have h2 : ("tillerman/say.words", DataW.agg (((List.range 12).map wordL).map fun s => .lit (.string s))) ∈ l := by
  rw [List.map_map]; exact hin
 obtain ⟨h3, h4⟩ := tab_of (P := Tryz.prog) (g := 1) (t := 125) (e := 9) (m := 12) (by kernel_rfl) (by kernel_rfl) Tryz.underlying125 Tryz.underlying9 (by kernel_rfl) (by kernel_rfl) h h2
 refine ⟨h3, fun k hk => ?_⟩
 rw [h4 k (by simp; omega)]
 have : ((List.range 12).map wordL).getD k [] = wordL k := by
  simp [List.getD, show k < 12 by omega]
 rw [this]; rfl
end Go.Proofs.YtpbaobmegomfpabGreatDoor
namespace Go.Proofs.YtpbaobmegomfpabGreatDoor
open Go.RowKit
theorem leads_of {l : List (String × DataW Unit)} {w : World} (h : laidMet Tryz.prog l w) (hin : ("tillerman/say.leads", DataW.agg ((List.range 5).map fun k => .lit (.string (leadL k)))) ∈ l) : Leads w := by
 have h2 : ("tillerman/say.leads", DataW.agg (((List.range 5).map leadL).map fun s => .lit (.string s))) ∈ l := by
  rw [List.map_map]; exact hin
 obtain ⟨h3, h4⟩ := tab_of (P := Tryz.prog) (g := 0) (t := 103) (e := 9) (m := 5) (by kernel_rfl) (by kernel_rfl) Tryz.underlying103 Tryz.underlying9 (by kernel_rfl) (by kernel_rfl) h h2
 refine ⟨h3, fun k hk => ?_⟩
 rw [h4 k (by simp; omega)]
 have : ((List.range 5).map leadL).getD k [] = leadL k := by
  simp [List.getD, show k < 5 by omega]
 rw [this]; rfl
end Go.Proofs.YtpbaobmegomfpabGreatDoor
namespace Go.Proofs.YtpbaobmegomfpabGreatDoor
open Go.RowKit
theorem tabs_of {w : World} (h1 : Words w) (h2 : Leads w) : Tabs w w.heap.size := ⟨h1, h2, h1.room, h2.room⟩
end Go.Proofs.YtpbaobmegomfpabGreatDoor
namespace Go.Proofs.YtpbaobmegomfpabGreatDoor
open Go.RowKit
structure PrvAt (w wr : World) (B bO bW : Nat) (v1 v2 v3 r s : Value) (W : Wd) (snt : List ByteArray) (ds : List Deed) (rows : PL) : Prop where
 o : RowTo wr bO 29 3 [v1, v2, v3]
 x : RowTo wr bW 39 2 [r, s]
 d : DLst wr B v2 ds
 rw : Lst wr B v3 rows
 wld : Wld wr wr.heap.size r s W
 ob : bO < bW
 bb : B ≤ bW
 wb : w.heap.size ≤ bW
 bel : Below w.heap.size w wr
theorem PrvAt.below {w wr w' : World} {B bO bW : Nat} {v1 v2 v3 r s : Value} {W : Wd} {snt : List ByteArray} {ds : List Deed} {rows : PL} (h : PrvAt w wr B bO bW v1 v2 v3 r s W snt ds rows) (hb : Below wr.heap.size wr w') : PrvAt w w' B bO bW v1 v2 v3 r s W snt ds rows := by
 have hB : B ≤ wr.heap.size := Nat.le_trans h.bb (Nat.le_of_lt h.x.lt)
 exact ⟨h.o.below hb h.o.lt, h.x.below hb h.x.lt, h.d.keep (nL _) (fun p hp => hb.cell (Nat.lt_of_lt_of_le hp hB)), h.rw.below (hb.mono hB), h.wld.step hb, h.ob, h.bb, h.wb, bel_add' h.bel hb h.bel.size⟩
theorem PrvAt.next {w wr : World} {B bO bW : Nat} {v1 v2 v3 r2 s2 : Value} {D A : Option Addr} {n d m c : Nat} {W V : Wd} {snt : List ByteArray} {ds : List Deed} {rows : PL} (h : PrvAt w wr B bO bW v1 v2 v3 (.slice D n d) (.slice A m c) W snt ds rows) (hw : Wld wr wr.heap.size r2 s2 V) :
  PrvAt w ((wr.setCell ⟨bW, 0, none⟩ r2).setCell ⟨bW, 1, none⟩ s2) B bO bW v1 v2 v3 r2 s2 V snt ds rows := by
 have hk : ∀ b, b ≠ bW → ((wr.setCell ⟨bW, 0, none⟩ r2).setCell ⟨bW, 1, none⟩ s2).heap[b]? = wr.heap[b]? := fun b hb => by rw [Below.heap_setCell _ _ _ _ hb, Below.heap_setCell _ _ _ _ hb]
 have hob := h.ob
 have hbb := h.bb
 refine ⟨h.o.oth2 (by omega) _ _, h.x.set2 _ _, h.d.keep (nL _) (fun p hp => World.cell?_of_block (hk _ (by omega))), ?_, hw.set2 h.x _ _, h.ob, h.bb, h.wb, bel_set2 h.bel h.wb _ _⟩
 exact h.rw.keep (nL _) (fun p hp => World.cell?_of_block (hk _ (by omega)))
theorem topPrivate.laidFacts {W : World} (h : laidMetH Tryz.prog Rows.topPrivateRow.laid W) : Tabs W W.heap.size :=
 tabs_of (words_of h (by simp [Rows.topPrivateRow, Rows.laid_tillerman_say_words, List.range, List.range.loop, wordL])) (leads_of h (by simp [Rows.topPrivateRow, Rows.laid_tillerman_say_leads, List.range, List.range.loop, leadL]))
theorem top_private_pool {mode : Int} {n : Nat} (hn : n ≤ 8) {l : List Act} (hl : actsE l = 0) (hs : ∀ a ∈ l, a.kind = 1 ∧ No88 a.data) : ∃ V, Rep houseStart (ranM mode n l).deeds V ∧ V.rows = (ranM mode n l).e.w.rows := by
 have ha := pool_house hn mode hl
 have hr := top_private (mode := mode) (n := n) hl hs
 exact ⟨_, by unfold ranM; rw [ha.deeds]; exact hr, ha.rows.symm⟩
def PrvRel (w : World) (B bO bW : Nat) (v1 v2 v3 : Value) (V : Wd) (snt : List ByteArray) (ds : List Deed) (rows : PL) (k : Nat) (wr : World) : Prop :=
 ∃ D d A c, ∃ W : Wd, PrvAt w wr B bO bW v1 v2 v3 (.slice D W.rows.length d) (.slice A W.ss.length c) W snt ds rows ∧ Rep W (ds.drop k) V ∧ WorldOk W ∧ W.ss.length = 6
set_option maxHeartbeats 4000000 in
theorem walk_TopPrivate (v : Value) (l : List Raw) (mode srv : Int) (w : World) (hl : RLst w w.heap.size v l) (hm : (Lit.int .i64 mode).wf = true) (hs : (Lit.int .i64 srv).wf = true) (hT : Tabs w w.heap.size) :
  Calls Tryz.prog 6 #[v, .int .i64 mode, .int .i64 srv] w fun e w' => e = .returned (.bool true) ∧ Below w.heap.size w w' := by
 have hmb := i64_bd hm
 have hsb := i64_bd hs
 have hu := setupR_E mode srv
 have hE := run_E hu (Nat.le_trans (stayR_len (l := l) (most := 60) (n := 5)) (by omega)) (stayR_E (l := l) (most := 60) (n := 5) (by omega) (by omega))
 have hq := pickI_bd srv (m := 4) (by omega)
 have hpp := top_private_pool (mode := 1 + pickI mode 3) (n := (1 + pickI srv 4).toNat) (by omega) (stayR_E (l := l) (most := 60) (n := 5) (by omega) (by omega)) stayR_no
 have HS := jD (setup_any mode srv w hmb.1 hmb.2 hsb.1 hsb.2)
 have HT := jD hT
 have HA := jD (fun (wc : World) (h : Below w.heap.size w wc) => staying_any v l 60 5 wc (hl.step h) (hT.below h).wo (by omega) (by omega) (by omega))
 have HP := jD (fun (out : Value) (wc : World) (h : ALst wc wc.heap.size out (stayR l 60 5)) (hb : Below w.heap.size w wc) => playedT_any (1 + pickI mode 3) (1 + pickI srv 4) out _ wc h ((hT.below hb).up hb.size) hE)
 obtain ⟨E, e, rfl, he⟩ := hl.form
 generalize ranM (1 + pickI mode 3) (1 + pickI srv 4).toNat (stayR l 60 5) = m at *
 obtain ⟨V, hrep, hrows⟩ := hpp
 have HV := jD (And.intro hrep hrows)
 generalize stayR l 60 5 = al at *
 generalize 1 + pickI mode 3 = md at *
 generalize 1 + pickI srv 4 = sv at *
 have hmk : ∀ wc : World, (Instr.makeSlice 37 (.int .i64 6) (.int .i64 6)).run Tryz.prog wc = .ok (.slice (some ⟨wc.heap.size, 0, none⟩) 6 6) (wc.alloc (.cells (madeCells (Value.agg #[.int .i64 0, .slice none 0 0, .slice none 0 0, .slice none 0 0, .slice none 0 0]).cells (6 * 5)) 115)) := fun wc => make_sess 6 (by omega) wc
 clear hmb hsb hu hE hq hrep hrows hl hm hs hT
 go_enter Tryz.func6, Tryz.ntmps6
 go_wp2_with fail
 refine HS.out.mono ?_
 rintro e1 w1 ⟨rfl, hb1⟩
 go_wp2_with fail
 refine (HA.out _ hb1).mono ?_
 rintro e2 w2 ⟨out, rfl, ha, hb2⟩
 have HB2 := jD (bel_trans hb1 hb2)
 obtain ⟨A0, c0, rfl, _⟩ := ha.form
 go_wp2_with fail
 refine (HP.out _ _ ha HB2.out).mono ?_
 rintro e3 w3 ⟨v1, v2, v3, rfl, ho, hb3⟩
 obtain ⟨A1, c1, rfl, _⟩ := ho.s.form
 obtain ⟨A2, c2, rfl, _⟩ := ho.d.form
 obtain ⟨A3, c3, rfl, _⟩ := ho.r.form
 have hsm := ho.d.small
 have HO := jD ho
 have HB3 := jD (bel_trans HB2.out hb3)
 clear ho hb3 ha hb1 hb2 HS HA HP
 go_wp2_with fail
 go_loopw [31] (fun j wr => ∃ k : Nat, k ≤ m.deeds.length ∧ j = .int .i64 k ∧ Hid (PrvRel w w3.heap.size w3.heap.size (w3.heap.size + 1 + 1) (.slice A1 m.sent.length c1) (.slice A2 m.deeds.length c2) (.slice A3 m.e.w.rows.length c3) V m.sent m.deeds m.e.w.rows k wr)) (fun j _ => m.deeds.length - (intOf j).toNat)
 case atStart =>
  have b1 := (Below.refl w3.heap.size w3).alloc (nL _) (.cells #[.slice A1 m.sent.length c1, .slice A2 m.deeds.length c2, .slice A3 m.e.w.rows.length c3] 29)
  have b2 := b1.alloc (by simp) (.cells (madeCells #[.int .i64 0, .slice none 0 0, .slice none 0 0, .slice none 0 0, .slice none 0 0] 30) 115)
  have b3 := b2.alloc (by simp; omega) (.cells #[.slice none 0 0, .slice (some ⟨w3.heap.size + 1, 0, none⟩) 6 6] 39)
  have x1 := ((RowTo.whole w3 #[.slice A1 m.sent.length c1, .slice A2 m.deeds.length c2, .slice A3 m.e.w.rows.length c3] 29).alloc (.cells (madeCells #[.int .i64 0, .slice none 0 0, .slice none 0 0, .slice none 0 0, .slice none 0 0] 30) 115)).alloc (.cells #[.slice none 0 0, .slice (some ⟨w3.heap.size + 1, 0, none⟩) 6 6] 39)
  have x2 := (RowTo.whole (w3.alloc (.cells #[.slice A1 m.sent.length c1, .slice A2 m.deeds.length c2, .slice A3 m.e.w.rows.length c3] 29)) (madeCells #[.int .i64 0, .slice none 0 0, .slice none 0 0, .slice none 0 0, .slice none 0 0] (6 * 5)) 115).alloc (.cells #[.slice none 0 0, .slice (some ⟨w3.heap.size + 1, 0, none⟩) 6 6] 39)
  have x3 := RowTo.whole ((w3.alloc (.cells #[.slice A1 m.sent.length c1, .slice A2 m.deeds.length c2, .slice A3 m.e.w.rows.length c3] 29)).alloc (.cells (madeCells #[.int .i64 0, .slice none 0 0, .slice none 0 0, .slice none 0 0, .slice none 0 0] 30) 115)) #[.slice none 0 0, .slice (some ⟨w3.heap.size + 1, 0, none⟩) 6 6] 39
  rw [madeCells_size] at x2
  simp only [World.size_alloc] at x2 x3
  have hs := made_sess x2 (by omega)
  have hB3 := HB3.out.size
  exact ⟨0, by omega, rfl, none, 0, some ⟨w3.heap.size + 1, 0, none⟩, 6, houseStart, ⟨x1, x3, HO.out.d.keep (nL _) (fun q hq => b3.cell hq), HO.out.r.below b3, ⟨Lst.none_ _ _, hs⟩, by omega, by omega, by omega, bel_add' HB3.out b3 hB3⟩, HV.out.1, zeros_ok (by omega), rfl⟩
 case round =>
  obtain ⟨k, hk, rfl, HR⟩ := hrel
  obtain ⟨D, d, A, c, W, hP, hRep, hok, hss⟩ := HR.out
  have HSS := jD hss
  clear hss
  clear HO HB3 HR
  obtain ⟨a0, a1⟩ := cells2 hP.x
  obtain ⟨o0, o1, o2⟩ := cells3 hP.o
  have hal := hP.x.lt
  have hol := hP.o.lt
  by_cases hlt : k < m.deeds.length
  ·have HLT := jD hlt
   have hds : m.deeds.drop k = m.deeds[k] :: m.deeds.drop (k + 1) := List.drop_eq_getElem_cons hlt
   rw [hds] at hRep
   obtain ⟨b, off, rfl, hb, l0, l1, l2, l3, l4, l5, l6⟩ := hP.d.pt hlt
   generalize m.deeds[k] = x at *
   clear hds
   obtain ⟨r1, r2, r3, r4, r5⟩ := hRep
   have hcl : x.c < W.ss.length := by have := HSS.out; omega
   have HW2 := jD (doR_ok hok hcl r4)
   have hdo := fun (r s : Value) (wc : World) (h1 : Wld wc wc.heap.size r s W) (h2 : Words wc) => do_any r s W x.c x.r.k x.r.key x.r.val wc h1 h2 hok hcl r4
   have hq : doM W x.c x.r.k x.r.key x.r.val = doR W x.c x.r := rfl
   rw [hq, r1, r2] at hdo
   generalize (doR W x.c x.r).1 = W2 at *
   have HDO := jD hdo
   have HR5 := jD (And.intro r5 (show W2.ss.length = 6 by have := HW2.out.2; have := HSS.out; omega))
   have nd := (Below.refl wr.heap.size wr).alloc (nL _) (.cells #[.int .i64 x.c, .int .i64 x.r.k, .string x.r.key, .string x.r.val, .int .i64 x.a.kind, .string x.a.text, .int .i64 x.st] 70)
   have HP1 := jD (hP.below nd)
   have xd := RowTo.whole wr #[.int .i64 x.c, .int .i64 x.r.k, .string x.r.key, .string x.r.val, .int .i64 x.a.kind, .string x.a.text, .int .i64 x.st] 70
   have HXD := jD xd
   have hcI : ∀ j u, [.int .i64 x.c, .int .i64 x.r.k, .string x.r.key, .string x.r.val, .int .i64 x.a.kind, .string x.a.text, .int .i64 x.st][j]? = some u → (wr.alloc (.cells #[.int .i64 x.c, .int .i64 x.r.k, .string x.r.key, .string x.r.val, .int .i64 x.a.kind, .string x.a.text, .int .i64 x.st] 70)).cell? ⟨wr.heap.size, j, none⟩ = some u := fun j u hu => by
    obtain ⟨hj, hu⟩ := List.getElem?_eq_some_iff.1 hu
    rw [← hu]; exact xd.cell hj
   have HTW := jD (fun (wc : World) (h : Below w.heap.size w wc) => (HT.out.below h).wo)
   clear hP hok hdo r1 r2 r3 r4 r5 nd xd HV hcI
   go_wp2_with fail
   refine (HDO.out _ _ _ HP1.out.wld (HTW.out _ HP1.out.bel)).mono ?_
   rintro e4 w4 ⟨r2, s2, rfl, hw4, hb4⟩
   obtain ⟨D2, d2, rfl, _⟩ := hw4.rows.form
   obtain ⟨E2, e2', rfl, _⟩ := hw4.sess.form
   have nn := ((Below.refl w4.heap.size w4).alloc (nL _) (.cells #[.slice D2 W2.rows.length d2, .slice E2 W2.ss.length e2'] 39)).alloc (by simp) (.cells #[.int .i64 x.a.kind, .string x.a.text, .int .i64 x.st] 46)
   have hP4 := (HP1.out.below hb4).below nn
   have hX4 := (HXD.out.below hb4 HXD.out.lt).below nn (HXD.out.below hb4 HXD.out.lt).lt
   have z4 := hX4.cell (j := 4) (by simp)
   have z5 := hX4.cell (j := 5) (by simp)
   have z6 := hX4.cell (j := 6) (by simp)
   simp only [gCZ, gCS] at z4 z5 z6
   have hXl := hX4.lt
   have g0 := hP4.x.frozen 0
   have g1 := hP4.x.frozen 1
   obtain ⟨q0, q1⟩ := cells2 hP4.x
   obtain ⟨o0, o1, o2⟩ := cells3 hP4.o
   have hql := hP4.x.lt
   have HF := jD (hP4.next (hw4.step nn))
   clear hP4 hX4 nn hw4 hb4 HP1 HXD HDO
   unfold doGood
   go_wp2
   go_roundw
   case rel => exact ⟨k + 1, Nat.succ_le_of_lt HLT.out, by go_num, _, _, _, _, W2, HF.out, HR5.out.1, HW2.out.1, HR5.out.2⟩
   case measure => have := HLT.out; simp [intOf]; omega
  ·obtain rfl : k = m.deeds.length := by omega
   rw [List.drop_length] at hRep
   have hVW : V = W := hRep
   have hpr := hP.wld.rows
   rw [← hVW, HV.out.2] at hpr
   have HE := jD (equalP_same _ _ m.e.w.rows wr wr.heap.size hpr (hP.rw.more (Nat.le_of_lt (Nat.lt_of_le_of_lt hP.bb hP.x.lt))))
   have HB := jD hP.bel
   rw [show W.rows.length = m.e.w.rows.length by rw [← hVW, HV.out.2]] at a0
   clear hpr hP hRep hVW hok
   go_wp2_with fail
   refine HE.out.mono ?_
   rintro e4 w4 ⟨rfl, n4, rfl⟩
   go_wp2
   go_ret
   exact ⟨rfl, below_drewN HB.out _⟩
end Go.Proofs.YtpbaobmegomfpabGreatDoor
