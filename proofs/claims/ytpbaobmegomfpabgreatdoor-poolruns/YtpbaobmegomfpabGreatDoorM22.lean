/-
  Texts of the proof, one behind the other: DelP, PWo, WldP0.
-/
import Derived.Test.YtpbaobmegomfpabGreatDoorM21
import Derived.Test.YtpbaobmegomfpabGreatDoorM20
import Derived.Test.YtpbaobmegomfpabGreatDoorRows
import Derived.WalkKit
import Derived.WalkSpells
import Derived.WalkLawsBesides
import Derived.Lib.Hide
import Derived.IntWalk
import Derived.WalkSmall
import Derived.Deep.Upon
import Derived.ArgAppend
import Derived.Lib.SliceRun
import Derived.Test.YtpbaobmegomfpabGreatDoorM2
set_option linter.unusedVariables false
set_option linter.unusedSimpArgs false
set_option maxRecDepth 100000
open List renaming getElem_toArray → gTA, getElem_cons_zero → gCZ, getElem_cons_succ → gCS, setIfInBounds_toArray → sTA, set_cons_zero → sCZ, set_cons_succ → sCS
open Go.Lib renaming hid → jD
open Nat renaming le_refl → nL
namespace Go.Proofs.YtpbaobmegomfpabGreatDoor
open Go.RowKit
def encP (x : ByteArray × ByteArray) : List Value := [.string x.1, .string x.2]
section
variable {w : World} {b off cap : Nat} {d : List (ByteArray × ByteArray)}
theorem encP_each : ∀ e ∈ d.map encP, e.length = 2 := fun e he => by
 obtain ⟨x, _, rfl⟩ := List.mem_map.1 he
 rfl
theorem Rw.cP (h : Rw w 60 2 b off cap (d.map encP)) {i : Nat} (hi : i < d.length) : w.cell? ⟨b, off + i * 2, none⟩ = some (.string d[i].1) ∧ w.cell? ⟨b, off + i * 2 + 1, none⟩ = some (.string d[i].2) := by
 have hi' : i < (d.map encP).length := by simpa using hi
 have h0 := h.cell i hi' 0 (by omega)
 have h1 := h.cell i hi' 1 (by omega)
 rw [List.getElem_map] at h0
 rw [List.getElem_map] at h1
 exact ⟨by simpa [encP] using h0, by simpa [encP] using h1⟩
end
set_option maxHeartbeats 400000 in
theorem indexFuncP (lbv : Value) (p : ByteArray × ByteArray → Bool) (w : World) (b off cap B : Nat) (d : List (ByteArray × ByteArray)) (hR : Rw w 60 2 b off cap (d.map encP)) (hby : d.length ≤ 1000000000000000) (hB : B ≤ b)
  (hp : ∀ x ∈ d, ∀ wc, Below B w wc → Calls Tryz.prog 145 #[.agg #[.string x.1, .string x.2], lbv] wc fun e w' => e = .returned (.bool (p x)) ∧ Below wc.heap.size wc w') :
  Calls Tryz.prog 149 #[.slice (some ⟨b, off, none⟩) d.length cap, .func (.func 145) #[] #[lbv]] w fun e w' => (∃ i : Int, e = .returned (.int .i64 i) ∧ ((i = -1 ∧ ∀ x ∈ d, p x = false) ∨ ∃ k, ∃ hk : k < d.length, i = k ∧ p d[k] = true ∧ ∀ x ∈ d.take k, p x = false)) ∧ Below w.heap.size w w' := by
 have hbl := hR.row.lt
 have HR := jD hR
 have HP := jD hp
 have hcap : d.length ≤ cap := by simpa using hR.room
 clear hR hp
 go_enter Tryz.func149, Tryz.ntmps149
 go_wp2
 go_loopw [8] (fun i wr => ∃ k : Nat, k ≤ d.length ∧ i = .int .i64 k ∧ Hid ((∀ x ∈ d.take k, p x = false) ∧ Below w.heap.size w wr)) (fun i _ => d.length - (intOf i).toNat)
 case atStart => exact ⟨0, by omega, rfl, (fun x hx => by simp at hx), Below.refl _ _⟩
 case round =>
  obtain ⟨k, hk, rfl, HZ⟩ := hrel
  by_cases hlt : k < d.length
  ·have hRk := HR.out.below HZ.out.2 hbl
   obtain ⟨a0, a1⟩ := hRk.cP hlt
   have hblr : b < wr.heap.size := Nat.lt_of_lt_of_le hbl HZ.out.2.size
   have HC := jD (HP.out d[k] (List.getElem_mem hlt) wr (HZ.out.2.mono (by omega)))
   have HT := jD (fun (h : p d[k] = true) => (show ∃ k', ∃ hk : k' < d.length, (k : Int) = k' ∧ p d[k'] = true ∧ ∀ x ∈ d.take k', p x = false from ⟨k, hlt, rfl, h, HZ.out.1⟩))
   have HF := jD (fun (h : p d[k] = false) => (show ∀ x ∈ d.take (k + 1), p x = false from fun x hx => by
    rw [List.take_succ_eq_append_getElem hlt] at hx
    rcases List.mem_append.1 hx with hx | hx
    ·exact HZ.out.1 x hx
    ·rw [List.mem_singleton.1 hx]; exact h))
   have HZ2 := jD HZ.out.2
   generalize d[k] = x at *
   clear HZ hRk
   cases hq : p x with
   | true =>
    have HT2 := jD (HT.out hq)
    rw [hq] at HC
    clear HT HF hq
    go_wp2_with fail
    refine HC.out.mono ?_
    rintro e w2 ⟨rfl, hb2⟩
    have HB2 := jD (HZ2.out.trans (hb2.mono HZ2.out.size))
    clear hb2
    go_wp2
    go_ret
    exact ⟨⟨k, rfl, .inr HT2.out⟩, HB2.out⟩
   | false =>
    have HF2 := jD (HF.out hq)
    rw [hq] at HC
    clear HT HF hq
    go_wp2_with fail
    refine HC.out.mono ?_
    rintro e w2 ⟨rfl, hb2⟩
    have HB2 := jD (HZ2.out.trans (hb2.mono HZ2.out.size))
    clear hb2
    go_wp2
    go_roundw
    case rel => exact ⟨k + 1, by omega, by go_num, HF2.out, HB2.out⟩
    case measure => simp [intOf]; omega
  ·obtain rfl : k = d.length := by omega
   rw [List.take_length] at HZ
   go_wp2
   go_ret
   exact ⟨⟨-1, rfl, .inl ⟨rfl, HZ.out.1⟩⟩, HZ.out.2⟩
set_option maxHeartbeats 1000000 in
theorem deleteFuncP (lbv : Value) (p : ByteArray × ByteArray → Bool) (w : World) (b off cap B : Nat) (d : List (ByteArray × ByteArray)) (hR : Rw w 60 2 b off cap (d.map encP)) (hby : d.length ≤ 1000000000000000) (hB : B ≤ b)
  (hp : ∀ x ∈ d, ∀ wc, Below B w wc → Calls Tryz.prog 145 #[.agg #[.string x.1, .string x.2], lbv] wc fun e w' => e = .returned (.bool (p x)) ∧ Below wc.heap.size wc w') :
  Calls Tryz.prog 143 #[.slice (some ⟨b, off, none⟩) d.length cap, .func (.func 145) #[] #[lbv]] w fun e w' => e = .returned (.slice (some ⟨b, off, none⟩) (d.filter fun x => !p x).length cap) ∧ Rw w' 60 2 b off cap ((d.filter fun x => !p x).map encP) ∧ Below B w w' ∧ ∀ g, g < w.heap.size → g ≠ b → w'.heap[g]? = w.heap[g]? := by
 have hbl := hR.row.lt
 have HI := jD (indexFuncP lbv p w b off cap B d hR hby hB hp)
 have HR := jD hR
 have HP := jD hp
 have hcap : d.length ≤ cap := by simpa using hR.room
 clear hR hp
 go_enter Tryz.func143, Tryz.ntmps143
 go_wp2_with fail
 refine HI.out.mono ?_
 rintro e w1 ⟨⟨i, rfl, hi⟩, hb1⟩
 have HB1 := jD hb1
 clear HI hb1
 rcases hi with ⟨rfl, hall⟩ | ⟨k, hk, rfl, h1, h0⟩
 ·have HA := jD (show (d.filter fun x => !p x) = d from List.filter_eq_self.2 fun x hx => by rw [hall x hx]; rfl)
  clear hall
  go_wp2
  go_ret
  rw [HA.out]
  exact ⟨rfl, HR.out.below HB1.out hbl, HB1.out.mono (by omega), fun g hg _ => HB1.out.block g hg⟩
 ·have HK := jD (KeepI.start hk h1 h0)
  have hne : ((k : Int) == -1) = false := beq_eq_false_iff_ne.2 (by omega)
  clear h1 h0
  go_wp2_with fail
  go_loopw [5, 6, 7] (fun s5 s6 s7 wr => ∃ (i j : Nat) (dk : List (ByteArray × ByteArray)), s5 = .int .i64 i ∧ s6 = .int .i64 j ∧ i < j ∧ j ≤ d.length ∧ Hid (KeepI p d i j dk ∧ Rw wr 60 2 b off cap (dk.map encP) ∧ Below B w wr ∧ (w.heap.size ≤ wr.heap.size) ∧ ∀ g, g < w.heap.size → g ≠ b → wr.heap[g]? = w.heap[g]?)) (fun _ s6 _ _ => d.length - (intOf s6).toNat)
  case atStart => exact ⟨k, k + 1, d, rfl, by go_num, by omega, by omega, HK.out, HR.out.below HB1.out hbl, HB1.out.mono (by omega), HB1.out.size, fun g hg _ => HB1.out.block g hg⟩
  case round =>
   obtain ⟨i, j, dk, rfl, rfl, hij, hjn, HZ⟩ := hrel
   clear HK HB1
   by_cases hlt : j < d.length
   ·have hRk := HZ.out.2.1
    have hlk := HZ.out.1.len
    have c0 := hRk.cP (i := j) (by omega)
    have z0 := hRk.cP (i := i) (by omega)
    rw [HZ.out.1.at hlt] at c0
    obtain ⟨a0, a1⟩ := c0
    obtain ⟨z0, z1⟩ := z0
    have f0 := hRk.row.frozen (off + i * 2)
    have f1 := hRk.row.frozen (off + i * 2 + 1)
    have hbr := hRk.row.lt
    have y0 := (RowTo.whole wr #[.string d[j].1, .string d[j].2] 60).cell (j := 0) (by simp)
    have y1 := (RowTo.whole wr #[.string d[j].1, .string d[j].2] 60).cell (j := 1) (by simp)
    have HC := jD (HP.out d[j] (List.getElem_mem hlt) (wr.alloc (.cells #[.string d[j].1, .string d[j].2] 60)) (HZ.out.2.2.1.alloc (by have := HZ.out.2.2.2.1; omega) _))
    have HKK := jD (fun (h : p d[j] = false) => HZ.out.1.keep hlt h)
    have HKS := jD (fun (h : p d[j] = true) => HZ.out.1.skip hlt h)
    have hjI : (j : Int) < (d.length : Int) := by omega
    have HM := jD (List.getElem_mem hlt)
    generalize d[j] = x at *
    skip
    clear hRk
    cases hq : p x with
    | true =>
     have HK2 := jD (HKS.out hq)
     rw [hq] at HC
     clear HKS HKK hq
     go_wp2_with fail
     refine HC.out.mono ?_
     rintro e w2 ⟨rfl, hb2⟩
     have HB2 := jD hb2
     clear hb2
     have hw2 : Below (wr.alloc (.cells #[.string x.1, .string x.2] 60)).heap.size (wr.alloc (.cells #[.string x.1, .string x.2] 60)) w2 := HB2.out
     have hz2 := hw2.size
     simp only [World.size_alloc] at hz2
     have hn2 : ∀ g, g < wr.heap.size → w2.heap[g]? = wr.heap[g]? := fun g hg => (hw2.block g (by simp; omega)).trans (Below.heap_alloc _ _ _ hg)
     have H2 := jD (And.intro (HZ.out.2.1.keep (hn2 b hbr)) (And.intro (show Below B w w2 from (HZ.out.2.2.1.alloc (by have := HZ.out.2.2.2.1; omega) _).trans (hw2.mono (by simp; have := HZ.out.2.2.2.1; omega))) (And.intro (show w.heap.size ≤ w2.heap.size by have := HZ.out.2.2.2.1; have := hw2.size; omega) (fun g (hg : g < w.heap.size) (hne : g ≠ b) => (hn2 g (by have := HZ.out.2.2.2.1; omega)).trans (HZ.out.2.2.2.2 g hg hne)))))
     have hb2' : b < w2.heap.size := by have := hw2.size; simp at this; omega
     have u0 := (hw2.cell (p := ⟨wr.heap.size, 0, none⟩) (by simp)).trans y0
     have u1 := (hw2.cell (p := ⟨wr.heap.size, 1, none⟩) (by simp)).trans y1
     go_wp2
     go_roundw
     case rel => exact ⟨i, j + 1, dk, rfl, by go_num, by omega, by omega, HK2.out, H2.out.1, H2.out.2.1, H2.out.2.2.1, H2.out.2.2.2⟩
     case measure => simp [intOf]; omega
    | false =>
     have HK2 := jD (HKK.out hq)
     rw [hq] at HC
     clear HKS HKK hq
     go_wp2_with fail
     refine HC.out.mono ?_
     rintro e w2 ⟨rfl, hb2⟩
     have HB2 := jD hb2
     clear hb2
     have hw2 : Below (wr.alloc (.cells #[.string x.1, .string x.2] 60)).heap.size (wr.alloc (.cells #[.string x.1, .string x.2] 60)) w2 := HB2.out
     have hz2 := hw2.size
     simp only [World.size_alloc] at hz2
     have hn2 : ∀ g, g < wr.heap.size → w2.heap[g]? = wr.heap[g]? := fun g hg => (hw2.block g (by simp; omega)).trans (Below.heap_alloc _ _ _ hg)
     have H2 := jD (And.intro (HZ.out.2.1.keep (hn2 b hbr)) (And.intro (show Below B w w2 from (HZ.out.2.2.1.alloc (by have := HZ.out.2.2.2.1; omega) _).trans (hw2.mono (by simp; have := HZ.out.2.2.2.1; omega))) (And.intro (show w.heap.size ≤ w2.heap.size by have := HZ.out.2.2.2.1; have := hw2.size; omega) (fun g (hg : g < w.heap.size) (hne : g ≠ b) => (hn2 g (by have := HZ.out.2.2.2.1; omega)).trans (HZ.out.2.2.2.2 g hg hne)))))
     have hb2' : b < w2.heap.size := by have := hw2.size; simp at this; omega
     have u0 := (hw2.cell (p := ⟨wr.heap.size, 0, none⟩) (by simp)).trans y0
     have u1 := (hw2.cell (p := ⟨wr.heap.size, 1, none⟩) (by simp)).trans y1
     have hi2 : i < (dk.map encP).length := by rw [List.length_map, HZ.out.1.len]; omega
     have H3 := jD (And.intro (H2.out.1.set hi2 (e := encP x) rfl) (And.intro (below_setCells H2.out.2.1 hB (off + i * 2) (encP x)) (And.intro (show w.heap.size ≤ (w2.setCells b (off + i * 2) (encP x)).heap.size by rw [(setCells_keeps b _ _ _).2.2.2]; exact H2.out.2.2.1) (fun g (hg : g < w.heap.size) (hne : g ≠ b) => (setCells_other w2 b (off + i * 2) (encP x) hne).trans (H2.out.2.2.2 g hg hne)))))
     rw [← List.map_set] at H3
     have v0 := (World.cell?_of_block (a := ⟨b, off + i * 2, none⟩) (hn2 b hbr)).trans z0
     have g0 := (World.frozen?_of_block (a := ⟨b, off + i * 2, none⟩) (hn2 b hbr)).trans f0
     have v1 := (World.cell?_of_block (a := ⟨b, off + i * 2 + 1, none⟩) (hn2 b hbr)).trans z1
     have g1 := (World.frozen?_of_block (a := ⟨b, off + i * 2 + 1, none⟩) (hn2 b hbr)).trans f1
     simp only [World.setCells, encP] at H3
     go_wp2
     go_roundw
     case rel => exact ⟨i + 1, j + 1, dk.set i x, by go_num, by go_num, by omega, by omega, HK2.out, H3.out.1, H3.out.2.1, H3.out.2.2.1, H3.out.2.2.2⟩
     case measure => simp [intOf]; omega
   ·obtain rfl : j = d.length := by omega
    have hRk := HZ.out.2.1
    have hlk := HZ.out.1.len
    have hbr := hRk.row.lt
    have hcl : ∀ ty, (Builtin.clear_ #[27] ty #[.slice (some ⟨b, off + i * 2, none⟩) (d.length - i) (cap - i)]).run Tryz.prog wr = .ok (.tuple #[]) (wr.setCells b (off + i * 2) (Builtin.zeroCells ((.agg #[.string ⟨#[]⟩, .string ⟨#[]⟩]) : Value).cells (d.length - i)).toList) := fun ty => by
     refine run_clear_cells (P := Tryz.prog) wr 27 60 ty (.agg #[.string ⟨#[]⟩, .string ⟨#[]⟩]) Tryz.underlying27 Tryz.zeroValue60 (by simp [Value.cells, Value.oneCell']) (by decide) b (off + i * 2) (d.length - i) (cap - i) (by omega) (fun q hq => ?_) (fun q => hRk.row.frozen _)
     obtain ⟨u, hu⟩ := hRk.row.any (j := off + i * 2 + q) (by have : q < (d.length - i) * 2 := hq; have : d.length * 2 ≤ cap * 2 := Nat.mul_le_mul_right _ hcap; omega)
     rw [hu]; rfl
    have H2 := jD (hRk.behind (i := i) (by rw [List.length_map]; omega) (Builtin.zeroCells ((.agg #[.string ⟨#[]⟩, .string ⟨#[]⟩]) : Value).cells (d.length - i)).toList)
    rw [← List.map_take, HZ.out.1.done] at H2
    have HN := jD HZ.out.1.num
    have H3 := jD (And.intro (below_setCells HZ.out.2.2.1 hB (off + i * 2) (Builtin.zeroCells ((.agg #[.string ⟨#[]⟩, .string ⟨#[]⟩]) : Value).cells (d.length - i)).toList) (fun g (hg : g < w.heap.size) (hne : g ≠ b) => (setCells_other wr b (off + i * 2) (Builtin.zeroCells ((.agg #[.string ⟨#[]⟩, .string ⟨#[]⟩]) : Value).cells (d.length - i)).toList hne).trans (HZ.out.2.2.2.2 g hg hne)))
    clear hRk
    go_wp2
    go_ret
    refine ⟨by rw [HN.out]; rfl, H2.out, H3.out.1, H3.out.2⟩
set_option maxHeartbeats 400000 in
theorem indexFuncP_nil (A : Option Addr) (c : Nat) (fv : Value) (w : World) : Calls Tryz.prog 149 #[.slice A 0 c, .func (.func 145) #[] #[fv]] w fun e w' => e = .returned (.int .i64 (-1)) ∧ w' = w := by
 go_enter Tryz.func149, Tryz.ntmps149
 go_wp2
 go_loopw [8] (fun i wr => i = .int .i64 0 ∧ wr = w) (fun i _ => 0)
 case atStart => exact ⟨rfl, rfl⟩
 case round =>
  obtain ⟨rfl, rfl⟩ := hrel
  go_wp2
  go_ret
  exact ⟨rfl, rfl⟩
set_option maxHeartbeats 400000 in
theorem deleteFuncP_nil (A : Option Addr) (c : Nat) (fv : Value) (w : World) : Calls Tryz.prog 143 #[.slice A 0 c, .func (.func 145) #[] #[fv]] w fun e w' => e = .returned (.slice A 0 c) ∧ w' = w := by
 have HI := jD (indexFuncP_nil A c fv)
 go_enter Tryz.func143, Tryz.ntmps143
 go_wp2_with fail
 refine (HI.out _).mono ?_
 rintro e w1 ⟨rfl, rfl⟩
 go_wp2
 go_ret
 exact ⟨rfl, rfl⟩
theorem flat_encP (l : PL) : flat l = (l.map encP).flatten := by
 induction l with
 | nil => rfl
 | cons p l ih => rw [List.map_cons, List.flatten_cons, ← ih]; rfl
def ClonePost (w : World) (l : PL) (e : Ending) (w' : World) : Prop := (∃ v', e = .returned v' ∧ ((l = [] ∧ ∃ A c, v' = .slice A 0 c ∧ (A = none → c = 0)) ∨ (0 < l.length ∧ ∃ b cap, v' = .slice (some ⟨b, 0, none⟩) l.length cap ∧ w.heap.size ≤ b ∧ Rw w' 60 2 b 0 cap (l.map encP)))) ∧ Below w.heap.size w w'
set_option maxHeartbeats 400000 in
theorem cloneP_any (v : Value) (l : PL) (w : World) (hl : Lst w w.heap.size v l) : Calls Tryz.prog 144 #[v] w (ClonePost w l) := by
 obtain ⟨A, c, rfl, hc⟩ := hl.form
 cases A with
 | none =>
  have h0 := hl.nil _ _ rfl
  subst h0
  have hl0 : l = [] := List.eq_nil_of_length_eq_zero (by omega)
  subst hl0
  clear hl
  have hnil : ∀ w, (binOp .eql 27 (.slice none 0 0) (.slice none 0 0)).run Tryz.prog w = .ok (.bool true) w := fun w => Lib.run_eql_slice_nil (P := Tryz.prog) w 27 60 none 0 0 0 0 Tryz.underlying27
  go_enter Tryz.func144, Tryz.ntmps144
  go_wp2
  go_ret
  exact ⟨⟨_, rfl, .inl ⟨rfl, none, 0, rfl, fun _ => rfl⟩⟩, Below.refl _ _⟩
 | some a =>
 have hnil : ∀ w, (binOp .eql 27 (.slice (some a) l.length c) (.slice none 0 0)).run Tryz.prog w = .ok (.bool false) w := fun w => Lib.run_eql_slice_nil (P := Tryz.prog) w 27 60 (some a) l.length c 0 0 Tryz.underlying27
 rcases Nat.eq_zero_or_pos l.length with h0 | hpos
 ·have hl0 : l = [] := List.eq_nil_of_length_eq_zero h0
  subst hl0
  clear hl
  simp only [List.length_nil] at hnil
  go_enter Tryz.func144, Tryz.ntmps144
  go_wp2
  go_ret
  exact ⟨⟨_, rfl, .inl ⟨rfl, _, 0, rfl, fun h => by cases h⟩⟩, (Below.refl _ _).alloc (nL _) _⟩
 ·obtain ⟨i0, hi, hz0, hz1, hz2⟩ := info_parts pair_info
  obtain ⟨b, off, c', e, hb, hcs⟩ := hl.cells hpos
  injection e with e e5 e6
  injection e with e
  subst e e6
  clear e5
  have hby := hl.bytes
  have n0 := (Below.refl w.heap.size w).alloc (nL _) (.cells #[] 60)
  obtain ⟨v', w', hrun, hown, hgr⟩ := run_append_arg_grows (P := Tryz.prog) (w.alloc (.cells #[] 60)) 27 27 60 i0 _ 2 32 Tryz.underlying27 hi hz0 hz1 hz2 rfl (by omega) ⟨w.heap.size, 0, none⟩ 0 0 [] (by simp) (fun j u hu => by cases hu) ⟨b, off, none⟩ l.length c (flat l) (by rw [flat_length]) (fun j u hu => by
   rw [Addr.add_lit, n0.cell (p := ⟨b, off + j, none⟩) hb]
   rw [flat_encP] at hu
   have hj : j < l.length * 2 := by
    have := (List.getElem?_eq_some_iff.1 hu).1
    rw [flat_len (encP_each (d := l))] at this
    simpa using this
   have hd : j / 2 < l.length := by omega
   have h2 := flat_get (encP_each (d := l)) (i := j / 2) (by simpa using hd) (j := j % 2) (by omega)
   rw [show j / 2 * 2 + j % 2 = j by omega, hu, List.getElem_map] at h2
   obtain ⟨c0, c1⟩ := hcs (j / 2) hd
   rcases Nat.mod_two_eq_zero_or_one j with hm | hm
   ·rw [hm] at h2
    rw [show off + j = off + j / 2 * 2 by omega, c0, h2]; rfl
   ·rw [hm] at h2
    rw [show off + j = off + j / 2 * 2 + 1 by omega, c1, h2]; rfl) (by omega) (by unfold maxLen; omega) (by omega)
  rw [Nat.zero_add, List.nil_append, flat_encP] at hown
  obtain ⟨g, cap, rfl, hg, hlt, hs⟩ := ownsRow_sl hown hpos
  obtain ⟨b1, o1, c1, e1, e2, hrw⟩ := hs.rw (encP_each (d := l)) (by simp) hpos
  injection e2 with e2 _ e3
  injection e2 with e2
  injection e2 with e2 e4
  subst e2 e3 e4
  have HF := jD (And.intro hrw (And.intro (show w.heap.size ≤ g by have := hg; simp at this; omega) (n0.grown hgr n0.size (fun x hx => by cases hx))))
  clear hl hcs hown hgr hs hrw hb n0 hg hlt e1 hi hz0 hz1 hz2
  go_enter Tryz.func144, Tryz.ntmps144
  go_wp2_with (at_builtin; refine Lib.wpList_append_run _ rfl _ _ _ _ rfl _ _ rfl rfl _ _ hrun ?_)
  go_ret
  exact ⟨⟨_, rfl, .inr ⟨hpos, _, _, rfl, HF.out.2.1, HF.out.1⟩⟩, HF.out.2.2⟩
theorem lst_rw {w : World} {b cap : Nat} {l : PL} (h : Rw w 60 2 b 0 cap (l.map encP)) (hby : l.length * 32 ≤ 140737488351232) (hs : ∀ p ∈ l, p.1.size ≤ 140737488351232 ∧ p.2.size ≤ 140737488351232) : Lst w w.heap.size (.slice (some ⟨b, 0, none⟩) l.length cap) l := by
 have hroom : l.length ≤ cap := by simpa using h.room
 exact ⟨⟨_, _, rfl, hroom⟩, hby, hs, fun hn => ⟨b, 0, cap, rfl, h.row.lt, fun i hi => h.cP hi⟩, fun n c e => by injection e with e; cases e⟩
set_option maxHeartbeats 400000 in
theorem without_any (v v' : Value) (l o : PL) (w : World) (hl : Lst w w.heap.size v l) (ho : Lst w w.heap.size v' o) :
  Calls Tryz.prog 138 #[v, v'] w fun e w' => ∃ u, e = .returned u ∧ Lst w' w'.heap.size u (without l o) ∧ InP (fun b => w.heap.size ≤ b) u (without l o) ∧ Below w.heap.size w w' := by
 have n0 := (Below.refl w.heap.size w).alloc (nL _) (.cells #[v'] 27)
 have HCL := jD (cloneP_any v l _ ((hl.below n0).more n0.size))
 have HN := jD n0
 have X := (RowTo.whole w #[v'] 27).cell (j := 0) (by simp)
 have HX := jD (show (w.alloc (.cells #[v'] 27)).cell? ⟨w.heap.size, 0, none⟩ = some v' from X)
 have HO := jD ho
 have HL := jD hl
 obtain ⟨A', c', rfl, hc'⟩ := ho.form
 obtain ⟨A, c, rfl, hc⟩ := hl.form
 clear hl ho n0 X
 go_enter Tryz.func138, Tryz.ntmps138
 go_wp2_with fail
 refine HCL.out.mono ?_
 rintro e w1 ⟨⟨v1, rfl, hv1⟩, hb1⟩
 have hz1 := hb1.size
 simp only [World.size_alloc] at hz1
 have HB1 := jD (bel_add' HN.out hb1 HN.out.size)
 have HX1 := jD ((hb1.cell (p := ⟨w.heap.size, 0, none⟩) (by simp)).trans HX.out)
 clear HCL hb1
 rcases hv1 with ⟨hl0, A1, c1, rfl, hn1⟩ | ⟨hpos, b, cap, rfl, hb, hrw⟩
 ·have HE := jD (show without l o = [] by rw [hl0]; rfl)
  have HD := jD (deleteFuncP_nil A1 c1 (.pointer (some ⟨w.heap.size, 0, none⟩)))
  clear hl0
  go_wp2_with fail
  refine (HD.out _).mono ?_
  rintro e w2 ⟨rfl, rfl⟩
  go_wp2
  go_ret
  rw [HE.out]
  exact ⟨_, rfl, ⟨⟨_, _, rfl, Nat.zero_le _⟩, by simp, by simp, fun h => absurd h (by simp), fun n c e => by injection e with e1 _ e3; rw [← e3]; exact hn1 e1⟩, InP.nil_ _ _, HB1.out⟩
 ·have hb' : w.heap.size + 1 ≤ b := by simpa using hb
  have hby := HL.out.bytes
  have HD := jD (deleteFuncP (.pointer (some ⟨w.heap.size, 0, none⟩)) (fun q => o.any fun p => pairB p q) w1 b 0 cap (w.heap.size + 1) l hrw (by omega) hb' (fun x hx wc hwc => by
   have h1 : Below w.heap.size w wc := HB1.out.trans (hwc.mono (by omega))
   refine withoutC_any x (.slice A' o.length c') o w.heap.size wc ?_ ?_ ?_
   ·exact (HO.out.below h1).more h1.size
   ·exact (hwc.cell (p := ⟨w.heap.size, 0, none⟩) (by simp)).trans HX1.out
   ·have := hwc.size; omega))
  clear hrw
  go_wp2_with fail
  refine HD.out.mono ?_
  rintro e w2 ⟨rfl, hr2, hb2, _⟩
  have HF := jD (And.intro hr2 hb2)
  clear hr2 hb2 HD
  go_wp2
  go_ret
  have hw : without l o = l.filter fun q => !(o.any fun p => pairB p q) := rfl
  rw [hw]
  refine ⟨_, rfl, lst_rw HF.out.1 ?_ (fun p hp => HL.out.sizes p (List.mem_filter.1 hp).1), fun _ b' off n c e => ?_, HB1.out.trans (HF.out.2.mono (by omega))⟩
  ·have := List.length_filter_le (fun q => !(o.any fun p => pairB p q)) l
   omega
  ·injection e with e
   injection e with e
   injection e with e
   omega
structure WldP (w : World) (P : Nat → Prop) (r s : Value) (W : Wd) : Prop where
 wld : Wld w w.heap.size r s W
 rows : InP P r W.rows
 ses : 0 < W.ss.length → ∀ b off n c, s = .slice (some ⟨b, off, none⟩) n c → P b ∧ ∀ k j v (hk : k < W.ss.length), j < 4 → w.cell? ⟨b, off + k * 5 + (j + 1), none⟩ = some v → InP P v (W.ss[k].li j)
theorem WldP.mono {w : World} {P Q : Nat → Prop} {r s : Value} {W : Wd} (h : WldP w P r s W) (hpq : ∀ b, P b → Q b) : WldP w Q r s W :=
 ⟨h.wld, h.rows.mono hpq, fun hn b off n c e => ⟨hpq b (h.ses hn b off n c e).1, fun k j v hk hj hv => ((h.ses hn b off n c e).2 k j v hk hj hv).mono hpq⟩⟩
theorem WldP.at {w : World} {P : Nat → Prop} {r s : Value} {W : Wd} (h : WldP w P r s W) (hn : 0 < W.ss.length) : ∃ b off c, s = .slice (some ⟨b, off, none⟩) W.ss.length c ∧ P b ∧ b < w.heap.size ∧
  ∀ i (hi : i < W.ss.length), ∃ v1 v2 v3 v4, Ses w w.heap.size b (off + i * 5) W.ss[i] v1 v2 v3 v4 ∧ InP P v1 W.ss[i].set ∧ InP P v2 W.ss[i].prep ∧ InP P v3 W.ss[i].sav ∧ InP P v4 W.ss[i].wr := by
 obtain ⟨b, off, c, e, hb, hc⟩ := h.wld.sess.cells hn
 obtain ⟨hp, hl⟩ := h.ses hn b off _ c e
 refine ⟨b, off, c, e, hp, hb, fun i hi => ?_⟩
 obtain ⟨v1, v2, v3, v4, q⟩ := hc i hi
 exact ⟨v1, v2, v3, v4, q, hl i 0 _ hi (by omega) q.c1, hl i 1 _ hi (by omega) q.c2, hl i 2 _ hi (by omega) q.c3, hl i 3 _ hi (by omega) q.c4⟩
theorem WldP.mk' {w : World} {P : Nat → Prop} {r s : Value} {W : Wd} (hr : Lst w w.heap.size r W.rows) (hp : InP P r W.rows) (hf : ∃ A c, s = .slice A W.ss.length c ∧ W.ss.length ≤ c) (hby : W.ss.length * 104 ≤ 140737488351232)
  (hs : 0 < W.ss.length → ∃ b off c, s = .slice (some ⟨b, off, none⟩) W.ss.length c ∧ P b ∧ b < w.heap.size ∧
   ∀ i (hi : i < W.ss.length), ∃ v1 v2 v3 v4, Ses w w.heap.size b (off + i * 5) W.ss[i] v1 v2 v3 v4 ∧ InP P v1 W.ss[i].set ∧ InP P v2 W.ss[i].prep ∧ InP P v3 W.ss[i].sav ∧ InP P v4 W.ss[i].wr) : WldP w P r s W := by
 refine ⟨⟨hr, hf, hby, fun hn => ?_⟩, hp, fun hn b off n c e => ?_⟩
 ·obtain ⟨b, off, c, e, _, hb, hc⟩ := hs hn
  exact ⟨b, off, c, e, hb, fun i hi => by obtain ⟨v1, v2, v3, v4, q, _⟩ := hc i hi; exact ⟨v1, v2, v3, v4, q⟩⟩
 ·obtain ⟨b', off', c', e', hP, hb, hc⟩ := hs hn
  have he : b = b' ∧ off = off' := by rw [e] at e'; injection e' with e'; injection e' with e'; injection e' with e1 e2; exact ⟨e1, e2⟩
  obtain ⟨rfl, rfl⟩ := he
  refine ⟨hP, fun k j v hk hj hv => ?_⟩
  obtain ⟨v1, v2, v3, v4, q, p1, p2, p3, p4⟩ := hc k hk
  rcases j4 hj with rfl | rfl | rfl | rfl
  ·rw [q.c1] at hv; injection hv with hv; subst hv; exact p1
  ·rw [q.c2] at hv; injection hv with hv; subst hv; exact p2
  ·rw [q.c3] at hv; injection hv with hv; subst hv; exact p3
  ·rw [q.c4] at hv; injection hv with hv; subst hv; exact p4
theorem WldP.keep {w w' : World} {P : Nat → Prop} {r s : Value} {W : Wd} (h : WldP w P r s W) (hs : w.heap.size ≤ w'.heap.size) (hk : ∀ b, P b → b < w.heap.size → w'.heap[b]? = w.heap[b]?) : WldP w' P r s W := by
 have ll : ∀ {v : Value} {l : PL}, Lst w w.heap.size v l → InP P v l → Lst w' w'.heap.size v l := fun a b => a.keepP (own_lt a b) (fun x hx => hk x hx.1 hx.2) (fun x hx => Nat.lt_of_lt_of_le hx.2 hs)
 refine WldP.mk' (ll h.wld.rows h.rows) h.rows h.wld.sess.form h.wld.sess.bytes fun hn => ?_
 obtain ⟨b, off, c, e, hP, hb, hc⟩ := h.at hn
 have cs : ∀ j, w'.cell? ⟨b, j, none⟩ = w.cell? ⟨b, j, none⟩ := fun j => World.cell?_of_block (hk b hP hb)
 refine ⟨b, off, c, e, hP, Nat.lt_of_lt_of_le hb hs, fun i hi => ?_⟩
 obtain ⟨v1, v2, v3, v4, q, p1, p2, p3, p4⟩ := hc i hi
 exact ⟨v1, v2, v3, v4, ⟨(cs _).trans q.c0, (cs _).trans q.c1, (cs _).trans q.c2, (cs _).trans q.c3, (cs _).trans q.c4, ll q.l1 p1, ll q.l2 p2, ll q.l3 p3, ll q.l4 p4⟩, p1, p2, p3, p4⟩
theorem WldP.below {w w' : World} {P : Nat → Prop} {r s : Value} {W : Wd} (h : WldP w P r s W) (hb : Below w.heap.size w w') : WldP w' P r s W := h.keep hb.size fun b _ hlt => hb.block b hlt
theorem WldP.small {w : World} {P : Nat → Prop} {r s : Value} {W : Wd} (h : WldP w P r s W) : WldP w (fun b => P b ∧ b < w.heap.size) r s W := by
 refine WldP.mk' h.wld.rows (own_lt h.wld.rows h.rows) h.wld.sess.form h.wld.sess.bytes fun hn => ?_
 obtain ⟨b, off, c, e, hP, hb, hc⟩ := h.at hn
 refine ⟨b, off, c, e, ⟨hP, hb⟩, hb, fun i hi => ?_⟩
 obtain ⟨v1, v2, v3, v4, q, p1, p2, p3, p4⟩ := hc i hi
 exact ⟨v1, v2, v3, v4, q, own_lt q.l1 p1, own_lt q.l2 p2, own_lt q.l3 p3, own_lt q.l4 p4⟩
theorem Wld.p {w : World} {r s : Value} {W : Wd} (h : Wld w w.heap.size r s W) : WldP w (fun b => b < w.heap.size) r s W := by
 refine WldP.mk' h.rows h.rows.inP h.sess.form h.sess.bytes fun hn => ?_
 obtain ⟨b, off, c, e, hb, hc⟩ := h.sess.cells hn
 refine ⟨b, off, c, e, hb, hb, fun i hi => ?_⟩
 obtain ⟨v1, v2, v3, v4, q⟩ := hc i hi
 exact ⟨v1, v2, v3, v4, q, q.l1.inP, q.l2.inP, q.l3.inP, q.l4.inP⟩
end Go.Proofs.YtpbaobmegomfpabGreatDoor
