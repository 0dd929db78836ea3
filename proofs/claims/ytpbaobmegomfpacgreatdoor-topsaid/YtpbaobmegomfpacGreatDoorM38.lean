/-
  Texts of the proof, one behind the other: OutM, POut, PSta, PSetup, ActL.
-/
import Derived.Test.YtpbaobmegomfpacGreatDoorM24
import Derived.Test.YtpbaobmegomfpacGreatDoorM21
import Derived.Test.YtpbaobmegomfpacGreatDoorM34
import Derived.Lib.SlBytesRow
import Derived.Lib.BufferRead
import Derived.Test.YtpbaobmegomfpacGreatDoorM37
import Derived.Test.YtpbaobmegomfpacGreatDoorM28
import Derived.Test.YtpbaobmegomfpacGreatDoorM19
import Derived.Test.YtpbaobmegomfpacGreatDoorRows
import Derived.Below
import Derived.WalkKit
import Derived.WalkSpells
import Derived.WalkLawsBesides
import Derived.Lib.Hide
import Derived.Test.YtpbaobmegomfpacGreatDoorM2
import Derived.Test.YtpbaobmegomfpacGreatDoorM1
set_option linter.unusedVariables false
set_option linter.unusedSimpArgs false
set_option maxRecDepth 100000
open List renaming getElem_toArray → gTA, getElem_cons_zero → gCZ, getElem_cons_succ → gCS, setIfInBounds_toArray → sTA, set_cons_zero → sCZ, set_cons_succ → sCS
open Go.Lib renaming hid → jD
open Nat renaming le_refl → nL
namespace Go.Proofs.YtpbaobmegomfpacGreatDoor
open Go.RowKit
structure TLst (w : World) (B : Nat) (v : Value) (l : List ByteArray) : Prop where
 form : ∃ A c, v = .slice A l.length c ∧ l.length ≤ c
 small : l.length ≤ 1000000
 sizes : ∀ t ∈ l, t.size ≤ 100000000
 cells : 0 < l.length → ∃ b off c, v = .slice (some ⟨b, off, none⟩) l.length c ∧ b < B ∧ ∀ i (h : i < l.length), w.cell? ⟨b, off + i, none⟩ = some (.string l[i])
structure DLst (w : World) (B : Nat) (v : Value) (l : List Deed) : Prop where
 form : ∃ A c, v = .slice A l.length c ∧ l.length ≤ c
 small : l.length ≤ 1000000
 cells : 0 < l.length → ∃ b off c, v = .slice (some ⟨b, off, none⟩) l.length c ∧ b < B ∧ ∀ i (h : i < l.length) j u, (deedV l[i])[j]? = some u → w.cell? ⟨b, off + i * 7 + j, none⟩ = some u
section
variable {w w' : World} {B B' : Nat} {v : Value}
theorem TLst.keep {l : List ByteArray} (h : TLst w B v l) (hB : B ≤ B') (hk : ∀ p : Addr, p.block < B → w'.cell? p = w.cell? p) : TLst w' B' v l := by
 refine ⟨h.form, h.small, h.sizes, fun hn => ?_⟩
 obtain ⟨b, off, c, e, hb, hc⟩ := h.cells hn
 exact ⟨b, off, c, e, by omega, fun i hi => (hk _ hb).trans (hc i hi)⟩
theorem TLst.step {l : List ByteArray} (h : TLst w w.heap.size v l) (hb : Below w.heap.size w w') : TLst w' w'.heap.size v l := h.keep hb.size fun _ hp => hb.cell hp
theorem TLst.pt {n c : Nat} {A : Option Addr} {l : List ByteArray} (h : TLst w B (.slice A n c) l) {k : Nat} (hk : k < l.length) : ∃ b off, A = some ⟨b, off, none⟩ ∧ b < B ∧ w.cell? ⟨b, off + k, none⟩ = some (.string l[k]) := by
 obtain ⟨b, off, c', e, hb, hc⟩ := h.cells (by omega)
 injection e with e1 e2 e3
 exact ⟨b, off, e1, hb, hc k hk⟩
theorem DLst.keep {l : List Deed} (h : DLst w B v l) (hB : B ≤ B') (hk : ∀ p : Addr, p.block < B → w'.cell? p = w.cell? p) : DLst w' B' v l := by
 refine ⟨h.form, h.small, fun hn => ?_⟩
 obtain ⟨b, off, c, e, hb, hc⟩ := h.cells hn
 exact ⟨b, off, c, e, by omega, fun i hi j u hu => (hk _ hb).trans (hc i hi j u hu)⟩
theorem DLst.step {l : List Deed} (h : DLst w w.heap.size v l) (hb : Below w.heap.size w w') : DLst w' w'.heap.size v l := h.keep hb.size fun _ hp => hb.cell hp
theorem DLst.pt {n c : Nat} {A : Option Addr} {l : List Deed} (h : DLst w B (.slice A n c) l) {k : Nat} (hk : k < l.length) : ∃ b off, A = some ⟨b, off, none⟩ ∧ b < B ∧ w.cell? ⟨b, off + k * 7, none⟩ = some (.int .i64 l[k].c) ∧ w.cell? ⟨b, off + k * 7 + 1, none⟩ = some (.int .i64 l[k].r.k) ∧ w.cell? ⟨b, off + k * 7 + 2, none⟩ = some (.string l[k].r.key) ∧
  w.cell? ⟨b, off + k * 7 + 3, none⟩ = some (.string l[k].r.val) ∧ w.cell? ⟨b, off + k * 7 + 4, none⟩ = some (.int .i64 l[k].a.kind) ∧ w.cell? ⟨b, off + k * 7 + 5, none⟩ = some (.string l[k].a.text) ∧ w.cell? ⟨b, off + k * 7 + 6, none⟩ = some (.int .i64 l[k].st) := by
 obtain ⟨b, off, c', e, hb, hc⟩ := h.cells (by omega)
 injection e with e1 e2 e3
 exact ⟨b, off, e1, hb, hc k hk 0 _ rfl, hc k hk 1 _ rfl, hc k hk 2 _ rfl, hc k hk 3 _ rfl, hc k hk 4 _ rfl, hc k hk 5 _ rfl, hc k hk 6 _ rfl⟩
end
structure OutV (w : World) (v1 v2 v3 : Value) (sent : List ByteArray) (deeds : List Deed) (rows : PL) : Prop where
 s : TLst w w.heap.size v1 sent
 d : DLst w w.heap.size v2 deeds
 r : Lst w w.heap.size v3 rows
theorem OutV.step {w w' : World} {v1 v2 v3 : Value} {sent : List ByteArray} {deeds : List Deed} {rows : PL} (h : OutV w v1 v2 v3 sent deeds rows) (hb : Below w.heap.size w w') : OutV w' v1 v2 v3 sent deeds rows :=
 ⟨h.s.step hb, h.d.step hb, (h.r.below hb).more hb.size⟩
theorem row_tlst {w : World} {g t n c : Nat} {l : List ByteArray} (h : RowTo w g t n (l.map Value.string)) (hc : l.length ≤ c) (hl : l.length ≤ 1000000) (hs : ∀ t ∈ l, t.size ≤ 100000000) : TLst w w.heap.size (.slice (some ⟨g, 0, none⟩) l.length c) l := by
 refine ⟨⟨_, _, rfl, hc⟩, hl, hs, fun _ => ⟨g, 0, c, rfl, h.lt, fun i hi => ?_⟩⟩
 have := h.cell (j := i) (by simpa using hi)
 rw [List.getElem_map] at this
 rw [Nat.zero_add]; exact this
theorem sl_dlst {w : World} {t : Nat} {v : Value} {g : Option Nat} {l : List Deed} (h : Sl w t 7 v g l.length (l.map deedV).flatten) (hl : l.length ≤ 1000000) (hg : ∀ b, g = some b → b < w.heap.size) : DLst w w.heap.size v l := by
 obtain ⟨A, c, rfl, hc⟩ := h.shape
 refine ⟨⟨A, c, rfl, hc⟩, hl, fun hn => ?_⟩
 obtain ⟨b, off, cap, h1, h2, h3, h4⟩ := h.at hn
 refine ⟨b, off, cap, h2, hg b h1, fun i hi j u hu => ?_⟩
 have hj : j < 7 := (List.getElem?_eq_some_iff.1 hu).1
 have hf := flat_get (d := l.map deedV) (size := 7) (fun e he => by obtain ⟨x, _, rfl⟩ := List.mem_map.1 he; rfl) (i := i) (by simpa using hi) hj
 rw [List.getElem_map, hu] at hf
 obtain ⟨hlt, hv⟩ := List.getElem?_eq_some_iff.1 hf
 rw [Nat.add_assoc, h4 _ hlt, hv]
theorem ba_zero {s : ByteArray} (h : s.size = 0) : s = ⟨#[]⟩ := ba_ext (by
 have : s.data.toList.length = 0 := by simpa using h
 rw [List.eq_nil_of_length_eq_zero this])
theorem idx0 (v0 v1 v2 v3 v4 v5 : Value) (w : World) : (Instr.index 92 (.agg #[v0, v1, v2, v3, v4, v5]) (.int .i64 0)).run Tryz.prog w = .ok v0 w := by kernel_rfl
theorem idx1 (v0 v1 v2 v3 v4 v5 : Value) (w : World) : (Instr.index 92 (.agg #[v0, v1, v2, v3, v4, v5]) (.int .i64 1)).run Tryz.prog w = .ok v1 w := by kernel_rfl
theorem idx2 (v0 v1 v2 v3 v4 v5 : Value) (w : World) : (Instr.index 92 (.agg #[v0, v1, v2, v3, v4, v5]) (.int .i64 2)).run Tryz.prog w = .ok v2 w := by kernel_rfl
theorem idx3 (v0 v1 v2 v3 v4 v5 : Value) (w : World) : (Instr.index 92 (.agg #[v0, v1, v2, v3, v4, v5]) (.int .i64 3)).run Tryz.prog w = .ok v3 w := by kernel_rfl
theorem idx4 (v0 v1 v2 v3 v4 v5 : Value) (w : World) : (Instr.index 92 (.agg #[v0, v1, v2, v3, v4, v5]) (.int .i64 4)).run Tryz.prog w = .ok v4 w := by kernel_rfl
theorem idx5 (v0 v1 v2 v3 v4 v5 : Value) (w : World) : (Instr.index 92 (.agg #[v0, v1, v2, v3, v4, v5]) (.int .i64 5)).run Tryz.prog w = .ok v5 w := by kernel_rfl
theorem str_row : (Tryz.prog.info? 9).map (fun i => (i.zero, i.size, i.bytes)) = some (some (.string ⟨#[]⟩), 1, 16) := by kernel_rfl
theorem make_str6 (w : World) : (Instr.makeSlice 23 (.int .i64 6) (.int .i64 6)).run Tryz.prog w = .ok (.slice (some ⟨w.heap.size, 0, none⟩) 6 6) (w.alloc (.cells #[.string ⟨#[]⟩, .string ⟨#[]⟩, .string ⟨#[]⟩, .string ⟨#[]⟩, .string ⟨#[]⟩, .string ⟨#[]⟩] 9)) := by
 obtain ⟨i0, hi, hz0, hz1, hz2⟩ := info_parts str_row
 have hr := run_make (P := Tryz.prog) w 23 9 i0 _ Tryz.underlying23 hi hz0 .i64 .i64 6 6 (by omega) (Int.le_refl _) (by rw [hz2]; omega) (by omega)
 rw [hz1] at hr
 have e : madeCells (Value.string ⟨#[]⟩).cells 6 = #[.string ⟨#[]⟩, .string ⟨#[]⟩, .string ⟨#[]⟩, .string ⟨#[]⟩, .string ⟨#[]⟩, .string ⟨#[]⟩] := by kernel_rfl
 rw [show Int.toNat 6 * 1 = 6 from rfl, e] at hr
 exact hr
section
variable {base P : Nat} {f : Nat → Value} {G : Nat → Option Nat} {mode : Int} {m : Mach PE} {N : Nat}
theorem PMem.sentSl {w : World} (h : PMem 0 w base P f G mode m) {c : Nat} (hc : c < 6) : Sl w 5 1 (f (41 + c)) (G (9 + c)) (m.sent.getD c ⟨#[]⟩).size ((m.sent.getD c ⟨#[]⟩).data.toList.map (fun b => Value.int .u8 (b.toNat : Int))) := by
 have e1 : slC (9 + c) = 41 + c := by unfold slC; rw [if_neg (by omega), if_neg (by omega), if_neg (by omega), if_pos (by omega)]; omega
 have e2 : slT (9 + c) = 5 := by unfold slT; rw [if_neg (by omega), if_neg (by omega), if_neg (by omega), if_pos (by omega)]
 have e3 : slZ (9 + c) = 1 := by unfold slZ; rw [if_neg (by omega), if_neg (by omega), if_pos (by omega)]
 have hsl := h.sl (9 + c) (by omega) (by omega) (by omega)
 rw [e1, e2, e3, items_sent _ hc, flat_ones, List.length_map] at hsl
 exact hsl
theorem sent_conv {w wx : World} (h : PMem 0 w base P f G mode m) {c : Nat} (hc : c < 6) (hb : Below w.heap.size w wx) : (convert 79 9 (f (41 + c))).run Tryz.prog wx = .ok (.string (m.sent.getD c ⟨#[]⟩)) wx := by
 rcases (h.sentSl hc).form with ⟨_, hv, h0⟩ | ⟨b, off, cap, tot, hg, hv, hcap, _, _, hcell⟩
 ·rw [hv, ba_zero h0]
  exact Lib.run_convert_nil_bytes (P := Tryz.prog) wx 79 9 5 0 Tryz.underlying79 Tryz.underlying5 Tryz.underlying9
 ·rw [hv]
  refine Lib.run_convert_whole (P := Tryz.prog) wx 79 5 9 Tryz.underlying79 Tryz.underlying5 Tryz.underlying9 b off _ (fun i hi => ?_) cap
  have hbl := (h.lo _ b hg).2
  rw [hb.cell (p := ⟨b, off + i, none⟩) hbl, hcell i (by simpa using hi), List.getElem_map]
  rfl
def OutRel (w : World) (R Q : Nat) (sent : List ByteArray) (k : Nat) (wr : World) : Prop := RowTo wr Q 9 6 ((sent.take k).map Value.string) ∧ RowTo wr R 27 3 [.slice none 0 0, .slice none 0 0, .slice none 0 0] ∧ Below w.heap.size w wr
set_option maxHeartbeats 2000000 in
theorem outcome_any (w : World) (h : PMem 0 w base P f G mode m) (hI : Inv mode m N) (hN : N ≤ 300000) :
  Calls Tryz.prog 44 #[ptr P 0] w fun e w' => ∃ v1 v2 v3, e = .returned (.agg #[v1, v2, v3]) ∧ OutV w' v1 v2 v3 m.sent m.deeds m.e.w.rows ∧ Below w.heap.size w w' := by
 have hP := h.row.lt
 have hs6 := hI.ok.s6
 have n0 := ((Below.refl w.heap.size w).alloc (nL _) (.cells #[.slice none 0 0, .slice none 0 0, .slice none 0 0] 27)).alloc (by simp) (.cells #[.string ⟨#[]⟩, .string ⟨#[]⟩, .string ⟨#[]⟩, .string ⟨#[]⟩, .string ⟨#[]⟩, .string ⟨#[]⟩] 9)
 have X1 := (RowTo.whole w #[.slice none 0 0, .slice none 0 0, .slice none 0 0] 27).alloc (.cells #[.string ⟨#[]⟩, .string ⟨#[]⟩, .string ⟨#[]⟩, .string ⟨#[]⟩, .string ⟨#[]⟩, .string ⟨#[]⟩] 9)
 have X2 := (RowTo.whole (w.alloc (.cells #[.slice none 0 0, .slice none 0 0, .slice none 0 0] 27)) #[.string ⟨#[]⟩, .string ⟨#[]⟩, .string ⟨#[]⟩, .string ⟨#[]⟩, .string ⟨#[]⟩, .string ⟨#[]⟩] 9).front 0
 simp only [World.size_alloc, List.take_zero] at X2
 obtain ⟨A0, l0, q0, hf0'⟩ : ∃ A n q, f 41 = .slice A n q := by
  obtain ⟨A, q, e, _⟩ := (h.sentSl (c := 0) (by omega)).shape
  exact ⟨A, _, q, e⟩
 have y0 := (n0.cell (p := ⟨P, 41, none⟩) hP).trans (h.row.cell (j := 41) (by omega))
 rw [hf0'] at y0
 obtain ⟨A1, l1, q1, hf1'⟩ : ∃ A n q, f 42 = .slice A n q := by
  obtain ⟨A, q, e, _⟩ := (h.sentSl (c := 1) (by omega)).shape
  exact ⟨A, _, q, e⟩
 have y1 := (n0.cell (p := ⟨P, 42, none⟩) hP).trans (h.row.cell (j := 42) (by omega))
 rw [hf1'] at y1
 obtain ⟨A2, l2, q2, hf2'⟩ : ∃ A n q, f 43 = .slice A n q := by
  obtain ⟨A, q, e, _⟩ := (h.sentSl (c := 2) (by omega)).shape
  exact ⟨A, _, q, e⟩
 have y2 := (n0.cell (p := ⟨P, 43, none⟩) hP).trans (h.row.cell (j := 43) (by omega))
 rw [hf2'] at y2
 obtain ⟨A3, l3, q3, hf3'⟩ : ∃ A n q, f 44 = .slice A n q := by
  obtain ⟨A, q, e, _⟩ := (h.sentSl (c := 3) (by omega)).shape
  exact ⟨A, _, q, e⟩
 have y3 := (n0.cell (p := ⟨P, 44, none⟩) hP).trans (h.row.cell (j := 44) (by omega))
 rw [hf3'] at y3
 obtain ⟨A4, l4, q4, hf4'⟩ : ∃ A n q, f 45 = .slice A n q := by
  obtain ⟨A, q, e, _⟩ := (h.sentSl (c := 4) (by omega)).shape
  exact ⟨A, _, q, e⟩
 have y4 := (n0.cell (p := ⟨P, 45, none⟩) hP).trans (h.row.cell (j := 45) (by omega))
 rw [hf4'] at y4
 obtain ⟨A5, l5, q5, hf5'⟩ : ∃ A n q, f 46 = .slice A n q := by
  obtain ⟨A, q, e, _⟩ := (h.sentSl (c := 5) (by omega)).shape
  exact ⟨A, _, q, e⟩
 have y5 := (n0.cell (p := ⟨P, 46, none⟩) hP).trans (h.row.cell (j := 46) (by omega))
 rw [hf5'] at y5
 have HR0 : Hid (OutRel w w.heap.size (w.heap.size + 1) m.sent 0 ((w.alloc (.cells #[.slice none 0 0, .slice none 0 0, .slice none 0 0] 27)).alloc (.cells #[.string ⟨#[]⟩, .string ⟨#[]⟩, .string ⟨#[]⟩, .string ⟨#[]⟩, .string ⟨#[]⟩, .string ⟨#[]⟩] 9))) := jD ⟨X2, X1, n0⟩
 have HH := jD h
 have HI := jD hI
 have HS6 := jD hs6
 have hQs : P < w.heap.size + 1 + 1 := by omega
 have hmk := make_str6
 clear h hI X1 X2 n0 hs6
 unfold ptr
 go_enter Tryz.func44, Tryz.ntmps44
 go_wp2_with fail
 go_loopw [11] (fun i wr => ∃ k : Nat, k ≤ 6 ∧ i = .int .i64 k ∧ Hid (OutRel w w.heap.size (w.heap.size + 1) m.sent k wr)) (fun i _ => 6 - (intOf i).toNat)
 case atStart => exact ⟨0, by omega, rfl, HR0.out⟩
 case round =>
  obtain ⟨k, hk, rfl, HZ⟩ := hrel
  have hQl := HZ.out.1.lt
  have hRl := HZ.out.2.1.lt
  by_cases hlt : k < 6
  ·have hkm : k < m.sent.length := by rw [HS6.out]; exact hlt
   have hln : (((m.sent.take k).map Value.string)).length = k := by rw [List.length_map, List.length_take]; omega
   obtain ⟨u, hu⟩ := HZ.out.1.any (j := k) (by omega)
   have hfz := HZ.out.1.frozen k
   have hcv := sent_conv HH.out hlt HZ.out.2.2
   have hpush := HZ.out.1.push (by rw [hln]; exact hlt) (.string (m.sent.getD k ⟨#[]⟩)) (j := k) hln.symm
   have htk : (m.sent.take k).map Value.string ++ [.string (m.sent.getD k ⟨#[]⟩)] = (m.sent.take (k + 1)).map Value.string := by
    rw [List.take_succ_eq_append_getElem hkm, List.map_append, List.getD_eq_getElem?_getD, List.getElem?_eq_getElem hkm]; rfl
   rw [htk] at hpush
   have hkI : (k : Int) < 6 := by omega
   have HZ2 : Hid (OutRel w w.heap.size (w.heap.size + 1) m.sent (k + 1) (wr.setCell ⟨w.heap.size + 1, k, none⟩ (.string (m.sent.getD k ⟨#[]⟩)))) := jD ⟨hpush, HZ.out.2.1.other (by show w.heap.size + 1 ≠ w.heap.size; omega) _, HZ.out.2.2.setCell (p := ⟨w.heap.size + 1, k, none⟩) (by show w.heap.size ≤ w.heap.size + 1; omega) _⟩
   clear hpush htk hln hkm HR0
   generalize m.sent.getD k ⟨#[]⟩ = sk at *
   obtain rfl | rfl | rfl | rfl | rfl | rfl : k = 0 ∨ k = 1 ∨ k = 2 ∨ k = 3 ∨ k = 4 ∨ k = 5 := by omega
   ·have hcv' : (convert 79 9 (f 41)).run Tryz.prog wr = .ok (.string sk) wr := hcv
    rw [hf0'] at hcv'
    clear hcv
    have hix := idx0
    go_wp2
    go_roundw
    case rel => exact ⟨0 + 1, by omega, by go_num, HZ2.out⟩
    case measure => simp [intOf]
   ·have hcv' : (convert 79 9 (f 42)).run Tryz.prog wr = .ok (.string sk) wr := hcv
    rw [hf1'] at hcv'
    clear hcv
    have hix := idx1
    go_wp2
    go_roundw
    case rel => exact ⟨1 + 1, by omega, by go_num, HZ2.out⟩
    case measure => simp [intOf]
   ·have hcv' : (convert 79 9 (f 43)).run Tryz.prog wr = .ok (.string sk) wr := hcv
    rw [hf2'] at hcv'
    clear hcv
    have hix := idx2
    go_wp2
    go_roundw
    case rel => exact ⟨2 + 1, by omega, by go_num, HZ2.out⟩
    case measure => simp [intOf]
   ·have hcv' : (convert 79 9 (f 44)).run Tryz.prog wr = .ok (.string sk) wr := hcv
    rw [hf3'] at hcv'
    clear hcv
    have hix := idx3
    go_wp2
    go_roundw
    case rel => exact ⟨3 + 1, by omega, by go_num, HZ2.out⟩
    case measure => simp [intOf]
   ·have hcv' : (convert 79 9 (f 45)).run Tryz.prog wr = .ok (.string sk) wr := hcv
    rw [hf4'] at hcv'
    clear hcv
    have hix := idx4
    go_wp2
    go_roundw
    case rel => exact ⟨4 + 1, by omega, by go_num, HZ2.out⟩
    case measure => simp [intOf]
   ·have hcv' : (convert 79 9 (f 46)).run Tryz.prog wr = .ok (.string sk) wr := hcv
    rw [hf5'] at hcv'
    clear hcv
    have hix := idx5
    go_wp2
    go_roundw
    case rel => exact ⟨5 + 1, by omega, by go_num, HZ2.out⟩
    case measure => simp [intOf]
  ·obtain rfl : k = 6 := by omega
   have hB := HZ.out.2.2
   have hM := HH.out.below hB
   have c47 := hM.row.cell (j := 47) (by omega)
   have c1 := hM.row.cell (j := 1) (by omega)
   have hPr := hM.row.lt
   obtain ⟨D4, d4, hf47, _⟩ := (HH.out.sl 15 (by omega) (by omega) (by omega)).shape
   rw [items_deeds, List.length_map] at hf47
   have hf47' : f 47 = .slice D4 m.deeds.length d4 := hf47
   obtain ⟨E1, e1, hf1, _⟩ := HH.out.wld.wld.rows.form
   rw [hf47'] at c47
   rw [hf1] at c1
   have hD := HI.out.deeds hN
   have hTk : m.sent.take 6 = m.sent := List.take_of_length_le (by rw [HS6.out]; exact nL _)
   have HSZ := jD (show ∀ t ∈ m.sent, t.size ≤ 100000000 from fun t ht => by
    obtain ⟨i, hi, rfl⟩ := List.getElem_of_mem ht
    have := HI.out.sent hN i
    rw [List.getD_eq_getElem?_getD, List.getElem?_eq_getElem hi] at this
    exact this)
   have X1 := HZ.out.2.1
   obtain ⟨r0, r1, r2⟩ := cells3 X1
   have z0 := X1.frozen 0
   have z1 := X1.frozen 1
   have z2 := X1.frozen 2
   -- the result
   have hFin : ∀ wf : World, wf = ((((wr.setCell ⟨w.heap.size, 0, none⟩ (.slice (some ⟨w.heap.size + 1, 0, none⟩) 6 6)).setCell ⟨w.heap.size, 1, none⟩ (.slice D4 m.deeds.length d4)).setCell ⟨w.heap.size, 2, none⟩ (.slice E1 m.e.w.rows.length e1)).drew) → OutV wf (.slice (some ⟨w.heap.size + 1, 0, none⟩) 6 6) (.slice D4 m.deeds.length d4) (.slice E1 m.e.w.rows.length e1) m.sent m.deeds m.e.w.rows ∧ Below w.heap.size w wf ∧ RowTo wf w.heap.size 27 3 [.slice (some ⟨w.heap.size + 1, 0, none⟩) 6 6, .slice D4 m.deeds.length d4, .slice E1 m.e.w.rows.length e1] := by
    intro wf hwf
    subst hwf
    have hBf : Below w.heap.size w ((((wr.setCell ⟨w.heap.size, 0, none⟩ (.slice (some ⟨w.heap.size + 1, 0, none⟩) 6 6)).setCell ⟨w.heap.size, 1, none⟩ (.slice D4 m.deeds.length d4)).setCell ⟨w.heap.size, 2, none⟩ (.slice E1 m.e.w.rows.length e1)).drew) := (((hB.setCell (p := ⟨w.heap.size, 0, none⟩) (nL _) _).setCell (p := ⟨w.heap.size, 1, none⟩) (nL _) _).setCell (p := ⟨w.heap.size, 2, none⟩) (nL _) _).drew
    have hMf := HH.out.below hBf
    have hQf := (((HZ.out.1.other (p := ⟨w.heap.size, 0, none⟩) (by show w.heap.size ≠ w.heap.size + 1; omega) (.slice (some ⟨w.heap.size + 1, 0, none⟩) 6 6)).other (p := ⟨w.heap.size, 1, none⟩) (by show w.heap.size ≠ w.heap.size + 1; omega) (.slice D4 m.deeds.length d4)).other (p := ⟨w.heap.size, 2, none⟩) (by show w.heap.size ≠ w.heap.size + 1; omega) (.slice E1 m.e.w.rows.length e1)).drew
    rw [hTk] at hQf
    have hTL := row_tlst (c := 6) hQf (by rw [HS6.out]; exact nL _) (by rw [HS6.out]; omega) HSZ.out
    rw [HS6.out] at hTL
    have hsl := hMf.sl 15 (by omega) (by omega) (by omega)
    rw [items_deeds, List.length_map] at hsl
    have hsl' : Sl _ 40 7 (f 47) (G 15) m.deeds.length (m.deeds.map deedV).flatten := hsl
    rw [hf47'] at hsl'
    have hrow := hMf.wld.wld.rows
    rw [hf1] at hrow
    exact ⟨⟨hTL, sl_dlst hsl' (by omega) (fun b hb => (hMf.lo 15 b hb).2), hrow⟩, hBf, (((X1.put (j := 0) (by simp) _).put (j := 1) (by simp) _).put (j := 2) (by simp) _).drew⟩
   obtain ⟨nd, HND⟩ : ∃ n, Hid (m.deeds.length = n) := ⟨_, jD rfl⟩
   obtain ⟨nr, HNR⟩ : ∃ n, Hid (m.e.w.rows.length = n) := ⟨_, jD rfl⟩
   rw [HND.out] at c47 hFin
   rw [HNR.out] at c1 hFin
   have HFin := jD hFin
   clear hFin hM hB X1 hf47 hf47' hf1 hTk HSZ hD HND HNR HR0 y0 y1 y2 y3 y4 y5
   go_wp2_with fail
   refine wp_region_z 11 (fun wx => wx.cell? ⟨P, 47, none⟩ = some (.slice D4 nd d4) ∧ wx.cell? ⟨P, 1, none⟩ = some (.slice E1 nr e1)) (by kernel_rfl) (show wr.drew.cell? ⟨P, 47, none⟩ = some (.slice D4 nd d4) ∧ wr.drew.cell? ⟨P, 1, none⟩ = some (.slice E1 nr e1) from ⟨c47, c1⟩) (fun hS => ?_)
   refine tkE [(0, []), (1, []), (2, []), (3, []), (4, []), (5, []), (6, []), (7, []), (8, []), (9, []), (10, [])] ?_
   iterate 11
    refine tkS (v := ?_) hS ?_ ?_
    rotate_left
    ·(intro w hSw; (try dsimp only at hSw); (try simp only [gTA, gCZ, gCS]); go_simp; try with_reducible rfl)
    (try simp only [gTA, gCZ, gCS, Act.put, sTA, sCZ, sCS])
   refine tkF ?_
   refine wpAnyZ_last rfl rfl (by kernel_rfl) (by kernel_rfl) (fun K hK => ?_)
   (try simp only [gTA, gCZ, gCS])
   go_simp
   refine hK.out _ _ ?_
   clear hK K
   (try simp only [gTA, gCZ, gCS, Act.put, sTA, sCZ, sCS])
   go_wp2
   generalize hWF : (((wr.setCell ⟨w.heap.size, 0, none⟩ (.slice (some ⟨w.heap.size + 1, 0, none⟩) 6 6)).setCell ⟨w.heap.size, 1, none⟩ (.slice D4 nd d4)).setCell ⟨w.heap.size, 2, none⟩ (.slice E1 nr e1)).drew = WF at *
   obtain ⟨hO, hBB, hRow⟩ := HFin.out WF rfl
   obtain ⟨t0, t1, t2⟩ := cells3 hRow
   refine bodyPost_ret (v := .agg #[.slice (some ⟨w.heap.size + 1, 0, none⟩) 6 6, .slice D4 nd d4, .slice E1 nr e1]) (by simp [results, Tryz.results44, go_sem, t0, t1, t2]) rfl ⟨_, _, _, rfl, hO, hBB⟩
end
def poolV (mode : Int) (sS sB : Value) : List Value := [.int .i64 mode, .slice none 0 0, sS, sB, .string ⟨#[]⟩, .slice none 0 0, .bool false, .int .i64 0, .slice none 0 0, .slice none 0 0, .string ⟨#[]⟩, .slice none 0 0, .bool false, .int .i64 0, .slice none 0 0, .slice none 0 0, .string ⟨#[]⟩, .slice none 0 0, .bool false, .int .i64 0, .slice none 0 0, .slice none 0 0, .string ⟨#[]⟩, .slice none 0 0, .bool false, .int .i64 0, .slice none 0 0, .slice none 0 0, .string ⟨#[]⟩, .slice none 0 0, .bool false, .int .i64 0, .slice none 0 0, .slice none 0 0, .string ⟨#[]⟩, .slice none 0 0, .bool false, .int .i64 0, .slice none 0 0, .slice none 0 0, .slice none 0 0, .slice none 0 0, .slice none 0 0, .slice none 0 0, .slice none 0 0, .slice none 0 0, .slice none 0 0, .slice none 0 0]
def poolF (mode : Int) (sS sB : Value) : Nat → Value := fun j => (poolV mode sS sB).getD j (.int .i64 0)
def newSl (b n : Nat) : Value := .slice (some ⟨b, 0, none⟩) n n
def startG (P bB : Nat) : Nat → Option Nat := fun i => if i = 0 then some P else if i = 1 then some bB else none
theorem startG_out {P bB i b : Nat} (h : startG P bB i = some b) : (i = 0 ∧ b = P) ∨ (i = 1 ∧ b = bB) := by
 unfold startG at h
 split at h
 ·rename_i e; injection h with h; exact .inl ⟨e, h.symm⟩
 ·split at h
  ·rename_i e; injection h with h; exact .inr ⟨e, h.symm⟩
  ·cases h
theorem start_get (n c : Nat) : (Mach.start (poolStart n) n).get c = Cl.new := by
 unfold Mach.get Mach.start
 simp only
 rw [List.getD_eq_getElem?_getD, List.getElem?_replicate]
 split <;> rfl
theorem start_of (n c : Nat) : (Mach.start (poolStart n) n).e.of c = ([], []) := by
 show (List.replicate 6 (([], []) : PL × PL)).getD c ([], []) = _
 rw [List.getD_eq_getElem?_getD, List.getElem?_replicate]
 split <;> rfl
theorem start_sent (n c : Nat) : (Mach.start (poolStart n) n).sent.getD c ⟨#[]⟩ = ⟨#[]⟩ := by
 show (List.replicate 6 (⟨#[]⟩ : ByteArray)).getD c ⟨#[]⟩ = _
 rw [List.getD_eq_getElem?_getD, List.getElem?_replicate]
 split <;> rfl
theorem start_items (n : Nat) {k : Nat} (h2 : 2 ≤ k) (h15 : k ≤ 15) : items (Mach.start (poolStart n) n) k = [] := by
 unfold items
 rw [if_neg (by omega)]
 by_cases h8 : k < 8
 ·rw [if_pos h8, start_get]; rfl
 ·rw [if_neg h8]
  by_cases h : k = 8
  ·rw [if_pos h]; rfl
  ·rw [if_neg h]
   by_cases h9 : k < 15
   ·rw [if_pos h9, start_sent]; rfl
   ·rw [if_neg h9]; rfl
theorem poolF_nil (mode : Int) (sS sB : Value) : ∀ k, 2 ≤ k → k ≤ 15 → poolF mode sS sB (slC k) = .slice none 0 0 := by
 intro k h2 h15
 obtain rfl | rfl | rfl | rfl | rfl | rfl | rfl | rfl | rfl | rfl | rfl | rfl | rfl | rfl : k = 2 ∨ k = 3 ∨ k = 4 ∨ k = 5 ∨ k = 6 ∨ k = 7 ∨ k = 8 ∨ k = 9 ∨ k = 10 ∨ k = 11 ∨ k = 12 ∨ k = 13 ∨ k = 14 ∨ k = 15 := by omega
 all_goals rfl
theorem c6 {c : Nat} (h : c < 6) : c = 0 ∨ c = 1 ∨ c = 2 ∨ c = 3 ∨ c = 4 ∨ c = 5 := by omega
theorem poolF_cl (mode : Int) (sS sB : Value) {c : Nat} (hc : c < 6) : poolF mode sS sB (4 + c * 6) = .string ⟨#[]⟩ ∧ poolF mode sS sB (4 + c * 6 + 2) = .bool false ∧ poolF mode sS sB (4 + c * 6 + 3) = .int .i64 0 ∧ poolF mode sS sB (4 + c * 6 + 4) = .slice none 0 0 ∧ poolF mode sS sB (4 + c * 6 + 5) = .slice none 0 0 := by
 obtain rfl | rfl | rfl | rfl | rfl | rfl := c6 hc
 all_goals exact ⟨rfl, rfl, rfl, rfl, rfl⟩
theorem made_bools {w : World} {b n : Nat} (h : RowTo w b 4 n (madeCells #[.bool false] n).toList) : ∀ j, j < n → w.cell? ⟨b, j, none⟩ = some (.bool false) := fun j hj => by
 have hl : j < (madeCells #[Value.bool false] n).toList.length := by simpa [madeCells] using hj
 rw [h.cell hl]
 simp [madeCells, Nat.mod_one]
theorem PMem.start {w : World} {base P bS bB n : Nat} (hn : n ≤ 8) (mode : Int) (hS : RowTo w bS 144 (n * 5) (madeCells #[.int .i64 0, .slice none 0 0, .slice none 0 0, .slice none 0 0, .slice none 0 0] (n * 5)).toList) (hB : RowTo w bB 4 n (madeCells #[.bool false] n).toList)
  (hP : PRow w P (poolF mode (newSl bS n) (newSl bB n))) (h1 : bS ≠ bB) (h2 : bS ≠ P) (h3 : bB ≠ P) (hb1 : base ≤ bB) (hb2 : base ≤ P) : PMem 0 w base P (poolF mode (newSl bS n) (newSl bB n)) (startG P bB) mode (Mach.start (poolStart n) n) := by
 have hs := made_sess hS hn
 refine ⟨hP, rfl, fun i b hi => ?_, fun i j b hi hj => ?_, fun k k1 k15 _ => ?_, rfl, ?_, fun c hc => ?_, fun c hc => ?_, fun c hc => ?_, fun c hc => ?_, fun c hc => ?_⟩
 ·rcases startG_out hi with ⟨_, rfl⟩ | ⟨_, rfl⟩
  ·exact ⟨hb2, hP.lt⟩
  ·exact ⟨hb1, hB.lt⟩
 ·rcases startG_out hi with ⟨e1, e2⟩ | ⟨e1, e2⟩ <;> rcases startG_out hj with ⟨e3, e4⟩ | ⟨e3, e4⟩ <;> omega
 ·by_cases e : k = 1
  ·subst e
   have hi : items (Mach.start (poolStart n) n) 1 = (List.replicate n false).map (fun b => [.bool b]) := rfl
   rw [hi, flat_bools, List.length_map, List.length_replicate]
   refine ⟨by simp [slZ], .inr ⟨bB, 0, n, n, rfl, rfl, nL _, hB.nil, .inr (by simp [slZ]), fun j hj => ?_⟩⟩
   have hj' : j < n := by simpa using hj
   rw [Nat.zero_add, made_bools hB j hj']
   simp
  ·rw [start_items n (by omega) k15, poolF_nil mode _ _ k (by omega) k15]
   have : startG P bB k = none := by unfold startG; rw [if_neg (by omega), if_neg e]
   rw [this]
   exact Sl.nil_ _ _ _
 ·refine WldP.mk' (Lst.none_ _ _) (InP.nil_ _ _) hs.form hs.bytes (fun hp => ?_)
  obtain ⟨b', off', c', e', hb', hc'⟩ := hs.cells hp
  refine ⟨b', off', c', e', ?_, hb', fun i hi => ?_⟩
  ·injection e' with e'
   injection e' with e'
   injection e' with e1' e2'
   subst e1' e2'
   intro i hi
   rcases startG_out hi with ⟨_, e⟩ | ⟨_, e⟩
   ·exact h2 e
   ·exact h1 e
  ·obtain ⟨v1, v2, v3, v4, q⟩ := hc' i hi
   have hi' : i < (List.replicate n Sess.zero).length := hi
   have z : (List.replicate n Sess.zero)[i]'hi' = Sess.zero := List.getElem_replicate _
   refine ⟨v1, v2, v3, v4, q, ?_, ?_, ?_, ?_⟩
   ·show InP _ v1 ((List.replicate n Sess.zero)[i]'hi').set
    rw [z]; exact InP.nil_ _ _
   ·show InP _ v2 ((List.replicate n Sess.zero)[i]'hi').prep
    rw [z]; exact InP.nil_ _ _
   ·show InP _ v3 ((List.replicate n Sess.zero)[i]'hi').sav
    rw [z]; exact InP.nil_ _ _
   ·show InP _ v4 ((List.replicate n Sess.zero)[i]'hi').wr
    rw [z]; exact InP.nil_ _ _
 ·rw [start_get]; exact (poolF_cl mode _ _ hc).1
 ·rw [start_get]; exact (poolF_cl mode _ _ hc).2.1
 ·rw [start_get]; exact ⟨0, (poolF_cl mode _ _ hc).2.2.1, fun s hs => by cases hs⟩
 ·rw [start_of, (poolF_cl mode _ _ hc).2.2.2.1]; exact ⟨Lst.none_ _ _, InP.nil_ _ _⟩
 ·rw [start_of, (poolF_cl mode _ _ hc).2.2.2.2]; exact ⟨Lst.none_ _ _, InP.nil_ _ _⟩
theorem Tabs.up {w : World} {B B' : Nat} (h : Tabs w B) (hB : B ≤ B') : Tabs w B' := ⟨h.wo, h.le, Nat.lt_of_lt_of_le h.l1 hB, Nat.lt_of_lt_of_le h.l2 hB⟩
theorem OutV.off3 {w : World} {R : Nat} {v1 v2 v3 : Value} {sent : List ByteArray} {deeds : List Deed} {rows : PL} (h : OutV w v1 v2 v3 sent deeds rows) (hR : RowTo w R 27 3 [.slice none 0 0, .slice none 0 0, .slice none 0 0]) (a b c : Value) :
  OutV (((w.setCell ⟨R, 0, none⟩ a).setCell ⟨R, 1, none⟩ b).setCell ⟨R, 2, none⟩ c) v1 v2 v3 sent deeds rows := by
 have hk : ∀ p : Addr, p.block ≠ R → (((w.setCell ⟨R, 0, none⟩ a).setCell ⟨R, 1, none⟩ b).setCell ⟨R, 2, none⟩ c).cell? p = w.cell? p := fun p hp => by
  rw [World.cell?_of_block (set_off _ R 2 c _ hp), World.cell?_of_block (set_off _ R 1 b _ hp), World.cell?_of_block (set_off _ R 0 a _ hp)]
 have hs : (((w.setCell ⟨R, 0, none⟩ a).setCell ⟨R, 1, none⟩ b).setCell ⟨R, 2, none⟩ c).heap.size = w.heap.size := by rw [size_set, size_set, size_set]
 have hno : ∀ j u, w.cell? ⟨R, j, none⟩ = some u → ∃ n c, u = .slice none n c := fun j u hu => by
  obtain ⟨cur, hh, hz, ht⟩ := hR
  have e : w.cell? ⟨R, j, none⟩ = cur[j]? := by unfold World.cell?; simp only [hh]; rfl
  rw [e] at hu
  have hj : j < cur.size := (Array.getElem?_eq_some_iff.1 hu).1
  have ht' : cur.toList = [.slice none 0 0, .slice none 0 0, .slice none 0 0] := by rw [← ht]; exact (List.take_of_length_le (by simp [hz])).symm
  rw [← Array.getElem?_toList, ht'] at hu
  match j, hu with
  | 0, hu => injection hu with hu; exact ⟨0, 0, hu.symm⟩
  | 1, hu => injection hu with hu; exact ⟨0, 0, hu.symm⟩
  | 2, hu => injection hu with hu; exact ⟨0, 0, hu.symm⟩
  | n + 3, hu => simp at hu
 refine ⟨⟨h.s.form, h.s.small, h.s.sizes, fun hn => ?_⟩, ⟨h.d.form, h.d.small, fun hn => ?_⟩, ⟨h.r.form, h.r.bytes, h.r.sizes, fun hn => ?_, h.r.nil⟩⟩
 ·obtain ⟨b', off, c', e, hb, hc⟩ := h.s.cells hn
  have hne : b' ≠ R := fun e' => by
   subst e'
   obtain ⟨_, _, hu⟩ := hno _ _ (hc 0 hn)
   cases hu
  exact ⟨b', off, c', e, by rw [hs]; exact hb, fun i hi => (hk _ hne).trans (hc i hi)⟩
 ·obtain ⟨b', off, c', e, hb, hc⟩ := h.d.cells hn
  have hne : b' ≠ R := fun e' => by
   subst e'
   obtain ⟨_, _, hu⟩ := hno _ _ (hc 0 hn 0 _ rfl)
   cases hu
  exact ⟨b', off, c', e, by rw [hs]; exact hb, fun i hi j u hu => (hk _ hne).trans (hc i hi j u hu)⟩
 ·obtain ⟨b', off, c', e, hb, hc⟩ := h.r.cells hn
  have hne : b' ≠ R := fun e' => by
   subst e'
   obtain ⟨_, _, hu⟩ := hno _ _ (hc 0 hn).1
   cases hu
  exact ⟨b', off, c', e, by rw [hs]; exact hb, fun i hi => ⟨(hk _ hne).trans (hc i hi).1, (hk _ hne).trans (hc i hi).2⟩⟩
theorem built_pool (mode : Int) (sS sB : Value) (hS : sS.oneCell' = true) (hB : sB.oneCell' = true) : Tryz.prog.built 94 [(0, .int .i64 mode), (1, .agg #[.slice none 0 0, sS]), (2, sB)] = some (poolV mode sS sB).toArray := by
 cases sS <;> first | (cases hS; done) | (cases sB <;> first | (cases hB; done) | kernel_rfl)
set_option maxHeartbeats 1000000 in
theorem checkSetup_any (m s : Int) (w : World) : Calls Tryz.prog 55 #[.agg #[.int .i64 m, .int .i64 s]] w fun e w' => e = .returned (.int .i64 (setupE m s)) ∧ Below w.heap.size w w' := by
 by_cases h1 : m < 1
 ·have t1 : decide (m < 1) = true := decide_eq_true h1
  have HE := jD (show setupE m s = 3 by unfold setupE; rw [if_pos (.inl h1)])
  go_enter Tryz.func55, Tryz.ntmps55
  go_wp2
  go_ret
  refine ⟨by rw [HE.out]; rfl, ?_⟩
  repeat' (first | exact Below.refl _ _ | assumption | with_reducible refine below_drewN ?_ _ | with_reducible refine Below.drew ?_ | with_reducible refine Below.setCell ?_ ?_ _ | with_reducible refine Below.alloc ?_ ?_ _ | (simp; done) | (simp; omega))
 have t1 : decide (m < 1) = false := decide_eq_false h1
 by_cases h2 : 3 < m
 ·have t2 : decide (3 < m) = true := decide_eq_true h2
  have HE := jD (show setupE m s = 3 by unfold setupE; rw [if_pos (.inr h2)])
  go_enter Tryz.func55, Tryz.ntmps55
  go_wp2
  go_ret
  refine ⟨by rw [HE.out]; rfl, ?_⟩
  repeat' (first | exact Below.refl _ _ | assumption | with_reducible refine below_drewN ?_ _ | with_reducible refine Below.drew ?_ | with_reducible refine Below.setCell ?_ ?_ _ | with_reducible refine Below.alloc ?_ ?_ _ | (simp; done) | (simp; omega))
 have t2 : decide (3 < m) = false := decide_eq_false h2
 by_cases h3 : s < 1
 ·have t3 : decide (s < 1) = true := decide_eq_true h3
  have HE := jD (show setupE m s = 2 by unfold setupE; rw [if_neg (by omega), if_pos (.inl h3)])
  go_enter Tryz.func55, Tryz.ntmps55
  go_wp2
  go_ret
  refine ⟨by rw [HE.out]; rfl, ?_⟩
  repeat' (first | exact Below.refl _ _ | assumption | with_reducible refine below_drewN ?_ _ | with_reducible refine Below.drew ?_ | with_reducible refine Below.setCell ?_ ?_ _ | with_reducible refine Below.alloc ?_ ?_ _ | (simp; done) | (simp; omega))
 have t3 : decide (s < 1) = false := decide_eq_false h3
 by_cases h4 : 4 < s
 ·have t4 : decide (4 < s) = true := decide_eq_true h4
  have HE := jD (show setupE m s = 2 by unfold setupE; rw [if_neg (by omega), if_pos (.inr h4)])
  go_enter Tryz.func55, Tryz.ntmps55
  go_wp2
  go_ret
  refine ⟨by rw [HE.out]; rfl, ?_⟩
  repeat' (first | exact Below.refl _ _ | assumption | with_reducible refine below_drewN ?_ _ | with_reducible refine Below.drew ?_ | with_reducible refine Below.setCell ?_ ?_ _ | with_reducible refine Below.alloc ?_ ?_ _ | (simp; done) | (simp; omega))
 have t4 : decide (4 < s) = false := decide_eq_false h4
 have HE := jD (show setupE m s = 0 by unfold setupE; rw [if_neg (by omega), if_neg (by omega)])
 go_enter Tryz.func55, Tryz.ntmps55
 go_wp2
 go_ret
 refine ⟨by rw [HE.out]; rfl, ?_⟩
 repeat' (first | exact Below.refl _ _ | assumption | with_reducible refine below_drewN ?_ _ | with_reducible refine Below.drew ?_ | with_reducible refine Below.setCell ?_ ?_ _ | with_reducible refine Below.alloc ?_ ?_ _ | (simp; done) | (simp; omega))
structure ALst (w : World) (B : Nat) (v : Value) (l : List Act) : Prop where
 form : ∃ A c, v = .slice A l.length c ∧ l.length ≤ c
 bytes : l.length * 32 ≤ 140737488351232
 sizes : ∀ a ∈ l, a.data.size ≤ 140737488351232
 cells : 0 < l.length → ∃ b off c, v = .slice (some ⟨b, off, none⟩) l.length c ∧ b < B ∧
  ∀ i (h : i < l.length), w.cell? ⟨b, off + i * 3, none⟩ = some (.int .i64 l[i].kind) ∧ w.cell? ⟨b, off + i * 3 + 1, none⟩ = some (.int .i64 l[i].c) ∧ w.cell? ⟨b, off + i * 3 + 2, none⟩ = some (.string l[i].data)
theorem ALst.keep {w w' : World} {B B' : Nat} {v : Value} {l : List Act} (h : ALst w B v l) (hB : B ≤ B') (hk : ∀ p : Addr, p.block < B → w'.cell? p = w.cell? p) : ALst w' B' v l := by
 refine ⟨h.form, h.bytes, h.sizes, fun hn => ?_⟩
 obtain ⟨b, off, c, e, hb, hc⟩ := h.cells hn
 exact ⟨b, off, c, e, by omega, fun i hi => ⟨(hk _ hb).trans (hc i hi).1, (hk _ hb).trans (hc i hi).2.1, (hk _ hb).trans (hc i hi).2.2⟩⟩
theorem ALst.below {w w' : World} {B : Nat} {v : Value} {l : List Act} (h : ALst w B v l) (hb : Below B w w') : ALst w' B v l := h.keep (nL _) fun _ hp => hb.cell hp
theorem ALst.step {w w' : World} {v : Value} {l : List Act} (h : ALst w w.heap.size v l) (hb : Below w.heap.size w w') : ALst w' w'.heap.size v l := h.keep hb.size fun _ hp => hb.cell hp
theorem ALst.pt {w : World} {B n c : Nat} {A : Option Addr} {l : List Act} (h : ALst w B (.slice A n c) l) {k : Nat} (hk : k < l.length) :
  ∃ b off, A = some ⟨b, off, none⟩ ∧ b < B ∧ w.cell? ⟨b, off + k * 3, none⟩ = some (.int .i64 l[k].kind) ∧ w.cell? ⟨b, off + k * 3 + 1, none⟩ = some (.int .i64 l[k].c) ∧ w.cell? ⟨b, off + k * 3 + 2, none⟩ = some (.string l[k].data) := by
 obtain ⟨b, off, c', e, hb, hc⟩ := h.cells (by omega)
 injection e with e1 e2 e3
 obtain ⟨h1, h2, h3⟩ := hc k hk
 exact ⟨b, off, e1, hb, h1, h2, h3⟩
theorem actsE_take {l : List Act} {k : Nat} (hk : k < l.length) (h : actsE (l.take k) = 0) : actsE (l.take (k + 1)) = actE l[k] := by
 induction l generalizing k with
 | nil => simp at hk
 | cons a l ih =>
  cases k with
  | zero => simp [actsE]; intro h; exact h.symm
  | succ k =>
   rw [List.take_succ_cons] at h ⊢
   unfold actsE at h ⊢
   by_cases e : actE a ≠ 0
   ·rw [if_pos e] at h; exact absurd h e
   ·rw [if_neg e] at h ⊢
    exact ih (by simpa using hk) h
theorem actsE_of {l : List Act} {k : Nat} (hk : k < l.length) (h : actsE (l.take k) = 0) (he : actE l[k] ≠ 0) : actsE l = actE l[k] := by
 induction l generalizing k with
 | nil => simp at hk
 | cons a l ih =>
  cases k with
  | zero => unfold actsE; rw [if_pos (by simpa using he)]; rfl
  | succ k =>
   rw [List.take_succ_cons] at h
   unfold actsE at h ⊢
   by_cases e : actE a ≠ 0
   ·rw [if_pos e] at h; exact absurd h e
   ·rw [if_neg e] at h ⊢
    exact ih (by simpa using hk) h (by simpa using he)
end Go.Proofs.YtpbaobmegomfpacGreatDoor
