/-
  Texts of the proof, one behind the other: PIdN, PReady, PEnq, PAsg, Grid1, BldD.
-/
import Derived.Test.YtpbaobmegomfpabGreatDoorM21
import Derived.Test.YtpbaobmegomfpabGreatDoorM20
import Derived.Test.YtpbaobmegomfpabGreatDoorRows
import Derived.WalkKit
import Derived.WalkSpells
import Derived.Lib.Hide
import Derived.IntWalk
import Derived.WalkSmall
import Derived.Test.YtpbaobmegomfpabGreatDoorM29
import Derived.Test.YtpbaobmegomfpabGreatDoorM31
import Derived.Test.YtpbaobmegomfpabGreatDoorM27
import Derived.WalkLawsBesides
set_option linter.unusedVariables false
set_option linter.unusedSimpArgs false
set_option maxRecDepth 100000
open List renaming getElem_toArray → gTA, getElem_cons_zero → gCZ, getElem_cons_succ → gCS, setIfInBounds_toArray → sTA, set_cons_zero → sCZ, set_cons_succ → sCS
open Go.Lib renaming hid → jD
open Nat renaming le_refl → nL
namespace Go.Proofs.YtpbaobmegomfpabGreatDoor
open Go.RowKit
def numV (n : Nat) : Value := .int .i64 (n : Int)
set_option maxHeartbeats 400000 in
theorem indexN_any (v : Value) (g : Option Nat) (l : List Nat) (x : Nat) (w : World) (hl : Sl w 3 1 v g l.length (l.map numV)) (hby : l.length ≤ 1000000) :
  Calls Tryz.prog 137 #[v, .int .i64 (x : Int)] w fun e w' => ∃ i : Int, e = .returned (.int .i64 i) ∧ decide (0 ≤ i) = l.contains x ∧ w' = w := by
 obtain ⟨A, c, rfl, hc⟩ := hl.shape
 have HL := jD hl
 clear hl
 go_enter Tryz.func137, Tryz.ntmps137
 go_wp2
 go_loopw [8] (fun i wr => ∃ k : Nat, k ≤ l.length ∧ i = .int .i64 k ∧ Hid ((l.take k).contains x = false) ∧ wr = w) (fun i _ => l.length - (intOf i).toNat)
 case atStart => exact ⟨0, by omega, rfl, rfl, rfl⟩
 case round =>
  obtain ⟨k, hk, rfl, HZ, rfl⟩ := hrel
  by_cases hlt : k < l.length
  ·obtain ⟨b, off, cap, hg, hv, _, hcs⟩ := HL.out.at (by omega)
   injection hv with hv e2 e3
   subst hv
   have c0 := hcs k (by simpa using hlt)
   rw [List.getElem_map] at c0
   unfold numV at c0
   have HS1 := jD (show (l.take (k + 1)).contains x = (x == l[k]) by
    rw [List.take_succ_eq_append_getElem hlt, List.contains_append, HZ.out]
    simp
    rfl)
   have HAN := jD (fun (h : x = l[k]) => show l.contains x = true from by rw [h]; exact List.contains_iff_mem.2 (List.getElem_mem hlt))
   generalize l[k] = y at *
   by_cases hq : x = y
   ·have HT := jD (HAN.out hq)
    have t1 : ((x : Int) == (y : Int)) = true := by simp [hq]
    clear hq HAN HS1 hcs hg e2 e3
    go_wp2
    go_ret
    exact ⟨_, rfl, by rw [HT.out]; simp, rfl⟩
   ·have t1 : ((x : Int) == (y : Int)) = false := by simp; omega
    have HF := jD (show (l.take (k + 1)).contains x = false by rw [HS1.out]; simp [hq])
    clear hq HAN HS1 hcs hg e2 e3
    go_wp2
    go_roundw
    case rel => exact ⟨k + 1, by omega, by go_num, HF.out, by trivial⟩
    case measure => simp [intOf]; omega
  ·obtain rfl : k = l.length := by omega
   rw [List.take_length] at HZ
   go_wp2
   go_ret
   exact ⟨_, rfl, by rw [HZ.out]; decide, rfl⟩
set_option maxHeartbeats 400000 in
theorem containsN_any (v : Value) (g : Option Nat) (l : List Nat) (x : Nat) (w : World) (hl : Sl w 3 1 v g l.length (l.map numV)) (hby : l.length ≤ 1000000) :
  Calls Tryz.prog 120 #[v, .int .i64 (x : Int)] w fun e w' => e = .returned (.bool (l.contains x)) ∧ w' = w := by
 have HI := jD (indexN_any v g l x w hl hby)
 obtain ⟨A, c, rfl, hc⟩ := hl.shape
 clear hl
 go_enter Tryz.func120, Tryz.ntmps120
 go_wp2_with fail
 refine HI.out.mono ?_
 rintro e w1 ⟨i, rfl, hi, rfl⟩
 have HI2 := jD hi
 clear hi
 go_wp2
 go_ret
 exact ⟨by rw [← HI2.out]; rfl, rfl⟩
def IdxB (l : List Bool) (i : Int) : Prop := (l.idxOf false < l.length ∧ i = (l.idxOf false : Nat)) ∨ (¬ l.idxOf false < l.length ∧ i = -1)
theorem idx_le : ∀ {l : List Bool} {k : Nat} (hk : k < l.length), l[k] = false → l.idxOf false ≤ k
 | b :: l, 0, _, h => by
  simp only [gCZ] at h
  rw [h, List.idxOf_cons_self]
  exact nL _
 | b :: l, k + 1, hk, h => by
  have := idx_le (l := l) (k := k) (by simpa using hk) (by simpa using h)
  rw [List.idxOf_cons]
  cases b
  ·simp
  ·simpa using this
set_option maxHeartbeats 400000 in
theorem indexB_any (v : Value) (g : Option Nat) (l : List Bool) (w : World) (hl : Sl w 4 1 v g l.length (l.map Value.bool)) (hby : l.length ≤ 1000000) :
  Calls Tryz.prog 121 #[v, .bool false] w fun e w' => ∃ i : Int, e = .returned (.int .i64 i) ∧ IdxB l i ∧ w' = w := by
 obtain ⟨A, c, rfl, hc⟩ := hl.shape
 have HL := jD hl
 clear hl
 go_enter Tryz.func121, Tryz.ntmps121
 go_wp2
 go_loopw [8] (fun i wr => ∃ k : Nat, k ≤ l.length ∧ i = .int .i64 k ∧ Hid (k ≤ l.idxOf false) ∧ wr = w) (fun i _ => l.length - (intOf i).toNat)
 case atStart => exact ⟨0, by omega, rfl, Nat.zero_le _, rfl⟩
 case round =>
  obtain ⟨k, hk, rfl, HZ, rfl⟩ := hrel
  by_cases hlt : k < l.length
  ·obtain ⟨b, off, cap, hg, hv, _, hcs⟩ := HL.out.at (by omega)
   injection hv with hv e2 e3
   subst hv
   have c0 := hcs k (by simpa using hlt)
   rw [List.getElem_map] at c0
   have HT := jD (fun (h : l[k] = false) => show l.idxOf false = k from by
    have h1 := HZ.out
    have h2 : l.idxOf false ≤ k := idx_le hlt h
    omega)
   have HF := jD (fun (h : l[k] = true) => show k + 1 ≤ l.idxOf false from by
    have h1 := HZ.out
    rcases Nat.lt_or_ge k (l.idxOf false) with h' | h'
    ·exact h'
    ·have e : l.idxOf false = k := by omega
     have h3 := List.getElem_idxOf (x := false) (xs := l) (by rw [e]; exact hlt)
     simp only [e, h] at h3
     cases h3)
   cases hq : l[k] with
   | false =>
    rw [hq] at c0
    have HE := jD (HT.out hq)
    clear hq HT HF hcs hg e2 e3
    go_wp2
    go_ret
    exact ⟨_, rfl, .inl ⟨by rw [HE.out]; exact hlt, by rw [HE.out]⟩, rfl⟩
   | true =>
    rw [hq] at c0
    have HE := jD (HF.out hq)
    clear hq HT HF hcs hg e2 e3
    go_wp2
    go_roundw
    case rel => exact ⟨k + 1, by omega, by go_num, HE.out, by trivial⟩
    case measure => simp [intOf]; omega
  ·obtain rfl : k = l.length := by omega
   go_wp2
   go_ret
   exact ⟨_, rfl, .inr ⟨by have := HZ.out; omega, rfl⟩, rfl⟩
section
variable {base P : Nat} {f : Nat → Value} {G : Nat → Option Nat} {mode : Int} {m : Mach PE}
theorem items_wait (m : Mach PE) {c : Nat} (hc : c < 6) : items m (2 + c) = (m.get c).wait.map reqV := by
 unfold items
 rw [if_neg (by omega), if_pos (by omega), show 2 + c - 2 = c by omega]
theorem PMem.waitSl {w : World} (h : PMem 0 w base P f G mode m) {c : Nat} (hc : c < 6) : Sl w 41 3 (f (4 + c * 6 + 1)) (G (2 + c)) (m.get c).wait.length ((m.get c).wait.map reqV).flatten := by
 have e1 : slC (2 + c) = 4 + c * 6 + 1 := by unfold slC; rw [if_neg (by omega), if_pos (by omega)]; omega
 have e2 : slT (2 + c) = 41 := by unfold slT; rw [if_neg (by omega), if_pos (by omega)]
 have e3 : slZ (2 + c) = 3 := by unfold slZ; rw [if_neg (by omega), if_pos (by omega)]
 have := h.sl (2 + c) (by omega) (by omega) (by omega)
 rw [e1, e2, e3, items_wait _ hc, List.length_map] at this
 exact this
theorem PMem.first {w : World} (h : PMem 0 w base P f G mode m) {c : Nat} (hc : c < 6) {r : Req} {l : List Req} (hw : (m.get c).wait = r :: l) :
  ∃ b off cap, G (2 + c) = some b ∧ f (4 + c * 6 + 1) = .slice (some ⟨b, off, none⟩) (l.length + 1) cap ∧ l.length + 1 ≤ cap ∧ w.cell? ⟨b, off, none⟩ = some (.int .i64 r.k) ∧ w.cell? ⟨b, off + 1, none⟩ = some (.string r.key) ∧ w.cell? ⟨b, off + 2, none⟩ = some (.string r.val) := by
 have hs := h.waitSl hc
 rw [hw] at hs
 obtain ⟨b, off, cap, h1, h2, h3, h4⟩ := hs.at (by simp)
 have hlen : 3 ≤ ((r :: l).map reqV).flatten.length := by rw [hs.len]; simp only [List.length_cons]; omega
 refine ⟨b, off, cap, h1, by simpa using h2, by simpa using h3, ?_, ?_, ?_⟩
 ·have := h4 0 (by omega); simpa [reqV] using this
 ·have := h4 1 (by omega); simpa [reqV] using this
 ·have := h4 2 (by omega); simpa [reqV] using this
theorem refuse_empty {r : Req} : (refuse mode r).size = 0 ↔ refB mode r = false := by
 unfold refuse refB
 by_cases h1 : r.k = 0
 ·simp [h1, tUnder, ByteArray.size]
 ·by_cases h2 : r.k = 1 ∧ mode = 3
  ·simp [h1, h2, tMode, ByteArray.size]
  ·rw [if_neg h1, if_neg h2]
   simp only [decide_eq_false_iff_not]
   exact ⟨fun _ hh => hh.elim h1 h2, fun _ => rfl⟩
set_option maxHeartbeats 1000000 in
theorem ready_any (w : World) (h : PMem 0 w base P f G mode m) {c : Nat} (hc : c < 6) :
  Calls Tryz.prog 99 #[ptr P 0, .int .i64 c] w fun e w' => e = .returned (.bool (readyB mode (m.get c))) ∧ Below w.heap.size w w' := by
 have hP := h.row.lt
 have hcI : (c : Int) < 6 := by omega
 have p1 := h.row.cell (j := 4 + c * 6 + 1) (by omega)
 have p2 := h.row.cell (j := 4 + c * 6 + 2) (by omega)
 have p0 := h.row.cell (j := 0) (by omega)
 rw [h.has c hc] at p2
 rw [h.md] at p0
 unfold ptr
 cases hw : (m.get c).wait with
 | nil =>
  have hs := h.waitSl hc
  rw [hw] at hs
  obtain ⟨A, cc, hv, _⟩ := hs.shape
  rw [hv] at p1
  simp only [List.length_nil] at p1
  have HE := jD (show readyB mode (m.get c) = false by unfold readyB; rw [hw])
  clear hs hv hw p2 p0 h
  go_enter Tryz.func99, Tryz.ntmps99
  go_wp2
  go_ret
  exact ⟨by rw [HE.out]; rfl, Below.refl _ _⟩
 | cons r l =>
  obtain ⟨b, off, cap, hG, hv, hcap, c0, c1, c2⟩ := h.first hc hw
  rw [hv] at p1
  have hbl := (h.lo _ _ hG).2
  have hpos : (0 : Int) < ((l.length + 1 : Nat) : Int) := by omega
  cases hsv : (m.get c).srv with
  | some s =>
   have HE := jD (show readyB mode (m.get c) = true by unfold readyB; rw [hw, hsv]; rfl)
   rw [hsv] at p2
   simp only [Option.isSome] at p2
   clear hv hw hsv hG h p0 c0 c1 c2
   generalize l.length = n at *
   go_enter Tryz.func99, Tryz.ntmps99
   go_wp2
   go_ret
   exact ⟨by rw [HE.out]; rfl, Below.refl _ _⟩
  | none =>
   have HE := jD (show readyB mode (m.get c) = refB mode r by unfold readyB; rw [hw, hsv]; rfl)
   rw [hsv] at p2
   simp only [Option.isSome] at p2
   have HRF := jD (fun (wc : World) (h1 : wc.cell? ⟨P, 0, none⟩ = some (.int .i64 mode)) (h2 : P < wc.heap.size) => refusal_any P mode r.k r.key r.val wc h1 h2)
   have HRE := jD (refuse_empty (mode := mode) (r := r))
   obtain ⟨rf, HRf⟩ : ∃ x, Hid (refuse mode r = x) := ⟨_, jD rfl⟩
   have hrf : refuse mode ⟨r.k, r.key, r.val⟩ = rf := HRf.out
   rw [hrf] at HRF
   rw [HRf.out] at HRE
   have HP0 := jD p0
   unfold ptr at HRF
   clear hv hw hsv hG h hrf HRf p0
   generalize l.length = n at *
   go_enter Tryz.func99, Tryz.ntmps99
   go_wp2_with fail
   refine (HRF.out _ HP0.out hP).mono ?_
   rintro e w1 ⟨rfl, hb1⟩
   have HB := jD hb1
   clear hb1 c0 c1 c2 p1 p2 HP0 HRF
   have hEq : (!rf.toList.isEmpty) = refB mode r := by
    cases hh : refB mode r with
    | false => rw [empty_of (HRE.out.2 hh)]; rfl
    | true =>
     have h1 : 1 ≤ rf.size := by
      have hne : rf.size ≠ 0 := fun h0 => by rw [HRE.out.1 h0] at hh; cases hh
      omega
     rw [full_of h1]; rfl
   have HEQ := jD hEq
   clear hEq
   go_wp2
   go_ret
   refine ⟨?_, HB.out⟩
   rw [HE.out, ← HEQ.out]
   rfl
end
theorem int_row : (Tryz.prog.info? 3).map (fun i => (i.zero, i.size, i.bytes)) = some (some (.int .i64 0), 1, 8) := by kernel_rfl
section
variable {base P : Nat} {f : Nat → Value} {G : Nat → Option Nat} {mode : Int} {m : Mach PE}
theorem items_line (m : Mach PE) : items m 8 = m.line.map (fun (n : Nat) => [Value.int .i64 (n : Int)]) := by
 unfold items; rw [if_neg (by omega), if_neg (by omega), if_pos rfl]
theorem flat_nums (l : List Nat) : (l.map (fun (n : Nat) => [Value.int .i64 (n : Int)])).flatten = l.map numV := by
 induction l with
 | nil => rfl
 | cons a l ih => simp [ih, numV]
theorem PMem.lineSl {w : World} (h : PMem 0 w base P f G mode m) : Sl w 3 1 (f 40) (G 8) m.line.length (m.line.map numV) := by
 have := h.sl 8 (by omega) (by omega) (by omega)
 rw [items_line, flat_nums, List.length_map] at this
 exact this
theorem items_less {m m' : Mach PE} {k : Nat} (h1 : m'.cl = m.cl) (h2 : m'.busy = m.busy) (h4 : m'.sent = m.sent) (h5 : m'.deeds = m.deeds) (hk : k ≠ 8) : items m' k = items m k := by
 unfold items Mach.get
 rw [h1, h2, h4, h5, if_neg hk, if_neg hk]
theorem PMem.queued {w : World} (h : PMem 0 w base P f G mode m) (hl : m.line.length ≤ 1000) {ad : Nat} (x : Nat) (hx : w.cell? ⟨ad, 0, none⟩ = some (.int .i64 (x : Int))) :
  ∃ b off cap w', (Builtin.append_ #[79, 79] 79 #[f 40, .slice (some ⟨ad, 0, none⟩) 1 1]).run Tryz.prog w = .ok (.slice (some ⟨b, off, none⟩) (m.line.length + 1) cap) w' ∧ w'.cell? ⟨P, 40, none⟩ = some (f 40) ∧ w'.frozen? ⟨P, 40, none⟩ = false ∧ P < w'.heap.size ∧
   PMem 0 (w'.setCell ⟨P, 40, none⟩ (.slice (some ⟨b, off, none⟩) (m.line.length + 1) cap)) base P (upd f 40 (.slice (some ⟨b, off, none⟩) (m.line.length + 1) cap)) (upd G 8 (some b)) mode { m with line := m.line ++ [x] } ∧ Below base w (w'.setCell ⟨P, 40, none⟩ (.slice (some ⟨b, off, none⟩) (m.line.length + 1) cap)) := by
 obtain ⟨i0, hi, hz0, hz1, hz2⟩ := info_parts int_row
 have hbP := (h.lo 0 P h.p0).1
 have hbase : base ≤ w.heap.size := Nat.le_trans hbP (Nat.le_of_lt h.row.lt)
 obtain ⟨b, off, cap, w', hrun, hs, hg, hb⟩ := h.lineSl.append (P := Tryz.prog) 79 79 i0 _ 8 Tryz.underlying79 hi hz0 hz1 hz2 rfl (by omega) ⟨ad, 0, none⟩ 1 [.int .i64 (x : Int)] rfl (fun j u hu => by
  cases j with
  | zero => simp at hu; rw [← hu]; exact hx
  | succ j => simp at hu) (fun u hu => by simp at hu; rw [hu]; rfl) (by unfold maxLen; omega) (by omega)
 have hne : some P ≠ G 8 := fun e => h.noP (k := 8) (by omega) e.symm
 have hP' := hg.block P h.row.lt hne
 have hgr := h.grow (k := 8) (m' := { m with line := m.line ++ [x] }) (n' := m.line.length + 1) (v := .slice (some ⟨b, off, none⟩) (m.line.length + 1) cap) (b := b) (by omega) (by omega) hbase hg hs hb (by rw [items_line]; simp) (by rw [items_line, flat_nums, List.map_append]; rfl) (fun k hk => items_less rfl rfl rfl rfl hk) rfl (fun _ => rfl) (fun _ => rfl)
 exact ⟨b, off, cap, w', hrun, (World.cell?_of_block (a := ⟨P, 40, none⟩) hP').trans (h.row.cell (j := 40) (by omega)), (World.frozen?_of_block (a := ⟨P, 40, none⟩) hP').trans (h.row.frozen _), Nat.lt_of_lt_of_le h.row.lt hg.size, hgr, ((Below.refl base w).grown hg hbase (fun x hx => (h.lo _ _ hx).1)).setCell hbP _⟩
def lineK (m : Mach PE) (k : Nat) : List Nat := (List.range k).foldl (enqL m) m.line
theorem lineK_succ (m : Mach PE) (k : Nat) : lineK m (k + 1) = enqL m (lineK m k) k := by unfold lineK; rw [List.range_succ, List.foldl_append]; rfl
set_option maxHeartbeats 1000000 in
theorem enqueue_any (w : World) (h : PMem 0 w base P f G mode m) (hl : m.line.length ≤ 6) :
  Calls Tryz.prog 101 #[ptr P 0] w (PPost w base P mode m.enq) := by
 have H0 := jD h
 have hPw := h.row.lt
 clear h
 unfold ptr
 go_enter Tryz.func101, Tryz.ntmps101
 go_wp2
 go_loopw [3] (fun i wr => ∃ k : Nat, k ≤ 6 ∧ i = .int .i64 k ∧ Hid ((∃ f' G', PMem 0 wr base P f' G' mode { m with line := lineK m k }) ∧ (lineK m k).length ≤ 6 + k ∧ Below base w wr)) (fun i _ => 6 - (intOf i).toNat)
 case atStart => exact ⟨0, by omega, rfl, ⟨f, G, H0.out⟩, by show m.line.length ≤ _; omega, Below.refl _ _⟩
 case round =>
  obtain ⟨k, hk, rfl, HZ⟩ := hrel
  by_cases hlt : k < 6
  ·obtain ⟨⟨f', G', hM⟩, hlen, hB⟩ := HZ.out
   have hP := hM.row.lt
   have hkI : (k : Int) < 6 := by omega
   have p1 := hM.row.cell (j := 4 + k * 6 + 1) (by omega)
   have HS := jD (lineK_succ m k)
   cases hw : (m.get k).wait with
   | nil =>
    have hs := hM.waitSl hlt
    have hw' : (Mach.get { m with line := lineK m k } k).wait = [] := hw
    rw [hw'] at hs
    obtain ⟨A, cc, hv, _⟩ := hs.shape
    rw [hv] at p1
    simp only [List.length_nil] at p1
    have HE := jD (show lineK m (k + 1) = lineK m k by rw [HS.out]; unfold enqL; rw [if_neg (fun hh => hh.1 hw)])
    have HF := jD (And.intro (show ∃ f' G', PMem 0 wr base P f' G' mode { m with line := lineK m k } from ⟨f', G', hM⟩) (And.intro (show (lineK m k).length ≤ 6 + (k + 1) by omega) hB))
    clear hs hv hw hw' hM hB hlen HZ HS
    go_wp2
    go_roundw
    case rel => exact ⟨k + 1, by omega, by go_num, by rw [HE.out]; exact HF.out⟩
    case measure => simp [intOf]; omega
   | cons r l =>
    have hs := hM.waitSl hlt
    have hw' : (Mach.get { m with line := lineK m k } k).wait = r :: l := hw
    rw [hw'] at hs
    obtain ⟨A, cc, hv, _⟩ := hs.shape
    rw [hv] at p1
    simp only [List.length_cons] at p1
    have hpos : (0 : Int) < ((l.length + 1 : Nat) : Int) := by omega
    have q0 := hM.row.cell (j := 40) (by omega)
    have hsl := hM.lineSl
    have HCN := jD (containsN_any (f' 40) (G' 8) (lineK m k) k wr hsl (by omega))
    have HSH := jD hsl.shape
    cases hq : (lineK m k).contains k with
    | true =>
     rw [hq] at HCN
     have HE := jD (show lineK m (k + 1) = lineK m k by rw [HS.out]; unfold enqL; rw [if_neg (fun hh => hh.2 (List.contains_iff_mem.1 hq))])
     have HF := jD (And.intro (show ∃ f' G', PMem 0 wr base P f' G' mode { m with line := lineK m k } from ⟨f', G', hM⟩) (And.intro (show (lineK m k).length ≤ 6 + (k + 1) by omega) hB))
     clear hs hv hw hw' hM hB hlen HZ HS hq hsl
     obtain ⟨A', c', hv', _⟩ := HSH.out
     generalize f' 40 = v40 at *
     subst hv'
     generalize l.length = n at *
     go_wp2_with fail
     refine HCN.out.mono ?_
     rintro e w1 ⟨rfl, rfl⟩
     go_wp2
     go_roundw
     case rel => exact ⟨k + 1, by omega, by go_num, by rw [HE.out]; exact HF.out⟩
     case measure => simp [intOf]; omega
    | false =>
     rw [hq] at HCN
     have HE := jD (show lineK m (k + 1) = lineK m k ++ [k] by rw [HS.out]; unfold enqL; rw [if_pos ⟨by rw [hw]; simp, fun hh => by rw [List.contains_iff_mem.2 hh] at hq; cases hq⟩])
     have n1 := (Below.refl wr.heap.size wr).alloc (nL _) (.cells #[.int .i64 (k : Int)] 3)
     have X := (RowTo.whole wr #[.int .i64 (k : Int)] 3).cell (j := 0) (by simp)
     have hM1 := hM.below n1
     obtain ⟨b, off, cap, w2, hrun, u0, z0, hP2, hM2, hB2⟩ := hM1.queued (by show (lineK m k).length ≤ 1000; omega) (ad := wr.heap.size) k X
     have HF := jD (And.intro (show ∃ f' G', PMem 0 _ base P f' G' mode { m with line := lineK m k ++ [k] } from ⟨_, _, hM2⟩) (And.intro (show (lineK m k ++ [k]).length ≤ 6 + (k + 1) by simp; omega) (hB.trans ((n1.mono (by have := hB.size; have := (hM.lo 0 P hM.p0).1; omega)).trans hB2))))
     have hrun' : (Builtin.append_ #[79, 79] 79 #[f' 40, .slice (some ⟨wr.heap.size, 0, none⟩) 1 1]).run Tryz.prog (wr.alloc (.cells #[.int .i64 (k : Int)] 3)) = .ok (.slice (some ⟨b, off, none⟩) ((lineK m k).length + 1) cap) w2 := hrun
     simp only at HF
     obtain ⟨A', c', hv', _⟩ := HSH.out
     have q1 := (n1.cell (p := ⟨P, 40, none⟩) hP).trans q0
     clear hs hv hw hw' hM hB hlen HZ HS hq hsl hM1 hM2 hB2 n1 X hrun
     generalize f' 40 = v40 at *
     subst hv'
     generalize l.length = n at *
     generalize (lineK m k).length = nl at *
     go_wp2_with fail
     refine HCN.out.mono ?_
     rintro e w1 ⟨rfl, rfl⟩
     go_wp2_with (at_builtin; refine Lib.wpList_append_run _ rfl _ _ _ _ rfl _ _ rfl rfl _ _ hrun' ?_)
     go_roundw
     case rel => exact ⟨k + 1, by omega, by go_num, by rw [HE.out]; exact HF.out⟩
     case measure => simp [intOf]; omega
  ·obtain rfl : k = 6 := by omega
   go_wp2
   go_end0
   obtain ⟨⟨f', G', hM⟩, _, hB⟩ := HZ.out
   exact ⟨f', G', rfl, hM, hB⟩
end
section
variable {base P : Nat} {f : Nat → Value} {G : Nat → Option Nat} {mode : Int} {m : Mach PE} {N : Nat}
theorem Inv.kept (h : Inv mode m N) {c : Nat} (hc : c < 6) (hs : (m.get c).srv = none) : (∀ q ∈ (m.e.of c).1, checkE 9 q.1 q.2 = 0) ∧ ∀ q ∈ (m.e.of c).2, checkE 11 q.1 q.2 = 0 := by
 obtain ⟨H, al⟩ := h.al
 have okc := sess_at al.okH (i := c) (by rw [al.hlen]; exact hc)
 rw [al.bare c hc hs] at okc
 exact ⟨(pairsB_rising okc.set).2.2, (pairsB_rising okc.prep).2.2⟩
theorem PMem.cutK {w : World} (h : PMem 0 w base P f G mode m) {m' : Mach PE} {k : Nat} (h1 : 1 ≤ k) (h2 : k ≤ 15) {b off cap n : Nat} (hf : f (slC k) = .slice (some ⟨b, off, none⟩) (n + 1) cap) {e : List Value} (hi : items m k = e :: items m' k) (he : e.length = slZ k) (hn : (items m' k).length = n)
  (ho : ∀ k', k' ≠ k → items m' k' = items m k') (hme : m'.e = m.e) (hb : ∀ c, (m'.get c).bytes = (m.get c).bytes) (hv : ∀ c, (m'.get c).srv = (m.get c).srv) :
  PMem 0 (w.setCell ⟨P, slC k, none⟩ (cutv b off (slZ k) n cap)) base P (upd f (slC k) (cutv b off (slZ k) n cap)) G mode m' := by
 have hs := h.sl k h1 h2 (by omega)
 rw [hf, hi] at hs
 simp only [List.length_cons, hn, List.flatten_cons] at hs
 have hc := hs.cut
 rw [List.drop_left' he] at hc
 refine ((h.but k).cellX h1 h2 _).fill ?_ ho hme hb hv
 rw [upd_at, hn]
 refine hc.ne (h.noP h1) (set_off w P (slC k) _)
def PPostB (w : World) (base P : Nat) (mode : Int) (r : Bool × Mach PE) (e : Ending) (w' : World) : Prop := ∃ f' G', e = .returned (.bool r.1) ∧ PMem 0 w' base P f' G' mode r.2 ∧ Below base w w'
set_option maxHeartbeats 2000000 in
theorem assign_any (w : World) (h : PMem 0 w base P f G mode m) (hT : Tabs w base) (hI : Inv mode m N) (hbl : m.busy.length ≤ 8) :
  Calls Tryz.prog 102 #[ptr P 0] w (PPostB w base P mode (m.assign poolO)) := by
 have hP := h.row.lt
 have hbP := (h.lo 0 P h.p0).1
 have HIX := jD (indexB_any (f 3) (G 1) m.busy w h.busySl (by omega))
 have b3 := h.row.cell (j := 3) (by omega)
 have q0 := h.row.cell (j := 40) (by omega)
 obtain ⟨A3, c3, hf3, _⟩ := h.busySl.shape
 obtain ⟨A4, c4, hf4, _⟩ := h.lineSl.shape
 have HH := jD h
 have HI := jD hI
 have HT := jD hT
 have HL := jD hI.line
 clear h hI hT
 unfold ptr
 by_cases hb : m.busy.idxOf false < m.busy.length
 case neg =>
  have HE := jD (show m.assign poolO = (false, m) by unfold Mach.assign; split; rfl; rw [if_neg hb])
  rw [hf3] at b3
  have hv3 : f 3 = .slice A3 m.busy.length c3 := hf3
  rw [hf3] at HIX
  clear hf3 hf4 q0
  go_enter Tryz.func102, Tryz.ntmps102
  go_wp2_with fail
  refine HIX.out.mono ?_
  rintro e w1 ⟨i, rfl, hi, rfl⟩
  obtain rfl : i = -1 := by
   rcases hi with hi | hi
   ·exact absurd hi.1 hb
   ·exact hi.2
  clear hi
  go_wp2
  go_ret
  rw [HE.out]
  exact ⟨f, G, rfl, HH.out, Below.refl _ _⟩
 rw [hf3] at b3 HIX
 cases hl : m.line with
 | nil =>
  have HE := jD (show m.assign poolO = (false, m) by unfold Mach.assign; rw [hl])
  rw [hf4, hl] at q0
  simp only [List.length_nil] at q0
  clear hf3 hf4
  go_enter Tryz.func102, Tryz.ntmps102
  go_wp2_with fail
  refine HIX.out.mono ?_
  rintro e w1 ⟨i, rfl, hi, rfl⟩
  obtain ⟨k, rfl⟩ : ∃ k : Nat, i = k := by
   rcases hi with hi | hi
   ·exact ⟨_, hi.2⟩
   ·exact absurd hb hi.1
  have hk0 : decide ((k : Int) < 0) = false := decide_eq_false (by omega)
  clear hi
  go_wp2
  go_ret
  rw [HE.out]
  exact ⟨f, G, rfl, HH.out, Below.refl _ _⟩
 | cons c l =>
  have hc6 := (HI.out.ok.line c (by rw [hl]; exact List.mem_cons_self)).1
  have hcn := (HI.out.ok.line c (by rw [hl]; exact List.mem_cons_self)).2.1
  have hsl := HH.out.lineSl
  rw [hl] at hsl
  obtain ⟨b, off, cap, hG8, hv40, hcap, hcs⟩ := hsl.at (by simp)
  have l0 := hcs 0 (by simp)
  simp only [List.map_cons, gCZ, numV, Nat.add_zero] at l0
  simp only [List.length_cons] at hv40
  rw [hv40] at q0
  have hbl0 := (HH.out.lo 8 b hG8)
  have hPb : P ≠ b := fun e => HH.out.noP (k := 8) (by omega) (by rw [hG8, e])
  have hcI : (c : Int) < 6 := by omega
  have hn0 : (((l.length + 1 : Nat) : Int) == 0) = false := by simp; omega
  have HBI := jD hb
  have HHL := jD hl
  have HCN := jD hcn
  have HV40 := jD hv40
  have HF3 := jD hf3
  have hcapl : l.length + 1 ≤ cap := by simpa using hcap
  clear hsl hcs hf4 hv40 hcap hl hf3 hcn hb
  go_enter Tryz.func102, Tryz.ntmps102
  go_wp2_with fail
  refine HIX.out.mono ?_
  rintro e w1 ⟨i, rfl, hi, rfl⟩
  obtain rfl : i = (m.busy.idxOf false : Nat) := by
   rcases hi with hi | hi
   ·exact hi.2
   ·exact absurd HBI.out hi.1
  have hk0 : decide (((m.busy.idxOf false : Nat) : Int) < 0) = false := decide_eq_false (by omega)
  clear hi HIX
  go_wp2_with fail
  go_quiet (fail)
  have hMd : PMem 0 (w1.drewN nq) base P f G mode m := HH.out.below (below_drewN (Below.refl _ _) nq)
  have hBd : Below base w1 (w1.drewN nq) := below_drewN (Below.refl _ _) nq
  have hTd := HT.out.below hBd
  obtain ⟨W, HW⟩ : ∃ u, Hid (w1.drewN nq = u) := ⟨_, jD rfl⟩
  rw [HW.out] at hMd hBd hTd ⊢
  clear HW b3 q0 l0 hbl0
  have hb := HBI.out
  have hl := HHL.out
  have hcn := HCN.out
  have hP := hMd.row.lt
  have q0 := hMd.row.cell (j := 40) (by omega)
  rw [HV40.out] at q0
  have hz40 := hMd.row.frozen 40
  -- the queue is cut
  have hM1 := hMd.cutK (m' := { m with line := l }) (k := 8) (by omega) (by omega) (b := b) (off := off) (cap := cap) (n := l.length) HV40.out (e := [.int .i64 (c : Int)]) (by rw [items_line, items_line, hl]; rfl) rfl (by rw [items_line]; simp) (fun k hk => items_less rfl rfl rfl rfl hk) rfl (fun _ => rfl) (fun _ => rfl)
  obtain ⟨vq, hvq⟩ : ∃ v, cutv b off 1 l.length cap = v := ⟨_, rfl⟩
  have hM1' : PMem 0 (W.setCell ⟨P, 40, none⟩ vq) base P (upd f 40 vq) G mode { m with line := l } := by rw [← hvq]; exact hM1
  obtain ⟨bb, ob, cp, g1, f3, hle, ⟨y, hy⟩, hfz, hM2⟩ := hM1'.setBusy (j := m.busy.idxOf false) hb true
  have hPbb : P ≠ bb := fun e => hMd.noP (k := 1) (by omega) (by rw [g1, e])
  have hbb := hMd.lo 1 bb g1
  have f3' : f 3 = .slice (some ⟨bb, ob, none⟩) m.busy.length cp := by rw [← f3]; exact (upd_ne (by omega)).symm
  have hA3 : A3 = some ⟨bb, ob, none⟩ ∧ c3 = cp := by rw [HF3.out] at f3'; injection f3' with e1 _ e3; exact ⟨e1, e3⟩
  obtain ⟨rfl, rfl⟩ := hA3
  have b3' := hM1'.row.cell (j := 3) (by omega)
  rw [f3] at b3'
  have s2 := hM2.row.cell (j := 4 + c * 6 + 2) (by omega)
  have s3 := hM2.row.cell (j := 4 + c * 6 + 3) (by omega)
  have z2 := hM2.row.frozen (4 + c * 6 + 2)
  have z3 := hM2.row.frozen (4 + c * 6 + 3)
  have hM3 := hM2.setSrv hc6 HI.out.ok.n6 (m.busy.idxOf false)
  have hgs : (Mach.get (Mach.set { m with line := l, busy := m.busy.set (m.busy.idxOf false) true } c { m.get c with srv := some (m.busy.idxOf false) }) c).srv = some (m.busy.idxOf false) := by
   rw [get_set (by show c < m.cl.length; rw [HI.out.ok.n6]; exact hc6), if_pos rfl]
  have hB3 : Below base W ((((W.setCell ⟨P, 40, none⟩ vq).setCell ⟨bb, ob + m.busy.idxOf false, none⟩ (.bool true)).setCell ⟨P, 4 + c * 6 + 2, none⟩ (.bool true)).setCell ⟨P, 4 + c * 6 + 3, none⟩ (.int .i64 (m.busy.idxOf false : Nat))) :=
   ((((Below.refl base W).setCell (p := ⟨P, 40, none⟩) hbP _).setCell (p := ⟨bb, ob + m.busy.idxOf false, none⟩) hbb.1 _).setCell (p := ⟨P, 4 + c * 6 + 2, none⟩) hbP _).setCell (p := ⟨P, 4 + c * 6 + 3, none⟩) hbP _
  have HRS := jD (restore_any _ hM3 (hTd.below hB3) HI.out.w hc6 hgs (by show _ < m.e.w.ss.length; rw [HI.out.plen]; exact hb) (HI.out.kept hc6 hcn).1 (HI.out.kept hc6 hcn).2)
  have HB3 := jD hB3
  have HE := jD (show m.assign poolO = (true, { Mach.set { m with line := l, busy := m.busy.set (m.busy.idxOf false) true } c { m.get c with srv := some (m.busy.idxOf false) } with e := ⟨restoreW m.e.w (m.busy.idxOf false) (m.e.of c), m.e.kept⟩ }) by
   unfold Mach.assign
   rw [hl]
   simp only
   rw [if_pos hb]
   rfl)
  obtain ⟨s, HSS⟩ : ∃ s, Hid (m.busy.idxOf false = s) := ⟨_, jD rfl⟩
  have hsl' : s < m.busy.length := by rw [← HSS.out]; exact hb
  have hsI : (s : Int) < (m.busy.length : Int) := by omega
  have HBF := jD (hBd.trans hB3)
  rw [HSS.out] at HRS HBF HE hfz hy s2 s3 z2 z3 hk0 ⊢
  generalize m.busy.length = nb at *
  clear hM1 hM1' hM2 hM3 hB3 hgs hG8 g1 f3 f3' hl hcn hle hb hMd hBd hTd HH HT HB3
  generalize l.length = nl at *
  unfold ptr at HRS
  by_cases hcp : cap = 1
  ·subst hcp
   obtain rfl : nl = 0 := by omega
   have hvq : Value.slice (some ⟨b, off, none⟩) 0 0 = vq := hvq
   subst hvq
   go_wp2_with fail
   refine HRS.out.mono ?_
   rintro e w5 ⟨f5, G5, rfl, hM5, hB5⟩
   have HFF := jD (And.intro hM5 (HBF.out.trans hB5))
   clear hM5 hB5 HRS
   go_wp2
   go_ret
   rw [HE.out]
   exact ⟨f5, G5, rfl, HFF.out.1, HFF.out.2⟩
  ·have hvq : Value.slice (some ⟨b, off + 1, none⟩) nl (cap - 1) = vq := by rw [← hvq]; unfold cutv; rw [if_neg hcp]
   subst hvq
   have hcp2 : cap - 1 ≠ 0 := by omega
   have hcp3 : ¬ cap ≤ 1 := by omega
   go_wp2_with fail
   refine HRS.out.mono ?_
   rintro e w5 ⟨f5, G5, rfl, hM5, hB5⟩
   have HFF := jD (And.intro hM5 (HBF.out.trans hB5))
   clear hM5 hB5 HRS
   go_wp2
   go_ret
   rw [HE.out]
   exact ⟨f5, G5, rfl, HFF.out.1, HFF.out.2⟩
end
end Go.Proofs.YtpbaobmegomfpabGreatDoor
namespace Go.Proofs.YtpbaobmegomfpabGreatDoor
open Go Go.RowKit
section
variable {P : Program} {ops : Array Oper} {Q : Exit → Go.Act → World → Prop} {md : Region.Mode} {S : World → Prop} {z : Nat}
theorem grid1 {A0 : Go.Act} {w0 : World} {i p di dp : Nat} {tp : TypeId} {zp : Array Value} {L : Bool → Bool → Array Bool}
  (op : ∃ o, ops[p]? = some o ∧ o.guard = none ∧ o.dst = some dp ∧ ∀ (ev : Operand → Value) w, (execOp ev o).run P w = .ok (.value (pt w.heap.size)) (w.alloc (.cells zp tp))) (ne : di ≠ dp)
  (r00 : Region.ready md ops (L false false) = [i, p]) (r10 : Region.ready md ops (L true false) = [p]) (r01 : Region.ready md ops (L false true) = [i])
  (s1 : (L false false).setIfInBounds i true = L true false) (s2 : (L false false).setIfInBounds p true = L false true) (s3 : (L true false).setIfInBounds p true = L true true) (s4 : (L false true).setIfInBounds i true = L true true)
  (n : Nat) (R : Value → World → World → Prop) (F : Value → Nat → World → Prop)
  (hc1 : wpOp P ops Q i (fun a' w' => ∃ v, a' = A0.put (some di) v ∧ R v w0 w') A0 w0)
  (hc2 : wpOp P ops Q i (fun a' w' => ∃ v, a' = (A0.put (some dp) (pt w0.heap.size)).put (some di) v ∧ R v (w0.alloc (.cells zp tp)) w') (A0.put (some dp) (pt w0.heap.size)) (w0.alloc (.cells zp tp)))
  (hS1 : ∀ v w', R v w0 w' → S w') (hS2 : S (w0.alloc (.cells zp tp)))
  (hf1 : ∀ v w', R v w0 w' → F v w'.heap.size (w'.alloc (.cells zp tp))) (hf2 : ∀ v w', R v (w0.alloc (.cells zp tp)) w' → F v w0.heap.size w') (hSF : ∀ v b w', F v b w' → S w')
  (hfin : ∀ v b w', F v b w' → wpAnyZ P md ops Q S z n (L true true) ((A0.put (some di) v).put (some dp) (pt b)) w') :
  wpAnyZ P md ops Q S z (n + 1 + 1) (L false false) A0 w0 := by
 obtain ⟨o, p1, p2, p3, p4⟩ := op
 refine ⟨fun h0 => (by rw [r00] at h0; cases h0), fun j hj => ?_⟩
 rw [r00] at hj
 have hj : j = i ∨ j = p := by simpa using hj
 rcases hj with rfl | rfl
 ·refine wpOp_mono (fun a' w' h => ?_) hc1
  obtain ⟨v, rfl, hR⟩ := h
  refine ⟨fun _ => hS1 v w' hR, ?_⟩
  rw [s1]
  refine ⟨fun h0 => (by rw [r10] at h0; cases h0), fun k hk => ?_⟩
  rw [r10] at hk
  obtain rfl : k = p := by simpa using hk
  refine wpOp_wp p1 p2 (wp_val (p4 _ w') ?_)
  rw [p3]
  exact ⟨fun _ => hSF _ _ _ (hf1 v w' hR), by rw [s3]; exact hfin _ _ _ (hf1 v w' hR)⟩
 ·refine wpOp_wp p1 p2 (wp_val (p4 _ w0) ?_)
  rw [p3]
  refine ⟨fun _ => hS2, ?_⟩
  rw [s2]
  refine ⟨fun h0 => (by rw [r01] at h0; cases h0), fun k hk => ?_⟩
  rw [r01] at hk
  obtain rfl : k = i := by simpa using hk
  refine wpOp_mono (fun a' w' h => ?_) hc2
  obtain ⟨v, rfl, hR⟩ := h
  refine ⟨fun _ => hSF _ _ _ (hf2 v w' hR), ?_⟩
  rw [s4, pc (Ne.symm ne)]
  exact hfin _ _ _ (hf2 v w' hR)
end
end Go.Proofs.YtpbaobmegomfpabGreatDoor
namespace Go.Proofs.YtpbaobmegomfpabGreatDoor
open Go.RowKit
theorem built_deed (c k ak st : Int) (key val text : ByteArray) : Tryz.prog.built 70 [(0, .int .i64 c), (1, .agg #[.int .i64 k, .string key, .string val]), (2, .agg #[.int .i64 ak, .string text, .int .i64 st])] = some #[.int .i64 c, .int .i64 k, .string key, .string val, .int .i64 ak, .string text, .int .i64 st] := by kernel_rfl
theorem exec_deed {ev : Operand → Value} {o : Oper} {x y z : Operand} {c k ak st : Int} {key val text : ByteArray} (ho : o.op = .build 70 #[(0, x), (1, y), (2, z)]) (hx : ev x = .int .i64 c) (hy : ev y = .agg #[.int .i64 k, .string key, .string val]) (hz : ev z = .agg #[.int .i64 ak, .string text, .int .i64 st]) (w : World) :
  (execOp ev o).run Tryz.prog w = .ok (.value (.agg #[.int .i64 c, .int .i64 k, .string key, .string val, .int .i64 ak, .string text, .int .i64 st])) w := by
 have h := run_build (P := Tryz.prog) w 70 #[(0, .int .i64 c), (1, .agg #[.int .i64 k, .string key, .string val]), (2, .agg #[.int .i64 ak, .string text, .int .i64 st])] _ (built_deed c k ak st key val text)
 unfold execOp
 simp only [ho, Sem.run_bind, Sem.run_pure, List.map_toArray, List.map_cons, List.map_nil, hx, hy, hz, h, Result.andThen_ok]
theorem exec_deeds {ev : Operand → Value} {o : Oper} {x : Operand} {c k ak st : Int} {key val text : ByteArray} (ho : o.op = .buildSlice 26 1 #[(0, x)]) (hx : ev x = .agg #[.int .i64 c, .int .i64 k, .string key, .string val, .int .i64 ak, .string text, .int .i64 st]) (w : World) :
  (execOp ev o).run Tryz.prog w = .ok (.value (.slice (some ⟨w.heap.size, 0, none⟩) 1 1)) (w.alloc (.cells #[.int .i64 c, .int .i64 k, .string key, .string val, .int .i64 ak, .string text, .int .i64 st] 70)) := by
 unfold execOp
 simp only [ho, Sem.run_bind, Sem.run_pure, List.map_toArray, List.map_cons, List.map_nil, hx]
 go_simp
end Go.Proofs.YtpbaobmegomfpabGreatDoor
