/-
  Texts of the proof, one behind the other: PSend, PRel.
-/
import Derived.Test.YtpbaobmegomfpabGreatDoorM28
import Derived.Test.YtpbaobmegomfpabGreatDoorM18
import Derived.Lib.AppendZeros
import Derived.Test.YtpbaobmegomfpabGreatDoorM1
set_option linter.unusedVariables false
set_option linter.unusedSimpArgs false
set_option maxRecDepth 100000
open List renaming getElem_toArray → gTA, getElem_cons_zero → gCZ, getElem_cons_succ → gCS, setIfInBounds_toArray → sTA, set_cons_zero → sCZ, set_cons_succ → sCS
open Go.Lib renaming hid → jD
open Nat renaming le_refl → nL
namespace Go.Proofs.YtpbaobmegomfpabGreatDoor
open Go.RowKit
theorem u8_row : (Tryz.prog.info? 5).map (fun i => (i.zero, i.size, i.bytes)) = some (some (.int .u8 0), 1, 1) := by kernel_rfl
theorem items_sent (m : Mach PE) {c : Nat} (hc : c < 6) : items m (9 + c) = (m.sent.getD c ⟨#[]⟩).data.toList.map (fun b => [.int .u8 b.toNat]) := by
 unfold items
 rw [if_neg (by omega), if_neg (by omega), if_neg (by omega), if_pos (by omega), show 9 + c - 9 = c by omega]
theorem flat_ones (l : List UInt8) : (l.map (fun b => [Value.int .u8 (b.toNat : Int)])).flatten = l.map (fun b => Value.int .u8 (b.toNat : Int)) := by
 induction l with
 | nil => rfl
 | cons a l ih => simp [ih]
theorem tellT_size (k st : Nat) (x : ByteArray) (hx : x.size ≤ 60) (hk : k ≤ 4) (hst : st ≤ 2) : (tellT k st x).size ≤ 120 := by
 unfold tellT
 have h1 := lead_size k hk
 have h2 : (markAt st).size ≤ 1 := by
  obtain rfl | rfl | rfl : st = 0 ∨ st = 1 ∨ st = 2 := by omega
  all_goals decide
 rw [ByteArray.size_append, ByteArray.size_append]
 omega
def KeepF (G : Nat → Option Nat) (w w' : World) : Prop := w.heap.size ≤ w'.heap.size ∧ ∀ b, b < w.heap.size → Free G b → w'.heap[b]? = w.heap[b]?
theorem KeepF.refl (G : Nat → Option Nat) (w : World) : KeepF G w w := ⟨nL _, fun _ _ _ => rfl⟩
theorem KeepF.trans {G : Nat → Option Nat} {w w' w2 : World} (h : KeepF G w w') (h2 : KeepF G w' w2) : KeepF G w w2 := ⟨Nat.le_trans h.1 h2.1, fun b hb hf => (h2.2 b (Nat.lt_of_lt_of_le hb h.1) hf).trans (h.2 b hb hf)⟩
theorem KeepF.below {G : Nat → Option Nat} {w w' : World} (h : Below w.heap.size w w') : KeepF G w w' := ⟨h.size, fun b hb _ => h.block b hb⟩
theorem KeepF.grown {G : Nat → Option Nat} {w w' w2 : World} {k : Nat} (h : KeepF G w w') (hg : w'.grownBy w2 (G k)) : KeepF G w w2 := ⟨Nat.le_trans h.1 hg.size, fun b hb hf => (hg.block b (Nat.lt_of_lt_of_le hb h.1) (fun e => hf k e.symm)).trans (h.2 b hb hf)⟩
theorem KeepF.set {G : Nat → Option Nat} {w w' : World} {k R : Nat} (h : KeepF G w w') (hR : G k = some R) (j : Nat) (v : Value) : KeepF G w (w'.setCell ⟨R, j, none⟩ v) := ⟨by rw [size_set]; exact h.1, fun b hb hf => (set_off _ R j v b (fun e => hf k (by rw [hR, e]))).trans (h.2 b hb hf)⟩
section
variable {base P : Nat} {f : Nat → Value} {G : Nat → Option Nat} {mode : Int} {m : Mach PE}
theorem PMem.told {w w1 : World} {b off cap n : Nat} {a : Ans} {st : Int} (h : PMem 0 w base P f G mode m) (hs6 : m.sent.length = 6) {c : Nat} (hc : c < 6) (hn : n = (m.sent.getD c ⟨#[]⟩).size) (hg : w.grownBy w1 (G (9 + c)))
  (hs : Sl w1 5 1 (.slice (some ⟨b, off, none⟩) (n + (ansM a st).size) cap) (some b) (n + (ansM a st).size) (((m.sent.getD c ⟨#[]⟩).data.toList.map (fun b => Value.int .u8 (b.toNat : Int))) ++ Lib.strCells (ansM a st))) (hb : G (9 + c) = some b ∨ (w.heap.size ≤ b ∧ b < w1.heap.size)) :
  PMem 0 (w1.setCell ⟨P, 41 + c, none⟩ (.slice (some ⟨b, off, none⟩) (n + (ansM a st).size) cap)) base P (upd f (41 + c) (.slice (some ⟨b, off, none⟩) (n + (ansM a st).size) cap)) (upd G (9 + c) (some b)) mode (m.tell c a st) := by
 have e1 : slC (9 + c) = 41 + c := by unfold slC; rw [if_neg (by omega), if_neg (by omega), if_neg (by omega), if_pos (by omega)]; omega
 have e2 : slT (9 + c) = 5 := by unfold slT; rw [if_neg (by omega), if_neg (by omega), if_neg (by omega), if_pos (by omega)]
 have e3 : slZ (9 + c) = 1 := by unfold slZ; rw [if_neg (by omega), if_neg (by omega), if_pos (by omega)]
 have e4 : (m.tell c a st).sent.getD c ⟨#[]⟩ = m.sent.getD c ⟨#[]⟩ ++ ansM a st := by
  unfold Mach.tell; simp only; rw [getD_set, if_pos ⟨rfl, by omega⟩]
 have hbase : base ≤ w.heap.size := Nat.le_trans (h.lo 0 P h.p0).1 (Nat.le_of_lt (h.lo 0 P h.p0).2)
 have := h.grow (k := 9 + c) (m' := m.tell c a st) (n' := n + (ansM a st).size) (v := .slice (some ⟨b, off, none⟩) (n + (ansM a st).size) cap) (xs := ((m.sent.getD c ⟨#[]⟩).data.toList.map (fun b => Value.int .u8 (b.toNat : Int))) ++ Lib.strCells (ansM a st)) (b := b) (by omega) (by omega) hbase hg (by rw [e2, e3]; exact hs) hb
  (by rw [items_sent _ hc, e4, hn, List.length_map, Array.length_toList]; show _ = (m.sent.getD c ⟨#[]⟩ ++ ansM a st).size; rw [ByteArray.size_append]) (by rw [items_sent _ hc, flat_ones, e4]; simp [Lib.strCells]) (fun k hk => ?_) rfl (fun _ => rfl) (fun _ => rfl)
 ·rw [e1] at this; exact this
 ·unfold items
  by_cases h1 : k = 1
  ·rw [if_pos h1, if_pos h1]; rfl
  ·rw [if_neg h1, if_neg h1]
   by_cases h2 : k < 8
   ·rw [if_pos h2, if_pos h2]; rfl
   ·rw [if_neg h2, if_neg h2]
    by_cases h3 : k = 8
    ·rw [if_pos h3, if_pos h3]; rfl
    ·rw [if_neg h3, if_neg h3]
     by_cases h4 : k < 15
     ·rw [if_pos h4, if_pos h4]
      have : (m.tell c a st).sent.getD (k - 9) ⟨#[]⟩ = m.sent.getD (k - 9) ⟨#[]⟩ := by
       unfold Mach.tell; simp only; rw [getD_set, if_neg (by omega)]
      rw [this]
     ·rw [if_neg h4, if_neg h4]; rfl
set_option maxHeartbeats 4000000 in
theorem send_any (w : World) (h : PMem 0 w base P f G mode m) (hT : Tabs w base) (hs6 : m.sent.length = 6) (c : Nat) (hc : c < 6) (a : Ans) (st : Int) (ha : AnsOk a) (hst : 0 ≤ st ∧ st ≤ 2) (hsm : (m.sent.getD c ⟨#[]⟩).size ≤ 100000000) :
  Calls Tryz.prog 119 #[ptr P 0, .int .i64 c, .agg #[.int .i64 a.kind, .string a.text, .int .i64 st]] w fun e w' => ∃ f' G', e = .returned (.tuple #[]) ∧ PMem 0 w' base P f' G' mode (m.tell c a st) ∧ Below base w w' ∧ KeepF G w w' := by
 have hP := h.row.lt
 have hbP := (h.lo 0 P h.p0).1
 have n0 := (Below.refl w.heap.size w).alloc (nL _) (.cells #[.int .i64 a.kind, .string a.text, .int .i64 st] 46)
 obtain ⟨k, hk⟩ : ∃ k : Nat, a.kind = k := ⟨a.kind.toNat, by have := ha.lo; omega⟩
 obtain ⟨s, hs⟩ : ∃ s : Nat, st = s := ⟨st.toNat, by omega⟩
 have hk4 : 1 ≤ k ∧ k ≤ 4 := by have := ha.lo; have := ha.hi; omega
 have HTE := jD (fun wc (hL : Leads wc) => tell_ok k s a.text wc hL (by omega) (by
  have := ha.ne; rw [hk] at this
  intro hh
  rcases hh with hh | hh
  ·rw [hh] at this; cases this
  ·have := ha.len; omega))
 have hts := tellT_size k s a.text ha.len (by omega) (by omega)
 have HPA := jD (fun wc => pack_any 82 (tellT k s a.text) wc hts)
 have hmsg : msg 82 (tellT k s a.text) = ansM a st := by unfold ansM; rw [hk, hs]; simp
 rw [hmsg] at HPA
 have hms : 0 < (ansM a st).size ∧ (ansM a st).size ≤ 122 := by rw [← hmsg, msg_size]; omega
 generalize tellT k s a.text = tt at *
 have HT := jD hT
 have HH := jD h
 obtain ⟨i0, hi, hz0, hz1, hz2⟩ := info_parts u8_row
 have HI := jD (And.intro hi (And.intro hz0 (And.intro hz1 hz2)))
 have HB0 := jD (n0.mono (Nat.le_trans hbP (Nat.le_of_lt hP)))
 have HN0 := jD n0
 subst hs
 rw [hk]
 have HMS := jD hms
 have HPA2 : Hid (∀ (wc : World), Calls Tryz.prog 36 #[.int .u8 82, .string tt] wc fun e w' => e = .returned (.tuple #[.string (ansM a s), .int .i64 0]) ∧ Below wc.heap.size wc w') := jD fun wc => HPA.out wc
 have hcI : (c : Int) < 6 := by omega
 rw [hk] at HN0 HB0
 have HSM := jD hsm
 have HS6 := jD hs6
 have X1 := RowTo.whole w #[.int .i64 (k : Int), .string a.text, .int .i64 (s : Int)] 46
 obtain ⟨x0, x1, x2⟩ := cells3 X1
 have hPw : P < (w.alloc (.cells #[.int .i64 (k : Int), .string a.text, .int .i64 (s : Int)] 46)).heap.size := by simp; omega
 obtain ⟨mm, HMM⟩ : ∃ x, Hid (ansM a s = x) := ⟨_, jD rfl⟩
 rw [HMM.out] at HPA2 HMS
 clear h hT ha hst hsm hs6 n0 hts hmsg hms HPA hi hz0 hz1 hz2 hk hk4 X1
 unfold ptr
 go_enter Tryz.func119, Tryz.ntmps119
 go_wp2_with fail
 refine (HTE.out _ (HT.out.le.below HN0.out)).mono ?_
 rintro e w1 ⟨rfl, hb1⟩
 have HB1 := jD (bel_add' HN0.out hb1 HN0.out.size)
 clear hb1 x0 x1 x2 HTE
 go_wp2_with fail
 refine (HPA2.out _).mono ?_
 rintro e w2 ⟨rfl, hb2⟩
 have HB2 := jD (bel_add' HB1.out hb2 HB1.out.size)
 clear hb2 HPA2 HB1
 go_wp2_with fail
 have M2 := HH.out.below HB2.out
 have s0 := M2.row.cell (j := 41 + c) (by omega)
 have e1 : slC (9 + c) = 41 + c := by unfold slC; rw [if_neg (by omega), if_neg (by omega), if_neg (by omega), if_pos (by omega)]; omega
 have e2 : slT (9 + c) = 5 := by unfold slT; rw [if_neg (by omega), if_neg (by omega), if_neg (by omega), if_pos (by omega)]
 have e3 : slZ (9 + c) = 1 := by unfold slZ; rw [if_neg (by omega), if_neg (by omega), if_pos (by omega)]
 have hsl := M2.sl (9 + c) (by omega) (by omega) (by omega)
 rw [e1, e2, e3, items_sent _ hc, flat_ones, List.length_map] at hsl
 have hsl2 : Sl w2.drew 5 1 (f (41 + c)) (G (9 + c)) (m.sent.getD c ⟨#[]⟩).size ((m.sent.getD c ⟨#[]⟩).data.toList.map (fun b => Value.int .u8 (b.toNat : Int))) := hsl.keep (fun _ _ => rfl)
 obtain ⟨b, off, cap, w3, hrun, hs3, hg3, hb3⟩ := hsl2.appendStr (P := Tryz.prog) 80 9 80 i0 Tryz.underlying80 Tryz.underlying9 HI.out.1 HI.out.2.1 HI.out.2.2.1 HI.out.2.2.2 mm HMS.out.1 (by have := HSM.out; have := HMS.out; unfold maxLen; omega) (by have := HSM.out; have := HMS.out; omega)
 have hPg : some P ≠ G (9 + c) := fun e => M2.noP (by omega) e.symm
 have hP3 : w3.heap[P]? = w2.heap[P]? := hg3.block P M2.row.lt hPg
 have p0 : w3.cell? ⟨P, 41 + c, none⟩ = some (f (41 + c)) := (World.cell?_of_block (a := ⟨P, 41 + c, none⟩) hP3).trans s0
 have fz : w3.frozen? ⟨P, 41 + c, none⟩ = false := (World.frozen?_of_block (a := ⟨P, 41 + c, none⟩) hP3).trans (M2.row.frozen _)
 have M2d : PMem 0 w2.drew base P f G mode m := M2.below (Below.refl _ _).drew
 have hFin : PMem 0 (w3.setCell ⟨P, 41 + c, none⟩ (.slice (some ⟨b, off, none⟩) ((m.sent.getD c ⟨#[]⟩).size + mm.size) cap)) base P (upd f (41 + c) (.slice (some ⟨b, off, none⟩) ((m.sent.getD c ⟨#[]⟩).size + mm.size) cap)) (upd G (9 + c) (some b)) mode (m.tell c a s) := by
  have := HMM.out
  subst this
  exact M2d.told HS6.out hc rfl hg3 hs3 hb3
 have hBF : Below base w (w3.setCell ⟨P, 41 + c, none⟩ (.slice (some ⟨b, off, none⟩) ((m.sent.getD c ⟨#[]⟩).size + mm.size) cap)) := by
  have hb0 : base ≤ w.heap.size := by omega
  have h2 : Below base w w2.drew := (HB2.out.mono hb0).drew
  exact (h2.grown hg3 (Nat.le_trans hb0 h2.size) (fun x hx => (M2d.lo _ _ hx).1)).setCell hbP _
 have hKF : KeepF G w (w3.setCell ⟨P, 41 + c, none⟩ (.slice (some ⟨b, off, none⟩) ((m.sent.getD c ⟨#[]⟩).size + mm.size) cap)) := ((KeepF.below HB2.out.drew).grown hg3).set (k := 0) M2.p0 _ _
 have HF := jD (And.intro hFin (And.intro hBF hKF))
 have hPl := M2.row.lt
 generalize f (41 + c) = fv at *
 generalize (m.sent.getD c ⟨#[]⟩).size = nn at *
 clear M2 M2d hsl hsl2 hs3 hg3 hb3 hFin hBF hKF e1 e2 e3 hPg hP3 HH HT HI HB0 HN0 HB2 HMS HSM HS6 HMM
 refine wp_region_z 13 (fun wx => wx.cell? ⟨P, 41 + c, none⟩ = some fv) (by kernel_rfl) (s0) (fun hS => ?_)
 refine tkE [(0, []), (1, []), (2, []), (3, []), (4, []), (5, []), (6, []), (7, []), (8, []), (10, [11, 12]), (11, [12])] ?_
 iterate 11
  refine tkS (v := ?_) hS ?_ ?_
  rotate_left
  ·(intro w hSw; (try dsimp only at hSw); (try simp only [gTA, gCZ, gCS]); go_simp; try with_reducible rfl)
  (try simp only [gTA, gCZ, gCS, Act.put, sTA, sCZ, sCS])
 refine tkF ?_
 refine wpAnyZ_one (i := 9) rfl rfl (by kernel_rfl) (fun K hK => ?_)
 (try simp only [gTA, gCZ, gCS])
 refine Lib.wp_append_run _ _ _ _ _ rfl _ _ rfl rfl _ _ hrun ?_
 have hS2 := p0
 refine hK.out _ _ hS2 ?_
 clear hK K hS
 have hS := hS2
 clear hS2
 (try simp only [gTA, gCZ, gCS, Act.put, sTA, sCZ, sCS])
 refine wpAnyZ_take (i := 12) (v := ?v12) rfl (by kernel_rfl) (by kernel_rfl) (by kernel_rfl) (by kernel_rfl) (fun _ _ _ h => h) (Or.inl ⟨by rfl, ?y12⟩) hS ?r12
 case y12 => (intro w hSw; (try dsimp only at hSw); (try simp only [gTA, gCZ, gCS]); go_simp; try with_reducible rfl)
 (try simp only [gTA, gCZ, gCS, Act.put, sTA, sCZ, sCS])
 refine wpAnyZ_last rfl rfl (by kernel_rfl) (by kernel_rfl) (fun K hK => ?_)
 (try simp only [gTA, gCZ, gCS])
 go_simp
 refine hK.out _ _ ?_
 clear hK K
 (try simp only [gTA, gCZ, gCS, Act.put, sTA, sCZ, sCS])
 go_wp2
 go_end0
 exact ⟨_, _, rfl, HF.out.1, HF.out.2.1, HF.out.2.2⟩
end
theorem Sl.set1 {w : World} {t n : Nat} {v : Value} {g : Option Nat} {xs : List Value} (h : Sl w t 1 v g n xs) {j : Nat} (hj : j < n) (u : Value) : ∃ b off cap, g = some b ∧ v = .slice (some ⟨b, off, none⟩) n cap ∧ n ≤ cap ∧ (∃ x, w.cell? ⟨b, off + j, none⟩ = some x) ∧ w.frozen? ⟨b, off + j, none⟩ = false ∧ Sl (w.setCell ⟨b, off + j, none⟩ u) t 1 v g n (xs.set j u) := by
 have hxl : xs.length = n := by simpa using h.len
 rcases h.form with ⟨_, _, h0⟩ | ⟨b, off, cap, tot, h1, h2, h3, hr, h4, h5⟩
 ·omega
 ·have h4' := h4
  have h4 := h4.resolve_left (by omega)
  have hin : off + j < tot := by omega
  refine ⟨b, off, cap, h1, h2, h3, ⟨_, h5 j (by omega)⟩, hr.frozen _, by simpa using h.len, .inr ⟨b, off, cap, tot, h1, h2, h3, hr.hit _, h4', fun i hi => ?_⟩⟩
  rw [List.length_set] at hi
  by_cases e : i = j
  ·subst e; rw [cell_put hr hin, List.getElem_set_self]
  ·rw [cell_off _ (by omega), h5 i hi, List.getElem_set_ne (Ne.symm e)]
section
variable {base P : Nat} {f : Nat → Value} {G : Nat → Option Nat} {mode : Int} {m : Mach PE}
theorem items_busy (m : Mach PE) : items m 1 = m.busy.map (fun b => [.bool b]) := by unfold items; rw [if_pos rfl]
theorem flat_bools (l : List Bool) : (l.map (fun b => [Value.bool b])).flatten = l.map Value.bool := by
 induction l with
 | nil => rfl
 | cons a l ih => simp [ih]
theorem PMem.busySl {w : World} (h : PMem 0 w base P f G mode m) : Sl w 4 1 (f 3) (G 1) m.busy.length (m.busy.map Value.bool) := by
 have := h.sl 1 (by omega) (by omega) (by omega)
 rw [items_busy, flat_bools, List.length_map] at this
 exact this
theorem PMem.setBusy {w : World} (h : PMem 0 w base P f G mode m) {j : Nat} (hj : j < m.busy.length) (x : Bool) : ∃ b off cap, G 1 = some b ∧ f 3 = .slice (some ⟨b, off, none⟩) m.busy.length cap ∧ m.busy.length ≤ cap ∧ (∃ y, w.cell? ⟨b, off + j, none⟩ = some y) ∧ w.frozen? ⟨b, off + j, none⟩ = false ∧
  PMem 0 (w.setCell ⟨b, off + j, none⟩ (.bool x)) base P f G mode { m with busy := m.busy.set j x } := by
 obtain ⟨b, off, cap, h1, h2, h3, h4, h5, h6⟩ := h.busySl.set1 hj (.bool x)
 refine ⟨b, off, cap, h1, h2, h3, h4, h5, ?_⟩
 have hk := (h.but 1).keep (w' := w.setCell ⟨b, off + j, none⟩ (.bool x)) (by omega) (by rw [size_set]; exact nL _) (fun b' _ hne => Below.heap_setCell _ _ _ _ (fun e => hne (by rw [h1, e])))
 refine hk.fill ?_ (fun k hk' => ?_) rfl (fun _ => rfl) (fun _ => rfl)
 ·rw [items_busy, flat_bools, List.length_map, List.length_set, List.map_set]
  exact h6
 ·unfold items
  rw [if_neg hk', if_neg hk']; rfl
set_option maxHeartbeats 4000000 in
theorem release_any (w : World) (h : PMem 0 w base P f G mode m) (hm : MOk mode m) (hp : m.e.w.ss.length = m.busy.length) (hk6 : m.e.kept.length = 6) {c s : Nat} (hc : c < 6) (hs : (m.get c).srv = some s) :
  Calls Tryz.prog 76 #[ptr P 0, ptr P (4 + c * 6)] w fun e w' => ∃ f', e = .returned (.tuple #[]) ∧ PMem 0 w' base P f' G mode (m.release poolO c s) ∧ Below base w w' := by
 have hP := h.row.lt
 have hbP := (h.lo 0 P h.p0).1
 have hb := (List.getElem?_eq_some_iff.1 (hm.srv c s hs)).1
 have hlt : s < m.e.w.ss.length := by omega
 obtain ⟨q, hq, hqs⟩ := h.srv c hc
 obtain rfl := hqs s hs
 obtain ⟨gB, oB, cB, hf2, hFB, hgB, hcs⟩ := h.wld.at (by omega)
 obtain ⟨v1, v2, v3, v4, sB, i1, i2, i3, i4⟩ := hcs s hlt
 have a2 := h.row.cell (j := 2) (by omega)
 rw [hf2] at a2
 have a3 := h.row.cell (j := 4 + c * 6 + 3) (by omega)
 rw [hq] at a3
 obtain ⟨q0, q1, q2, q3, q4, l1, l2, l3, l4⟩ := sB
 obtain ⟨E1, e1, rfl, hE1⟩ := l1.form
 obtain ⟨E2, e2, rfl, hE2⟩ := l2.form
 obtain ⟨E3, e3, rfl, hE3⟩ := l3.form
 obtain ⟨E4, e4, rfl, hE4⟩ := l4.form
 have hbd := h.wld.wld.sess.bytes
 have hsI : (s : Int) < (m.e.w.ss.length : Int) := by omega
 have HH := jD h
 have HL1 := jD (And.intro l1 i1)
 have HL2 := jD (And.intro l2 i2)
 have hat := at_lt hlt
 have HK6 := jD hk6
 have HN6 := jD hm.n6
 have HHB := jD hb
 have HSR := jD hs
 obtain ⟨S, HS⟩ : ∃ S, Hid (m.e.w.ss[s] = S) := ⟨_, jD rfl⟩
 rw [HS.out] at q0 q1 q2 q3 q4 HL1 HL2 hat
 have HAT := jD hat
 clear hat
 clear h hm hp hk6 hs hq hqs hf2 hFB hcs l1 l2 l3 l4 i1 i2 i3 i4 hE1 hE2 hE3 hE4 hb HS hlt
 generalize m.e.w.ss.length = n2 at *
 unfold ptr
 go_enter Tryz.func76, Tryz.ntmps76
 go_wp2_with fail
 refine wp_region_z 12 (fun wx => wx.cell? ⟨P, 2, none⟩ = some (.slice (some ⟨gB, oB, none⟩) n2 cB) ∧ wx.cell? ⟨P, 4 + c * 6 + 3, none⟩ = some (.int .i64 s) ∧ wx.cell? ⟨gB, oB + s * 5, none⟩ = some (.int .i64 S.st) ∧ wx.cell? ⟨gB, oB + s * 5 + 1, none⟩ = some (.slice E1 S.set.length e1) ∧ wx.cell? ⟨gB, oB + s * 5 + 2, none⟩ = some (.slice E2 S.prep.length e2) ∧ wx.cell? ⟨gB, oB + s * 5 + 3, none⟩ = some (.slice E3 S.sav.length e3) ∧ wx.cell? ⟨gB, oB + s * 5 + 4, none⟩ = some (.slice E4 S.wr.length e4)) (by kernel_rfl) (show w.drew.cell? ⟨P, 2, none⟩ = some (.slice (some ⟨gB, oB, none⟩) n2 cB) ∧ w.drew.cell? ⟨P, 4 + c * 6 + 3, none⟩ = some (.int .i64 s) ∧ w.drew.cell? ⟨gB, oB + s * 5, none⟩ = some (.int .i64 S.st) ∧ w.drew.cell? ⟨gB, oB + s * 5 + 1, none⟩ = some (.slice E1 S.set.length e1) ∧ w.drew.cell? ⟨gB, oB + s * 5 + 2, none⟩ = some (.slice E2 S.prep.length e2) ∧ w.drew.cell? ⟨gB, oB + s * 5 + 3, none⟩ = some (.slice E3 S.sav.length e3) ∧ w.drew.cell? ⟨gB, oB + s * 5 + 4, none⟩ = some (.slice E4 S.wr.length e4) from ⟨a2, a3, q0, q1, q2, q3, q4⟩) (fun hS => ?_)
 refine tkE [(0, []), (1, []), (2, []), (3, []), (4, []), (5, []), (6, []), (7, []), (8, []), (9, []), (10, [])] ?_
 iterate 11
  refine tkS (v := ?_) hS ?_ ?_
  rotate_left
  ·(intro w hSw; (try dsimp only at hSw); (try simp only [gTA, gCZ, gCS]); go_simp; try with_reducible rfl)
  (try simp only [gTA, gCZ, gCS, Act.put, sTA, sCZ, sCS])
 refine tkF ?_
 refine wpAnyZ_one (i := 11) rfl rfl (by kernel_rfl) (fun K hK => ?_)
 (try simp only [gTA, gCZ, gCS])
 go_simp
 have hS2 := (show (w.drew.alloc (.cells #[.int .i64 0, .slice none 0 0, .slice none 0 0, .slice none 0 0, .slice none 0 0] 115)).cell? ⟨P, 2, none⟩ = some (.slice (some ⟨gB, oB, none⟩) n2 cB) ∧ (w.drew.alloc (.cells #[.int .i64 0, .slice none 0 0, .slice none 0 0, .slice none 0 0, .slice none 0 0] 115)).cell? ⟨P, 4 + c * 6 + 3, none⟩ = some (.int .i64 s) ∧ (w.drew.alloc (.cells #[.int .i64 0, .slice none 0 0, .slice none 0 0, .slice none 0 0, .slice none 0 0] 115)).cell? ⟨gB, oB + s * 5, none⟩ = some (.int .i64 S.st) ∧ (w.drew.alloc (.cells #[.int .i64 0, .slice none 0 0, .slice none 0 0, .slice none 0 0, .slice none 0 0] 115)).cell? ⟨gB, oB + s * 5 + 1, none⟩ = some (.slice E1 S.set.length e1) ∧ (w.drew.alloc (.cells #[.int .i64 0, .slice none 0 0, .slice none 0 0, .slice none 0 0, .slice none 0 0] 115)).cell? ⟨gB, oB + s * 5 + 2, none⟩ = some (.slice E2 S.prep.length e2) ∧ (w.drew.alloc (.cells #[.int .i64 0, .slice none 0 0, .slice none 0 0, .slice none 0 0, .slice none 0 0] 115)).cell? ⟨gB, oB + s * 5 + 3, none⟩ = some (.slice E3 S.sav.length e3) ∧ (w.drew.alloc (.cells #[.int .i64 0, .slice none 0 0, .slice none 0 0, .slice none 0 0, .slice none 0 0] 115)).cell? ⟨gB, oB + s * 5 + 4, none⟩ = some (.slice E4 S.wr.length e4) from ⟨((((Below.refl w.heap.size w).drew).alloc (nL _) (.cells #[.int .i64 0, .slice none 0 0, .slice none 0 0, .slice none 0 0, .slice none 0 0] 115)).cell (p := ⟨P, 2, none⟩) hP).trans a2, ((((Below.refl w.heap.size w).drew).alloc (nL _) (.cells #[.int .i64 0, .slice none 0 0, .slice none 0 0, .slice none 0 0, .slice none 0 0] 115)).cell (p := ⟨P, 4 + c * 6 + 3, none⟩) hP).trans a3, ((((Below.refl w.heap.size w).drew).alloc (nL _) (.cells #[.int .i64 0, .slice none 0 0, .slice none 0 0, .slice none 0 0, .slice none 0 0] 115)).cell (p := ⟨gB, oB + s * 5, none⟩) hgB).trans q0, ((((Below.refl w.heap.size w).drew).alloc (nL _) (.cells #[.int .i64 0, .slice none 0 0, .slice none 0 0, .slice none 0 0, .slice none 0 0] 115)).cell (p := ⟨gB, oB + s * 5 + 1, none⟩) hgB).trans q1, ((((Below.refl w.heap.size w).drew).alloc (nL _) (.cells #[.int .i64 0, .slice none 0 0, .slice none 0 0, .slice none 0 0, .slice none 0 0] 115)).cell (p := ⟨gB, oB + s * 5 + 2, none⟩) hgB).trans q2, ((((Below.refl w.heap.size w).drew).alloc (nL _) (.cells #[.int .i64 0, .slice none 0 0, .slice none 0 0, .slice none 0 0, .slice none 0 0] 115)).cell (p := ⟨gB, oB + s * 5 + 3, none⟩) hgB).trans q3, ((((Below.refl w.heap.size w).drew).alloc (nL _) (.cells #[.int .i64 0, .slice none 0 0, .slice none 0 0, .slice none 0 0, .slice none 0 0] 115)).cell (p := ⟨gB, oB + s * 5 + 4, none⟩) hgB).trans q4⟩)
 refine hK.out _ _ hS2 ?_
 clear hK K hS
 have hS := hS2
 clear hS2
 (try simp only [gTA, gCZ, gCS, Act.put, sTA, sCZ, sCS])
 refine wpAnyZ_last rfl rfl (by kernel_rfl) (by kernel_rfl) (fun K hK => ?_)
 (try simp only [gTA, gCZ, gCS])
 go_simp
 refine hK.out _ _ ?_
 clear hK K
 (try simp only [gTA, gCZ, gCS, Act.put, sTA, sCZ, sCS])
 go_wp2_with fail
 have nA : Below w.heap.size w (w.alloc (.cells #[.int .i64 S.st, .slice E1 S.set.length e1, .slice E2 S.prep.length e2, .slice E3 S.sav.length e3, .slice E4 S.wr.length e4] 115)).drew := (((Below.refl w.heap.size w).alloc (nL _) (.cells #[.int .i64 S.st, .slice E1 S.set.length e1, .slice E2 S.prep.length e2, .slice E3 S.sav.length e3, .slice E4 S.wr.length e4] 115))).drew
 have X := RowTo.whole w #[.int .i64 S.st, .slice E1 S.set.length e1, .slice E2 S.prep.length e2, .slice E3 S.sav.length e3, .slice E4 S.wr.length e4] 115
 have t1 : (w.alloc (.cells #[.int .i64 S.st, .slice E1 S.set.length e1, .slice E2 S.prep.length e2, .slice E3 S.sav.length e3, .slice E4 S.wr.length e4] 115)).drew.cell? ⟨w.heap.size, 1, none⟩ = some (.slice E1 S.set.length e1) := X.cell (j := 1) (by simp)
 have t2 : (w.alloc (.cells #[.int .i64 S.st, .slice E1 S.set.length e1, .slice E2 S.prep.length e2, .slice E3 S.sav.length e3, .slice E4 S.wr.length e4] 115)).drew.cell? ⟨w.heap.size, 2, none⟩ = some (.slice E2 S.prep.length e2) := X.cell (j := 2) (by simp)
 have hM1 := HH.out.below nA
 have hl1 := lst_free HL1.out nA.size (fun b _ hb => nA.block b hb)
 have hl2 := lst_free HL2.out nA.size (fun b _ hb => nA.block b hb)
 have hz1 : (w.alloc (.cells #[.int .i64 S.st, .slice E1 S.set.length e1, .slice E2 S.prep.length e2, .slice E3 S.sav.length e3, .slice E4 S.wr.length e4] 115)).drew.heap.size = w.heap.size + 1 := by simp [World.drew]
 have HBA := jD (nA.mono (Nat.le_trans hbP (Nat.le_of_lt hP)))
 generalize (w.alloc (.cells #[.int .i64 S.st, .slice E1 S.set.length e1, .slice E2 S.prep.length e2, .slice E3 S.sav.length e3, .slice E4 S.wr.length e4] 115)).drew = W1 at *
 have HL1b := jD hl1
 have HL2b := jD hl2
 have HM1 := jD hM1
 have p4 := hM1.row.cell (j := 4 + c * 6 + 4) (by omega)
 have p5 := hM1.row.cell (j := 4 + c * 6 + 5) (by omega)
 have z4 := hM1.row.frozen (4 + c * 6 + 4)
 have z5 := hM1.row.frozen (4 + c * 6 + 5)
 have hPX : P ≠ w.heap.size := by omega
 clear hM1 hl1 hl2 X nA a2 a3 q0 q1 q2 q3 q4 hS HL1 HL2 HH
 refine wp_region_z 11 (fun wx => wx.cell? ⟨w.heap.size, 1, none⟩ = some (.slice E1 S.set.length e1) ∧ wx.cell? ⟨w.heap.size, 2, none⟩ = some (.slice E2 S.prep.length e2)) (by kernel_rfl) (show W1.drew.cell? ⟨w.heap.size, 1, none⟩ = some (.slice E1 S.set.length e1) ∧ W1.drew.cell? ⟨w.heap.size, 2, none⟩ = some (.slice E2 S.prep.length e2) from ⟨t1, t2⟩) (fun hS => ?_)
 refine tkE [(0, []), (1, []), (2, []), (3, []), (4, []), (5, []), (6, []), (7, [])] ?_
 iterate 8
  refine tkS (v := ?_) hS ?_ ?_
  rotate_left
  ·(intro w hSw; (try dsimp only at hSw); (try simp only [gTA, gCZ, gCS]); go_simp; try with_reducible rfl)
  (try simp only [gTA, gCZ, gCS, Act.put, sTA, sCZ, sCS])
 refine tkF ?_
 refine wpAnyZ_one (i := 8) rfl rfl (by kernel_rfl) (fun K hK => ?_)
 (try simp only [gTA, gCZ, gCS])
 go_simp
 have hS2 := (show (W1.drew.setCell ⟨P, 4 + c * 6 + 4, none⟩ (.slice E1 S.set.length e1)).cell? ⟨w.heap.size, 1, none⟩ = some (.slice E1 S.set.length e1) ∧ (W1.drew.setCell ⟨P, 4 + c * 6 + 4, none⟩ (.slice E1 S.set.length e1)).cell? ⟨w.heap.size, 2, none⟩ = some (.slice E2 S.prep.length e2) from ⟨cell_sty (p := ⟨P, 4 + c * 6 + 4, none⟩) hPX t1, cell_sty (p := ⟨P, 4 + c * 6 + 4, none⟩) hPX t2⟩)
 refine hK.out _ _ hS2 ?_
 clear hK K hS
 have hS := hS2
 clear hS2
 (try simp only [gTA, gCZ, gCS, Act.put, sTA, sCZ, sCS])
 refine tkE [(9, [10]), (10, [])] ?_
 iterate 2
  refine tkS (v := ?_) hS ?_ ?_
  rotate_left
  ·(intro w hSw; (try dsimp only at hSw); (try simp only [gTA, gCZ, gCS]); go_simp; try with_reducible rfl)
  (try simp only [gTA, gCZ, gCS, Act.put, sTA, sCZ, sCS])
 refine tkF ?_
 refine wpAnyZ_last rfl rfl (by kernel_rfl) (by kernel_rfl) (fun K hK => ?_)
 (try simp only [gTA, gCZ, gCS])
 go_simp
 refine hK.out _ _ ?_
 clear hK K
 (try simp only [gTA, gCZ, gCS, Act.put, sTA, sCZ, sCS])
 go_wp2_with fail
 have hM2 := (HM1.out.setLists hc HK6.out HL1b.out HL2b.out).below (Below.refl _ _).drew
 have hB2 := ((HBA.out.setCell (p := ⟨P, 4 + c * 6 + 4, none⟩) hbP (.slice E1 S.set.length e1)).setCell (p := ⟨P, 4 + c * 6 + 5, none⟩) hbP (.slice E2 S.prep.length e2)).drew
 obtain ⟨W2, HW2⟩ : ∃ u, Hid (((W1.setCell ⟨P, 4 + c * 6 + 4, none⟩ (.slice E1 S.set.length e1)).setCell ⟨P, 4 + c * 6 + 5, none⟩ (.slice E2 S.prep.length e2)).drew = u) := ⟨_, jD rfl⟩
 rw [HW2.out] at hM2 hB2 ⊢
 clear HW2 hS t1 t2 p4 p5 z4 z5 HM1 HL1b HL2b HBA
 obtain ⟨bb, ob, cp, g1, f3, hle, ⟨y, hy⟩, hfz, hM3⟩ := hM2.setBusy (j := s) HHB.out false
 obtain ⟨q, hq, hqs⟩ := hM2.srv c hc
 obtain rfl := hqs s HSR.out
 have b3 := hM2.row.cell (j := 3) (by omega)
 rw [f3] at b3
 have bs := hM2.row.cell (j := 4 + c * 6 + 3) (by omega)
 rw [hq] at bs
 have hbb := hM2.lo 1 bb g1
 have hPl := hM2.row.lt
 have hPb : P ≠ bb := fun e => hM2.noP (k := 1) (by omega) (by rw [g1, e])
 have c2 := hM3.row.cell (j := 4 + c * 6 + 2) (by omega)
 have z2 := hM3.row.frozen (4 + c * 6 + 2)
 have hM4 := (hM3.setNone hc HN6.out).below (Below.refl _ _).drew
 have hB4 := ((hB2.setCell (p := ⟨bb, ob + s, none⟩) hbb.1 (.bool false)).setCell (p := ⟨P, 4 + c * 6 + 2, none⟩) hbP (.bool false)).drew
 have hEq : m.release poolO c s = Mach.set { ({ m with e := ⟨m.e.w, m.e.kept.set c (S.set, S.prep)⟩ } : Mach PE) with busy := ({ m with e := ⟨m.e.w, m.e.kept.set c (S.set, S.prep)⟩ } : Mach PE).busy.set s false } c { Mach.get { ({ m with e := ⟨m.e.w, m.e.kept.set c (S.set, S.prep)⟩ } : Mach PE) with busy := ({ m with e := ⟨m.e.w, m.e.kept.set c (S.set, S.prep)⟩ } : Mach PE).busy.set s false } c with srv := none } := by
  show _ = _
  unfold Mach.release poolO PE.free Mach.set
  simp only [HAT.out]
  rfl
 rw [← hEq] at hM4
 have HF := jD (And.intro hM4 hB4)
 have hsB : s < m.busy.length := HHB.out
 have hsBI : (s : Int) < (m.busy.length : Int) := by omega
 generalize m.busy.length = nB at *
 clear hM2 hM3 hM4 hB4 hB2 hEq hq hqs f3 g1 HHB HSR HN6 HK6 HAT
 refine wp_region_z 9 (fun wx => wx.cell? ⟨P, 3, none⟩ = some (.slice (some ⟨bb, ob, none⟩) nB cp) ∧ wx.cell? ⟨P, 4 + c * 6 + 3, none⟩ = some (.int .i64 s)) (by kernel_rfl) (show W2.drew.cell? ⟨P, 3, none⟩ = some (.slice (some ⟨bb, ob, none⟩) nB cp) ∧ W2.drew.cell? ⟨P, 4 + c * 6 + 3, none⟩ = some (.int .i64 s) from ⟨b3, bs⟩) (fun hS => ?_)
 refine tkE [(0, []), (1, []), (2, []), (3, []), (4, []), (5, []), (6, []), (7, []), (8, [])] ?_
 iterate 9
  refine tkS (v := ?_) hS ?_ ?_
  rotate_left
  ·(intro w hSw; (try dsimp only at hSw); (try simp only [gTA, gCZ, gCS]); go_simp; try with_reducible rfl)
  (try simp only [gTA, gCZ, gCS, Act.put, sTA, sCZ, sCS])
 refine tkF ?_
 refine wpAnyZ_last rfl rfl (by kernel_rfl) (by kernel_rfl) (fun K hK => ?_)
 (try simp only [gTA, gCZ, gCS])
 go_simp
 refine hK.out _ _ ?_
 clear hK K
 (try simp only [gTA, gCZ, gCS, Act.put, sTA, sCZ, sCS])
 go_wp2
 go_end0
 exact ⟨_, rfl, HF.out.1, HF.out.2⟩
end
end Go.Proofs.YtpbaobmegomfpabGreatDoor
