/-
  Texts of the proof, one behind the other: PProc, PStep, HouseS, HouseT, HouseG, PAll, PRel2, DelN, PLve, PReq, PDlv, OutM, POut.
-/
import Derived.Test.YtpbaobmegomfpabGreatDoorM7
import Derived.Test.YtpbaobmegomfpabGreatDoorM5
import Derived.Test.YtpbaobmegomfpabGreatDoorM3
import Derived.Sort.WalkB12
import Derived.Test.YtpbaobmegomfpabGreatDoorM6
import Derived.Test.YtpbaobmegomfpabGreatDoorM4
import Derived.Test.YtpbaobmegomfpabGreatDoorRows
import Derived.WalkKit
import Derived.WalkSpells
import Derived.WalkLawsBesides
import Derived.Lib.Hide
import Derived.IntWalk
import Derived.WalkSmall
import Derived.Deep.Upon
import Derived.Lib.SlBytesRow
import Derived.Lib.BufferRead
set_option linter.unusedVariables false
set_option linter.unusedSimpArgs false
set_option maxRecDepth 100000
open List renaming getElem_toArray → gTA, getElem_cons_zero → gCZ, getElem_cons_succ → gCS, setIfInBounds_toArray → sTA, set_cons_zero → sCZ, set_cons_succ → sCS
open Go.Lib renaming hid → hD
open Nat renaming le_refl → nL
namespace Go.Proofs.YtpbaobmegomfpabGreatDoor
open Go.RowKit
theorem deed_row : (Tryz.prog.info? 70).map (fun i => (i.zero, i.size, i.bytes)) = some (some (.agg #[.int .i64 0, .int .i64 0, .string ⟨#[]⟩, .string ⟨#[]⟩, .int .i64 0, .string ⟨#[]⟩, .int .i64 0]), 7, 80) := by kernel_rfl
section
variable {base P : Nat} {f : Nat → Value} {G : Nat → Option Nat} {mode : Int} {m : Mach PE} {N : Nat}
theorem PMem.fill' {w : World} {X : Nat} {m' : Mach PE} (h : PMem X w base P f G mode m) (hs : Sl w (slT X) (slZ X) (f (slC X)) (G X) (items m' X).length (items m' X).flatten) (ho : ∀ k, 1 ≤ k → k ≤ 15 → k ≠ X → items m' k = items m k) (he : m'.e = m.e) (hb : ∀ c, (m'.get c).bytes = (m.get c).bytes) (hv : ∀ c, (m'.get c).srv = (m.get c).srv) : PMem 0 w base P f G mode m' := by
 refine ⟨h.row, h.p0, h.lo, h.inj, fun k h1 h2 _ => ?_, h.md, by rw [he]; exact h.wld, fun c hc => by rw [hb]; exact h.bytes c hc, fun c hc => by rw [hv]; exact h.has c hc, fun c hc => by rw [hv]; exact h.srv c hc, fun c hc => by rw [he]; exact h.set c hc, fun c hc => by rw [he]; exact h.prep c hc⟩
 by_cases e : k = X
 ·subst e; exact hs
 ·rw [ho k h1 h2 e]; exact h.sl k h1 h2 e
theorem PMem.grow' {k n' : Nat} {w w1 : World} {m' : Mach PE} {v : Value} {xs : List Value} {b : Nat} (h : PMem 0 w base P f G mode m) (h1 : 1 ≤ k) (h2 : k ≤ 15) (hbase : base ≤ w.heap.size) (hg : w.grownBy w1 (G k)) (hs : Sl w1 (slT k) (slZ k) v (some b) n' xs) (hb : G k = some b ∨ (w.heap.size ≤ b ∧ b < w1.heap.size))
  (hn : n' = (items m' k).length) (hx : xs = (items m' k).flatten) (ho : ∀ k', 1 ≤ k' → k' ≤ 15 → k' ≠ k → items m' k' = items m k') (he : m'.e = m.e) (hby : ∀ c, (m'.get c).bytes = (m.get c).bytes) (hv : ∀ c, (m'.get c).srv = (m.get c).srv) :
  PMem 0 (w1.setCell ⟨P, slC k, none⟩ v) base P (upd f (slC k) v) (upd G k (some b)) mode m' := by
 have hkb : ∀ b, b < w.heap.size → G k ≠ some b → w1.heap[b]? = w.heap[b]? := fun b hlt hne => hg.block b hlt (fun e => hne e.symm)
 have h3 : PMem k w1 base P f (upd G k (some b)) mode m := by
  rcases hb with hb | ⟨hb, hb'⟩
  ·have : upd G k (some b) = G := by
    funext i; unfold upd; split
    ·rename_i e; rw [e, hb]
    ·rfl
   rw [this]; exact (h.but k).keep (by omega) hg.size hkb
  ·exact (h.but k).move (by omega) hg.size hkb hb hb' hbase
 have h4 := h3.cellX h1 h2 v
 refine h4.fill' ?_ ho he hby hv
 have e1 : upd f (slC k) v (slC k) = v := upd_at
 have e2 : upd G k (some b) k = some b := by unfold upd; rw [if_pos rfl]
 rw [e1, e2, ← hn, ← hx]
 refine hs.ne ?_ (set_off w1 P (slC k) v)
 intro e
 injection e with e
 have := h3.inj k 0 P (by rw [e2, e]) h3.p0
 omega
theorem items_wset {c : Nat} (hc : c < m.cl.length) {x : Cl} {k : Nat} (h1 : 1 ≤ k) (hk : k ≠ 2 + c) : items (m.set c x) k = items m k := by
 unfold items
 by_cases e1 : k = 1
 ·rw [if_pos e1, if_pos e1]; rfl
 ·rw [if_neg e1, if_neg e1]
  by_cases e2 : k < 8
  ·rw [if_pos e2, if_pos e2, get_set hc, if_neg (by omega)]
  ·rw [if_neg e2, if_neg e2]
   rfl
theorem PMem.cutW {w : World} (h : PMem 0 w base P f G mode m) (hcl : m.cl.length = 6) {c : Nat} (hc : c < 6) {r : Req} {l : List Req} (hw : (m.get c).wait = r :: l) {b off cap : Nat} (hf : f (4 + c * 6 + 1) = .slice (some ⟨b, off, none⟩) (l.length + 1) cap) :
  PMem 0 (w.setCell ⟨P, 4 + c * 6 + 1, none⟩ (cutv b off 3 l.length cap)) base P (upd f (4 + c * 6 + 1) (cutv b off 3 l.length cap)) G mode (m.set c { m.get c with wait := l }) := by
 have hc' : c < m.cl.length := by omega
 have e1 : slC (2 + c) = 4 + c * 6 + 1 := by unfold slC; rw [if_neg (by omega), if_pos (by omega)]; omega
 have e2 : slT (2 + c) = 41 := by unfold slT; rw [if_neg (by omega), if_pos (by omega)]
 have e3 : slZ (2 + c) = 3 := by unfold slZ; rw [if_neg (by omega), if_pos (by omega)]
 have hs := h.waitSl hc
 rw [hf, hw] at hs
 simp only [List.length_cons, List.map_cons, List.flatten_cons] at hs
 have hcut := hs.cut
 rw [List.drop_left' (show (reqV r).length = 3 from rfl)] at hcut
 have hgc : ((m.set c { m.get c with wait := l }).get c).wait = l := by rw [get_set hc', if_pos rfl]
 have hx := (h.but (2 + c)).cellX (by omega) (by omega) (cutv b off 3 l.length cap)
 rw [e1] at hx
 refine hx.fill' ?_ (fun k h1 _ hk => items_wset hc' h1 hk) rfl (fun d => ?_) (fun d => ?_)
 ·rw [e1, e2, e3, upd_at, items_wait _ hc, hgc, List.length_map]
  exact hcut.ne (h.noP (by omega)) (set_off w P _ _)
 ·rw [get_set hc']; split
  ·rename_i e; rw [e]
  ·rfl
 ·rw [get_set hc']; split
  ·rename_i e; rw [e]
  ·rfl
theorem items_deeds (m : Mach PE) : items m 15 = m.deeds.map deedV := by unfold items; rw [if_neg (by omega), if_neg (by omega), if_neg (by omega), if_neg (by omega)]
theorem PMem.deeded {w : World} (h : PMem 0 w base P f G mode m) (hl : m.deeds.length ≤ 300000) {ad : Nat} (d : Deed) (hx : ∀ j u, (deedV d)[j]? = some u → w.cell? ⟨ad, j, none⟩ = some u) :
  ∃ b off cap w', (Builtin.append_ #[26, 26] 26 #[f 47, .slice (some ⟨ad, 0, none⟩) 1 1]).run Tryz.prog w = .ok (.slice (some ⟨b, off, none⟩) (m.deeds.length + 1) cap) w' ∧ w'.cell? ⟨P, 47, none⟩ = some (f 47) ∧ w'.frozen? ⟨P, 47, none⟩ = false ∧ P < w'.heap.size ∧
   PMem 0 (w'.setCell ⟨P, 47, none⟩ (.slice (some ⟨b, off, none⟩) (m.deeds.length + 1) cap)) base P (upd f 47 (.slice (some ⟨b, off, none⟩) (m.deeds.length + 1) cap)) (upd G 15 (some b)) mode { m with deeds := m.deeds ++ [d] } ∧ Below base w (w'.setCell ⟨P, 47, none⟩ (.slice (some ⟨b, off, none⟩) (m.deeds.length + 1) cap)) ∧
   KeepF G w w' ∧ (∀ x, x < w.heap.size → Free G x → Free (upd G 15 (some b)) x) := by
 obtain ⟨i0, hi, hz0, hz1, hz2⟩ := info_parts deed_row
 have hbP := (h.lo 0 P h.p0).1
 have hbase : base ≤ w.heap.size := Nat.le_trans hbP (Nat.le_of_lt h.row.lt)
 have hsl := h.sl 15 (by omega) (by omega) (by omega)
 have hsl' : Sl w 70 7 (f 47) (G 15) m.deeds.length (m.deeds.map deedV).flatten := by rw [items_deeds, List.length_map] at hsl; exact hsl
 obtain ⟨b, off, cap, w', hrun, hs, hg, hb⟩ := hsl'.append (P := Tryz.prog) 26 26 i0 _ 80 Tryz.underlying26 hi hz0 hz1 hz2 rfl (by omega) ⟨ad, 0, none⟩ 1 (deedV d) rfl (fun j u hu => by rw [Addr.add_lit, Nat.zero_add]; exact hx j u hu) (fun u hu => by
  simp only [deedV, List.mem_cons, List.not_mem_nil, or_false] at hu
  rcases hu with rfl | rfl | rfl | rfl | rfl | rfl | rfl <;> rfl) (by unfold maxLen; omega) (by omega)
 have hne : some P ≠ G 15 := fun e => h.noP (k := 15) (by omega) e.symm
 have hP' := hg.block P h.row.lt hne
 have hgr := h.grow' (k := 15) (m' := { m with deeds := m.deeds ++ [d] }) (n' := m.deeds.length + 1) (v := .slice (some ⟨b, off, none⟩) (m.deeds.length + 1) cap) (b := b) (by omega) (by omega) hbase hg hs hb (by rw [items_deeds]; simp) (by rw [items_deeds, List.map_append, List.flatten_append]; simp) (fun k _ hk15 hk => by
  unfold items
  by_cases h1 : k = 1
  ·rw [if_pos h1, if_pos h1]
  ·rw [if_neg h1, if_neg h1]
   by_cases h2 : k < 8
   ·rw [if_pos h2, if_pos h2]; rfl
   ·rw [if_neg h2, if_neg h2]
    by_cases h3 : k = 8
    ·rw [if_pos h3, if_pos h3]
    ·rw [if_neg h3, if_neg h3, if_pos (by omega), if_pos (by omega)]) rfl (fun _ => rfl) (fun _ => rfl)
 refine ⟨b, off, cap, w', hrun, (World.cell?_of_block (a := ⟨P, 47, none⟩) hP').trans (h.row.cell (j := 47) (by omega)), (World.frozen?_of_block (a := ⟨P, 47, none⟩) hP').trans (h.row.frozen _), Nat.lt_of_lt_of_le h.row.lt hg.size, hgr, ((Below.refl base w).grown hg hbase (fun x hx => (h.lo _ _ hx).1)).setCell hbP _, (KeepF.refl G w).grown hg, fun x hx hf => free_upd hf (fun e => ?_)⟩
 rcases hb with hb | hb
 ·exact hf 15 (by rw [hb, e])
 ·omega
theorem MOk.did (h : MOk mode m) {c : Nat} (hc : c < 6) (hr : readyB mode (m.get c) = true) {r : Req} {l : List Req} (hw : (m.get c).wait = r :: l) {m' : Mach PE} (h1 : m'.cl = m.cl.set c { m.get c with wait := l }) (h2 : m'.busy = m.busy) (h3 : m'.line = m.line) (h4 : m'.sent.length = 6) : MOk mode m' :=
 (h.turn hc (fun q hq => h.fine c q (by rw [hw]; exact List.mem_cons_of_mem _ hq)) rfl (fun hl => absurd hl (proc_line h hr)) : MOk mode (m.set c { m.get c with wait := l })).same h1 h2 h3 h4
set_option maxHeartbeats 3000000 in
theorem process_any (w : World) (h : PMem 0 w base P f G mode m) (hT : Tabs w base) (hI : Inv mode m N) (hN : N ≤ 300000) {c : Nat} (hc : c < 6) (hr : readyB mode (m.get c) = true) :
  Calls Tryz.prog 100 #[ptr P 0, .int .i64 (c : Int)] w (PPost w base P mode (m.proc poolO mode c)) := by
 have hP := h.row.lt
 have hbP := (h.lo 0 P h.p0).1
 obtain ⟨r, l, hw, hsr⟩ := ready_wait hr
 obtain ⟨b, off, cap, hG, hv, hcap, c0, c1, c2⟩ := h.first hc hw
 have hbl := (h.lo _ _ hG).2
 have p1 := h.row.cell (j := 4 + c * 6 + 1) (by omega)
 rw [hv] at p1
 have hcI : (c : Int) < 6 := by omega
 have hPX : P ≠ w.heap.size := by omega
 have n0' := (Below.refl w.heap.size w).alloc (nL _) (.cells #[.int .i64 r.k, .string r.key, .string r.val] 41)
 have p1' := (n0'.cell (p := ⟨P, 4 + c * 6 + 1, none⟩) hP).trans p1
 have z1' := (h.below n0').row.frozen (4 + c * 6 + 1)
 obtain ⟨x0, x1, x2⟩ := cells3 (RowTo.whole w #[.int .i64 r.k, .string r.key, .string r.val] 41)
 obtain ⟨vq, hvq⟩ : ∃ v, cutv b off 3 l.length cap = v := ⟨_, rfl⟩
 have hM0 := h.cutW hI.ok.n6 hc hw hv
 rw [hvq] at hM0
 have n0 := (Below.refl (w.setCell ⟨P, 4 + c * 6 + 1, none⟩ vq).heap.size (w.setCell ⟨P, 4 + c * 6 + 1, none⟩ vq)).alloc (nL _) (.cells #[.int .i64 r.k, .string r.key, .string r.val] 41)
 have hM1 := hM0.below n0
 have hX1 := RowTo.whole (w.setCell ⟨P, 4 + c * 6 + 1, none⟩ vq) #[.int .i64 r.k, .string r.key, .string r.val] 41
 rw [size_set] at hX1
 have hB1 : Below base w ((w.setCell ⟨P, 4 + c * 6 + 1, none⟩ vq).alloc (.cells #[.int .i64 r.k, .string r.key, .string r.val] 41)) := ((Below.refl base w).setCell (p := ⟨P, 4 + c * 6 + 1, none⟩) hbP vq).trans (n0.mono (by rw [size_set]; omega))
 have HIN := hD hI
 have HRD := hD hr
 have HW := hD hw
 have HSR := hD hsr
 have H1 := hD (And.intro hM1 (And.intro hB1 (And.intro hX1 (hT.below hB1))))
 have HFX := hD (show Free G w.heap.size from fun i hi => by have := (h.lo i _ hi).2; omega)
 have HRF := hD (fun (wc : World) (h1 : wc.cell? ⟨P, 0, none⟩ = some (.int .i64 mode)) (h2 : P < wc.heap.size) => refusal_any P mode r.k r.key r.val wc h1 h2)
 obtain ⟨rf, HRf⟩ : ∃ x, Hid (refuse mode r = x) := ⟨_, hD rfl⟩
 have hrf : refuse mode ⟨r.k, r.key, r.val⟩ = rf := HRf.out
 rw [hrf] at HRF
 have hcapl : l.length + 1 ≤ cap := hcap
 have hpos : (0 : Int) < ((l.length + 1 : Nat) : Int) := by omega
 unfold ptr at HRF ⊢
 clear h hT hI hr hw hsr hG hv hM0 hM1 hB1 hX1 n0 n0' hrf hcap
 obtain ⟨nl, HNL⟩ : ∃ n, Hid (l.length = n) := ⟨_, hD rfl⟩
 rw [HNL.out] at p1 p1' hcapl hpos hvq
 by_cases hcp : cap = 1
 ·subst hcp
  obtain rfl : nl = 0 := by omega
  have HVQ := hD (show Value.slice (some ⟨b, off, none⟩) 0 0 = vq from hvq)
  clear hvq
  go_enter Tryz.func100, Tryz.ntmps100
  go_wp2_with fail
  simp only [HVQ.out]
  have hm0 := H1.out.1.row.cell (j := 0) (by omega)
  rw [H1.out.1.md] at hm0
  refine (HRF.out _ hm0 H1.out.1.row.lt).mono ?_
  rintro e w3 ⟨rfl, hb3⟩
  have H3 := hD (And.intro (H1.out.1.below hb3) (And.intro (bel_add' H1.out.2.1 hb3 (Nat.le_trans hbP (Nat.le_of_lt H1.out.1.row.lt))) (And.intro (H1.out.2.2.1.below hb3 (by have := H1.out.2.2.1.lt; exact this)) (H1.out.2.2.2.below (hb3.mono (show base ≤ ((w.setCell ⟨P, 4 + c * 6 + 1, none⟩ vq).alloc (.cells #[.int .i64 r.k, .string r.key, .string r.val] 41)).heap.size from Nat.le_trans hbP (Nat.le_of_lt H1.out.1.row.lt)))))))
  have hP3 := H3.out.1.row.lt
  have hXl3 := H3.out.2.2.1.lt
  clear hb3 hm0 H1 HRF x0 x1 x2 c0 c1 c2 p1 p1' z1'
  cases hrb : refB mode r with
  | true =>
   as_aux_lemma =>
    have hne : rf.toList.isEmpty = false := full_of (by
     have hh : rf.size ≠ 0 := fun h0 => by rw [← HRf.out] at h0; rw [refuse_empty.1 h0] at hrb; cases hrb
     omega)
    have HA := hD (show AnsOk ⟨4, rf⟩ by rw [← HRf.out]; exact ref_ans hrb)
    have HE := hD (show m.proc poolO mode c = (m.set c { m.get c with wait := l }).tell c ⟨4, rf⟩ (m.e.state (m.get c).srv) by
     unfold Mach.proc
     simp only [HW.out]
     rw [if_pos hrb, HRf.out]
     rfl)
    have hok1 : MOk mode (m.set c { m.get c with wait := l }) := HIN.out.ok.did hc HRD.out HW.out rfl rfl rfl HIN.out.ok.s6
    have HST := hD (state_any w3 H3.out.1 hok1 HIN.out.plen hc)
    have hgs : (m.set c { m.get c with wait := l }).e.state ((m.set c { m.get c with wait := l }).get c).srv = m.e.state (m.get c).srv := by rw [get_set (by rw [HIN.out.ok.n6]; exact hc), if_pos rfl]; rfl
    rw [hgs] at HST
    have HSB := hD (HIN.out.state hc)
    generalize m.e.state (m.get c).srv = st at *
    unfold ptr at HST
    clear hrb hgs hok1
    go_wp2_with fail
    refine HST.out.mono ?_
    rintro e w4 ⟨rfl, k4, rfl⟩
    go_wp2_with fail
    have hd4 : Below w3.heap.size w3 (w3.drewN k4) := below_drewN (Below.refl _ _) k4
    refine (send_any (w3.drewN k4) (H3.out.1.below hd4) (H3.out.2.2.2.below (hd4.mono (Nat.le_trans hbP (Nat.le_of_lt hP3)))) HIN.out.ok.s6 c hc ⟨4, rf⟩ st HA.out HSB.out (HIN.out.sent hN c)).mono ?_
    rintro e w5 ⟨f5, G5, rfl, hM5, hB5, _⟩
    have HFF := hD (And.intro hM5 ((H3.out.2.1.trans (hd4.mono (Nat.le_trans hbP (Nat.le_of_lt hP3)))).trans hB5))
    clear hM5 hB5 hd4
    go_wp2
    go_end0
    rw [HE.out]
    exact ⟨f5, G5, rfl, HFF.out.1, HFF.out.2⟩
  | false =>
   as_aux_lemma =>
    have hne : rf.toList.isEmpty = true := empty_of (by rw [← HRf.out]; exact refuse_empty.2 hrb)
    obtain ⟨s, hs⟩ : ∃ s, (m.get c).srv = some s := by
     have := HSR.out
     rw [hrb, Bool.or_false] at this
     exact Option.isSome_iff_exists.1 this
    have hlt := HIN.out.srvlt hs
    have hrk := HIN.out.req HW.out hrb
    obtain ⟨A, HAe⟩ : ∃ A, Hid ((doR m.e.w s r).2 = A) := ⟨_, hD rfl⟩
    obtain ⟨V, HVe⟩ : ∃ V, Hid ((doR m.e.w s r).1 = V) := ⟨_, hD rfl⟩
    obtain ⟨st, HSe⟩ : ∃ st, Hid ((V.at s).st = st) := ⟨_, hD rfl⟩
    have hdo := doR_ok HIN.out.w hlt hrk
    rw [HVe.out] at hdo
    have HA := hD (show AnsOk A by rw [← HAe.out]; exact doM_ans HIN.out.w hlt _ _ _)
    have HSB := hD (show 0 ≤ st ∧ st ≤ 2 by have := sess_at hdo.1 (i := s) (by rw [hdo.2]; exact hlt); rw [← HSe.out]; exact ⟨this.lo, this.hi⟩)
    have HPL := hD (show V.ss.length = m.busy.length by rw [hdo.2]; exact HIN.out.plen)
    obtain ⟨M4, HM4⟩ : ∃ x, Hid (Mach.tell (E := PE) { (m.set c { m.get c with wait := l }) with e := ⟨V, m.e.kept⟩, deeds := m.deeds ++ [⟨c, r, A, st⟩] } c A st = x) := ⟨_, hD rfl⟩
    have HK4 := hD (show MOk mode M4 ∧ M4.e.w.ss.length = M4.busy.length ∧ M4.e.kept.length = 6 ∧ (M4.get c).srv = some s by
     rw [← HM4.out]
     exact ⟨HIN.out.ok.did hc HRD.out HW.out rfl rfl rfl (by simp [Mach.tell, Mach.set, HIN.out.ok.s6]), HPL.out, HIN.out.klen, by show ((m.set c { m.get c with wait := l }).get c).srv = some s; rw [get_set (by rw [HIN.out.ok.n6]; exact hc), if_pos rfl]; exact hs⟩)
    have HE := hD (show m.proc poolO mode c = if mode ≠ 1 ∧ st = 0 then M4.release poolO c s else M4 by
     unfold Mach.proc
     simp only [HW.out]
     rw [if_neg (by rw [hrb]; simp), show (m.get c).srv.getD 0 = s by rw [hs]; rfl]
     have he : poolO.exec m.e c s r = (⟨V, m.e.kept⟩, A, st) := by
      show ((⟨(doR m.e.w s r).1, m.e.kept⟩ : PE), (doR m.e.w s r).2, ((doR m.e.w s r).1.at s).st) = _
      rw [HVe.out, HAe.out, HSe.out]
     rw [he]
     show (if mode ≠ 1 ∧ st = 0 then Mach.release poolO (Mach.tell (E := PE) { (m.set c { m.get c with wait := l }) with e := ⟨V, m.e.kept⟩, deeds := m.deeds ++ [⟨c, r, A, st⟩] } c A st) c s else Mach.tell (E := PE) { (m.set c { m.get c with wait := l }) with e := ⟨V, m.e.kept⟩, deeds := m.deeds ++ [⟨c, r, A, st⟩] } c A st) = _
     rw [HM4.out])
    have HDO := hD (fun (wc : World) (h1 : PMem 0 wc base P (upd f (4 + c * 6 + 1) vq) G mode (m.set c { m.get c with wait := l })) (h2 : Tabs wc base) => doP_any wc h1 h2 HIN.out.w s hlt r hrk)
    rw [show (m.set c { m.get c with wait := l }).e.w = m.e.w from rfl, HVe.out, HAe.out, HSe.out] at HDO
    have hgs : ((m.set c { m.get c with wait := l }).get c).srv = some s := by rw [get_set (by rw [HIN.out.ok.n6]; exact hc), if_pos rfl]; exact hs
    have HGS := hD hgs
    have a3 := H3.out.1.row.cell (j := 4 + c * 6 + 3) (by omega)
    obtain ⟨q, hq, hqs⟩ := H3.out.1.srv c hc
    obtain rfl := hqs s hgs
    rw [hq] at a3
    obtain ⟨x0, x1, x2⟩ := cells3 H3.out.2.2.1
    clear hrb hlt hrk hdo hgs hq hqs HAe HVe HSe
    unfold ptr at HDO
    go_wp2_with fail
    refine wp_region_z 8 (fun wx => wx.cell? ⟨P, 4 + c * 6 + 3, none⟩ = some (.int .i64 s) ∧ wx.cell? ⟨w.heap.size, 0, none⟩ = some (.int .i64 r.k) ∧ wx.cell? ⟨w.heap.size, 1, none⟩ = some (.string r.key) ∧ wx.cell? ⟨w.heap.size, 2, none⟩ = some (.string r.val)) (by kernel_rfl) (show w3.drew.cell? ⟨P, 4 + c * 6 + 3, none⟩ = some (.int .i64 s) ∧ w3.drew.cell? ⟨w.heap.size, 0, none⟩ = some (.int .i64 r.k) ∧ w3.drew.cell? ⟨w.heap.size, 1, none⟩ = some (.string r.key) ∧ w3.drew.cell? ⟨w.heap.size, 2, none⟩ = some (.string r.val) from ⟨a3, x0, x1, x2⟩) (fun hS => ?_)
    refine tkZ 0 ?vpa0 rfl ?ypa0 hS ?rpa0
    case ypa0 => (intro w hSw; (try dsimp only at hSw); (try simp only [gTA, gCZ, gCS]); go_simp; try with_reducible rfl)
    (try simp only [gTA, gCZ, gCS, Act.put, sTA, sCZ, sCS])
    refine tkZ 1 ?vpa1 rfl ?ypa1 hS ?rpa1
    case ypa1 => (intro w hSw; (try dsimp only at hSw); (try simp only [gTA, gCZ, gCS]); go_simp; try with_reducible rfl)
    (try simp only [gTA, gCZ, gCS, Act.put, sTA, sCZ, sCS])
    refine tkZ 2 ?vpa2 rfl ?ypa2 hS ?rpa2
    case ypa2 => (intro w hSw; (try dsimp only at hSw); (try simp only [gTA, gCZ, gCS]); go_simp; try with_reducible rfl)
    (try simp only [gTA, gCZ, gCS, Act.put, sTA, sCZ, sCS])
    refine tkZ 3 ?vpa3 rfl ?ypa3 hS ?rpa3
    case ypa3 => (intro w hSw; (try dsimp only at hSw); (try simp only [gTA, gCZ, gCS]); go_simp; try with_reducible rfl)
    (try simp only [gTA, gCZ, gCS, Act.put, sTA, sCZ, sCS])
    refine tkZ 4 ?vpa4 rfl ?ypa4 hS ?rpa4
    case ypa4 => (intro w hSw; (try dsimp only at hSw); (try simp only [gTA, gCZ, gCS]); go_simp; try with_reducible rfl)
    (try simp only [gTA, gCZ, gCS, Act.put, sTA, sCZ, sCS])
    refine tkZ 5 ?vpa5 rfl ?ypa5 hS ?rpa5
    case ypa5 => (intro w hSw; (try dsimp only at hSw); (try simp only [gTA, gCZ, gCS]); go_simp; try with_reducible rfl)
    (try simp only [gTA, gCZ, gCS, Act.put, sTA, sCZ, sCS])
    refine grid1 (i := 6) (p := 7) (di := 46) (dp := 7) (tp := 46) (zp := #[.int .i64 0, .string ⟨#[]⟩, .int .i64 0]) (L := fun x y => #[true, true, true, true, true, true, x, y, false]) ⟨_, rfl, rfl, rfl, fun ev w => (by go_simp; rfl)⟩ (by decide) (by kernel_rfl) (by kernel_rfl) (by kernel_rfl) rfl rfl rfl rfl 1 (R := fun v wc w' => ∃ f', v = .agg #[.int .i64 A.kind, .string A.text, .int .i64 st] ∧ PMem 0 w' base P f' G mode { (m.set c { m.get c with wait := l }) with e := ⟨V, m.e.kept⟩ } ∧ Below base wc w' ∧ Only P wc w') (F := fun v b1 w' => (∃ f', v = .agg #[.int .i64 A.kind, .string A.text, .int .i64 st] ∧ PMem 0 w' base P f' G mode { (m.set c { m.get c with wait := l }) with e := ⟨V, m.e.kept⟩ }) ∧ Below base w3 w' ∧ Only P w3 w' ∧ RowTo w' b1 46 3 [.int .i64 0, .string ⟨#[]⟩, .int .i64 0] ∧ w3.heap.size ≤ b1) ?pc1 ?pc2 ?ps1 ?ps2 ?pf1 ?pf2 ?psf ?pfin
    case pc1 =>
     refine wpOp_wp rfl rfl (wp_call (g := 75) (args := #[.pointer (some ⟨P, 0, none⟩), .int .i64 s, .agg #[.int .i64 r.k, .string r.key, .string r.val]]) ?_ ?_)
     ·(try simp only [gTA, gCZ, gCS, Go.Act.put, sTA, sCZ, sCS]); go_simp; try rfl
     ·refine (HDO.out w3.drew (H3.out.1.below (Below.refl _ _).drew) (H3.out.2.2.2.below (Below.refl _ _).drew)).mono ?_
      rintro e w6 ⟨f6, rfl, hM6, hB6, hO6⟩
      exact ⟨_, rfl, _, rfl, f6, rfl, hM6, hB6, hO6⟩
    case pc2 =>
     refine wpOp_wp rfl rfl (wp_call (g := 75) (args := #[.pointer (some ⟨P, 0, none⟩), .int .i64 s, .agg #[.int .i64 r.k, .string r.key, .string r.val]]) ?_ ?_)
     ·(try simp only [pt, gTA, gCZ, gCS, Go.Act.put, sTA, sCZ, sCS]); go_simp; try rfl
     ·have na : Below w3.heap.size w3 (w3.drew.alloc (.cells #[.int .i64 0, .string ⟨#[]⟩, .int .i64 0] 46)) := (Below.refl _ _).drew.alloc (nL _) _
      refine (HDO.out _ (H3.out.1.below na) (H3.out.2.2.2.below (na.mono (Nat.le_trans hbP (Nat.le_of_lt hP3))))).mono ?_
      rintro e w6 ⟨f6, rfl, hM6, hB6, hO6⟩
      exact ⟨_, rfl, _, rfl, f6, rfl, hM6, hB6, hO6⟩
    case ps1 =>
     rintro v w' ⟨f', _, hM', _, hO'⟩
     exact ⟨(by have e1 := hM'.row.cell (j := 4 + c * 6 + 3) (by omega); obtain ⟨q', hq', hqs'⟩ := hM'.srv c hc; obtain rfl := hqs' s HGS.out; rw [hq'] at e1; exact e1), (World.cell?_of_block (a := ⟨w.heap.size, 0, none⟩) (hO'.2 _ hXl3 (Ne.symm hPX))).trans x0, (World.cell?_of_block (a := ⟨w.heap.size, 1, none⟩) (hO'.2 _ hXl3 (Ne.symm hPX))).trans x1, (World.cell?_of_block (a := ⟨w.heap.size, 2, none⟩) (hO'.2 _ hXl3 (Ne.symm hPX))).trans x2⟩
    case ps2 =>
     have na : Below w3.heap.size w3 (w3.drew.alloc (.cells #[.int .i64 0, .string ⟨#[]⟩, .int .i64 0] 46)) := (Below.refl _ _).drew.alloc (nL _) _
     exact ⟨(na.cell (p := ⟨P, 4 + c * 6 + 3, none⟩) hP3).trans a3, (na.cell (p := ⟨w.heap.size, 0, none⟩) hXl3).trans x0, (na.cell (p := ⟨w.heap.size, 1, none⟩) hXl3).trans x1, (na.cell (p := ⟨w.heap.size, 2, none⟩) hXl3).trans x2⟩
    case pf1 =>
     rintro v w' ⟨f', hv, hM', hB', hO'⟩
     have na := (Below.refl w'.heap.size w').alloc (nL _) (.cells #[.int .i64 0, .string ⟨#[]⟩, .int .i64 0] 46)
     exact ⟨⟨f', hv, hM'.below na⟩, ((Below.refl base w3).drew.trans hB').trans (na.mono (Nat.le_trans hbP (Nat.le_of_lt hM'.row.lt))), ((Only.below (P := P) (Below.refl w3.heap.size w3).drew).trans hO').trans (Only.below na), RowTo.whole w' _ _, hO'.1⟩
    case pf2 =>
     rintro v w' ⟨f', hv, hM', hB', hO'⟩
     have na : Below w3.heap.size w3 (w3.drew.alloc (.cells #[.int .i64 0, .string ⟨#[]⟩, .int .i64 0] 46)) := (Below.refl _ _).drew.alloc (nL _) _
     exact ⟨⟨f', hv, hM'⟩, (na.mono (Nat.le_trans hbP (Nat.le_of_lt hP3))).trans hB', (Only.below (P := P) na).trans hO', (RowTo.whole w3.drew _ _).same (hO'.2 _ (show w3.heap.size < (w3.drew.alloc _).heap.size by rw [World.size_alloc]; exact Nat.lt_succ_self _) (by show w3.heap.size ≠ P; omega)), nL _⟩
    case psf =>
     rintro v b1 w' ⟨⟨f', _, hM'⟩, _, hO', _⟩
     exact ⟨(by have e1 := hM'.row.cell (j := 4 + c * 6 + 3) (by omega); obtain ⟨q', hq', hqs'⟩ := hM'.srv c hc; obtain rfl := hqs' s HGS.out; rw [hq'] at e1; exact e1), (World.cell?_of_block (a := ⟨w.heap.size, 0, none⟩) (hO'.2 _ hXl3 (Ne.symm hPX))).trans x0, (World.cell?_of_block (a := ⟨w.heap.size, 1, none⟩) (hO'.2 _ hXl3 (Ne.symm hPX))).trans x1, (World.cell?_of_block (a := ⟨w.heap.size, 2, none⟩) (hO'.2 _ hXl3 (Ne.symm hPX))).trans x2⟩
    case pfin =>
     rintro v b1 w6 ⟨⟨f6, rfl, hM6⟩, hB6, hO6, hR6, hb6⟩
     obtain ⟨y0, y1, y2⟩ := cells3 hR6
     have z0 := hR6.frozen 0
     have z1 := hR6.frozen 1
     have z2 := hR6.frozen 2
     have hb1P : b1 ≠ P := by omega
     have hGb : ∀ i, G i ≠ some b1 := fun i hi => by have := (H3.out.1.lo i b1 hi).2; omega
     have hM7 := hM6.ans3 hR6 hGb (.int .i64 A.kind) (.string A.text) (.int .i64 st)
     have hR7 := hR6.set3 (.int .i64 A.kind) (.string A.text) (.int .i64 st)
     have hB7 := bel_set3 (H3.out.2.1.trans hB6) (show base ≤ b1 by omega) (.int .i64 A.kind) (.string A.text) (.int .i64 st)
     have hbX : b1 ≠ w.heap.size := by omega
     have hX7 := (((H3.out.2.2.1.same (hO6.2 _ hXl3 (Ne.symm hPX))).other (p := ⟨b1, 0, none⟩) hbX (.int .i64 A.kind)).other (p := ⟨b1, 1, none⟩) hbX (.string A.text)).other (p := ⟨b1, 2, none⟩) hbX (.int .i64 st)
     have hT7 := (H3.out.2.2.2.below hB6).below (bel_set3 (Below.refl base w6) (show base ≤ b1 by omega) (.int .i64 A.kind) (.string A.text) (.int .i64 st))
     simp only [pt, Go.Act.put, sTA, sCZ, sCS]
     refine wpAnyZ_last rfl rfl (by kernel_rfl) (by kernel_rfl) (fun K hK => ?_)
     (try simp only [gTA, gCZ, gCS])
     go_simp
     refine hK.out _ _ ?_
     clear hK K
     (try simp only [gTA, gCZ, gCS, Act.put, sTA, sCZ, sCS])
     have HFB := hD (show Free G b1 from hGb)
     have hb1l := hR7.lt
     have hXl7 := hX7.lt
     obtain ⟨W7, HW7⟩ : ∃ u, Hid ((((w6.setCell ⟨b1, 0, none⟩ (.int .i64 A.kind)).setCell ⟨b1, 1, none⟩ (.string A.text)).setCell ⟨b1, 2, none⟩ (.int .i64 st)) = u) := ⟨_, hD rfl⟩
     rw [HW7.out] at hM7 hR7 hB7 hX7 hT7 hb1l hXl7 ⊢
     clear HW7 hM6 hB6 hO6 hR6 y0 y1 y2 z0 z1 z2 H3 HDO hP3 hXl3 a3 x0 x1 x2 hGb
     have d7 := hM7.row.cell (j := 47) (by omega)
     have hP7 := hM7.row.lt
     obtain ⟨x0, x1, x2⟩ := cells3 hX7
     obtain ⟨y0, y1, y2⟩ := cells3 hR7
     have nd := ((Below.refl W7.heap.size W7).drew).alloc (nL _) (.cells #[.int .i64 (c : Int), .int .i64 r.k, .string r.key, .string r.val, .int .i64 A.kind, .string A.text, .int .i64 st] 70)
     have hM7a := hM7.below nd
     have hXd := RowTo.whole W7.drew #[.int .i64 (c : Int), .int .i64 r.k, .string r.key, .string r.val, .int .i64 A.kind, .string A.text, .int .i64 st] 70
     obtain ⟨bd, od, cd, w8, hrun, u0, uz, hP8, hM8, hB8, hK8, hF8⟩ := hM7a.deeded (HIN.out.deeds hN) (ad := W7.heap.size) ⟨c, r, A, st⟩ (fun j u hu => by
      obtain ⟨hj, hu⟩ := List.getElem?_eq_some_iff.1 hu
      rw [← hu]
      exact hXd.cell hj)
     have hrun' : (Builtin.append_ #[26, 26] 26 #[f6 47, .slice (some ⟨W7.heap.size, 0, none⟩) 1 1]).run Tryz.prog (W7.drew.alloc (.cells #[.int .i64 (c : Int), .int .i64 r.k, .string r.key, .string r.val, .int .i64 A.kind, .string A.text, .int .i64 st] 70)) = .ok (.slice (some ⟨bd, od, none⟩) (m.deeds.length + 1) cd) w8 := hrun
     have hFb := hF8 b1 (Nat.lt_of_lt_of_le hb1l nd.size) HFB.out
     have hbk : w8.heap[b1]? = W7.heap[b1]? := (hK8.2 b1 (Nat.lt_of_lt_of_le hb1l nd.size) HFB.out).trans (nd.block b1 hb1l)
     have hFX : Free G w.heap.size := fun i hi => HFX.out i hi
     have hbkX : w8.heap[w.heap.size]? = W7.heap[w.heap.size]? := (hK8.2 _ (Nat.lt_of_lt_of_le hXl7 nd.size) hFX).trans (nd.block _ hXl7)
     have hR8 := (hR7.same hbk).other (p := ⟨P, 47, none⟩) (Ne.symm hb1P) (.slice (some ⟨bd, od, none⟩) (m.deeds.length + 1) cd)
     have hM8' : PMem 0 (w8.setCell ⟨P, 47, none⟩ (.slice (some ⟨bd, od, none⟩) (m.deeds.length + 1) cd)) base P (upd f6 47 (.slice (some ⟨bd, od, none⟩) (m.deeds.length + 1) cd)) (upd G 15 (some bd)) mode { (m.set c { m.get c with wait := l }) with e := ⟨V, m.e.kept⟩, deeds := m.deeds ++ [⟨c, r, A, st⟩] } := hM8
     have hB8' : Below base (W7.drew.alloc (.cells #[.int .i64 (c : Int), .int .i64 r.k, .string r.key, .string r.val, .int .i64 A.kind, .string A.text, .int .i64 st] 70)) (w8.setCell ⟨P, 47, none⟩ (.slice (some ⟨bd, od, none⟩) (m.deeds.length + 1) cd)) := hB8
     have H8 := hD (And.intro hM8' (And.intro (hB7.trans ((nd.mono (Nat.le_trans hbP (Nat.le_of_lt hP7))).trans hB8')) (And.intro hR8 ((hT7.below (nd.mono (Nat.le_trans hbP (Nat.le_of_lt hP7)))).below hB8'))))
     have HBK := hD (And.intro hbk hbkX)
     have HFb := hD hFb
     have HND := hD nd
     obtain ⟨Af, cf, hf47, _⟩ := (hM7.sl 15 (by omega) (by omega) (by omega)).shape
     have hf47' : f6 47 = .slice Af m.deeds.length cf := by rw [items_deeds, List.length_map] at hf47; exact hf47
     have HXD := hD hXd
     clear hM7 hM7a hM8 hM8' hB7 hB8 hB8' hK8 hF8 hrun hR8 hX7 hT7 hFb hbk hbkX nd hf47 hFX hXd hR7
     generalize f6 47 = v47 at *
     subst hf47'
     go_wp2_with fail
     refine wp_region_z 13 (fun wx => wx.cell? ⟨P, 47, none⟩ = some (.slice Af m.deeds.length cf) ∧ wx.cell? ⟨w.heap.size, 0, none⟩ = some (.int .i64 r.k) ∧ wx.cell? ⟨w.heap.size, 1, none⟩ = some (.string r.key) ∧ wx.cell? ⟨w.heap.size, 2, none⟩ = some (.string r.val) ∧ wx.cell? ⟨b1, 0, none⟩ = some (.int .i64 A.kind) ∧ wx.cell? ⟨b1, 1, none⟩ = some (.string A.text) ∧ wx.cell? ⟨b1, 2, none⟩ = some (.int .i64 st)) (by kernel_rfl) (show W7.drew.cell? ⟨P, 47, none⟩ = some (.slice Af m.deeds.length cf) ∧ W7.drew.cell? ⟨w.heap.size, 0, none⟩ = some (.int .i64 r.k) ∧ W7.drew.cell? ⟨w.heap.size, 1, none⟩ = some (.string r.key) ∧ W7.drew.cell? ⟨w.heap.size, 2, none⟩ = some (.string r.val) ∧ W7.drew.cell? ⟨b1, 0, none⟩ = some (.int .i64 A.kind) ∧ W7.drew.cell? ⟨b1, 1, none⟩ = some (.string A.text) ∧ W7.drew.cell? ⟨b1, 2, none⟩ = some (.int .i64 st) from ⟨d7, x0, x1, x2, y0, y1, y2⟩) (fun hS => ?_)
     refine tkZ 0 ?vpb0 rfl ?ypb0 hS ?rpb0
     case ypb0 => (intro w hSw; (try dsimp only at hSw); (try simp only [gTA, gCZ, gCS]); go_simp; try with_reducible rfl)
     (try simp only [gTA, gCZ, gCS, Act.put, sTA, sCZ, sCS])
     refine tkZ 1 ?vpb1 rfl ?ypb1 hS ?rpb1
     case ypb1 => (intro w hSw; (try dsimp only at hSw); (try simp only [gTA, gCZ, gCS]); go_simp; try with_reducible rfl)
     (try simp only [gTA, gCZ, gCS, Act.put, sTA, sCZ, sCS])
     refine tkZ 2 ?vpb2 rfl ?ypb2 hS ?rpb2
     case ypb2 => (intro w hSw; (try dsimp only at hSw); (try simp only [gTA, gCZ, gCS]); go_simp; try with_reducible rfl)
     (try simp only [gTA, gCZ, gCS, Act.put, sTA, sCZ, sCS])
     refine tkZ 3 ?vpb3 rfl ?ypb3 hS ?rpb3
     case ypb3 => (intro w hSw; (try dsimp only at hSw); (try simp only [gTA, gCZ, gCS]); go_simp; try with_reducible rfl)
     (try simp only [gTA, gCZ, gCS, Act.put, sTA, sCZ, sCS])
     refine tkZ 4 ?vpb4 rfl ?ypb4 hS ?rpb4
     case ypb4 => (intro w hSw; (try dsimp only at hSw); (try simp only [gTA, gCZ, gCS]); go_simp; try with_reducible rfl)
     (try simp only [gTA, gCZ, gCS, Act.put, sTA, sCZ, sCS])
     refine tkZ 5 ?vpb5 rfl ?ypb5 hS ?rpb5
     case ypb5 => (intro w hSw; (try dsimp only at hSw); (try simp only [gTA, gCZ, gCS]); go_simp; try with_reducible rfl)
     (try simp only [gTA, gCZ, gCS, Act.put, sTA, sCZ, sCS])
     refine tkZ 6 ?vpb6 rfl ?ypb6 hS ?rpb6
     case ypb6 => (intro w hSw; (try dsimp only at hSw); (try simp only [gTA, gCZ, gCS]); go_simp; try with_reducible rfl)
     (try simp only [gTA, gCZ, gCS, Act.put, sTA, sCZ, sCS])
     refine tkZ 7 ?vpb7 rfl ?ypb7 hS ?rpb7
     case ypb7 => (intro w hSw; (try dsimp only at hSw); (try simp only [gTA, gCZ, gCS]); go_simp; try with_reducible rfl)
     (try simp only [gTA, gCZ, gCS, Act.put, sTA, sCZ, sCS])
     refine wpAnyZ_take (i := 8) (v := .agg #[.int .i64 (c : Int), .int .i64 r.k, .string r.key, .string r.val, .int .i64 A.kind, .string A.text, .int .i64 st]) rfl (by kernel_rfl) (by kernel_rfl) (by kernel_rfl) (by kernel_rfl) (fun _ _ _ h => h) (Or.inl ⟨by rfl, ?ypb8⟩) hS ?rpb8
     case ypb8 => exact fun w _ => exec_deed rfl rfl rfl rfl w
     (try simp only [gTA, gCZ, gCS, Act.put, sTA, sCZ, sCS])
     refine wpAnyZ_one (i := 9) rfl rfl (by kernel_rfl) (fun K hK => ?_)
     (try simp only [gTA, gCZ, gCS])
     refine wp_val (exec_deeds rfl rfl _) ?_
     have hS2 := (show (W7.drew.alloc (.cells #[.int .i64 (c : Int), .int .i64 r.k, .string r.key, .string r.val, .int .i64 A.kind, .string A.text, .int .i64 st] 70)).cell? ⟨P, 47, none⟩ = some (.slice Af m.deeds.length cf) ∧ (W7.drew.alloc (.cells #[.int .i64 (c : Int), .int .i64 r.k, .string r.key, .string r.val, .int .i64 A.kind, .string A.text, .int .i64 st] 70)).cell? ⟨w.heap.size, 0, none⟩ = some (.int .i64 r.k) ∧ (W7.drew.alloc (.cells #[.int .i64 (c : Int), .int .i64 r.k, .string r.key, .string r.val, .int .i64 A.kind, .string A.text, .int .i64 st] 70)).cell? ⟨w.heap.size, 1, none⟩ = some (.string r.key) ∧ (W7.drew.alloc (.cells #[.int .i64 (c : Int), .int .i64 r.k, .string r.key, .string r.val, .int .i64 A.kind, .string A.text, .int .i64 st] 70)).cell? ⟨w.heap.size, 2, none⟩ = some (.string r.val) ∧ (W7.drew.alloc (.cells #[.int .i64 (c : Int), .int .i64 r.k, .string r.key, .string r.val, .int .i64 A.kind, .string A.text, .int .i64 st] 70)).cell? ⟨b1, 0, none⟩ = some (.int .i64 A.kind) ∧ (W7.drew.alloc (.cells #[.int .i64 (c : Int), .int .i64 r.k, .string r.key, .string r.val, .int .i64 A.kind, .string A.text, .int .i64 st] 70)).cell? ⟨b1, 1, none⟩ = some (.string A.text) ∧ (W7.drew.alloc (.cells #[.int .i64 (c : Int), .int .i64 r.k, .string r.key, .string r.val, .int .i64 A.kind, .string A.text, .int .i64 st] 70)).cell? ⟨b1, 2, none⟩ = some (.int .i64 st) from ⟨(HND.out.cell (p := ⟨P, 47, none⟩) hP7).trans d7, (HND.out.cell (p := ⟨w.heap.size, 0, none⟩) hXl7).trans x0, (HND.out.cell (p := ⟨w.heap.size, 1, none⟩) hXl7).trans x1, (HND.out.cell (p := ⟨w.heap.size, 2, none⟩) hXl7).trans x2, (HND.out.cell (p := ⟨b1, 0, none⟩) hb1l).trans y0, (HND.out.cell (p := ⟨b1, 1, none⟩) hb1l).trans y1, (HND.out.cell (p := ⟨b1, 2, none⟩) hb1l).trans y2⟩)
     refine hK.out _ _ hS2 ?_
     clear hK K hS
     have hS := hS2
     clear hS2
     (try simp only [gTA, gCZ, gCS, Act.put, sTA, sCZ, sCS])
     refine wpAnyZ_one (i := 10) rfl rfl (by kernel_rfl) (fun K hK => ?_)
     (try simp only [gTA, gCZ, gCS])
     refine Lib.wp_append_run _ _ _ _ _ rfl _ _ rfl rfl _ _ hrun' ?_
     have hS2 := (show w8.cell? ⟨P, 47, none⟩ = some (.slice Af m.deeds.length cf) ∧ w8.cell? ⟨w.heap.size, 0, none⟩ = some (.int .i64 r.k) ∧ w8.cell? ⟨w.heap.size, 1, none⟩ = some (.string r.key) ∧ w8.cell? ⟨w.heap.size, 2, none⟩ = some (.string r.val) ∧ w8.cell? ⟨b1, 0, none⟩ = some (.int .i64 A.kind) ∧ w8.cell? ⟨b1, 1, none⟩ = some (.string A.text) ∧ w8.cell? ⟨b1, 2, none⟩ = some (.int .i64 st) from ⟨u0, (World.cell?_of_block (a := ⟨w.heap.size, 0, none⟩) HBK.out.2).trans x0, (World.cell?_of_block (a := ⟨w.heap.size, 1, none⟩) HBK.out.2).trans x1, (World.cell?_of_block (a := ⟨w.heap.size, 2, none⟩) HBK.out.2).trans x2, (World.cell?_of_block (a := ⟨b1, 0, none⟩) HBK.out.1).trans y0, (World.cell?_of_block (a := ⟨b1, 1, none⟩) HBK.out.1).trans y1, (World.cell?_of_block (a := ⟨b1, 2, none⟩) HBK.out.1).trans y2⟩)
     refine hK.out _ _ hS2 ?_
     clear hK K hS
     have hS := hS2
     clear hS2
     (try simp only [gTA, gCZ, gCS, Act.put, sTA, sCZ, sCS])
     refine tkY 11 [12] ?vpb11 rfl ?ypb11 hS ?rpb11
     case ypb11 => (intro w hSw; (try dsimp only at hSw); (try simp only [gTA, gCZ, gCS]); go_simp; try with_reducible rfl)
     (try simp only [gTA, gCZ, gCS, Act.put, sTA, sCZ, sCS])
     refine tkZ 12 ?vpb12 rfl ?ypb12 hS ?rpb12
     case ypb12 => (intro w hSw; (try dsimp only at hSw); (try simp only [gTA, gCZ, gCS]); go_simp; try with_reducible rfl)
     (try simp only [gTA, gCZ, gCS, Act.put, sTA, sCZ, sCS])
     refine wpAnyZ_last rfl rfl (by kernel_rfl) (by kernel_rfl) (fun K hK => ?_)
     (try simp only [gTA, gCZ, gCS])
     go_simp
     refine hK.out _ _ ?_
     clear hK K
     (try simp only [gTA, gCZ, gCS, Act.put, sTA, sCZ, sCS])
     clear hS d7 x0 x1 x2 y0 y1 y2 hrun' HBK HND u0 uz HXD
     obtain ⟨W8, HW8⟩ : ∃ u, Hid (w8.setCell ⟨P, 47, none⟩ (.slice (some ⟨bd, od, none⟩) (m.deeds.length + 1) cd) = u) := ⟨_, hD rfl⟩
     rw [HW8.out] at H8 ⊢
     clear HW8
     obtain ⟨y0, y1, y2⟩ := cells3 H8.out.2.2.1
     have hb8 := H8.out.2.2.1.lt
     have HS9 := hD (send_any W8 H8.out.1 H8.out.2.2.2 HIN.out.ok.s6 c hc A st HA.out HSB.out (HIN.out.sent hN c))
     unfold ptr at HS9
     go_wp2_with fail
     refine HS9.out.mono ?_
     rintro e w9 ⟨f9, G9, rfl, hM9, hB9, hK9⟩
     have hM9' : PMem 0 w9 base P f9 G9 mode (Mach.tell (E := PE) { (m.set c { m.get c with wait := l }) with e := ⟨V, m.e.kept⟩, deeds := m.deeds ++ [⟨c, r, A, st⟩] } c A st) := hM9
     rw [HM4.out] at hM9'
     clear hM9
     have hM9 := hM9'
     clear hM9'
     have y9 := (World.cell?_of_block (a := ⟨b1, 2, none⟩) (hK9.2 b1 hb8 HFb.out)).trans y2
     have hb9 : b1 < w9.heap.size := Nat.lt_of_lt_of_le hb8 hK9.1
     have m9 := hM9.row.cell (j := 0) (by omega)
     rw [hM9.md] at m9
     have hP9 := hM9.row.lt
     have H9 := hD (And.intro hM9 (H8.out.2.1.trans hB9))
     clear hM9 hB9 hK9 HS9 y0 y1 y2 H8
     by_cases hmo : mode = 1
     ·have t1 : (mode != 1) = false := by simp [hmo]
      have HE2 := hD (HE.out.trans (if_neg (fun hh => hh.1 hmo)))
      clear hmo HE
      go_wp2
      go_end0
      rw [HE2.out]
      exact ⟨f9, G9, rfl, H9.out.1, H9.out.2⟩
     have t1 : (mode != 1) = true := by simp [hmo]
     by_cases hst : st = 0
     ·have t2 : (st == 0) = true := by simp [hst]
      have HE2 := hD (HE.out.trans (if_pos ⟨hmo, hst⟩))
      have HRL := hD (release_any w9 H9.out.1 HK4.out.1 HK4.out.2.1 HK4.out.2.2.1 hc (s := s) HK4.out.2.2.2)
      unfold ptr at HRL
      clear hmo hst HE
      go_wp2_with fail
      refine HRL.out.mono ?_
      rintro e wA ⟨fA, rfl, hMA, hBA⟩
      have HFF := hD (And.intro hMA (H9.out.2.trans hBA))
      clear hMA hBA HRL
      go_wp2
      go_end0
      rw [HE2.out]
      exact ⟨fA, G9, rfl, HFF.out.1, HFF.out.2⟩
     ·have t2 : (st == 0) = false := by simp [hst]
      have HE2 := hD (HE.out.trans (if_neg (fun hh => hst hh.2)))
      clear hmo hst HE
      go_wp2
      go_end0
      rw [HE2.out]
      exact ⟨f9, G9, rfl, H9.out.1, H9.out.2⟩
 ·have HVQ := hD (show Value.slice (some ⟨b, off + 3, none⟩) nl (cap - 1) = vq by rw [← hvq]; unfold cutv; rw [if_neg hcp])
  clear hvq
  have hcp2 : cap - 1 ≠ 0 := by omega
  have hcp3 : ¬ cap ≤ 1 := by omega
  go_enter Tryz.func100, Tryz.ntmps100
  go_wp2_with fail
  simp only [HVQ.out]
  have hm0 := H1.out.1.row.cell (j := 0) (by omega)
  rw [H1.out.1.md] at hm0
  refine (HRF.out _ hm0 H1.out.1.row.lt).mono ?_
  rintro e w3 ⟨rfl, hb3⟩
  have H3 := hD (And.intro (H1.out.1.below hb3) (And.intro (bel_add' H1.out.2.1 hb3 (Nat.le_trans hbP (Nat.le_of_lt H1.out.1.row.lt))) (And.intro (H1.out.2.2.1.below hb3 (by have := H1.out.2.2.1.lt; exact this)) (H1.out.2.2.2.below (hb3.mono (show base ≤ ((w.setCell ⟨P, 4 + c * 6 + 1, none⟩ vq).alloc (.cells #[.int .i64 r.k, .string r.key, .string r.val] 41)).heap.size from Nat.le_trans hbP (Nat.le_of_lt H1.out.1.row.lt)))))))
  have hP3 := H3.out.1.row.lt
  have hXl3 := H3.out.2.2.1.lt
  clear hb3 hm0 H1 HRF x0 x1 x2 c0 c1 c2 p1 p1' z1'
  cases hrb : refB mode r with
  | true =>
   as_aux_lemma =>
    have hne : rf.toList.isEmpty = false := full_of (by
     have hh : rf.size ≠ 0 := fun h0 => by rw [← HRf.out] at h0; rw [refuse_empty.1 h0] at hrb; cases hrb
     omega)
    have HA := hD (show AnsOk ⟨4, rf⟩ by rw [← HRf.out]; exact ref_ans hrb)
    have HE := hD (show m.proc poolO mode c = (m.set c { m.get c with wait := l }).tell c ⟨4, rf⟩ (m.e.state (m.get c).srv) by
     unfold Mach.proc
     simp only [HW.out]
     rw [if_pos hrb, HRf.out]
     rfl)
    have hok1 : MOk mode (m.set c { m.get c with wait := l }) := HIN.out.ok.did hc HRD.out HW.out rfl rfl rfl HIN.out.ok.s6
    have HST := hD (state_any w3 H3.out.1 hok1 HIN.out.plen hc)
    have hgs : (m.set c { m.get c with wait := l }).e.state ((m.set c { m.get c with wait := l }).get c).srv = m.e.state (m.get c).srv := by rw [get_set (by rw [HIN.out.ok.n6]; exact hc), if_pos rfl]; rfl
    rw [hgs] at HST
    have HSB := hD (HIN.out.state hc)
    generalize m.e.state (m.get c).srv = st at *
    unfold ptr at HST
    clear hrb hgs hok1
    go_wp2_with fail
    refine HST.out.mono ?_
    rintro e w4 ⟨rfl, k4, rfl⟩
    go_wp2_with fail
    have hd4 : Below w3.heap.size w3 (w3.drewN k4) := below_drewN (Below.refl _ _) k4
    refine (send_any (w3.drewN k4) (H3.out.1.below hd4) (H3.out.2.2.2.below (hd4.mono (Nat.le_trans hbP (Nat.le_of_lt hP3)))) HIN.out.ok.s6 c hc ⟨4, rf⟩ st HA.out HSB.out (HIN.out.sent hN c)).mono ?_
    rintro e w5 ⟨f5, G5, rfl, hM5, hB5, _⟩
    have HFF := hD (And.intro hM5 ((H3.out.2.1.trans (hd4.mono (Nat.le_trans hbP (Nat.le_of_lt hP3)))).trans hB5))
    clear hM5 hB5 hd4
    go_wp2
    go_end0
    rw [HE.out]
    exact ⟨f5, G5, rfl, HFF.out.1, HFF.out.2⟩
  | false =>
   as_aux_lemma =>
    have hne : rf.toList.isEmpty = true := empty_of (by rw [← HRf.out]; exact refuse_empty.2 hrb)
    obtain ⟨s, hs⟩ : ∃ s, (m.get c).srv = some s := by
     have := HSR.out
     rw [hrb, Bool.or_false] at this
     exact Option.isSome_iff_exists.1 this
    have hlt := HIN.out.srvlt hs
    have hrk := HIN.out.req HW.out hrb
    obtain ⟨A, HAe⟩ : ∃ A, Hid ((doR m.e.w s r).2 = A) := ⟨_, hD rfl⟩
    obtain ⟨V, HVe⟩ : ∃ V, Hid ((doR m.e.w s r).1 = V) := ⟨_, hD rfl⟩
    obtain ⟨st, HSe⟩ : ∃ st, Hid ((V.at s).st = st) := ⟨_, hD rfl⟩
    have hdo := doR_ok HIN.out.w hlt hrk
    rw [HVe.out] at hdo
    have HA := hD (show AnsOk A by rw [← HAe.out]; exact doM_ans HIN.out.w hlt _ _ _)
    have HSB := hD (show 0 ≤ st ∧ st ≤ 2 by have := sess_at hdo.1 (i := s) (by rw [hdo.2]; exact hlt); rw [← HSe.out]; exact ⟨this.lo, this.hi⟩)
    have HPL := hD (show V.ss.length = m.busy.length by rw [hdo.2]; exact HIN.out.plen)
    obtain ⟨M4, HM4⟩ : ∃ x, Hid (Mach.tell (E := PE) { (m.set c { m.get c with wait := l }) with e := ⟨V, m.e.kept⟩, deeds := m.deeds ++ [⟨c, r, A, st⟩] } c A st = x) := ⟨_, hD rfl⟩
    have HK4 := hD (show MOk mode M4 ∧ M4.e.w.ss.length = M4.busy.length ∧ M4.e.kept.length = 6 ∧ (M4.get c).srv = some s by
     rw [← HM4.out]
     exact ⟨HIN.out.ok.did hc HRD.out HW.out rfl rfl rfl (by simp [Mach.tell, Mach.set, HIN.out.ok.s6]), HPL.out, HIN.out.klen, by show ((m.set c { m.get c with wait := l }).get c).srv = some s; rw [get_set (by rw [HIN.out.ok.n6]; exact hc), if_pos rfl]; exact hs⟩)
    have HE := hD (show m.proc poolO mode c = if mode ≠ 1 ∧ st = 0 then M4.release poolO c s else M4 by
     unfold Mach.proc
     simp only [HW.out]
     rw [if_neg (by rw [hrb]; simp), show (m.get c).srv.getD 0 = s by rw [hs]; rfl]
     have he : poolO.exec m.e c s r = (⟨V, m.e.kept⟩, A, st) := by
      show ((⟨(doR m.e.w s r).1, m.e.kept⟩ : PE), (doR m.e.w s r).2, ((doR m.e.w s r).1.at s).st) = _
      rw [HVe.out, HAe.out, HSe.out]
     rw [he]
     show (if mode ≠ 1 ∧ st = 0 then Mach.release poolO (Mach.tell (E := PE) { (m.set c { m.get c with wait := l }) with e := ⟨V, m.e.kept⟩, deeds := m.deeds ++ [⟨c, r, A, st⟩] } c A st) c s else Mach.tell (E := PE) { (m.set c { m.get c with wait := l }) with e := ⟨V, m.e.kept⟩, deeds := m.deeds ++ [⟨c, r, A, st⟩] } c A st) = _
     rw [HM4.out])
    have HDO := hD (fun (wc : World) (h1 : PMem 0 wc base P (upd f (4 + c * 6 + 1) vq) G mode (m.set c { m.get c with wait := l })) (h2 : Tabs wc base) => doP_any wc h1 h2 HIN.out.w s hlt r hrk)
    rw [show (m.set c { m.get c with wait := l }).e.w = m.e.w from rfl, HVe.out, HAe.out, HSe.out] at HDO
    have hgs : ((m.set c { m.get c with wait := l }).get c).srv = some s := by rw [get_set (by rw [HIN.out.ok.n6]; exact hc), if_pos rfl]; exact hs
    have HGS := hD hgs
    have a3 := H3.out.1.row.cell (j := 4 + c * 6 + 3) (by omega)
    obtain ⟨q, hq, hqs⟩ := H3.out.1.srv c hc
    obtain rfl := hqs s hgs
    rw [hq] at a3
    obtain ⟨x0, x1, x2⟩ := cells3 H3.out.2.2.1
    clear hrb hlt hrk hdo hgs hq hqs HAe HVe HSe
    unfold ptr at HDO
    go_wp2_with fail
    refine wp_region_z 8 (fun wx => wx.cell? ⟨P, 4 + c * 6 + 3, none⟩ = some (.int .i64 s) ∧ wx.cell? ⟨w.heap.size, 0, none⟩ = some (.int .i64 r.k) ∧ wx.cell? ⟨w.heap.size, 1, none⟩ = some (.string r.key) ∧ wx.cell? ⟨w.heap.size, 2, none⟩ = some (.string r.val)) (by kernel_rfl) (show w3.drew.cell? ⟨P, 4 + c * 6 + 3, none⟩ = some (.int .i64 s) ∧ w3.drew.cell? ⟨w.heap.size, 0, none⟩ = some (.int .i64 r.k) ∧ w3.drew.cell? ⟨w.heap.size, 1, none⟩ = some (.string r.key) ∧ w3.drew.cell? ⟨w.heap.size, 2, none⟩ = some (.string r.val) from ⟨a3, x0, x1, x2⟩) (fun hS => ?_)
    refine tkZ 0 ?vqa0 rfl ?yqa0 hS ?rqa0
    case yqa0 => (intro w hSw; (try dsimp only at hSw); (try simp only [gTA, gCZ, gCS]); go_simp; try with_reducible rfl)
    (try simp only [gTA, gCZ, gCS, Act.put, sTA, sCZ, sCS])
    refine tkZ 1 ?vqa1 rfl ?yqa1 hS ?rqa1
    case yqa1 => (intro w hSw; (try dsimp only at hSw); (try simp only [gTA, gCZ, gCS]); go_simp; try with_reducible rfl)
    (try simp only [gTA, gCZ, gCS, Act.put, sTA, sCZ, sCS])
    refine tkZ 2 ?vqa2 rfl ?yqa2 hS ?rqa2
    case yqa2 => (intro w hSw; (try dsimp only at hSw); (try simp only [gTA, gCZ, gCS]); go_simp; try with_reducible rfl)
    (try simp only [gTA, gCZ, gCS, Act.put, sTA, sCZ, sCS])
    refine tkZ 3 ?vqa3 rfl ?yqa3 hS ?rqa3
    case yqa3 => (intro w hSw; (try dsimp only at hSw); (try simp only [gTA, gCZ, gCS]); go_simp; try with_reducible rfl)
    (try simp only [gTA, gCZ, gCS, Act.put, sTA, sCZ, sCS])
    refine tkZ 4 ?vqa4 rfl ?yqa4 hS ?rqa4
    case yqa4 => (intro w hSw; (try dsimp only at hSw); (try simp only [gTA, gCZ, gCS]); go_simp; try with_reducible rfl)
    (try simp only [gTA, gCZ, gCS, Act.put, sTA, sCZ, sCS])
    refine tkZ 5 ?vqa5 rfl ?yqa5 hS ?rqa5
    case yqa5 => (intro w hSw; (try dsimp only at hSw); (try simp only [gTA, gCZ, gCS]); go_simp; try with_reducible rfl)
    (try simp only [gTA, gCZ, gCS, Act.put, sTA, sCZ, sCS])
    refine grid1 (i := 6) (p := 7) (di := 46) (dp := 7) (tp := 46) (zp := #[.int .i64 0, .string ⟨#[]⟩, .int .i64 0]) (L := fun x y => #[true, true, true, true, true, true, x, y, false]) ⟨_, rfl, rfl, rfl, fun ev w => (by go_simp; rfl)⟩ (by decide) (by kernel_rfl) (by kernel_rfl) (by kernel_rfl) rfl rfl rfl rfl 1 (R := fun v wc w' => ∃ f', v = .agg #[.int .i64 A.kind, .string A.text, .int .i64 st] ∧ PMem 0 w' base P f' G mode { (m.set c { m.get c with wait := l }) with e := ⟨V, m.e.kept⟩ } ∧ Below base wc w' ∧ Only P wc w') (F := fun v b1 w' => (∃ f', v = .agg #[.int .i64 A.kind, .string A.text, .int .i64 st] ∧ PMem 0 w' base P f' G mode { (m.set c { m.get c with wait := l }) with e := ⟨V, m.e.kept⟩ }) ∧ Below base w3 w' ∧ Only P w3 w' ∧ RowTo w' b1 46 3 [.int .i64 0, .string ⟨#[]⟩, .int .i64 0] ∧ w3.heap.size ≤ b1) ?qc1 ?qc2 ?qs1 ?qs2 ?qf1 ?qf2 ?qsf ?qfin
    case qc1 =>
     refine wpOp_wp rfl rfl (wp_call (g := 75) (args := #[.pointer (some ⟨P, 0, none⟩), .int .i64 s, .agg #[.int .i64 r.k, .string r.key, .string r.val]]) ?_ ?_)
     ·(try simp only [gTA, gCZ, gCS, Go.Act.put, sTA, sCZ, sCS]); go_simp; try rfl
     ·refine (HDO.out w3.drew (H3.out.1.below (Below.refl _ _).drew) (H3.out.2.2.2.below (Below.refl _ _).drew)).mono ?_
      rintro e w6 ⟨f6, rfl, hM6, hB6, hO6⟩
      exact ⟨_, rfl, _, rfl, f6, rfl, hM6, hB6, hO6⟩
    case qc2 =>
     refine wpOp_wp rfl rfl (wp_call (g := 75) (args := #[.pointer (some ⟨P, 0, none⟩), .int .i64 s, .agg #[.int .i64 r.k, .string r.key, .string r.val]]) ?_ ?_)
     ·(try simp only [pt, gTA, gCZ, gCS, Go.Act.put, sTA, sCZ, sCS]); go_simp; try rfl
     ·have na : Below w3.heap.size w3 (w3.drew.alloc (.cells #[.int .i64 0, .string ⟨#[]⟩, .int .i64 0] 46)) := (Below.refl _ _).drew.alloc (nL _) _
      refine (HDO.out _ (H3.out.1.below na) (H3.out.2.2.2.below (na.mono (Nat.le_trans hbP (Nat.le_of_lt hP3))))).mono ?_
      rintro e w6 ⟨f6, rfl, hM6, hB6, hO6⟩
      exact ⟨_, rfl, _, rfl, f6, rfl, hM6, hB6, hO6⟩
    case qs1 =>
     rintro v w' ⟨f', _, hM', _, hO'⟩
     exact ⟨(by have e1 := hM'.row.cell (j := 4 + c * 6 + 3) (by omega); obtain ⟨q', hq', hqs'⟩ := hM'.srv c hc; obtain rfl := hqs' s HGS.out; rw [hq'] at e1; exact e1), (World.cell?_of_block (a := ⟨w.heap.size, 0, none⟩) (hO'.2 _ hXl3 (Ne.symm hPX))).trans x0, (World.cell?_of_block (a := ⟨w.heap.size, 1, none⟩) (hO'.2 _ hXl3 (Ne.symm hPX))).trans x1, (World.cell?_of_block (a := ⟨w.heap.size, 2, none⟩) (hO'.2 _ hXl3 (Ne.symm hPX))).trans x2⟩
    case qs2 =>
     have na : Below w3.heap.size w3 (w3.drew.alloc (.cells #[.int .i64 0, .string ⟨#[]⟩, .int .i64 0] 46)) := (Below.refl _ _).drew.alloc (nL _) _
     exact ⟨(na.cell (p := ⟨P, 4 + c * 6 + 3, none⟩) hP3).trans a3, (na.cell (p := ⟨w.heap.size, 0, none⟩) hXl3).trans x0, (na.cell (p := ⟨w.heap.size, 1, none⟩) hXl3).trans x1, (na.cell (p := ⟨w.heap.size, 2, none⟩) hXl3).trans x2⟩
    case qf1 =>
     rintro v w' ⟨f', hv, hM', hB', hO'⟩
     have na := (Below.refl w'.heap.size w').alloc (nL _) (.cells #[.int .i64 0, .string ⟨#[]⟩, .int .i64 0] 46)
     exact ⟨⟨f', hv, hM'.below na⟩, ((Below.refl base w3).drew.trans hB').trans (na.mono (Nat.le_trans hbP (Nat.le_of_lt hM'.row.lt))), ((Only.below (P := P) (Below.refl w3.heap.size w3).drew).trans hO').trans (Only.below na), RowTo.whole w' _ _, hO'.1⟩
    case qf2 =>
     rintro v w' ⟨f', hv, hM', hB', hO'⟩
     have na : Below w3.heap.size w3 (w3.drew.alloc (.cells #[.int .i64 0, .string ⟨#[]⟩, .int .i64 0] 46)) := (Below.refl _ _).drew.alloc (nL _) _
     exact ⟨⟨f', hv, hM'⟩, (na.mono (Nat.le_trans hbP (Nat.le_of_lt hP3))).trans hB', (Only.below (P := P) na).trans hO', (RowTo.whole w3.drew _ _).same (hO'.2 _ (show w3.heap.size < (w3.drew.alloc _).heap.size by rw [World.size_alloc]; exact Nat.lt_succ_self _) (by show w3.heap.size ≠ P; omega)), nL _⟩
    case qsf =>
     rintro v b1 w' ⟨⟨f', _, hM'⟩, _, hO', _⟩
     exact ⟨(by have e1 := hM'.row.cell (j := 4 + c * 6 + 3) (by omega); obtain ⟨q', hq', hqs'⟩ := hM'.srv c hc; obtain rfl := hqs' s HGS.out; rw [hq'] at e1; exact e1), (World.cell?_of_block (a := ⟨w.heap.size, 0, none⟩) (hO'.2 _ hXl3 (Ne.symm hPX))).trans x0, (World.cell?_of_block (a := ⟨w.heap.size, 1, none⟩) (hO'.2 _ hXl3 (Ne.symm hPX))).trans x1, (World.cell?_of_block (a := ⟨w.heap.size, 2, none⟩) (hO'.2 _ hXl3 (Ne.symm hPX))).trans x2⟩
    case qfin =>
     rintro v b1 w6 ⟨⟨f6, rfl, hM6⟩, hB6, hO6, hR6, hb6⟩
     obtain ⟨y0, y1, y2⟩ := cells3 hR6
     have z0 := hR6.frozen 0
     have z1 := hR6.frozen 1
     have z2 := hR6.frozen 2
     have hb1P : b1 ≠ P := by omega
     have hGb : ∀ i, G i ≠ some b1 := fun i hi => by have := (H3.out.1.lo i b1 hi).2; omega
     have hM7 := hM6.ans3 hR6 hGb (.int .i64 A.kind) (.string A.text) (.int .i64 st)
     have hR7 := hR6.set3 (.int .i64 A.kind) (.string A.text) (.int .i64 st)
     have hB7 := bel_set3 (H3.out.2.1.trans hB6) (show base ≤ b1 by omega) (.int .i64 A.kind) (.string A.text) (.int .i64 st)
     have hbX : b1 ≠ w.heap.size := by omega
     have hX7 := (((H3.out.2.2.1.same (hO6.2 _ hXl3 (Ne.symm hPX))).other (p := ⟨b1, 0, none⟩) hbX (.int .i64 A.kind)).other (p := ⟨b1, 1, none⟩) hbX (.string A.text)).other (p := ⟨b1, 2, none⟩) hbX (.int .i64 st)
     have hT7 := (H3.out.2.2.2.below hB6).below (bel_set3 (Below.refl base w6) (show base ≤ b1 by omega) (.int .i64 A.kind) (.string A.text) (.int .i64 st))
     simp only [pt, Go.Act.put, sTA, sCZ, sCS]
     refine wpAnyZ_last rfl rfl (by kernel_rfl) (by kernel_rfl) (fun K hK => ?_)
     (try simp only [gTA, gCZ, gCS])
     go_simp
     refine hK.out _ _ ?_
     clear hK K
     (try simp only [gTA, gCZ, gCS, Act.put, sTA, sCZ, sCS])
     have HFB := hD (show Free G b1 from hGb)
     have hb1l := hR7.lt
     have hXl7 := hX7.lt
     obtain ⟨W7, HW7⟩ : ∃ u, Hid ((((w6.setCell ⟨b1, 0, none⟩ (.int .i64 A.kind)).setCell ⟨b1, 1, none⟩ (.string A.text)).setCell ⟨b1, 2, none⟩ (.int .i64 st)) = u) := ⟨_, hD rfl⟩
     rw [HW7.out] at hM7 hR7 hB7 hX7 hT7 hb1l hXl7 ⊢
     clear HW7 hM6 hB6 hO6 hR6 y0 y1 y2 z0 z1 z2 H3 HDO hP3 hXl3 a3 x0 x1 x2 hGb
     have d7 := hM7.row.cell (j := 47) (by omega)
     have hP7 := hM7.row.lt
     obtain ⟨x0, x1, x2⟩ := cells3 hX7
     obtain ⟨y0, y1, y2⟩ := cells3 hR7
     have nd := ((Below.refl W7.heap.size W7).drew).alloc (nL _) (.cells #[.int .i64 (c : Int), .int .i64 r.k, .string r.key, .string r.val, .int .i64 A.kind, .string A.text, .int .i64 st] 70)
     have hM7a := hM7.below nd
     have hXd := RowTo.whole W7.drew #[.int .i64 (c : Int), .int .i64 r.k, .string r.key, .string r.val, .int .i64 A.kind, .string A.text, .int .i64 st] 70
     obtain ⟨bd, od, cd, w8, hrun, u0, uz, hP8, hM8, hB8, hK8, hF8⟩ := hM7a.deeded (HIN.out.deeds hN) (ad := W7.heap.size) ⟨c, r, A, st⟩ (fun j u hu => by
      obtain ⟨hj, hu⟩ := List.getElem?_eq_some_iff.1 hu
      rw [← hu]
      exact hXd.cell hj)
     have hrun' : (Builtin.append_ #[26, 26] 26 #[f6 47, .slice (some ⟨W7.heap.size, 0, none⟩) 1 1]).run Tryz.prog (W7.drew.alloc (.cells #[.int .i64 (c : Int), .int .i64 r.k, .string r.key, .string r.val, .int .i64 A.kind, .string A.text, .int .i64 st] 70)) = .ok (.slice (some ⟨bd, od, none⟩) (m.deeds.length + 1) cd) w8 := hrun
     have hFb := hF8 b1 (Nat.lt_of_lt_of_le hb1l nd.size) HFB.out
     have hbk : w8.heap[b1]? = W7.heap[b1]? := (hK8.2 b1 (Nat.lt_of_lt_of_le hb1l nd.size) HFB.out).trans (nd.block b1 hb1l)
     have hFX : Free G w.heap.size := fun i hi => HFX.out i hi
     have hbkX : w8.heap[w.heap.size]? = W7.heap[w.heap.size]? := (hK8.2 _ (Nat.lt_of_lt_of_le hXl7 nd.size) hFX).trans (nd.block _ hXl7)
     have hR8 := (hR7.same hbk).other (p := ⟨P, 47, none⟩) (Ne.symm hb1P) (.slice (some ⟨bd, od, none⟩) (m.deeds.length + 1) cd)
     have hM8' : PMem 0 (w8.setCell ⟨P, 47, none⟩ (.slice (some ⟨bd, od, none⟩) (m.deeds.length + 1) cd)) base P (upd f6 47 (.slice (some ⟨bd, od, none⟩) (m.deeds.length + 1) cd)) (upd G 15 (some bd)) mode { (m.set c { m.get c with wait := l }) with e := ⟨V, m.e.kept⟩, deeds := m.deeds ++ [⟨c, r, A, st⟩] } := hM8
     have hB8' : Below base (W7.drew.alloc (.cells #[.int .i64 (c : Int), .int .i64 r.k, .string r.key, .string r.val, .int .i64 A.kind, .string A.text, .int .i64 st] 70)) (w8.setCell ⟨P, 47, none⟩ (.slice (some ⟨bd, od, none⟩) (m.deeds.length + 1) cd)) := hB8
     have H8 := hD (And.intro hM8' (And.intro (hB7.trans ((nd.mono (Nat.le_trans hbP (Nat.le_of_lt hP7))).trans hB8')) (And.intro hR8 ((hT7.below (nd.mono (Nat.le_trans hbP (Nat.le_of_lt hP7)))).below hB8'))))
     have HBK := hD (And.intro hbk hbkX)
     have HFb := hD hFb
     have HND := hD nd
     obtain ⟨Af, cf, hf47, _⟩ := (hM7.sl 15 (by omega) (by omega) (by omega)).shape
     have hf47' : f6 47 = .slice Af m.deeds.length cf := by rw [items_deeds, List.length_map] at hf47; exact hf47
     have HXD := hD hXd
     clear hM7 hM7a hM8 hM8' hB7 hB8 hB8' hK8 hF8 hrun hR8 hX7 hT7 hFb hbk hbkX nd hf47 hFX hXd hR7
     generalize f6 47 = v47 at *
     subst hf47'
     go_wp2_with fail
     refine wp_region_z 13 (fun wx => wx.cell? ⟨P, 47, none⟩ = some (.slice Af m.deeds.length cf) ∧ wx.cell? ⟨w.heap.size, 0, none⟩ = some (.int .i64 r.k) ∧ wx.cell? ⟨w.heap.size, 1, none⟩ = some (.string r.key) ∧ wx.cell? ⟨w.heap.size, 2, none⟩ = some (.string r.val) ∧ wx.cell? ⟨b1, 0, none⟩ = some (.int .i64 A.kind) ∧ wx.cell? ⟨b1, 1, none⟩ = some (.string A.text) ∧ wx.cell? ⟨b1, 2, none⟩ = some (.int .i64 st)) (by kernel_rfl) (show W7.drew.cell? ⟨P, 47, none⟩ = some (.slice Af m.deeds.length cf) ∧ W7.drew.cell? ⟨w.heap.size, 0, none⟩ = some (.int .i64 r.k) ∧ W7.drew.cell? ⟨w.heap.size, 1, none⟩ = some (.string r.key) ∧ W7.drew.cell? ⟨w.heap.size, 2, none⟩ = some (.string r.val) ∧ W7.drew.cell? ⟨b1, 0, none⟩ = some (.int .i64 A.kind) ∧ W7.drew.cell? ⟨b1, 1, none⟩ = some (.string A.text) ∧ W7.drew.cell? ⟨b1, 2, none⟩ = some (.int .i64 st) from ⟨d7, x0, x1, x2, y0, y1, y2⟩) (fun hS => ?_)
     refine tkZ 0 ?vqb0 rfl ?yqb0 hS ?rqb0
     case yqb0 => (intro w hSw; (try dsimp only at hSw); (try simp only [gTA, gCZ, gCS]); go_simp; try with_reducible rfl)
     (try simp only [gTA, gCZ, gCS, Act.put, sTA, sCZ, sCS])
     refine tkZ 1 ?vqb1 rfl ?yqb1 hS ?rqb1
     case yqb1 => (intro w hSw; (try dsimp only at hSw); (try simp only [gTA, gCZ, gCS]); go_simp; try with_reducible rfl)
     (try simp only [gTA, gCZ, gCS, Act.put, sTA, sCZ, sCS])
     refine tkZ 2 ?vqb2 rfl ?yqb2 hS ?rqb2
     case yqb2 => (intro w hSw; (try dsimp only at hSw); (try simp only [gTA, gCZ, gCS]); go_simp; try with_reducible rfl)
     (try simp only [gTA, gCZ, gCS, Act.put, sTA, sCZ, sCS])
     refine tkZ 3 ?vqb3 rfl ?yqb3 hS ?rqb3
     case yqb3 => (intro w hSw; (try dsimp only at hSw); (try simp only [gTA, gCZ, gCS]); go_simp; try with_reducible rfl)
     (try simp only [gTA, gCZ, gCS, Act.put, sTA, sCZ, sCS])
     refine tkZ 4 ?vqb4 rfl ?yqb4 hS ?rqb4
     case yqb4 => (intro w hSw; (try dsimp only at hSw); (try simp only [gTA, gCZ, gCS]); go_simp; try with_reducible rfl)
     (try simp only [gTA, gCZ, gCS, Act.put, sTA, sCZ, sCS])
     refine tkZ 5 ?vqb5 rfl ?yqb5 hS ?rqb5
     case yqb5 => (intro w hSw; (try dsimp only at hSw); (try simp only [gTA, gCZ, gCS]); go_simp; try with_reducible rfl)
     (try simp only [gTA, gCZ, gCS, Act.put, sTA, sCZ, sCS])
     refine tkZ 6 ?vqb6 rfl ?yqb6 hS ?rqb6
     case yqb6 => (intro w hSw; (try dsimp only at hSw); (try simp only [gTA, gCZ, gCS]); go_simp; try with_reducible rfl)
     (try simp only [gTA, gCZ, gCS, Act.put, sTA, sCZ, sCS])
     refine tkZ 7 ?vqb7 rfl ?yqb7 hS ?rqb7
     case yqb7 => (intro w hSw; (try dsimp only at hSw); (try simp only [gTA, gCZ, gCS]); go_simp; try with_reducible rfl)
     (try simp only [gTA, gCZ, gCS, Act.put, sTA, sCZ, sCS])
     refine wpAnyZ_take (i := 8) (v := .agg #[.int .i64 (c : Int), .int .i64 r.k, .string r.key, .string r.val, .int .i64 A.kind, .string A.text, .int .i64 st]) rfl (by kernel_rfl) (by kernel_rfl) (by kernel_rfl) (by kernel_rfl) (fun _ _ _ h => h) (Or.inl ⟨by rfl, ?yqb8⟩) hS ?rqb8
     case yqb8 => exact fun w _ => exec_deed rfl rfl rfl rfl w
     (try simp only [gTA, gCZ, gCS, Act.put, sTA, sCZ, sCS])
     refine wpAnyZ_one (i := 9) rfl rfl (by kernel_rfl) (fun K hK => ?_)
     (try simp only [gTA, gCZ, gCS])
     refine wp_val (exec_deeds rfl rfl _) ?_
     have hS2 := (show (W7.drew.alloc (.cells #[.int .i64 (c : Int), .int .i64 r.k, .string r.key, .string r.val, .int .i64 A.kind, .string A.text, .int .i64 st] 70)).cell? ⟨P, 47, none⟩ = some (.slice Af m.deeds.length cf) ∧ (W7.drew.alloc (.cells #[.int .i64 (c : Int), .int .i64 r.k, .string r.key, .string r.val, .int .i64 A.kind, .string A.text, .int .i64 st] 70)).cell? ⟨w.heap.size, 0, none⟩ = some (.int .i64 r.k) ∧ (W7.drew.alloc (.cells #[.int .i64 (c : Int), .int .i64 r.k, .string r.key, .string r.val, .int .i64 A.kind, .string A.text, .int .i64 st] 70)).cell? ⟨w.heap.size, 1, none⟩ = some (.string r.key) ∧ (W7.drew.alloc (.cells #[.int .i64 (c : Int), .int .i64 r.k, .string r.key, .string r.val, .int .i64 A.kind, .string A.text, .int .i64 st] 70)).cell? ⟨w.heap.size, 2, none⟩ = some (.string r.val) ∧ (W7.drew.alloc (.cells #[.int .i64 (c : Int), .int .i64 r.k, .string r.key, .string r.val, .int .i64 A.kind, .string A.text, .int .i64 st] 70)).cell? ⟨b1, 0, none⟩ = some (.int .i64 A.kind) ∧ (W7.drew.alloc (.cells #[.int .i64 (c : Int), .int .i64 r.k, .string r.key, .string r.val, .int .i64 A.kind, .string A.text, .int .i64 st] 70)).cell? ⟨b1, 1, none⟩ = some (.string A.text) ∧ (W7.drew.alloc (.cells #[.int .i64 (c : Int), .int .i64 r.k, .string r.key, .string r.val, .int .i64 A.kind, .string A.text, .int .i64 st] 70)).cell? ⟨b1, 2, none⟩ = some (.int .i64 st) from ⟨(HND.out.cell (p := ⟨P, 47, none⟩) hP7).trans d7, (HND.out.cell (p := ⟨w.heap.size, 0, none⟩) hXl7).trans x0, (HND.out.cell (p := ⟨w.heap.size, 1, none⟩) hXl7).trans x1, (HND.out.cell (p := ⟨w.heap.size, 2, none⟩) hXl7).trans x2, (HND.out.cell (p := ⟨b1, 0, none⟩) hb1l).trans y0, (HND.out.cell (p := ⟨b1, 1, none⟩) hb1l).trans y1, (HND.out.cell (p := ⟨b1, 2, none⟩) hb1l).trans y2⟩)
     refine hK.out _ _ hS2 ?_
     clear hK K hS
     have hS := hS2
     clear hS2
     (try simp only [gTA, gCZ, gCS, Act.put, sTA, sCZ, sCS])
     refine wpAnyZ_one (i := 10) rfl rfl (by kernel_rfl) (fun K hK => ?_)
     (try simp only [gTA, gCZ, gCS])
     refine Lib.wp_append_run _ _ _ _ _ rfl _ _ rfl rfl _ _ hrun' ?_
     have hS2 := (show w8.cell? ⟨P, 47, none⟩ = some (.slice Af m.deeds.length cf) ∧ w8.cell? ⟨w.heap.size, 0, none⟩ = some (.int .i64 r.k) ∧ w8.cell? ⟨w.heap.size, 1, none⟩ = some (.string r.key) ∧ w8.cell? ⟨w.heap.size, 2, none⟩ = some (.string r.val) ∧ w8.cell? ⟨b1, 0, none⟩ = some (.int .i64 A.kind) ∧ w8.cell? ⟨b1, 1, none⟩ = some (.string A.text) ∧ w8.cell? ⟨b1, 2, none⟩ = some (.int .i64 st) from ⟨u0, (World.cell?_of_block (a := ⟨w.heap.size, 0, none⟩) HBK.out.2).trans x0, (World.cell?_of_block (a := ⟨w.heap.size, 1, none⟩) HBK.out.2).trans x1, (World.cell?_of_block (a := ⟨w.heap.size, 2, none⟩) HBK.out.2).trans x2, (World.cell?_of_block (a := ⟨b1, 0, none⟩) HBK.out.1).trans y0, (World.cell?_of_block (a := ⟨b1, 1, none⟩) HBK.out.1).trans y1, (World.cell?_of_block (a := ⟨b1, 2, none⟩) HBK.out.1).trans y2⟩)
     refine hK.out _ _ hS2 ?_
     clear hK K hS
     have hS := hS2
     clear hS2
     (try simp only [gTA, gCZ, gCS, Act.put, sTA, sCZ, sCS])
     refine tkY 11 [12] ?vqb11 rfl ?yqb11 hS ?rqb11
     case yqb11 => (intro w hSw; (try dsimp only at hSw); (try simp only [gTA, gCZ, gCS]); go_simp; try with_reducible rfl)
     (try simp only [gTA, gCZ, gCS, Act.put, sTA, sCZ, sCS])
     refine tkZ 12 ?vqb12 rfl ?yqb12 hS ?rqb12
     case yqb12 => (intro w hSw; (try dsimp only at hSw); (try simp only [gTA, gCZ, gCS]); go_simp; try with_reducible rfl)
     (try simp only [gTA, gCZ, gCS, Act.put, sTA, sCZ, sCS])
     refine wpAnyZ_last rfl rfl (by kernel_rfl) (by kernel_rfl) (fun K hK => ?_)
     (try simp only [gTA, gCZ, gCS])
     go_simp
     refine hK.out _ _ ?_
     clear hK K
     (try simp only [gTA, gCZ, gCS, Act.put, sTA, sCZ, sCS])
     clear hS d7 x0 x1 x2 y0 y1 y2 hrun' HBK HND u0 uz HXD
     obtain ⟨W8, HW8⟩ : ∃ u, Hid (w8.setCell ⟨P, 47, none⟩ (.slice (some ⟨bd, od, none⟩) (m.deeds.length + 1) cd) = u) := ⟨_, hD rfl⟩
     rw [HW8.out] at H8 ⊢
     clear HW8
     obtain ⟨y0, y1, y2⟩ := cells3 H8.out.2.2.1
     have hb8 := H8.out.2.2.1.lt
     have HS9 := hD (send_any W8 H8.out.1 H8.out.2.2.2 HIN.out.ok.s6 c hc A st HA.out HSB.out (HIN.out.sent hN c))
     unfold ptr at HS9
     go_wp2_with fail
     refine HS9.out.mono ?_
     rintro e w9 ⟨f9, G9, rfl, hM9, hB9, hK9⟩
     have hM9' : PMem 0 w9 base P f9 G9 mode (Mach.tell (E := PE) { (m.set c { m.get c with wait := l }) with e := ⟨V, m.e.kept⟩, deeds := m.deeds ++ [⟨c, r, A, st⟩] } c A st) := hM9
     rw [HM4.out] at hM9'
     clear hM9
     have hM9 := hM9'
     clear hM9'
     have y9 := (World.cell?_of_block (a := ⟨b1, 2, none⟩) (hK9.2 b1 hb8 HFb.out)).trans y2
     have hb9 : b1 < w9.heap.size := Nat.lt_of_lt_of_le hb8 hK9.1
     have m9 := hM9.row.cell (j := 0) (by omega)
     rw [hM9.md] at m9
     have hP9 := hM9.row.lt
     have H9 := hD (And.intro hM9 (H8.out.2.1.trans hB9))
     clear hM9 hB9 hK9 HS9 y0 y1 y2 H8
     by_cases hmo : mode = 1
     ·have t1 : (mode != 1) = false := by simp [hmo]
      have HE2 := hD (HE.out.trans (if_neg (fun hh => hh.1 hmo)))
      clear hmo HE
      go_wp2
      go_end0
      rw [HE2.out]
      exact ⟨f9, G9, rfl, H9.out.1, H9.out.2⟩
     have t1 : (mode != 1) = true := by simp [hmo]
     by_cases hst : st = 0
     ·have t2 : (st == 0) = true := by simp [hst]
      have HE2 := hD (HE.out.trans (if_pos ⟨hmo, hst⟩))
      have HRL := hD (release_any w9 H9.out.1 HK4.out.1 HK4.out.2.1 HK4.out.2.2.1 hc (s := s) HK4.out.2.2.2)
      unfold ptr at HRL
      clear hmo hst HE
      go_wp2_with fail
      refine HRL.out.mono ?_
      rintro e wA ⟨fA, rfl, hMA, hBA⟩
      have HFF := hD (And.intro hMA (H9.out.2.trans hBA))
      clear hMA hBA HRL
      go_wp2
      go_end0
      rw [HE2.out]
      exact ⟨fA, G9, rfl, HFF.out.1, HFF.out.2⟩
     ·have t2 : (st == 0) = false := by simp [hst]
      have HE2 := hD (HE.out.trans (if_neg (fun hh => hst hh.2)))
      clear hmo hst HE
      go_wp2
      go_end0
      rw [HE2.out]
      exact ⟨f9, G9, rfl, H9.out.1, H9.out.2⟩
end
end Go.Proofs.YtpbaobmegomfpabGreatDoor
namespace Go.Proofs.YtpbaobmegomfpabGreatDoor
open Go.RowKit
section
variable {base P : Nat} {f : Nat → Value} {G : Nat → Option Nat} {mode : Int} {m : Mach PE} {N : Nat}
theorem first_is {c : Nat} (hc : c < 6) (h0 : ∀ d, d < c → readyB mode (m.get d) = false) (h1 : readyB mode (m.get c) = true) : m.firstR mode = some c := by
 cases hf : m.firstR mode with
 | none => have := first_none hf hc; rw [h1] at this; cases this
 | some d =>
  obtain ⟨hd, hr⟩ := first_some hf
  rcases Nat.lt_trichotomy d c with h | h | h
  ·rw [h0 d h] at hr; cases hr
  ·rw [h]
  ·unfold Mach.firstR at hf
   rw [List.find?_eq_some_iff_append] at hf
   obtain ⟨_, xs, ys, e, ha⟩ := hf
   have hm : c ∈ xs := by
    have hcr : c ∈ List.range 6 := List.mem_range.2 hc
    have hs : List.Pairwise (· < ·) (List.range 6) := List.pairwise_lt_range
    rw [e] at hcr hs
    rcases List.mem_append.1 hcr with hh | hh
    ·exact hh
    ·rcases List.mem_cons.1 hh with hh | hh
     ·omega
     ·have := (List.pairwise_cons.1 (List.pairwise_append.1 hs).2.1).1 c hh
      omega
   have := ha c hm
   rw [h1] at this
   cases this
theorem first_no (h0 : ∀ d, d < 6 → readyB mode (m.get d) = false) : m.firstR mode = none := by
 cases hf : m.firstR mode with
 | none => rfl
 | some d => obtain ⟨hd, hr⟩ := first_some hf; rw [h0 d hd] at hr; cases hr
set_option maxHeartbeats 1000000 in
theorem step_any (w : World) (h : PMem 0 w base P f G mode m) (hT : Tabs w base) (hI : Inv mode m N) (hN : N ≤ 300000) (hbl : m.busy.length ≤ 8) :
  Calls Tryz.prog 79 #[ptr P 0] w (PPostB w base P mode (m.step poolO mode)) := by
 have hbP := (h.lo 0 P h.p0).1
 have H0 := hD (And.intro h (And.intro hT hI))
 have hPw := h.row.lt
 clear h hT hI
 unfold ptr
 go_enter Tryz.func79, Tryz.ntmps79
 go_wp2
 go_loopw [4] (fun i wr => ∃ k : Nat, k ≤ 6 ∧ i = .int .i64 k ∧ Hid ((∀ d, d < k → readyB mode (m.get d) = false) ∧ Below w.heap.size w wr)) (fun i _ => 6 - (intOf i).toNat)
 case atStart => exact ⟨0, by omega, rfl, (fun d hd => absurd hd (by omega)), Below.refl _ _⟩
 case round =>
  obtain ⟨k, hk, rfl, HZ⟩ := hrel
  have HM := hD (H0.out.1.below HZ.out.2)
  have HB := hD (HZ.out.2.mono (Nat.le_trans hbP (Nat.le_of_lt hPw)))
  have HT := hD (H0.out.2.1.below HB.out)
  by_cases hlt : k < 6
  ·have HR := hD (ready_any wr HM.out hlt)
   unfold ptr at HR
   cases hq : readyB mode (m.get k) with
   | true =>
    rw [hq] at HR
    have HE := hD (show m.step poolO mode = (true, m.proc poolO mode k) by unfold Mach.step; rw [first_is hlt HZ.out.1 hq])
    have HQ := hD hq
    clear hq
    go_wp2_with fail
    refine HR.out.mono ?_
    rintro e w1 ⟨rfl, hb1⟩
    have HP := hD (process_any w1 (HM.out.below hb1) (HT.out.below (hb1.mono (Nat.le_trans hbP (Nat.le_of_lt HM.out.row.lt)))) H0.out.2.2 hN hlt HQ.out)
    have HB1 := hD (HB.out.trans (hb1.mono (Nat.le_trans hbP (Nat.le_of_lt HM.out.row.lt))))
    unfold ptr at HP
    clear hb1 HR
    go_wp2_with fail
    refine HP.out.mono ?_
    rintro e w2 ⟨f2, G2, rfl, hM2, hB2⟩
    have HF := hD (And.intro hM2 (HB1.out.trans hB2))
    clear hM2 hB2 HP
    go_wp2
    go_ret
    rw [HE.out]
    exact ⟨f2, G2, rfl, HF.out.1, HF.out.2⟩
   | false =>
    rw [hq] at HR
    have HF := hD (show ∀ d, d < k + 1 → readyB mode (m.get d) = false from fun d hd => by
     rcases Nat.lt_or_ge d k with h' | h'
     ·exact HZ.out.1 d h'
     ·obtain rfl : d = k := by omega
      exact hq)
    have HZ2 := hD HZ.out.2
    clear hq HZ
    go_wp2_with fail
    refine HR.out.mono ?_
    rintro e w1 ⟨rfl, hb1⟩
    have HB1 := hD (bel_add' HZ2.out hb1 HZ2.out.size)
    clear hb1 HR
    go_wp2
    go_roundw
    case rel => exact ⟨k + 1, by omega, by go_num, HF.out, HB1.out⟩
    case measure => simp [intOf]; omega
  ·obtain rfl : k = 6 := by omega
   have hfn := first_no HZ.out.1
   have HE := hD (show m.step poolO mode = m.enq.assign poolO by unfold Mach.step; rw [hfn])
   have HQ := hD (enqueue_any wr HM.out H0.out.2.2.line)
   have HIE := hD (H0.out.2.2.enq hfn)
   unfold ptr at HQ
   clear hfn HZ
   go_wp2_with fail
   refine HQ.out.mono ?_
   rintro e w1 ⟨f1, G1, rfl, hM1, hB1⟩
   have HA := hD (assign_any w1 hM1 (HT.out.below hB1) HIE.out hbl)
   have HB1 := hD (HB.out.trans hB1)
   unfold ptr at HA
   clear hM1 hB1 HQ
   go_wp2_with fail
   refine HA.out.mono ?_
   rintro e w2 ⟨f2, G2, rfl, hM2, hB2⟩
   have HF := hD (And.intro hM2 (HB1.out.trans hB2))
   clear hM2 hB2 HA
   go_wp2
   go_ret
   rw [HE.out]
   exact ⟨f2, G2, rfl, HF.out.1, HF.out.2⟩
end
end Go.Proofs.YtpbaobmegomfpabGreatDoor
namespace Go.Proofs.YtpbaobmegomfpabGreatDoor
open Go.RowKit
def pulls : Nat → ByteArray → List Req × ByteArray × Bool
 | 0, b => ([], b, false)
 | n + 1, b => match pull b with
  | none => ([], b, false)
  | some (k, t, j) => if k = 88 then ([], b, true) else (reqOf k t :: (pulls n (b.extract j b.size)).1, (pulls n (b.extract j b.size)).2.1, (pulls n (b.extract j b.size)).2.2)
def pullsA (b : ByteArray) : List Req × ByteArray × Bool := pulls (b.size + 1) b
section
variable {E : Type} {o : Ops E} {mode : Int} {m : Mach E} {c : Nat}
end
structure So where
 d : D
 b : Nat → ByteArray
def D.gone (d : D) (c : Nat) : D := ⟨d.w.put c Sess.zero, d.sent, d.deeds⟩
def So.act (mode : Int) (s : So) (a : Act) : So :=
 if a.kind = 1 then
  (if (pullsA (s.b a.c.toNat ++ a.data)).2.2 then ⟨((pullsA (s.b a.c.toNat ++ a.data)).1.foldl (D.one mode a.c.toNat) s.d).gone a.c.toNat, upd s.b a.c.toNat ⟨#[]⟩⟩
  else ⟨(pullsA (s.b a.c.toNat ++ a.data)).1.foldl (D.one mode a.c.toNat) s.d, upd s.b a.c.toNat (pullsA (s.b a.c.toNat ++ a.data)).2.1⟩)
 else ⟨s.d.gone a.c.toNat, upd s.b a.c.toNat ⟨#[]⟩⟩
def So.run (mode : Int) (s : So) (l : List Act) : So := l.foldl (So.act mode) s
def Mach.so (m : Mach Wd) : So := ⟨m.d, m.b⟩
section
variable {mode : Int} {m : Mach Wd} {c : Nat}
end
end Go.Proofs.YtpbaobmegomfpabGreatDoor
namespace Go.Proofs.YtpbaobmegomfpabGreatDoor
open Go.RowKit
section
variable {mode : Int} {m : Mach Wd} {c : Nat}
end
def No88 (b : ByteArray) : Prop := ∀ x ∈ b.data.toList, x ≠ 88
theorem no88_app {a b : ByteArray} : No88 (a ++ b) ↔ No88 a ∧ No88 b := by
 unfold No88
 simp only [ByteArray.data_append, Array.toList_append, List.mem_append]
 exact ⟨fun h => ⟨fun x hx => h x (.inl hx), fun x hx => h x (.inr hx)⟩, fun h x hx => hx.elim (h.1 x) (h.2 x)⟩
theorem ext_list (b : ByteArray) (i j : Nat) : (b.extract i j).data.toList = (b.data.toList.take j).drop i := by
 simp [List.drop_take]
theorem no88_ext {b : ByteArray} (h : No88 b) (i j : Nat) : No88 (b.extract i j) := fun x hx => by
 rw [ext_list] at hx
 exact h x (List.mem_of_mem_take (List.mem_of_mem_drop hx))
theorem pull_some {b : ByteArray} {k : UInt8} {t : ByteArray} {j : Nat} (h : pull b = some (k, t, j)) : ∃ h2 : 2 ≤ b.size, k = b[0] ∧ j = 2 + b[1].toNat ∧ t = b.extract 2 j ∧ j ≤ b.size := by
 unfold pull at h
 split at h
 ·rename_i h2
  split at h
  ·rename_i h3
   injection h with h
   injection h with e1 e2
   injection e2 with e2 e3
   exact ⟨h2, e1.symm, e3.symm, by rw [← e3]; exact e2.symm, by omega⟩
  ·cases h
 ·cases h
theorem ext_size {b : ByteArray} {j : Nat} : (b.extract j b.size).size = b.size - j := by simp
theorem pull_88 {b : ByteArray} (hb : No88 b) {k : UInt8} {t : ByteArray} {j : Nat} (h : pull b = some (k, t, j)) : k ≠ 88 := by
 obtain ⟨h2, e, _⟩ := pull_some h
 rw [e]
 exact hb _ (by rw [get_toList b 0 (by omega)]; exact List.getElem_mem _)
section
variable {mode : Int}
def SoNo (s : So) : Prop := ∀ c, No88 (s.b c)
theorem start_no (n : Nat) : SoNo (Mach.start houseStart n).so := fun c => by
 show No88 ((Mach.start houseStart n).get c).bytes
 have : ((Mach.start houseStart n).get c).bytes = ⟨#[]⟩ := by
  unfold Mach.get Mach.start; simp only; rw [List.getD_eq_getElem?_getD, List.getElem?_replicate]; split <;> rfl
 rw [this]; intro x hx; cases hx
end
theorem actsE_app : ∀ {l k : List Act}, actsE (l ++ k) = 0 ↔ actsE l = 0 ∧ actsE k = 0
 | [], k => by simp [actsE]
 | a :: l, k => by
  constructor
  ·intro h
   obtain ⟨h1, h2⟩ := actsE_cons h
   obtain ⟨h3, h4⟩ := actsE_app.1 h2
   exact ⟨by unfold actsE; rw [h1]; simpa using h3, h4⟩
  ·intro ⟨h, hk⟩
   obtain ⟨h1, h2⟩ := actsE_cons h
   show actsE (a :: (l ++ k)) = 0
   unfold actsE; rw [h1]; simpa using actsE_app.2 ⟨h2, hk⟩
theorem run_app {E : Type} {o : Ops E} {mode : Int} {m : Mach E} {l k : List Act} : m.run o mode (l ++ k) = (m.run o mode l).run o mode k := List.foldl_append ..
def Rep : Wd → List Deed → Wd → Prop
 | W, [], V => V = W
 | W, x :: l, V => (doR W x.c x.r).2 = x.a ∧ ((doR W x.c x.r).1.at x.c).st = x.st ∧ x.c < 6 ∧ x.r.ok ∧ Rep (doR W x.c x.r).1 l V
theorem Rep.snoc : ∀ {l : List Deed} {W V : Wd} {c : Nat} {r : Req}, Rep W l V → c < 6 → r.ok → Rep W (l ++ [⟨c, r, (doR V c r).2, ((doR V c r).1.at c).st⟩]) (doR V c r).1
 | [], W, V, c, r, h, hc, hr => by cases h; exact ⟨rfl, rfl, hc, hr, rfl⟩
 | x :: l, W, V, c, r, h, hc, hr => ⟨h.1, h.2.1, h.2.2.1, h.2.2.2.1, Rep.snoc h.2.2.2.2 hc hr⟩
section
variable {mode : Int} {m : Mach Wd} {c : Nat}
def PrivJ (d : D) (b : Nat → ByteArray) (q : Nat → List Req) : Prop := (∀ c, No88 (b c)) ∧ Rep houseStart d.deeds d.w
theorem priv_one (d : D) (b : Nat → ByteArray) (q : Nat → List Req) (c : Nat) (r : Req) (l : List Req) (hc : c < 6) (_ : q c = r :: l) (hr : r.fine) (h : PrivJ d b q) : PrivJ (d.one mode c r) b (upd q c l) := by
 refine ⟨h.1, ?_⟩
 rw [one_deeds, one_w]
 split
 ·exact h.2
 ·rename_i hn; exact h.2.snoc hc (fine_ok hr hn)
theorem priv_feed (h : MOk mode m) (hc : c < 6) (hj : m.has PrivJ) (n : Nat) : (m.feed houseO mode n c).has PrivJ := by
 induction n generalizing m with
 | zero => exact hj
 | succ n ih =>
  have hc' : c < m.cl.length := by rw [h.n6]; exact hc
  unfold Mach.feed
  cases hp : pull (m.get c).bytes with
  | none => exact hj
  | some q =>
   obtain ⟨k, t, j⟩ := q
   simp only
   rw [if_neg (pull_88 (hj.1 c) hp)]
   refine ih (h.turn hc (fine_app (fun q hq => h.fine c q hq) (reqOf_fine k t)) rfl fun hl => ⟨by simp, ?_⟩) ?_
   ·obtain ⟨_, _, h3, h4⟩ := h.line c hl
    exact ready_app h3 h4
   ·unfold Mach.has
    rw [set_b hc', set_q hc']
    refine ⟨fun x => ?_, hj.2⟩
    unfold upd
    split
    ·exact no88_ext (hj.1 c) _ _
    ·exact hj.1 x
theorem priv_act (h : MOk mode m) (hj : m.has PrivJ) {a : Act} (ha : actE a = 0) (hk : a.kind = 1) (h8 : No88 a.data) : (m.act houseO mode a).has PrivJ := by
 obtain ⟨hc, _⟩ := act_lt ha
 have hc' : a.c.toNat < m.cl.length := by rw [h.n6]; exact hc
 unfold Mach.act
 rw [if_pos hk]
 refine all_has priv_one (h.deliver hc _) ?_
 unfold Mach.deliver
 refine priv_feed (h.bytes hc _) hc ?_ _
 unfold Mach.has
 rw [set_b hc', set_q hc']
 refine ⟨fun x => ?_, hj.2⟩
 unfold upd
 split
 ·exact no88_app.2 ⟨hj.1 _, h8⟩
 ·exact hj.1 x
theorem priv_run : ∀ {l : List Act} {m : Mach Wd}, MOk mode m → m.has PrivJ → actsE l = 0 → (∀ a ∈ l, a.kind = 1 ∧ No88 a.data) → (m.run houseO mode l).has PrivJ
 | [], m, _, hj, _, _ => hj
 | a :: l, m, h, hj, hl, hs => priv_run (l := l) (h.act (actsE_cons hl).1) (priv_act h hj (actsE_cons hl).1 (hs a List.mem_cons_self).1 (hs a List.mem_cons_self).2) (actsE_cons hl).2 (fun b hb => hs b (List.mem_cons_of_mem _ hb))
theorem top_private {n : Nat} {l : List Act} (hl : actsE l = 0) (hs : ∀ a ∈ l, a.kind = 1 ∧ No88 a.data) : Rep houseStart ((Mach.start houseStart n).run houseO mode l).deeds ((Mach.start houseStart n).run houseO mode l).e :=
 (priv_run (start_ok _ _ _) ⟨start_no n, rfl⟩ hl hs).2
end
end Go.Proofs.YtpbaobmegomfpabGreatDoor
namespace Go.Proofs.YtpbaobmegomfpabGreatDoor
open Go.RowKit
section
variable {mode : Int} {m : Mach Wd} {c : Nat}
theorem actsE_all {l : List Act} (h : ∀ a ∈ l, actE a = 0) : actsE l = 0 := by
 induction l with
 | nil => rfl
 | cons a l ih => unfold actsE; rw [h a List.mem_cons_self]; simpa using ih (fun b hb => h b (List.mem_cons_of_mem _ hb))
end
section
variable {E : Type} {o : Ops E} {mode : Int}
theorem proc_len (m : Mach E) (c : Nat) : (m.proc o mode c).busy.length = m.busy.length := by
 unfold Mach.proc
 split
 ·rfl
 ·simp only
  split
  ·rfl
  ·split
   ·simp [Mach.release, Mach.tell, Mach.set]
   ·rfl
theorem step_len (m : Mach E) : (m.step o mode).2.busy.length = m.busy.length := by
 unfold Mach.step
 cases m.firstR mode with
 | some c => exact proc_len m c
 | none =>
  show ((m.enq.assign o).2).busy.length = _
  unfold Mach.assign
  split
  ·rfl
  ·split
   ·simp [Mach.enq]
   ·rfl
theorem iter_len : ∀ (n : Nat) (m : Mach E), (m.iter o mode n).busy.length = m.busy.length
 | 0, m => rfl
 | n + 1, m => by
  unfold Mach.iter
  split
  ·rw [iter_len n, step_len]
  ·exact step_len m
theorem all_len' (m : Mach E) : (m.all o mode).busy.length = m.busy.length := iter_len _ m
theorem leave_len' (m : Mach E) (c : Nat) : (m.leave o c).busy.length = m.busy.length := by
 unfold Mach.leave; simp only; split <;> simp
theorem feed_len : ∀ (n : Nat) (m : Mach E) (c : Nat), (m.feed o mode n c).busy.length = m.busy.length
 | 0, m, c => rfl
 | n + 1, m, c => by
  unfold Mach.feed
  split
  ·rfl
  ·split
   ·rw [leave_len', all_len']
   ·exact feed_len n _ c
theorem act_len (m : Mach E) (a : Act) : (m.act o mode a).busy.length = m.busy.length := by
 unfold Mach.act
 rw [all_len']
 split
 ·exact feed_len _ _ _
 ·exact leave_len' m _
end
section
variable {mode : Int} {m : Mach Wd} {c : Nat}
end
end Go.Proofs.YtpbaobmegomfpabGreatDoor
namespace Go.Proofs.YtpbaobmegomfpabGreatDoor
open Go.RowKit
section
variable {base P : Nat} {f : Nat → Value} {G : Nat → Option Nat} {mode : Int} {m : Mach PE} {N : Nat}
set_option maxHeartbeats 1000000 in
theorem all_any (w : World) (h : PMem 0 w base P f G mode m) (hT : Tabs w base) (hI : Inv mode m N) (hN : N ≤ 300000) (hbl : m.busy.length ≤ 8) :
  Calls Tryz.prog 51 #[ptr P 0] w (PPost w base P mode (m.all poolO mode)) := by
 have H0 := hD (And.intro h (And.intro hT hI))
 clear h hT hI
 unfold ptr
 go_enter Tryz.func51, Tryz.ntmps51
 go_wp2_with fail
 go_loopg [2, 3] m.mu (fun gg _ _ wr => Hid (∃ m1 f1 G1, m1.mu ≤ gg ∧ PMem 0 wr base P f1 G1 mode m1 ∧ Inv mode m1 N ∧ m1.all poolO mode = m.all poolO mode ∧ m1.busy.length ≤ 8 ∧ Below base w wr))
 case atStart => exact ⟨m, f, G, nL _, H0.out.1, H0.out.2.2, rfl, hbl, Below.refl _ _⟩
 case round =>
  obtain ⟨m1, f1, G1, hmu, hM, hI, hall, hb8, hB⟩ := hrel.out
  have HS := hD (step_any wr hM (H0.out.2.1.below hB) hI hN hb8)
  unfold ptr at HS
  have HI := hD (And.intro hI (And.intro hall (And.intro hb8 hB)))
  clear hM hI hall hb8 hB hrel
  cases hq : (m1.step poolO mode).1 with
  | true =>
   have HQ := hD hq
   clear hq
   go_wp2_with fail
   refine HS.out.mono ?_
   rintro e w1 ⟨f2, G2, rfl, hM2, hB2⟩
   have HF := hD (And.intro hM2 (HI.out.2.2.2.trans hB2))
   have hmu2 := (HI.out.1.ok.step (o := poolO)).2 HQ.out
   rw [HQ.out]
   clear hM2 hB2 HS
   go_wp2
   go_roundg ((m1.step poolO mode).2.mu)
   case measure => omega
   case rel => exact ⟨_, f2, G2, nL _, HF.out.1, HI.out.1.step, (all_step HI.out.1.ok HQ.out).symm.trans HI.out.2.1, by rw [step_len]; exact HI.out.2.2.1, HF.out.2⟩
  | false =>
   have HQ := hD hq
   clear hq
   go_wp2_with fail
   refine HS.out.mono ?_
   rintro e w1 ⟨f2, G2, rfl, hM2, hB2⟩
   have HF := hD (And.intro hM2 (HI.out.2.2.2.trans hB2))
   rw [HQ.out]
   clear hM2 hB2 HS
   go_wp2
   go_end0
   have e := (all_stop HQ.out).symm.trans HI.out.2.1
   rw [← e]
   exact ⟨f2, G2, rfl, HF.out.1, HF.out.2⟩
end
end Go.Proofs.YtpbaobmegomfpabGreatDoor
namespace Go.Proofs.YtpbaobmegomfpabGreatDoor
open Go.RowKit
section
variable {base P : Nat} {f : Nat → Value} {G : Nat → Option Nat} {mode : Int} {m : Mach PE}
set_option maxHeartbeats 4000000 in
theorem release_keeps (w : World) (h : PMem 0 w base P f G mode m) (hm : MOk mode m) (hp : m.e.w.ss.length = m.busy.length) (hk6 : m.e.kept.length = 6) {c s : Nat} (hc : c < 6) (hs : (m.get c).srv = some s) :
  Calls Tryz.prog 76 #[ptr P 0, ptr P (4 + c * 6)] w fun e w' => ∃ f', e = .returned (.tuple #[]) ∧ PMem 0 w' base P f' G mode (m.release poolO c s) ∧ Below base w w' ∧ KeepF G w w' := by
 have hP := h.row.lt
 have hbP := (h.lo 0 P h.p0).1
 have hb := (List.getElem?_eq_some_iff.1 (hm.srv c s hs)).1
 have hlt : s < m.e.w.ss.length := by omega
 obtain ⟨q, hq, hqs⟩ := h.srv c hc
 obtain rfl := hqs s hs
 obtain ⟨gB, oB, cB, hf2, hFB, hgB, hcs⟩ := h.wld.at (by omega)
 obtain ⟨v1, v2, v3, v4, sB, i1, i2, i3, i4⟩ := hcs s hlt
 have a2 := h.row.cell (j := 2) (by omega)
 rw [hf2] at a2
 have a3 := h.row.cell (j := 4 + c * 6 + 3) (by omega)
 rw [hq] at a3
 obtain ⟨q0, q1, q2, q3, q4, l1, l2, l3, l4⟩ := sB
 obtain ⟨E1, e1, rfl, hE1⟩ := l1.form
 obtain ⟨E2, e2, rfl, hE2⟩ := l2.form
 obtain ⟨E3, e3, rfl, hE3⟩ := l3.form
 obtain ⟨E4, e4, rfl, hE4⟩ := l4.form
 have hbd := h.wld.wld.sess.bytes
 have hsI : (s : Int) < (m.e.w.ss.length : Int) := by omega
 have HH := hD h
 have HP0 := hD h.p0
 have HL1 := hD (And.intro l1 i1)
 have HL2 := hD (And.intro l2 i2)
 have hat := at_lt hlt
 have HK6 := hD hk6
 have HN6 := hD hm.n6
 have HHB := hD hb
 have HSR := hD hs
 obtain ⟨S, HS⟩ : ∃ S, Hid (m.e.w.ss[s] = S) := ⟨_, hD rfl⟩
 rw [HS.out] at q0 q1 q2 q3 q4 HL1 HL2 hat
 have HAT := hD hat
 clear hat
 clear h hm hp hk6 hs hq hqs hf2 hFB hcs l1 l2 l3 l4 i1 i2 i3 i4 hE1 hE2 hE3 hE4 hb HS hlt
 generalize m.e.w.ss.length = n2 at *
 unfold ptr
 go_enter Tryz.func76, Tryz.ntmps76
 go_wp2_with fail
 refine wp_region_z 12 (fun wx => wx.cell? ⟨P, 2, none⟩ = some (.slice (some ⟨gB, oB, none⟩) n2 cB) ∧ wx.cell? ⟨P, 4 + c * 6 + 3, none⟩ = some (.int .i64 s) ∧ wx.cell? ⟨gB, oB + s * 5, none⟩ = some (.int .i64 S.st) ∧ wx.cell? ⟨gB, oB + s * 5 + 1, none⟩ = some (.slice E1 S.set.length e1) ∧ wx.cell? ⟨gB, oB + s * 5 + 2, none⟩ = some (.slice E2 S.prep.length e2) ∧ wx.cell? ⟨gB, oB + s * 5 + 3, none⟩ = some (.slice E3 S.sav.length e3) ∧ wx.cell? ⟨gB, oB + s * 5 + 4, none⟩ = some (.slice E4 S.wr.length e4)) (by kernel_rfl) (show w.drew.cell? ⟨P, 2, none⟩ = some (.slice (some ⟨gB, oB, none⟩) n2 cB) ∧ w.drew.cell? ⟨P, 4 + c * 6 + 3, none⟩ = some (.int .i64 s) ∧ w.drew.cell? ⟨gB, oB + s * 5, none⟩ = some (.int .i64 S.st) ∧ w.drew.cell? ⟨gB, oB + s * 5 + 1, none⟩ = some (.slice E1 S.set.length e1) ∧ w.drew.cell? ⟨gB, oB + s * 5 + 2, none⟩ = some (.slice E2 S.prep.length e2) ∧ w.drew.cell? ⟨gB, oB + s * 5 + 3, none⟩ = some (.slice E3 S.sav.length e3) ∧ w.drew.cell? ⟨gB, oB + s * 5 + 4, none⟩ = some (.slice E4 S.wr.length e4) from ⟨a2, a3, q0, q1, q2, q3, q4⟩) (fun hS => ?_)
 refine tkZ 0 ?v0 rfl ?y0 hS ?r0
 case y0 => (intro w hSw; (try dsimp only at hSw); (try simp only [gTA, gCZ, gCS]); go_simp; try with_reducible rfl)
 (try simp only [gTA, gCZ, gCS, Act.put, sTA, sCZ, sCS])
 refine tkZ 1 ?v1 rfl ?y1 hS ?r1
 case y1 => (intro w hSw; (try dsimp only at hSw); (try simp only [gTA, gCZ, gCS]); go_simp; try with_reducible rfl)
 (try simp only [gTA, gCZ, gCS, Act.put, sTA, sCZ, sCS])
 refine tkZ 2 ?v2 rfl ?y2 hS ?r2
 case y2 => (intro w hSw; (try dsimp only at hSw); (try simp only [gTA, gCZ, gCS]); go_simp; try with_reducible rfl)
 (try simp only [gTA, gCZ, gCS, Act.put, sTA, sCZ, sCS])
 refine tkZ 3 ?v3 rfl ?y3 hS ?r3
 case y3 => (intro w hSw; (try dsimp only at hSw); (try simp only [gTA, gCZ, gCS]); go_simp; try with_reducible rfl)
 (try simp only [gTA, gCZ, gCS, Act.put, sTA, sCZ, sCS])
 refine tkZ 4 ?v4 rfl ?y4 hS ?r4
 case y4 => (intro w hSw; (try dsimp only at hSw); (try simp only [gTA, gCZ, gCS]); go_simp; try with_reducible rfl)
 (try simp only [gTA, gCZ, gCS, Act.put, sTA, sCZ, sCS])
 refine tkZ 5 ?v5 rfl ?y5 hS ?r5
 case y5 => (intro w hSw; (try dsimp only at hSw); (try simp only [gTA, gCZ, gCS]); go_simp; try with_reducible rfl)
 (try simp only [gTA, gCZ, gCS, Act.put, sTA, sCZ, sCS])
 refine tkZ 6 ?v6 rfl ?y6 hS ?r6
 case y6 => (intro w hSw; (try dsimp only at hSw); (try simp only [gTA, gCZ, gCS]); go_simp; try with_reducible rfl)
 (try simp only [gTA, gCZ, gCS, Act.put, sTA, sCZ, sCS])
 refine tkZ 7 ?v7 rfl ?y7 hS ?r7
 case y7 => (intro w hSw; (try dsimp only at hSw); (try simp only [gTA, gCZ, gCS]); go_simp; try with_reducible rfl)
 (try simp only [gTA, gCZ, gCS, Act.put, sTA, sCZ, sCS])
 refine tkZ 8 ?v8 rfl ?y8 hS ?r8
 case y8 => (intro w hSw; (try dsimp only at hSw); (try simp only [gTA, gCZ, gCS]); go_simp; try with_reducible rfl)
 (try simp only [gTA, gCZ, gCS, Act.put, sTA, sCZ, sCS])
 refine tkZ 9 ?v9 rfl ?y9 hS ?r9
 case y9 => (intro w hSw; (try dsimp only at hSw); (try simp only [gTA, gCZ, gCS]); go_simp; try with_reducible rfl)
 (try simp only [gTA, gCZ, gCS, Act.put, sTA, sCZ, sCS])
 refine tkZ 10 ?v10 rfl ?y10 hS ?r10
 case y10 => (intro w hSw; (try dsimp only at hSw); (try simp only [gTA, gCZ, gCS]); go_simp; try with_reducible rfl)
 (try simp only [gTA, gCZ, gCS, Act.put, sTA, sCZ, sCS])
 refine wpAnyZ_one (i := 11) rfl rfl (by kernel_rfl) (fun K hK => ?_)
 (try simp only [gTA, gCZ, gCS])
 go_simp
 have hS2 := (show (w.drew.alloc (.cells #[.int .i64 0, .slice none 0 0, .slice none 0 0, .slice none 0 0, .slice none 0 0] 115)).cell? ⟨P, 2, none⟩ = some (.slice (some ⟨gB, oB, none⟩) n2 cB) ∧ (w.drew.alloc (.cells #[.int .i64 0, .slice none 0 0, .slice none 0 0, .slice none 0 0, .slice none 0 0] 115)).cell? ⟨P, 4 + c * 6 + 3, none⟩ = some (.int .i64 s) ∧ (w.drew.alloc (.cells #[.int .i64 0, .slice none 0 0, .slice none 0 0, .slice none 0 0, .slice none 0 0] 115)).cell? ⟨gB, oB + s * 5, none⟩ = some (.int .i64 S.st) ∧ (w.drew.alloc (.cells #[.int .i64 0, .slice none 0 0, .slice none 0 0, .slice none 0 0, .slice none 0 0] 115)).cell? ⟨gB, oB + s * 5 + 1, none⟩ = some (.slice E1 S.set.length e1) ∧ (w.drew.alloc (.cells #[.int .i64 0, .slice none 0 0, .slice none 0 0, .slice none 0 0, .slice none 0 0] 115)).cell? ⟨gB, oB + s * 5 + 2, none⟩ = some (.slice E2 S.prep.length e2) ∧ (w.drew.alloc (.cells #[.int .i64 0, .slice none 0 0, .slice none 0 0, .slice none 0 0, .slice none 0 0] 115)).cell? ⟨gB, oB + s * 5 + 3, none⟩ = some (.slice E3 S.sav.length e3) ∧ (w.drew.alloc (.cells #[.int .i64 0, .slice none 0 0, .slice none 0 0, .slice none 0 0, .slice none 0 0] 115)).cell? ⟨gB, oB + s * 5 + 4, none⟩ = some (.slice E4 S.wr.length e4) from ⟨((((Below.refl w.heap.size w).drew).alloc (nL _) (.cells #[.int .i64 0, .slice none 0 0, .slice none 0 0, .slice none 0 0, .slice none 0 0] 115)).cell (p := ⟨P, 2, none⟩) hP).trans a2, ((((Below.refl w.heap.size w).drew).alloc (nL _) (.cells #[.int .i64 0, .slice none 0 0, .slice none 0 0, .slice none 0 0, .slice none 0 0] 115)).cell (p := ⟨P, 4 + c * 6 + 3, none⟩) hP).trans a3, ((((Below.refl w.heap.size w).drew).alloc (nL _) (.cells #[.int .i64 0, .slice none 0 0, .slice none 0 0, .slice none 0 0, .slice none 0 0] 115)).cell (p := ⟨gB, oB + s * 5, none⟩) hgB).trans q0, ((((Below.refl w.heap.size w).drew).alloc (nL _) (.cells #[.int .i64 0, .slice none 0 0, .slice none 0 0, .slice none 0 0, .slice none 0 0] 115)).cell (p := ⟨gB, oB + s * 5 + 1, none⟩) hgB).trans q1, ((((Below.refl w.heap.size w).drew).alloc (nL _) (.cells #[.int .i64 0, .slice none 0 0, .slice none 0 0, .slice none 0 0, .slice none 0 0] 115)).cell (p := ⟨gB, oB + s * 5 + 2, none⟩) hgB).trans q2, ((((Below.refl w.heap.size w).drew).alloc (nL _) (.cells #[.int .i64 0, .slice none 0 0, .slice none 0 0, .slice none 0 0, .slice none 0 0] 115)).cell (p := ⟨gB, oB + s * 5 + 3, none⟩) hgB).trans q3, ((((Below.refl w.heap.size w).drew).alloc (nL _) (.cells #[.int .i64 0, .slice none 0 0, .slice none 0 0, .slice none 0 0, .slice none 0 0] 115)).cell (p := ⟨gB, oB + s * 5 + 4, none⟩) hgB).trans q4⟩)
 refine hK.out _ _ hS2 ?_
 clear hK K hS
 have hS := hS2
 clear hS2
 (try simp only [gTA, gCZ, gCS, Act.put, sTA, sCZ, sCS])
 refine wpAnyZ_last rfl rfl (by kernel_rfl) (by kernel_rfl) (fun K hK => ?_)
 (try simp only [gTA, gCZ, gCS])
 go_simp
 refine hK.out _ _ ?_
 clear hK K
 (try simp only [gTA, gCZ, gCS, Act.put, sTA, sCZ, sCS])
 go_wp2_with fail
 have nA : Below w.heap.size w (w.alloc (.cells #[.int .i64 S.st, .slice E1 S.set.length e1, .slice E2 S.prep.length e2, .slice E3 S.sav.length e3, .slice E4 S.wr.length e4] 115)).drew := (((Below.refl w.heap.size w).alloc (nL _) (.cells #[.int .i64 S.st, .slice E1 S.set.length e1, .slice E2 S.prep.length e2, .slice E3 S.sav.length e3, .slice E4 S.wr.length e4] 115))).drew
 have X := RowTo.whole w #[.int .i64 S.st, .slice E1 S.set.length e1, .slice E2 S.prep.length e2, .slice E3 S.sav.length e3, .slice E4 S.wr.length e4] 115
 have t1 : (w.alloc (.cells #[.int .i64 S.st, .slice E1 S.set.length e1, .slice E2 S.prep.length e2, .slice E3 S.sav.length e3, .slice E4 S.wr.length e4] 115)).drew.cell? ⟨w.heap.size, 1, none⟩ = some (.slice E1 S.set.length e1) := X.cell (j := 1) (by simp)
 have t2 : (w.alloc (.cells #[.int .i64 S.st, .slice E1 S.set.length e1, .slice E2 S.prep.length e2, .slice E3 S.sav.length e3, .slice E4 S.wr.length e4] 115)).drew.cell? ⟨w.heap.size, 2, none⟩ = some (.slice E2 S.prep.length e2) := X.cell (j := 2) (by simp)
 have hM1 := HH.out.below nA
 have hl1 := lst_free HL1.out nA.size (fun b _ hb => nA.block b hb)
 have hl2 := lst_free HL2.out nA.size (fun b _ hb => nA.block b hb)
 have hz1 : (w.alloc (.cells #[.int .i64 S.st, .slice E1 S.set.length e1, .slice E2 S.prep.length e2, .slice E3 S.sav.length e3, .slice E4 S.wr.length e4] 115)).drew.heap.size = w.heap.size + 1 := by simp [World.drew]
 have HKA := hD (KeepF.below (G := G) nA)
 have HBA := hD (nA.mono (Nat.le_trans hbP (Nat.le_of_lt hP)))
 generalize (w.alloc (.cells #[.int .i64 S.st, .slice E1 S.set.length e1, .slice E2 S.prep.length e2, .slice E3 S.sav.length e3, .slice E4 S.wr.length e4] 115)).drew = W1 at *
 have HL1b := hD hl1
 have HL2b := hD hl2
 have HM1 := hD hM1
 have p4 := hM1.row.cell (j := 4 + c * 6 + 4) (by omega)
 have p5 := hM1.row.cell (j := 4 + c * 6 + 5) (by omega)
 have z4 := hM1.row.frozen (4 + c * 6 + 4)
 have z5 := hM1.row.frozen (4 + c * 6 + 5)
 have hPX : P ≠ w.heap.size := by omega
 clear hM1 hl1 hl2 X nA a2 a3 q0 q1 q2 q3 q4 hS HL1 HL2 HH
 refine wp_region_z 11 (fun wx => wx.cell? ⟨w.heap.size, 1, none⟩ = some (.slice E1 S.set.length e1) ∧ wx.cell? ⟨w.heap.size, 2, none⟩ = some (.slice E2 S.prep.length e2)) (by kernel_rfl) (show W1.drew.cell? ⟨w.heap.size, 1, none⟩ = some (.slice E1 S.set.length e1) ∧ W1.drew.cell? ⟨w.heap.size, 2, none⟩ = some (.slice E2 S.prep.length e2) from ⟨t1, t2⟩) (fun hS => ?_)
 refine tkZ 0 ?vb0 rfl ?yb0 hS ?rb0
 case yb0 => (intro w hSw; (try dsimp only at hSw); (try simp only [gTA, gCZ, gCS]); go_simp; try with_reducible rfl)
 (try simp only [gTA, gCZ, gCS, Act.put, sTA, sCZ, sCS])
 refine tkZ 1 ?vb1 rfl ?yb1 hS ?rb1
 case yb1 => (intro w hSw; (try dsimp only at hSw); (try simp only [gTA, gCZ, gCS]); go_simp; try with_reducible rfl)
 (try simp only [gTA, gCZ, gCS, Act.put, sTA, sCZ, sCS])
 refine tkZ 2 ?vb2 rfl ?yb2 hS ?rb2
 case yb2 => (intro w hSw; (try dsimp only at hSw); (try simp only [gTA, gCZ, gCS]); go_simp; try with_reducible rfl)
 (try simp only [gTA, gCZ, gCS, Act.put, sTA, sCZ, sCS])
 refine tkZ 3 ?vb3 rfl ?yb3 hS ?rb3
 case yb3 => (intro w hSw; (try dsimp only at hSw); (try simp only [gTA, gCZ, gCS]); go_simp; try with_reducible rfl)
 (try simp only [gTA, gCZ, gCS, Act.put, sTA, sCZ, sCS])
 refine tkZ 4 ?vb4 rfl ?yb4 hS ?rb4
 case yb4 => (intro w hSw; (try dsimp only at hSw); (try simp only [gTA, gCZ, gCS]); go_simp; try with_reducible rfl)
 (try simp only [gTA, gCZ, gCS, Act.put, sTA, sCZ, sCS])
 refine tkZ 5 ?vb5 rfl ?yb5 hS ?rb5
 case yb5 => (intro w hSw; (try dsimp only at hSw); (try simp only [gTA, gCZ, gCS]); go_simp; try with_reducible rfl)
 (try simp only [gTA, gCZ, gCS, Act.put, sTA, sCZ, sCS])
 refine tkZ 6 ?vb6 rfl ?yb6 hS ?rb6
 case yb6 => (intro w hSw; (try dsimp only at hSw); (try simp only [gTA, gCZ, gCS]); go_simp; try with_reducible rfl)
 (try simp only [gTA, gCZ, gCS, Act.put, sTA, sCZ, sCS])
 refine tkZ 7 ?vb7 rfl ?yb7 hS ?rb7
 case yb7 => (intro w hSw; (try dsimp only at hSw); (try simp only [gTA, gCZ, gCS]); go_simp; try with_reducible rfl)
 (try simp only [gTA, gCZ, gCS, Act.put, sTA, sCZ, sCS])
 refine wpAnyZ_one (i := 8) rfl rfl (by kernel_rfl) (fun K hK => ?_)
 (try simp only [gTA, gCZ, gCS])
 go_simp
 have hS2 := (show (W1.drew.setCell ⟨P, 4 + c * 6 + 4, none⟩ (.slice E1 S.set.length e1)).cell? ⟨w.heap.size, 1, none⟩ = some (.slice E1 S.set.length e1) ∧ (W1.drew.setCell ⟨P, 4 + c * 6 + 4, none⟩ (.slice E1 S.set.length e1)).cell? ⟨w.heap.size, 2, none⟩ = some (.slice E2 S.prep.length e2) from ⟨cell_sty (p := ⟨P, 4 + c * 6 + 4, none⟩) hPX t1, cell_sty (p := ⟨P, 4 + c * 6 + 4, none⟩) hPX t2⟩)
 refine hK.out _ _ hS2 ?_
 clear hK K hS
 have hS := hS2
 clear hS2
 (try simp only [gTA, gCZ, gCS, Act.put, sTA, sCZ, sCS])
 refine tkY 9 [10] ?vb9 rfl ?yb9 hS ?rb9
 case yb9 => (intro w hSw; (try dsimp only at hSw); (try simp only [gTA, gCZ, gCS]); go_simp; try with_reducible rfl)
 (try simp only [gTA, gCZ, gCS, Act.put, sTA, sCZ, sCS])
 refine tkZ 10 ?vb10 rfl ?yb10 hS ?rb10
 case yb10 => (intro w hSw; (try dsimp only at hSw); (try simp only [gTA, gCZ, gCS]); go_simp; try with_reducible rfl)
 (try simp only [gTA, gCZ, gCS, Act.put, sTA, sCZ, sCS])
 refine wpAnyZ_last rfl rfl (by kernel_rfl) (by kernel_rfl) (fun K hK => ?_)
 (try simp only [gTA, gCZ, gCS])
 go_simp
 refine hK.out _ _ ?_
 clear hK K
 (try simp only [gTA, gCZ, gCS, Act.put, sTA, sCZ, sCS])
 go_wp2_with fail
 have hM2 := (HM1.out.setLists hc HK6.out HL1b.out HL2b.out).below (Below.refl _ _).drew
 have hB2 := ((HBA.out.setCell (p := ⟨P, 4 + c * 6 + 4, none⟩) hbP (.slice E1 S.set.length e1)).setCell (p := ⟨P, 4 + c * 6 + 5, none⟩) hbP (.slice E2 S.prep.length e2)).drew
 have hK2 : KeepF G w (((W1.setCell ⟨P, 4 + c * 6 + 4, none⟩ (.slice E1 S.set.length e1)).setCell ⟨P, 4 + c * 6 + 5, none⟩ (.slice E2 S.prep.length e2)).drew) := ((HKA.out.set (k := 0) HP0.out (4 + c * 6 + 4) (.slice E1 S.set.length e1)).set (k := 0) HP0.out (4 + c * 6 + 5) (.slice E2 S.prep.length e2))
 obtain ⟨W2, HW2⟩ : ∃ u, Hid (((W1.setCell ⟨P, 4 + c * 6 + 4, none⟩ (.slice E1 S.set.length e1)).setCell ⟨P, 4 + c * 6 + 5, none⟩ (.slice E2 S.prep.length e2)).drew = u) := ⟨_, hD rfl⟩
 rw [HW2.out] at hM2 hB2 hK2 ⊢
 clear HW2 hS t1 t2 p4 p5 z4 z5 HM1 HL1b HL2b HBA
 obtain ⟨bb, ob, cp, g1, f3, hle, ⟨y, hy⟩, hfz, hM3⟩ := hM2.setBusy (j := s) HHB.out false
 obtain ⟨q, hq, hqs⟩ := hM2.srv c hc
 obtain rfl := hqs s HSR.out
 have b3 := hM2.row.cell (j := 3) (by omega)
 rw [f3] at b3
 have bs := hM2.row.cell (j := 4 + c * 6 + 3) (by omega)
 rw [hq] at bs
 have hbb := hM2.lo 1 bb g1
 have hPl := hM2.row.lt
 have hPb : P ≠ bb := fun e => hM2.noP (k := 1) (by omega) (by rw [g1, e])
 have c2 := hM3.row.cell (j := 4 + c * 6 + 2) (by omega)
 have z2 := hM3.row.frozen (4 + c * 6 + 2)
 have hM4 := (hM3.setNone hc HN6.out).below (Below.refl _ _).drew
 have hB4 := ((hB2.setCell (p := ⟨bb, ob + s, none⟩) hbb.1 (.bool false)).setCell (p := ⟨P, 4 + c * 6 + 2, none⟩) hbP (.bool false)).drew
 have hEq : m.release poolO c s = Mach.set { ({ m with e := ⟨m.e.w, m.e.kept.set c (S.set, S.prep)⟩ } : Mach PE) with busy := ({ m with e := ⟨m.e.w, m.e.kept.set c (S.set, S.prep)⟩ } : Mach PE).busy.set s false } c { Mach.get { ({ m with e := ⟨m.e.w, m.e.kept.set c (S.set, S.prep)⟩ } : Mach PE) with busy := ({ m with e := ⟨m.e.w, m.e.kept.set c (S.set, S.prep)⟩ } : Mach PE).busy.set s false } c with srv := none } := by
  show _ = _
  unfold Mach.release poolO PE.free Mach.set
  simp only [HAT.out]
  rfl
 rw [← hEq] at hM4
 have hK4 : KeepF G w (((W2.setCell ⟨bb, ob + s, none⟩ (.bool false)).setCell ⟨P, 4 + c * 6 + 2, none⟩ (.bool false)).drew) := (hK2.set (k := 1) g1 (ob + s) (.bool false)).set (k := 0) HP0.out (4 + c * 6 + 2) (.bool false)
 have HF := hD (And.intro hM4 (And.intro hB4 hK4))
 have hsB : s < m.busy.length := HHB.out
 have hsBI : (s : Int) < (m.busy.length : Int) := by omega
 generalize m.busy.length = nB at *
 clear hM2 hM3 hM4 hB4 hB2 hK2 hK4 hEq hq hqs f3 g1 HHB HSR HN6 HK6 HAT
 refine wp_region_z 9 (fun wx => wx.cell? ⟨P, 3, none⟩ = some (.slice (some ⟨bb, ob, none⟩) nB cp) ∧ wx.cell? ⟨P, 4 + c * 6 + 3, none⟩ = some (.int .i64 s)) (by kernel_rfl) (show W2.drew.cell? ⟨P, 3, none⟩ = some (.slice (some ⟨bb, ob, none⟩) nB cp) ∧ W2.drew.cell? ⟨P, 4 + c * 6 + 3, none⟩ = some (.int .i64 s) from ⟨b3, bs⟩) (fun hS => ?_)
 refine tkZ 0 ?vc0 rfl ?yc0 hS ?rc0
 case yc0 => (intro w hSw; (try dsimp only at hSw); (try simp only [gTA, gCZ, gCS]); go_simp; try with_reducible rfl)
 (try simp only [gTA, gCZ, gCS, Act.put, sTA, sCZ, sCS])
 refine tkZ 1 ?vc1 rfl ?yc1 hS ?rc1
 case yc1 => (intro w hSw; (try dsimp only at hSw); (try simp only [gTA, gCZ, gCS]); go_simp; try with_reducible rfl)
 (try simp only [gTA, gCZ, gCS, Act.put, sTA, sCZ, sCS])
 refine tkZ 2 ?vc2 rfl ?yc2 hS ?rc2
 case yc2 => (intro w hSw; (try dsimp only at hSw); (try simp only [gTA, gCZ, gCS]); go_simp; try with_reducible rfl)
 (try simp only [gTA, gCZ, gCS, Act.put, sTA, sCZ, sCS])
 refine tkZ 3 ?vc3 rfl ?yc3 hS ?rc3
 case yc3 => (intro w hSw; (try dsimp only at hSw); (try simp only [gTA, gCZ, gCS]); go_simp; try with_reducible rfl)
 (try simp only [gTA, gCZ, gCS, Act.put, sTA, sCZ, sCS])
 refine tkZ 4 ?vc4 rfl ?yc4 hS ?rc4
 case yc4 => (intro w hSw; (try dsimp only at hSw); (try simp only [gTA, gCZ, gCS]); go_simp; try with_reducible rfl)
 (try simp only [gTA, gCZ, gCS, Act.put, sTA, sCZ, sCS])
 refine tkZ 5 ?vc5 rfl ?yc5 hS ?rc5
 case yc5 => (intro w hSw; (try dsimp only at hSw); (try simp only [gTA, gCZ, gCS]); go_simp; try with_reducible rfl)
 (try simp only [gTA, gCZ, gCS, Act.put, sTA, sCZ, sCS])
 refine tkZ 6 ?vc6 rfl ?yc6 hS ?rc6
 case yc6 => (intro w hSw; (try dsimp only at hSw); (try simp only [gTA, gCZ, gCS]); go_simp; try with_reducible rfl)
 (try simp only [gTA, gCZ, gCS, Act.put, sTA, sCZ, sCS])
 refine tkZ 7 ?vc7 rfl ?yc7 hS ?rc7
 case yc7 => (intro w hSw; (try dsimp only at hSw); (try simp only [gTA, gCZ, gCS]); go_simp; try with_reducible rfl)
 (try simp only [gTA, gCZ, gCS, Act.put, sTA, sCZ, sCS])
 refine tkZ 8 ?vc8 rfl ?yc8 hS ?rc8
 case yc8 => (intro w hSw; (try dsimp only at hSw); (try simp only [gTA, gCZ, gCS]); go_simp; try with_reducible rfl)
 (try simp only [gTA, gCZ, gCS, Act.put, sTA, sCZ, sCS])
 refine wpAnyZ_last rfl rfl (by kernel_rfl) (by kernel_rfl) (fun K hK => ?_)
 (try simp only [gTA, gCZ, gCS])
 go_simp
 refine hK.out _ _ ?_
 clear hK K
 (try simp only [gTA, gCZ, gCS, Act.put, sTA, sCZ, sCS])
 go_wp2
 go_end0
 exact ⟨_, rfl, HF.out.1, HF.out.2.1, HF.out.2.2⟩
end
end Go.Proofs.YtpbaobmegomfpabGreatDoor
namespace Go.Proofs.YtpbaobmegomfpabGreatDoor
open Go.RowKit
def encN (x : Nat) : List Value := [.int .i64 (x : Int)]
section
variable {w : World} {b off cap : Nat} {d : List (Nat)}
theorem encN_each : ∀ e ∈ d.map encN, e.length = 1 := fun e he => by
 obtain ⟨x, _, rfl⟩ := List.mem_map.1 he
 rfl
theorem Rw.cN (h : Rw w 3 1 b off cap (d.map encN)) {i : Nat} (hi : i < d.length) : w.cell? ⟨b, off + i, none⟩ = some (.int .i64 (d[i] : Int)) := by
 have hi' : i < (d.map encN).length := by simpa using hi
 have h0 := h.cell i hi' 0 (by omega)
 rw [List.getElem_map] at h0
 simpa [encN] using h0
end
set_option maxHeartbeats 400000 in
theorem indexFuncN (lbv : Value) (p : Nat → Bool) (w : World) (b off cap B : Nat) (d : List (Nat)) (hR : Rw w 3 1 b off cap (d.map encN)) (hby : d.length ≤ 1000000000000000) (hB : B ≤ b)
  (hp : ∀ x ∈ d, ∀ wc, Below B w wc → (∀ g, g < w.heap.size → g ≠ b → wc.heap[g]? = w.heap[g]?) → Calls Tryz.prog 78 #[.int .i64 (x : Int), lbv] wc fun e w' => e = .returned (.bool (p x)) ∧ Below wc.heap.size wc w') :
  Calls Tryz.prog 98 #[.slice (some ⟨b, off, none⟩) d.length cap, .func (.func 78) #[] #[lbv]] w fun e w' => (∃ i : Int, e = .returned (.int .i64 i) ∧ ((i = -1 ∧ ∀ x ∈ d, p x = false) ∨ ∃ k, ∃ hk : k < d.length, i = k ∧ p d[k] = true ∧ ∀ x ∈ d.take k, p x = false)) ∧ Below w.heap.size w w' := by
 have hbl := hR.row.lt
 have HR := hD hR
 have HP := hD hp
 have hcap : d.length ≤ cap := by simpa using hR.room
 clear hR hp
 go_enter Tryz.func98, Tryz.ntmps98
 go_wp2
 go_loopw [8] (fun i wr => ∃ k : Nat, k ≤ d.length ∧ i = .int .i64 k ∧ Hid ((∀ x ∈ d.take k, p x = false) ∧ Below w.heap.size w wr)) (fun i _ => d.length - (intOf i).toNat)
 case atStart => exact ⟨0, by omega, rfl, (fun x hx => by simp at hx), Below.refl _ _⟩
 case round =>
  obtain ⟨k, hk, rfl, HZ⟩ := hrel
  by_cases hlt : k < d.length
  ·have hRk := HR.out.below HZ.out.2 hbl
   have a0 := hRk.cN hlt
   have hblr : b < wr.heap.size := Nat.lt_of_lt_of_le hbl HZ.out.2.size
   have HC := hD (HP.out d[k] (List.getElem_mem hlt) wr (HZ.out.2.mono (by omega)) (fun g hg _ => HZ.out.2.block g hg))
   have HT := hD (fun (h : p d[k] = true) => (show ∃ k', ∃ hk : k' < d.length, (k : Int) = k' ∧ p d[k'] = true ∧ ∀ x ∈ d.take k', p x = false from ⟨k, hlt, rfl, h, HZ.out.1⟩))
   have HF := hD (fun (h : p d[k] = false) => (show ∀ x ∈ d.take (k + 1), p x = false from fun x hx => by
    rw [List.take_succ_eq_append_getElem hlt] at hx
    rcases List.mem_append.1 hx with hx | hx
    ·exact HZ.out.1 x hx
    ·rw [List.mem_singleton.1 hx]; exact h))
   have HZ2 := hD HZ.out.2
   generalize d[k] = x at *
   clear HZ hRk
   cases hq : p x with
   | true =>
    have HT2 := hD (HT.out hq)
    rw [hq] at HC
    clear HT HF hq
    go_wp2_with fail
    refine HC.out.mono ?_
    rintro e w2 ⟨rfl, hb2⟩
    have HB2 := hD (HZ2.out.trans (hb2.mono HZ2.out.size))
    clear hb2
    go_wp2
    go_ret
    exact ⟨⟨k, rfl, .inr HT2.out⟩, HB2.out⟩
   | false =>
    have HF2 := hD (HF.out hq)
    rw [hq] at HC
    clear HT HF hq
    go_wp2_with fail
    refine HC.out.mono ?_
    rintro e w2 ⟨rfl, hb2⟩
    have HB2 := hD (HZ2.out.trans (hb2.mono HZ2.out.size))
    clear hb2
    go_wp2
    go_roundw
    case rel => exact ⟨k + 1, by omega, by go_num, HF2.out, HB2.out⟩
    case measure => simp [intOf]; omega
  ·obtain rfl : k = d.length := by omega
   rw [List.take_length] at HZ
   go_wp2
   go_ret
   exact ⟨⟨-1, rfl, .inl ⟨rfl, HZ.out.1⟩⟩, HZ.out.2⟩
theorem behind1 {w : World} {t b off cap : Nat} {d : List (List Value)} (h : Rw w t 1 b off cap d) {i : Nat} (hi : i ≤ d.length) (vs : List Value) : Rw (w.setCells b (off + i) vs) t 1 b off cap (d.take i) := by
 have := h.behind hi vs
 rw [Nat.mul_one] at this
 exact this
set_option maxHeartbeats 1000000 in
theorem deleteFuncN (lbv : Value) (p : Nat → Bool) (w : World) (b off cap B : Nat) (d : List (Nat)) (hR : Rw w 3 1 b off cap (d.map encN)) (hby : d.length ≤ 1000000000000000) (hB : B ≤ b)
  (hp : ∀ x ∈ d, ∀ wc, Below B w wc → (∀ g, g < w.heap.size → g ≠ b → wc.heap[g]? = w.heap[g]?) → Calls Tryz.prog 78 #[.int .i64 (x : Int), lbv] wc fun e w' => e = .returned (.bool (p x)) ∧ Below wc.heap.size wc w') :
  Calls Tryz.prog 77 #[.slice (some ⟨b, off, none⟩) d.length cap, .func (.func 78) #[] #[lbv]] w fun e w' => e = .returned (.slice (some ⟨b, off, none⟩) (d.filter fun x => !p x).length cap) ∧ Rw w' 3 1 b off cap ((d.filter fun x => !p x).map encN) ∧ Below B w w' ∧ ∀ g, g < w.heap.size → g ≠ b → w'.heap[g]? = w.heap[g]? := by
 have hbl := hR.row.lt
 have HI := hD (indexFuncN lbv p w b off cap B d hR hby hB hp)
 have HR := hD hR
 have HP := hD hp
 have hcap : d.length ≤ cap := by simpa using hR.room
 clear hR hp
 go_enter Tryz.func77, Tryz.ntmps77
 go_wp2_with fail
 refine HI.out.mono ?_
 rintro e w1 ⟨⟨i, rfl, hi⟩, hb1⟩
 have HB1 := hD hb1
 clear HI hb1
 rcases hi with ⟨rfl, hall⟩ | ⟨k, hk, rfl, h1, h0⟩
 ·have HA := hD (show (d.filter fun x => !p x) = d from List.filter_eq_self.2 fun x hx => by rw [hall x hx]; rfl)
  clear hall
  go_wp2
  go_ret
  rw [HA.out]
  exact ⟨rfl, HR.out.below HB1.out hbl, HB1.out.mono (by omega), fun g hg _ => HB1.out.block g hg⟩
 ·have HK := hD (KeepI.start hk h1 h0)
  have hne : ((k : Int) == -1) = false := beq_eq_false_iff_ne.2 (by omega)
  clear h1 h0
  go_wp2_with fail
  go_loopw [5, 6, 7] (fun s5 s6 s7 wr => ∃ (i j : Nat) (dk : List (Nat)), s5 = .int .i64 i ∧ s6 = .int .i64 j ∧ i < j ∧ j ≤ d.length ∧ Hid (KeepI p d i j dk ∧ Rw wr 3 1 b off cap (dk.map encN) ∧ Below B w wr ∧ (w.heap.size ≤ wr.heap.size) ∧ ∀ g, g < w.heap.size → g ≠ b → wr.heap[g]? = w.heap[g]?)) (fun _ s6 _ _ => d.length - (intOf s6).toNat)
  case atStart => exact ⟨k, k + 1, d, rfl, by go_num, by omega, by omega, HK.out, HR.out.below HB1.out hbl, HB1.out.mono (by omega), HB1.out.size, fun g hg _ => HB1.out.block g hg⟩
  case round =>
   obtain ⟨i, j, dk, rfl, rfl, hij, hjn, HZ⟩ := hrel
   clear HK HB1
   by_cases hlt : j < d.length
   ·have hRk := HZ.out.2.1
    have hlk := HZ.out.1.len
    have c0 := hRk.cN (i := j) (by omega)
    have z0 := hRk.cN (i := i) (by omega)
    rw [HZ.out.1.at hlt] at c0
    have a0 := c0
    skip
    have f0 := hRk.row.frozen (off + i)
    have hbr := hRk.row.lt
    skip
    have HC := hD (HP.out d[j] (List.getElem_mem hlt) wr HZ.out.2.2.1 HZ.out.2.2.2.2)
    have HKK := hD (fun (h : p d[j] = false) => HZ.out.1.keep hlt h)
    have HKS := hD (fun (h : p d[j] = true) => HZ.out.1.skip hlt h)
    have hjI : (j : Int) < (d.length : Int) := by omega
    have HM := hD (List.getElem_mem hlt)
    generalize d[j] = x at *
    skip
    clear hRk
    cases hq : p x with
    | true =>
     have HK2 := hD (HKS.out hq)
     rw [hq] at HC
     clear HKS HKK hq
     go_wp2_with fail
     refine HC.out.mono ?_
     rintro e w2 ⟨rfl, hb2⟩
     have HB2 := hD hb2
     clear hb2
     have hw2 : Below wr.heap.size wr w2 := HB2.out
     have hn2 : ∀ g, g < wr.heap.size → w2.heap[g]? = wr.heap[g]? := fun g hg => hw2.block g hg
     have H2 := hD (And.intro (HZ.out.2.1.keep (hn2 b hbr)) (And.intro (show Below B w w2 from HZ.out.2.2.1.trans (hw2.mono (by have := HZ.out.2.2.2.1; omega))) (And.intro (show w.heap.size ≤ w2.heap.size by have := HZ.out.2.2.2.1; have := hw2.size; omega) (fun g (hg : g < w.heap.size) (hne : g ≠ b) => (hn2 g (by have := HZ.out.2.2.2.1; omega)).trans (HZ.out.2.2.2.2 g hg hne)))))
     have hb2' : b < w2.heap.size := by have := hw2.size; omega
     go_wp2
     go_roundw
     case rel => exact ⟨i, j + 1, dk, rfl, by go_num, by omega, by omega, HK2.out, H2.out.1, H2.out.2.1, H2.out.2.2.1, H2.out.2.2.2⟩
     case measure => simp [intOf]; omega
    | false =>
     have HK2 := hD (HKK.out hq)
     rw [hq] at HC
     clear HKS HKK hq
     go_wp2_with fail
     refine HC.out.mono ?_
     rintro e w2 ⟨rfl, hb2⟩
     have HB2 := hD hb2
     clear hb2
     have hw2 : Below wr.heap.size wr w2 := HB2.out
     have hn2 : ∀ g, g < wr.heap.size → w2.heap[g]? = wr.heap[g]? := fun g hg => hw2.block g hg
     have H2 := hD (And.intro (HZ.out.2.1.keep (hn2 b hbr)) (And.intro (show Below B w w2 from HZ.out.2.2.1.trans (hw2.mono (by have := HZ.out.2.2.2.1; omega))) (And.intro (show w.heap.size ≤ w2.heap.size by have := HZ.out.2.2.2.1; have := hw2.size; omega) (fun g (hg : g < w.heap.size) (hne : g ≠ b) => (hn2 g (by have := HZ.out.2.2.2.1; omega)).trans (HZ.out.2.2.2.2 g hg hne)))))
     have hb2' : b < w2.heap.size := by have := hw2.size; omega
     have hi2 : i < (dk.map encN).length := by rw [List.length_map, HZ.out.1.len]; omega
     have H3 := hD (And.intro ((show Rw (w2.setCells b (off + i) (encN x)) 3 1 b off cap ((dk.map encN).set i (encN x)) by have := H2.out.1.set hi2 (e := encN x) rfl; rw [Nat.mul_one] at this; exact this)) (And.intro (below_setCells H2.out.2.1 hB (off + i) (encN x)) (And.intro (show w.heap.size ≤ (w2.setCells b (off + i) (encN x)).heap.size by rw [(setCells_keeps b _ _ _).2.2.2]; exact H2.out.2.2.1) (fun g (hg : g < w.heap.size) (hne : g ≠ b) => (setCells_other w2 b (off + i) (encN x) hne).trans (H2.out.2.2.2 g hg hne)))))
     rw [← List.map_set] at H3
     have v0 := (World.cell?_of_block (a := ⟨b, off + i, none⟩) (hn2 b hbr)).trans z0
     have g0 := (World.frozen?_of_block (a := ⟨b, off + i, none⟩) (hn2 b hbr)).trans f0
     simp only [World.setCells, encN, Nat.mul_one] at H3
     go_wp2
     go_roundw
     case rel => exact ⟨i + 1, j + 1, dk.set i x, by go_num, by go_num, by omega, by omega, HK2.out, H3.out.1, H3.out.2.1, H3.out.2.2.1, H3.out.2.2.2⟩
     case measure => simp [intOf]; omega
   ·obtain rfl : j = d.length := by omega
    have hRk := HZ.out.2.1
    have hlk := HZ.out.1.len
    have hbr := hRk.row.lt
    have hcl : ∀ ty, (Builtin.clear_ #[79] ty #[.slice (some ⟨b, off + i, none⟩) (d.length - i) (cap - i)]).run Tryz.prog wr = .ok (.tuple #[]) (wr.setCells b (off + i) (Builtin.zeroCells ((.int .i64 0) : Value).cells (d.length - i)).toList) := fun ty => by
     refine run_clear_cells (P := Tryz.prog) wr 79 3 ty (.int .i64 0) Tryz.underlying79 Tryz.zeroValue3 (by simp [Value.cells, Value.oneCell']) (by decide) b (off + i) (d.length - i) (cap - i) (by omega) (fun q hq => ?_) (fun q => hRk.row.frozen _)
     obtain ⟨u, hu⟩ := hRk.row.any (j := off + i + q) (by have : q < (d.length - i) * 1 := hq; have : d.length ≤ cap := hcap; omega)
     rw [hu]; rfl
    have H2 := hD (behind1 hRk (i := i) (by rw [List.length_map]; omega) (Builtin.zeroCells ((.int .i64 0) : Value).cells (d.length - i)).toList)
    rw [← List.map_take, HZ.out.1.done] at H2
    have HN := hD HZ.out.1.num
    have H3 := hD (And.intro (below_setCells HZ.out.2.2.1 hB (off + i) (Builtin.zeroCells ((.int .i64 0) : Value).cells (d.length - i)).toList) (fun g (hg : g < w.heap.size) (hne : g ≠ b) => (setCells_other wr b (off + i) (Builtin.zeroCells ((.int .i64 0) : Value).cells (d.length - i)).toList hne).trans (HZ.out.2.2.2.2 g hg hne)))
    clear hRk
    go_wp2
    go_ret
    refine ⟨by rw [HN.out]; rfl, H2.out, H3.out.1, H3.out.2⟩
set_option maxHeartbeats 400000 in
theorem indexFuncN_nil (A : Option Addr) (c : Nat) (fv : Value) (w : World) : Calls Tryz.prog 98 #[.slice A 0 c, .func (.func 78) #[] #[fv]] w fun e w' => e = .returned (.int .i64 (-1)) ∧ w' = w := by
 go_enter Tryz.func98, Tryz.ntmps98
 go_wp2
 go_loopw [8] (fun i wr => i = .int .i64 0 ∧ wr = w) (fun i _ => 0)
 case atStart => exact ⟨rfl, rfl⟩
 case round =>
  obtain ⟨rfl, rfl⟩ := hrel
  go_wp2
  go_ret
  exact ⟨rfl, rfl⟩
set_option maxHeartbeats 400000 in
theorem deleteFuncN_nil (A : Option Addr) (c : Nat) (fv : Value) (w : World) : Calls Tryz.prog 77 #[.slice A 0 c, .func (.func 78) #[] #[fv]] w fun e w' => e = .returned (.slice A 0 c) ∧ w' = w := by
 have HI := hD (indexFuncN_nil A c fv)
 go_enter Tryz.func77, Tryz.ntmps77
 go_wp2_with fail
 refine (HI.out _).mono ?_
 rintro e w1 ⟨rfl, rfl⟩
 go_wp2
 go_ret
 exact ⟨rfl, rfl⟩
set_option maxHeartbeats 400000 in
theorem leaveC_any (x c X : Nat) (w : World) (hx : w.cell? ⟨X, 0, none⟩ = some (.int .i64 (c : Int))) (hX : X < w.heap.size) :
  Calls Tryz.prog 78 #[.int .i64 (x : Int), .pointer (some ⟨X, 0, none⟩)] w fun e w' => e = .returned (.bool (x == c)) ∧ Below w.heap.size w w' := by
 by_cases h : x = c
 ·subst h
  have hb : ((x : Int) == (x : Int)) = true := by simp
  have hb2 : (x == x) = true := by simp
  rw [hb2]
  go_enter Tryz.func78, Tryz.ntmps78
  go_wp2
  go_ret
  exact ⟨rfl, Below.refl _ _⟩
 ·have hb : ((x : Int) == (c : Int)) = false := beq_eq_false_iff_ne.2 (by omega)
  have hb2 : (x == c) = false := beq_eq_false_iff_ne.2 h
  rw [hb2]
  go_enter Tryz.func78, Tryz.ntmps78
  go_wp2
  go_ret
  exact ⟨rfl, Below.refl _ _⟩
end Go.Proofs.YtpbaobmegomfpabGreatDoor
namespace Go.Proofs.YtpbaobmegomfpabGreatDoor
open Go.RowKit
section
variable {base P : Nat} {f : Nat → Value} {G : Nat → Option Nat} {mode : Int} {m : Mach PE} {N : Nat}
def DelPost (w : World) (base P c : Nat) (f : Nat → Value) (G : Nat → Option Nat) (mode : Int) (m : Mach PE) (e : Ending) (w' : World) : Prop :=
 ∃ A n q, e = .returned (.slice A n q) ∧ P < w'.heap.size ∧ w'.cell? ⟨P, 40, none⟩ = some (f 40) ∧ w'.frozen? ⟨P, 40, none⟩ = false ∧
  PMem 0 (w'.setCell ⟨P, 40, none⟩ (.slice A n q)) base P (upd f 40 (.slice A n q)) G mode { m with line := m.line.filter (fun k => k != c) } ∧ Below base w w'
theorem delQ_any (w : World) (h : PMem 0 w base P f G mode m) (hl : m.line.length ≤ 6) {X c : Nat} (hX : Free G X) (hXl : X < w.heap.size) (hXc : w.cell? ⟨X, 0, none⟩ = some (.int .i64 (c : Int))) :
  Calls Tryz.prog 77 #[f 40, .func (.func 78) #[] #[.pointer (some ⟨X, 0, none⟩)]] w (DelPost w base P c f G mode m) := by
 have hi8 : ∀ q : Mach PE, items q 8 = q.line.map encN := fun q => by rw [items_line]; rfl
 have hoth : ∀ k, k ≠ 8 → items { m with line := m.line.filter (fun k => k != c) } k = items m k := fun k hk => items_less rfl rfl rfl rfl hk
 have hP := h.row.lt
 have hbP := (h.lo 0 P h.p0).1
 by_cases h0 : m.line = []
 ·obtain ⟨A, q, hf, _⟩ := h.lineSl.shape
  rw [h0] at hf
  simp only [List.length_nil] at hf
  rw [hf]
  refine (deleteFuncN_nil A q (.pointer (some ⟨X, 0, none⟩)) w).mono ?_
  rintro e w' ⟨rfl, rfl⟩
  refine ⟨A, 0, q, rfl, hP, h.row.cell (j := 40) (by omega), h.row.frozen 40, ?_, Below.refl _ _⟩
  have hx := (h.but 8).cellX (by omega) (by omega) (.slice A 0 q)
  refine hx.fill ?_ hoth rfl (fun _ => rfl) (fun _ => rfl)
  have hs := h.sl 8 (by omega) (by omega) (by omega)
  rw [upd_at]
  rw [hi8, h0] at hs ⊢
  have e8 : f (slC 8) = .slice A 0 q := hf
  rw [e8] at hs
  exact hs.ne (h.noP (by omega)) (set_off w' P _ _)
 ·have hn : 0 < m.line.length := List.length_pos_iff.2 h0
  have hs := h.sl 8 (by omega) (by omega) (by omega)
  rw [hi8, List.length_map] at hs
  obtain ⟨b, off, cap, hG, hf, hR⟩ := hs.rw encN_each (by simp) hn
  have hf' : f 40 = .slice (some ⟨b, off, none⟩) m.line.length cap := hf
  have hbb := h.lo 8 b hG
  have hXb : X ≠ b := fun e => hX 8 (by rw [hG, e])
  have hPb : P ≠ b := fun e => h.noP (k := 8) (by omega) (by rw [hG, e])
  rw [hf']
  refine (deleteFuncN (.pointer (some ⟨X, 0, none⟩)) (fun x => x == c) w b off cap base m.line hR (by omega) hbb.1 (fun x _ wc _ hk => ?_)).mono ?_
  ·refine leaveC_any x c X wc ?_ ?_
   ·exact (World.cell?_of_block (hk X hXl hXb)).trans hXc
   ·have := hk X hXl hXb
    rw [Array.getElem?_eq_getElem hXl] at this
    exact (Array.getElem?_eq_some_iff.1 this).1
  ·rintro e w' ⟨rfl, hR', hB, hk⟩
   refine ⟨_, _, _, rfl, Nat.lt_of_lt_of_le hP hB.size, ?_, ?_, ?_, hB⟩
   ·exact (World.cell?_of_block (hk P hP hPb)).trans (h.row.cell (j := 40) (by omega))
   ·exact (World.frozen?_of_block (hk P hP hPb)).trans (h.row.frozen 40)
   ·have hk8 := (h.but 8).keep (by omega) hB.size (fun g hg hne => hk g hg (fun e => hne (by rw [hG, e])))
    have hx := hk8.cellX (by omega) (by omega) (.slice (some ⟨b, off, none⟩) (m.line.filter fun x => !(x == c)).length cap)
    refine hx.fill ?_ hoth rfl (fun _ => rfl) (fun _ => rfl)
    rw [upd_at, hi8, hG]
    have hsl := hR'.sl (by omega)
    rw [List.length_map] at hsl
    have := hsl.ne (P := P) (fun e => hPb (by injection e with e; exact e.symm)) (set_off w' P (slC 8) (.slice (some ⟨b, off, none⟩) (m.line.filter fun x => !(x == c)).length cap))
    rw [List.length_map]
    exact this
theorem leave_none {c : Nat} (hs : (m.get c).srv = none) : ({ ({ m with line := m.line.filter (fun k => k != c) } : Mach PE) with cl := m.cl.set c Cl.new, e := ⟨m.e.w, m.e.kept.set c ([], [])⟩ } : Mach PE) = m.leave poolO c := by
 unfold Mach.leave poolO
 rw [hs]
theorem leave_some {c s : Nat} (hs : (m.get c).srv = some s) {W1 : Wd} (hW : W1 = if (m.e.w.at s).st ≠ 0 then (doR m.e.w s ⟨3, ⟨#[]⟩, ⟨#[]⟩⟩).1 else m.e.w) (m2 : Mach PE) (h2 : m2 = Mach.release poolO { m with e := ⟨W1, m.e.kept⟩ } c s) :
  ({ ({ m2 with line := m2.line.filter (fun k => k != c) } : Mach PE) with cl := m2.cl.set c Cl.new, e := ⟨m2.e.w, m2.e.kept.set c ([], [])⟩ } : Mach PE) = m.leave poolO c := by
 subst h2
 unfold Mach.leave poolO Mach.release PE.free
 simp only [hs, List.set_set]
 subst hW
 rfl
set_option maxHeartbeats 2000000 in
theorem leave_any (w : World) (h : PMem 0 w base P f G mode m) (hT : Tabs w base) (hI : Inv mode m N) {c : Nat} (hc : c < 6) :
  Calls Tryz.prog 50 #[ptr P 0, .int .i64 (c : Int)] w (PPost w base P mode (m.leave poolO c)) := by
 have hP := h.row.lt
 have hbP := (h.lo 0 P h.p0).1
 have n0 := (Below.refl w.heap.size w).alloc (nL _) (.cells #[.int .i64 (c : Int)] 3)
 have x0 := (RowTo.whole w #[.int .i64 (c : Int)] 3).cell (j := 0) (by simp)
 simp only [gTA, gCZ] at x0
 have hcI : (c : Int) < 6 := by omega
 have HFX := hD (show Free G w.heap.size from fun i e => absurd (h.lo i _ e).2 (Nat.lt_irrefl _))
 have HM0 := hD (h.below n0)
 have HB0 := hD (n0.mono (Nat.le_trans hbP (Nat.le_of_lt hP)))
 have HX0 := hD x0
 have HT := hD hT
 have HI := hD hI
 have HZ0 := hD (show (w.alloc (.cells #[.int .i64 (c : Int)] 3)).heap.size = w.heap.size + 1 by simp)
 have hPX : P ≠ w.heap.size := by omega
 clear h n0 hT hI
 unfold ptr
 go_enter Tryz.func50, Tryz.ntmps50
 go_wp2_with fail
 go_quiet (fail)
 have hMd := HM0.out.below (below_drewN (Below.refl _ _) nq)
 have hBd := below_drewN HB0.out nq
 have hXd : ((w.alloc (.cells #[.int .i64 (c : Int)] 3)).drewN nq).cell? ⟨w.heap.size, 0, none⟩ = some (.int .i64 (c : Int)) := by simp
 have hZd : ((w.alloc (.cells #[.int .i64 (c : Int)] 3)).drewN nq).heap.size = w.heap.size + 1 := by simp
 obtain ⟨X, HXX⟩ : ∃ X, Hid (w.heap.size = X) := ⟨_, hD rfl⟩
 obtain ⟨W, HW⟩ : ∃ u, Hid ((w.alloc (.cells #[.int .i64 (c : Int)] 3)).drewN nq = u) := ⟨_, hD rfl⟩
 rw [HW.out] at hMd hBd hXd hZd ⊢
 rw [HXX.out] at hXd hZd HFX ⊢
 clear HW x0 HX0 HM0 HB0 HZ0 hPX
 have HM := hD hMd
 have HB := hD hBd
 have HX := hD hXd
 have hXl : X < W.heap.size := by omega
 clear hMd hBd hXd hZd HXX
 have HST := hD (state_any W HM.out HI.out.ok HI.out.plen hc)
 unfold ptr at HST
 go_wp2_with fail
 refine HST.out.mono ?_
 rintro e w1 ⟨rfl, n1, hw1⟩
 have hMd := HM.out.below (show Below W.heap.size W w1 by rw [hw1]; exact below_drewN (Below.refl _ _) n1)
 have hBd := HB.out.trans (show Below base W w1 by rw [hw1]; exact below_drewN (Below.refl _ _) n1)
 have hXd : w1.cell? ⟨X, 0, none⟩ = some (.int .i64 (c : Int)) := by rw [hw1]; simpa using HX.out
 have hXl1 : X < w1.heap.size := by rw [hw1]; simpa using hXl
 clear hw1 HST HM HB HX hXl
 have HM := hD hMd
 have HB := hD hBd
 have HX := hD hXd
 have hP1 := hMd.row.lt
 have a2 := hMd.row.cell (j := 4 + c * 6 + 2) (by omega)
 have a3 := hMd.row.cell (j := 4 + c * 6 + 3) (by omega)
 rw [hMd.has c hc] at a2
 obtain ⟨q, hq, hqs⟩ := hMd.srv c hc
 rw [hq] at a3
 cases hs : (m.get c).srv with
 | none =>
  have HE := hD (leave_none hs)
  have HNK := hD (And.intro HI.out.ok.n6 HI.out.klen)
  have HL := hD HI.out.line
  rw [hs] at a2
  simp only [Option.isSome] at a2
  have hst : m.e.state none = 0 := rfl
  rw [hst]
  clear hMd hBd hXd hqs hs hq hst a3
  have q0 := HM.out.row.cell (j := 40) (by omega)
  obtain ⟨A4, c4, hf4, hc4⟩ := HM.out.lineSl.shape
  have HD := hD (delQ_any w1 HM.out HL.out HFX.out hXl1 HX.out)
  rw [hf4] at q0 HD
  have HF4 := hD hf4
  clear hf4 hc4
  generalize m.line.length = nl at *
  go_wp2_with fail
  refine HD.out.mono ?_
  rintro e w5 ⟨A5, n5, q5, rfl, hP5, hc5, hz5, hM5, hB5⟩
  rw [HF4.out] at hc5
  have r0 := hM5.row
  have k0 := r0.cell (j := 4 + c * 6) (by omega)
  have z0 := r0.frozen (4 + c * 6)
  have r1 := r0.set (4 + c * 6) (.string ⟨#[]⟩)
  have k1 := r1.cell (j := 4 + c * 6 + 1) (by omega)
  have z1 := r1.frozen (4 + c * 6 + 1)
  have r2 := r1.set (4 + c * 6 + 1) (.slice none 0 0)
  have k2 := r2.cell (j := 4 + c * 6 + 2) (by omega)
  have z2 := r2.frozen (4 + c * 6 + 2)
  have r3 := r2.set (4 + c * 6 + 2) (.bool false)
  have k3 := r3.cell (j := 4 + c * 6 + 3) (by omega)
  have z3 := r3.frozen (4 + c * 6 + 3)
  have r4 := r3.set (4 + c * 6 + 3) (.int .i64 0)
  have k4 := r4.cell (j := 4 + c * 6 + 4) (by omega)
  have z4 := r4.frozen (4 + c * 6 + 4)
  have r5 := r4.set (4 + c * 6 + 4) (.slice none 0 0)
  have k5 := r5.cell (j := 4 + c * 6 + 5) (by omega)
  have z5 := r5.frozen (4 + c * 6 + 5)
  have hM6 := hM5.clear hc HNK.out.1 HNK.out.2
  unfold set6 at hM6
  have hB6 := ((((((((HB.out.trans hB5).setCell (p := ⟨P, 40, none⟩) hbP (.slice A5 n5 q5)).setCell (p := ⟨P, 4 + c * 6, none⟩) hbP (.string ⟨#[]⟩)).setCell (p := ⟨P, 4 + c * 6 + 1, none⟩) hbP (.slice none 0 0)).setCell (p := ⟨P, 4 + c * 6 + 2, none⟩) hbP (.bool false)).setCell (p := ⟨P, 4 + c * 6 + 3, none⟩) hbP (.int .i64 0)).setCell (p := ⟨P, 4 + c * 6 + 4, none⟩) hbP (.slice none 0 0)).setCell (p := ⟨P, 4 + c * 6 + 5, none⟩) hbP (.slice none 0 0))
  have e6 : ({ ({ m with line := m.line.filter (fun k => k != c) } : Mach PE) with cl := m.cl.set c Cl.new, e := ⟨m.e.w, m.e.kept.set c ([], [])⟩ } : Mach PE) = m.leave poolO c := HE.out
  have HF6 := hD (And.intro hM6 hB6)
  clear hM5 hB5 hM6 hB6 r0 r1 r2 r3 r4 r5 HD q0
  go_wp2
  go_end0
  rw [← e6]
  exact ⟨_, _, rfl, HF6.out.1, HF6.out.2⟩
 | some s =>
  obtain rfl := hqs s hs
  have hok := HI.out.w
  have hlt := HI.out.srvlt hs
  rw [hs] at a2
  simp only [Option.isSome] at a2
  have hst : m.e.state (some s) = (m.e.w.at s).st := rfl
  rw [hst]
  by_cases h0 : (m.e.w.at s).st = 0
  ·have hRl := release_keeps w1 hMd HI.out.ok HI.out.plen HI.out.klen hc hs
   have hE := leave_some hs (W1 := m.e.w) (by rw [if_neg (by simp [h0])]) _ rfl
   have hn6 : (m.release poolO c s).cl.length = 6 := by show (m.cl.set c _).length = 6; rw [List.length_set]; exact HI.out.ok.n6
   have hk6 : (m.release poolO c s).e.kept.length = 6 := by show (m.e.kept.set c _).length = 6; rw [List.length_set]; exact HI.out.klen
   have hL6 : (m.release poolO c s).line.length ≤ 6 := HI.out.line
   have hem : ({ m with e := ⟨m.e.w, m.e.kept⟩ } : Mach PE) = m := rfl
   rw [hem] at hE
   obtain ⟨m2, HM2⟩ : ∃ u, Hid (m.release poolO c s = u) := ⟨_, hD rfl⟩
   rw [HM2.out] at hRl hE hn6 hk6 hL6
   have HE := hD hE
   have HRL := hD hRl
   have HNK := hD (And.intro hn6 hk6)
   have HL := hD hL6
   rw [h0]
   unfold ptr at HRL
   clear hMd hBd hXd hqs hs hq hst a3 hRl hE hn6 hk6 hL6 hok hlt hem h0
   go_wp2_with fail
   refine HRL.out.mono ?_
   rintro e w2 ⟨f2, rfl, hM2, hB2, hK2⟩
   have hX2 := (World.cell?_of_block (a := ⟨X, 0, none⟩) (hK2.2 X hXl1 HFX.out)).trans HX.out
   have hXl2 : X < w2.heap.size := Nat.lt_of_lt_of_le hXl1 hK2.1
   have hBB := HB.out.trans hB2
   clear HM HB HX HRL hK2 hB2 a2 hP1
   have HM := hD hM2
   have HB := hD hBB
   have HX := hD hX2
   have hP1 := hM2.row.lt
   clear hM2 hBB hX2
   have q0 := HM.out.row.cell (j := 40) (by omega)
   obtain ⟨A4, c4, hf4, hc4⟩ := HM.out.lineSl.shape
   have HD := hD (delQ_any w2 HM.out HL.out HFX.out hXl2 HX.out)
   rw [hf4] at q0 HD
   have HF4 := hD hf4
   clear hf4 hc4
   generalize m2.line.length = nl at *
   go_wp2_with fail
   refine HD.out.mono ?_
   rintro e w5 ⟨A5, n5, q5, rfl, hP5, hc5, hz5, hM5, hB5⟩
   rw [HF4.out] at hc5
   have r0 := hM5.row
   have k0 := r0.cell (j := 4 + c * 6) (by omega)
   have z0 := r0.frozen (4 + c * 6)
   have r1 := r0.set (4 + c * 6) (.string ⟨#[]⟩)
   have k1 := r1.cell (j := 4 + c * 6 + 1) (by omega)
   have z1 := r1.frozen (4 + c * 6 + 1)
   have r2 := r1.set (4 + c * 6 + 1) (.slice none 0 0)
   have k2 := r2.cell (j := 4 + c * 6 + 2) (by omega)
   have z2 := r2.frozen (4 + c * 6 + 2)
   have r3 := r2.set (4 + c * 6 + 2) (.bool false)
   have k3 := r3.cell (j := 4 + c * 6 + 3) (by omega)
   have z3 := r3.frozen (4 + c * 6 + 3)
   have r4 := r3.set (4 + c * 6 + 3) (.int .i64 0)
   have k4 := r4.cell (j := 4 + c * 6 + 4) (by omega)
   have z4 := r4.frozen (4 + c * 6 + 4)
   have r5 := r4.set (4 + c * 6 + 4) (.slice none 0 0)
   have k5 := r5.cell (j := 4 + c * 6 + 5) (by omega)
   have z5 := r5.frozen (4 + c * 6 + 5)
   have hM6 := hM5.clear hc HNK.out.1 HNK.out.2
   unfold set6 at hM6
   have hB6 := ((((((((HB.out.trans hB5).setCell (p := ⟨P, 40, none⟩) hbP (.slice A5 n5 q5)).setCell (p := ⟨P, 4 + c * 6, none⟩) hbP (.string ⟨#[]⟩)).setCell (p := ⟨P, 4 + c * 6 + 1, none⟩) hbP (.slice none 0 0)).setCell (p := ⟨P, 4 + c * 6 + 2, none⟩) hbP (.bool false)).setCell (p := ⟨P, 4 + c * 6 + 3, none⟩) hbP (.int .i64 0)).setCell (p := ⟨P, 4 + c * 6 + 4, none⟩) hbP (.slice none 0 0)).setCell (p := ⟨P, 4 + c * 6 + 5, none⟩) hbP (.slice none 0 0))
   have e6 : ({ ({ m2 with line := m2.line.filter (fun k => k != c) } : Mach PE) with cl := m2.cl.set c Cl.new, e := ⟨m2.e.w, m2.e.kept.set c ([], [])⟩ } : Mach PE) = m.leave poolO c := HE.out
   have HF6 := hD (And.intro hM6 hB6)
   clear hM5 hB5 hM6 hB6 r0 r1 r2 r3 r4 r5 HD q0
   go_wp2
   go_end0
   rw [← e6]
   exact ⟨_, _, rfl, HF6.out.1, HF6.out.2⟩
  ·have hr3 : Req.ok ⟨3, ⟨#[]⟩, ⟨#[]⟩⟩ := small_ok (n := 3) (by omega) (by omega)
   have hDo := doP_any w1 hMd (HT.out.below hBd) hok s hlt ⟨3, ⟨#[]⟩, ⟨#[]⟩⟩ hr3
   have hd := doR_ok hok hlt hr3
   have hE := leave_some hs (W1 := (doR m.e.w s ⟨3, ⟨#[]⟩, ⟨#[]⟩⟩).1) (by rw [if_pos h0]) _ rfl
   obtain ⟨R, HR⟩ : ∃ u, Hid (doR m.e.w s ⟨3, ⟨#[]⟩, ⟨#[]⟩⟩ = u) := ⟨_, hD rfl⟩
   rw [HR.out] at hDo hd hE
   have hok1 : MOk mode ({ m with e := ⟨R.1, m.e.kept⟩ } : Mach PE) := HI.out.ok.same rfl rfl rfl HI.out.ok.s6
   have hpl1 : R.1.ss.length = m.busy.length := hd.2.trans HI.out.plen
   have HRL := hD (fun w2 f2 (hM : PMem 0 w2 base P f2 G mode { m with e := ⟨R.1, m.e.kept⟩ }) => release_keeps w2 hM hok1 hpl1 HI.out.klen hc (s := s) hs)
   have hn6 : (Mach.release poolO ({ m with e := ⟨R.1, m.e.kept⟩ } : Mach PE) c s).cl.length = 6 := by show (m.cl.set c _).length = 6; rw [List.length_set]; exact HI.out.ok.n6
   have hk6 : (Mach.release poolO ({ m with e := ⟨R.1, m.e.kept⟩ } : Mach PE) c s).e.kept.length = 6 := by show (m.e.kept.set c _).length = 6; rw [List.length_set]; exact HI.out.klen
   have hL6 : (Mach.release poolO ({ m with e := ⟨R.1, m.e.kept⟩ } : Mach PE) c s).line.length ≤ 6 := HI.out.line
   have hhs : ∀ c, c < 6 → (Mach.get ({ m with e := ⟨R.1, m.e.kept⟩ } : Mach PE) c).srv = (m.get c).srv := fun _ _ => rfl
   obtain ⟨m2, HM2⟩ : ∃ u, Hid (Mach.release poolO ({ m with e := ⟨R.1, m.e.kept⟩ } : Mach PE) c s = u) := ⟨_, hD rfl⟩
   rw [HM2.out] at HRL hE hn6 hk6 hL6
   have HE := hD hE
   have HNK := hD (And.intro hn6 hk6)
   have HL := hD hL6
   have HDO := hD hDo
   have HS := hD hs
   have hne : (((m.e.w.at s).st) != (0 : Int)) = true := bne_iff_ne.2 h0
   generalize (m.e.w.at s).st = st at *
   unfold ptr at HRL HDO
   clear hMd hBd hXd hqs hs hq hst hE hn6 hk6 hL6 hok hlt h0 hDo hd hok1 hpl1 hhs
   go_wp2_with fail
   refine HDO.out.mono ?_
   rintro e wd ⟨fd, rfl, hMd, hBd, hKd⟩
   have hXd := (World.cell?_of_block (a := ⟨X, 0, none⟩) (hKd.2 X hXl1 (fun e => HFX.out 0 (by rw [hMd.p0, e])))).trans HX.out
   have hXld : X < wd.heap.size := Nat.lt_of_lt_of_le hXl1 hKd.1
   have hBB := HB.out.trans hBd
   have hsd := hMd.has c hc
   have hRd := HRL.out wd fd hMd
   have ad2 := hMd.row.cell (j := 4 + c * 6 + 2) (by omega)
   have hPd := hMd.row.lt
   have hsd2 : (Mach.get ({ m with e := ⟨R.1, m.e.kept⟩ } : Mach PE) c).srv = some s := HS.out
   rw [hsd, hsd2] at ad2
   simp only [Option.isSome] at ad2
   clear HM HB HX HRL HDO hKd hBd a2 a3 hP1 hsd hsd2 hMd
   have HB := hD hBB
   have HX := hD hXd
   have HRD := hD hRd
   clear hBB hXd hRd
   go_wp2_with fail
   refine HRD.out.mono ?_
   rintro e w2 ⟨f2, rfl, hM2, hB2, hK2⟩
   have hX2 := (World.cell?_of_block (a := ⟨X, 0, none⟩) (hK2.2 X hXld HFX.out)).trans HX.out
   have hXl2 : X < w2.heap.size := Nat.lt_of_lt_of_le hXld hK2.1
   have hBB := HB.out.trans hB2
   clear HB HX HRD hK2 hB2 ad2 hPd
   have HM := hD hM2
   have HB := hD hBB
   have HX := hD hX2
   have hP1 := hM2.row.lt
   clear hM2 hBB hX2
   have q0 := HM.out.row.cell (j := 40) (by omega)
   obtain ⟨A4, c4, hf4, hc4⟩ := HM.out.lineSl.shape
   have HD := hD (delQ_any w2 HM.out HL.out HFX.out hXl2 HX.out)
   rw [hf4] at q0 HD
   have HF4 := hD hf4
   clear hf4 hc4
   generalize m2.line.length = nl at *
   go_wp2_with fail
   refine HD.out.mono ?_
   rintro e w5 ⟨A5, n5, q5, rfl, hP5, hc5, hz5, hM5, hB5⟩
   rw [HF4.out] at hc5
   have r0 := hM5.row
   have k0 := r0.cell (j := 4 + c * 6) (by omega)
   have z0 := r0.frozen (4 + c * 6)
   have r1 := r0.set (4 + c * 6) (.string ⟨#[]⟩)
   have k1 := r1.cell (j := 4 + c * 6 + 1) (by omega)
   have z1 := r1.frozen (4 + c * 6 + 1)
   have r2 := r1.set (4 + c * 6 + 1) (.slice none 0 0)
   have k2 := r2.cell (j := 4 + c * 6 + 2) (by omega)
   have z2 := r2.frozen (4 + c * 6 + 2)
   have r3 := r2.set (4 + c * 6 + 2) (.bool false)
   have k3 := r3.cell (j := 4 + c * 6 + 3) (by omega)
   have z3 := r3.frozen (4 + c * 6 + 3)
   have r4 := r3.set (4 + c * 6 + 3) (.int .i64 0)
   have k4 := r4.cell (j := 4 + c * 6 + 4) (by omega)
   have z4 := r4.frozen (4 + c * 6 + 4)
   have r5 := r4.set (4 + c * 6 + 4) (.slice none 0 0)
   have k5 := r5.cell (j := 4 + c * 6 + 5) (by omega)
   have z5 := r5.frozen (4 + c * 6 + 5)
   have hM6 := hM5.clear hc HNK.out.1 HNK.out.2
   unfold set6 at hM6
   have hB6 := ((((((((HB.out.trans hB5).setCell (p := ⟨P, 40, none⟩) hbP (.slice A5 n5 q5)).setCell (p := ⟨P, 4 + c * 6, none⟩) hbP (.string ⟨#[]⟩)).setCell (p := ⟨P, 4 + c * 6 + 1, none⟩) hbP (.slice none 0 0)).setCell (p := ⟨P, 4 + c * 6 + 2, none⟩) hbP (.bool false)).setCell (p := ⟨P, 4 + c * 6 + 3, none⟩) hbP (.int .i64 0)).setCell (p := ⟨P, 4 + c * 6 + 4, none⟩) hbP (.slice none 0 0)).setCell (p := ⟨P, 4 + c * 6 + 5, none⟩) hbP (.slice none 0 0))
   have e6 : ({ ({ m2 with line := m2.line.filter (fun k => k != c) } : Mach PE) with cl := m2.cl.set c Cl.new, e := ⟨m2.e.w, m2.e.kept.set c ([], [])⟩ } : Mach PE) = m.leave poolO c := HE.out
   have HF6 := hD (And.intro hM6 hB6)
   clear hM5 hB5 hM6 hB6 r0 r1 r2 r3 r4 r5 HD q0
   go_wp2
   go_end0
   rw [← e6]
   exact ⟨_, _, rfl, HF6.out.1, HF6.out.2⟩
end
end Go.Proofs.YtpbaobmegomfpabGreatDoor
namespace Go.Proofs.YtpbaobmegomfpabGreatDoor
open Go.RowKit
set_option maxHeartbeats 1000000 in
theorem request_any (k : UInt8) (t : ByteArray) (w : World) (hW : Words w) :
  Calls Tryz.prog 73 #[.int .u8 k.toNat, .string t] w fun e w' => e = .returned (.agg #[.int .i64 (reqOf k t).k, .string (reqOf k t).key, .string (reqOf k t).val]) ∧ Below w.heap.size w w' := by
 have HW := hD hW
 have n0 := (Below.refl w.heap.size w).alloc (nL _) (.cells #[.int .i64 0, .string ⟨#[]⟩, .string ⟨#[]⟩] 41)
 have HN := hD n0
 have X0 := RowTo.whole w #[.int .i64 0, .string ⟨#[]⟩, .string ⟨#[]⟩] 41
 obtain ⟨x0, x1, x2⟩ := cells3 X0
 clear n0 hW
 by_cases hk : k = 81
 case neg =>
  have hki : ((k.toNat : Int) != 81) = true := bne_iff_ne.2 (fun h => hk (UInt8.toNat_inj.1 (by show k.toNat = 81; omega)))
  have HE := hD (show reqOf k t = Req.none_ by unfold reqOf; rw [if_neg (fun h => hk h.1)])
  clear X0
  go_enter Tryz.func73, Tryz.ntmps73
  go_wp2
  refine bodyPost_ret (v := .agg #[.int .i64 0, .string ⟨#[]⟩, .string ⟨#[]⟩]) (by simp [results, Tryz.results73, go_sem, x0, x1, x2]) rfl ⟨by rw [HE.out]; rfl, HN.out⟩
 obtain ⟨q, HQ⟩ : ∃ q, Hid (reqOf k t = q) := ⟨_, hD rfl⟩
 have HRD : Hid (∀ wc : World, Words wc → Calls Tryz.prog 96 #[.string t] wc fun e w' => ∃ er, e = .returned (.tuple #[.agg #[.int .i64 q.k, .string q.key, .string q.val], .int .i64 er]) ∧ Below wc.heap.size wc w') := hD fun wc hw => by
  rw [← HQ.out]
  by_cases hr : readE t = 0
  ·refine (read_ok t wc hw hr).mono ?_
   rintro e w' ⟨rfl, hb⟩
   unfold reqOf
   rw [if_pos ⟨hk, hr⟩]
   exact ⟨_, rfl, hb⟩
  ·refine (read_no t wc hw hr).mono ?_
   rintro e w' ⟨rfl, hb⟩
   unfold reqOf
   rw [if_neg (fun h => hr h.2)]
   exact ⟨_, rfl, hb⟩
 rw [HQ.out]
 subst hk
 have hki : (((81 : UInt8).toNat : Int) != 81) = false := by decide
 clear HQ x0 x1 x2
 have HX0 := hD X0
 clear X0
 go_enter Tryz.func73, Tryz.ntmps73
 go_wp2_with fail
 refine (HRD.out _ (HW.out.below HN.out)).mono ?_
 rintro e w1 ⟨er, rfl, hb1⟩
 have X1 := (HX0.out.below hb1 HX0.out.lt).alloc (.cells #[.int .i64 q.k, .string q.key, .string q.val] 41)
 have hz := hb1.size
 simp only [World.size_alloc] at hz
 obtain ⟨x0, x1, x2⟩ := cells3 X1
 have f0 := X1.frozen 0
 have f1 := X1.frozen 1
 have f2 := X1.frozen 2
 have HB := hD (bel_set3 ((bel_add' HN.out hb1 HN.out.size).alloc (by omega) (.cells #[.int .i64 q.k, .string q.key, .string q.val] 41)) (nL w.heap.size) (.int .i64 q.k) (.string q.key) (.string q.val))
 have X2 := X1.set3 (.int .i64 q.k) (.string q.key) (.string q.val)
 obtain ⟨y0, y1, y2⟩ := cells3 X2
 clear X1 X2 hb1 HX0
 go_wp2
 refine bodyPost_ret (v := .agg #[.int .i64 q.k, .string q.key, .string q.val]) (by simp [results, Tryz.results73, go_sem, x0, x1, x2, y0, y1, y2]) rfl ⟨rfl, HB.out⟩
end Go.Proofs.YtpbaobmegomfpabGreatDoor
namespace Go.Proofs.YtpbaobmegomfpabGreatDoor
open Go.RowKit
theorem stmt_row : (Tryz.prog.info? 41).map (fun i => (i.zero, i.size, i.bytes)) = some (some (.agg #[.int .i64 0, .string ⟨#[]⟩, .string ⟨#[]⟩]), 3, 40) := by kernel_rfl
theorem exec_stmts {ev : Operand → Value} {o : Oper} {x : Operand} {k : Int} {key val : ByteArray} (ho : o.op = .buildSlice 63 1 #[(0, x)]) (hx : ev x = .agg #[.int .i64 k, .string key, .string val]) (w : World) :
  (execOp ev o).run Tryz.prog w = .ok (.value (.slice (some ⟨w.heap.size, 0, none⟩) 1 1)) (w.alloc (.cells #[.int .i64 k, .string key, .string val] 41)) := by
 unfold execOp
 simp only [ho, Sem.run_bind, Sem.run_pure, List.map_toArray, List.map_cons, List.map_nil, hx]
 go_simp
def pullV (s : ByteArray) : Value := match pull s with
 | none => .tuple #[.int .u8 0, .string ⟨#[]⟩, .int .i64 0]
 | some (k, t, j) => .tuple #[.int .u8 k.toNat, .string t, .int .i64 (j : Int)]
theorem unpack_any (s : ByteArray) (w : World) (hs : s.size ≤ maxLen) : Calls Tryz.prog 37 #[.string s] w fun e w' => e = .returned (pullV s) ∧ Below w.heap.size w w' := by
 unfold pullV pull
 by_cases h2 : 2 ≤ s.size
 ·rw [dif_pos h2]
  by_cases h : 2 + s[1].toNat ≤ s.size
  ·rw [if_pos h]
   refine (unpack_ok s w hs h2 h).mono ?_
   rintro e w' ⟨rfl, hb⟩
   exact ⟨rfl, hb⟩
  ·rw [if_neg h]
   refine (unpack_cut s w hs h2 (by omega)).mono ?_
   rintro e w' ⟨rfl, rfl⟩
   exact ⟨rfl, Below.refl _ _⟩
 ·rw [dif_neg h2]
  refine (unpack_two s w (by omega)).mono ?_
  rintro e w' ⟨rfl, rfl⟩
  exact ⟨rfl, Below.refl _ _⟩
section
variable {base P : Nat} {f : Nat → Value} {G : Nat → Option Nat} {mode : Int} {m : Mach PE} {N : Nat}
theorem PMem.waited {w : World} (h : PMem 0 w base P f G mode m) (hcl : m.cl.length = 6) {c : Nat} (hc : c < 6) (hl : (m.get c).wait.length ≤ 300000) {ad : Nat} (r : Req) (hx : ∀ j u, (reqV r)[j]? = some u → w.cell? ⟨ad, j, none⟩ = some u) :
  ∃ b off cap n w', (Builtin.append_ #[63, 63] 63 #[f (4 + c * 6 + 1), .slice (some ⟨ad, 0, none⟩) 1 1]).run Tryz.prog w = .ok (.slice (some ⟨b, off, none⟩) n cap) w' ∧ w'.cell? ⟨P, 4 + c * 6 + 1, none⟩ = some (f (4 + c * 6 + 1)) ∧ w'.frozen? ⟨P, 4 + c * 6 + 1, none⟩ = false ∧ P < w'.heap.size ∧
   PMem 0 (w'.setCell ⟨P, 4 + c * 6 + 1, none⟩ (.slice (some ⟨b, off, none⟩) n cap)) base P (upd f (4 + c * 6 + 1) (.slice (some ⟨b, off, none⟩) n cap)) (upd G (2 + c) (some b)) mode (m.set c { m.get c with wait := (m.get c).wait ++ [r] }) ∧ Below base w (w'.setCell ⟨P, 4 + c * 6 + 1, none⟩ (.slice (some ⟨b, off, none⟩) n cap)) := by
 have hc' : c < m.cl.length := by omega
 have e1 : slC (2 + c) = 4 + c * 6 + 1 := by unfold slC; rw [if_neg (by omega), if_pos (by omega)]; omega
 have e2 : slT (2 + c) = 41 := by unfold slT; rw [if_neg (by omega), if_pos (by omega)]
 have e3 : slZ (2 + c) = 3 := by unfold slZ; rw [if_neg (by omega), if_pos (by omega)]
 obtain ⟨i0, hi, hz0, hz1, hz2⟩ := info_parts stmt_row
 have hbP := (h.lo 0 P h.p0).1
 have hbase : base ≤ w.heap.size := Nat.le_trans hbP (Nat.le_of_lt h.row.lt)
 obtain ⟨b, off, cap, w', hrun, hs, hg, hb⟩ := (h.waitSl hc).append (P := Tryz.prog) 63 63 i0 _ 40 Tryz.underlying63 hi hz0 hz1 hz2 rfl (by omega) ⟨ad, 0, none⟩ 1 (reqV r) rfl (fun j u hu => by rw [Addr.add_lit, Nat.zero_add]; exact hx j u hu) (fun u hu => by
  simp only [reqV, List.mem_cons, List.not_mem_nil, or_false] at hu
  rcases hu with rfl | rfl | rfl <;> rfl) (by unfold maxLen; omega) (by omega)
 have hne : some P ≠ G (2 + c) := fun e => h.noP (k := 2 + c) (by omega) e.symm
 have hP' := hg.block P h.row.lt hne
 have hgc : ((m.set c { m.get c with wait := (m.get c).wait ++ [r] }).get c).wait = (m.get c).wait ++ [r] := by rw [get_set hc', if_pos rfl]
 have hgr := h.grow' (k := 2 + c) (m' := m.set c { m.get c with wait := (m.get c).wait ++ [r] }) (n' := (m.get c).wait.length + 1) (v := .slice (some ⟨b, off, none⟩) ((m.get c).wait.length + 1) cap) (b := b) (by omega) (by omega) hbase hg (by rw [e2, e3]; exact hs) hb (by rw [items_wait _ hc, hgc]; simp) (by rw [items_wait _ hc, hgc, List.map_append, List.flatten_append]; simp) (fun k h1 _ hk => items_wset hc' h1 hk) rfl (fun d => ?_) (fun d => ?_)
 ·rw [e1] at hgr
  exact ⟨b, off, cap, _, w', hrun, (World.cell?_of_block (a := ⟨P, 4 + c * 6 + 1, none⟩) hP').trans (h.row.cell (j := 4 + c * 6 + 1) (by omega)), (World.frozen?_of_block (a := ⟨P, 4 + c * 6 + 1, none⟩) hP').trans (h.row.frozen _), Nat.lt_of_lt_of_le h.row.lt hg.size, hgr, ((Below.refl base w).grown hg hbase (fun x hx => (h.lo _ _ hx).1)).setCell hbP _⟩
 ·rw [get_set hc']; split
  ·rename_i e; rw [e]
  ·rfl
 ·rw [get_set hc']; split
  ·rename_i e; rw [e]
  ·rfl
theorem set_both {c : Nat} (hc : c < m.cl.length) (b : ByteArray) (r : Req) : (m.set c { m.get c with bytes := b }).set c { (m.set c { m.get c with bytes := b }).get c with wait := ((m.set c { m.get c with bytes := b }).get c).wait ++ [r] } = m.set c { m.get c with bytes := b, wait := (m.get c).wait ++ [r] } := by
 rw [get_set hc, if_pos rfl]
 unfold Mach.set
 simp
theorem feed_none {c n : Nat} (hp : pull (m.get c).bytes = none) : m.feed poolO mode (n + 1) c = m := by rw [Mach.feed, hp]
theorem feed_bye {c n : Nat} {t : ByteArray} {j : Nat} (hp : pull (m.get c).bytes = some (88, t, j)) : m.feed poolO mode (n + 1) c = (m.all poolO mode).leave poolO c := by
 rw [Mach.feed, hp]
 simp only
 rw [if_pos trivial]
theorem feed_req {c n : Nat} {k : UInt8} {t : ByteArray} {j : Nat} (hp : pull (m.get c).bytes = some (k, t, j)) (hk : k ≠ 88) : m.feed poolO mode (n + 1) c = (m.set c { m.get c with bytes := (m.get c).bytes.extract j (m.get c).bytes.size, wait := (m.get c).wait ++ [reqOf k t] }).feed poolO mode n c := by
 rw [Mach.feed, hp]
 simp only
 rw [if_neg hk]
def DlvRel (w : World) (base P c N : Nat) (mode : Int) (q : Mach PE) (gg : Nat) (wr : World) : Prop :=
 ∃ m1 f1 G1 n, (m1.get c).bytes.size ≤ gg ∧ (m1.get c).bytes.size < n ∧ m1.feed poolO mode n c = q ∧ PMem 0 wr base P f1 G1 mode m1 ∧ Inv mode m1 N ∧ m1.busy.length ≤ 8 ∧ Below base w wr
set_option maxHeartbeats 2000000 in
theorem deliver_any (w : World) (h : PMem 0 w base P f G mode m) (hT : Tabs w base) (hI : Inv mode m N) {c : Nat} (hc : c < 6) (data : ByteArray) (hN : N + data.size ≤ 300000) (hbl : m.busy.length ≤ 8) :
  Calls Tryz.prog 49 #[ptr P 0, .int .i64 (c : Int), .string data] w (PPost w base P mode (m.deliver poolO mode c data)) := by
 have hP := h.row.lt
 have hbP := (h.lo 0 P h.p0).1
 have hcI : (c : Int) < 6 := by omega
 have hwN := hI.waits (N := N) (by omega) c
 have b0 := h.row.cell (j := 4 + c * 6) (by omega)
 rw [h.bytes c hc] at b0
 have z0 := h.row.frozen (4 + c * 6)
 have hM1 := h.setBytes hc hI.ok.n6 ((m.get c).bytes ++ data)
 have hB1 := (Below.refl base w).setCell (p := ⟨P, 4 + c * 6, none⟩) hbP (.string ((m.get c).bytes ++ data))
 have hI1 := hI.bytes hc data
 have hsum : ¬ (9223372036854775807 < (m.get c).bytes.size + data.size) := by omega
 have hgb : ((m.set c { m.get c with bytes := (m.get c).bytes ++ data }).get c).bytes = (m.get c).bytes ++ data := by rw [get_set (by rw [hI.ok.n6]; exact hc), if_pos rfl]
 have H1 : Hid (DlvRel w base P c (N + data.size) mode (m.deliver poolO mode c data) ((m.get c).bytes.size + data.size) (w.setCell ⟨P, 4 + c * 6, none⟩ (.string ((m.get c).bytes ++ data)))) := hD ⟨_, _, _, (m.get c).bytes.size + data.size + 1, by rw [hgb, ByteArray.size_append]; exact nL _, by rw [hgb, ByteArray.size_append]; exact Nat.lt_succ_self _, rfl, hM1, hI1, hbl, hB1⟩
 have HT := hD hT
 obtain ⟨q, HQ⟩ : ∃ q, Hid (m.deliver poolO mode c data = q) := ⟨_, hD rfl⟩
 rw [HQ.out] at H1 ⊢
 obtain ⟨gs, HGS⟩ : ∃ q, Hid ((m.get c).bytes.size + data.size = q) := ⟨_, hD rfl⟩
 rw [HGS.out] at H1
 generalize (m.get c).bytes = bs at *
 clear h hT hI hM1 hB1 hI1 hgb HQ hwN hbl HGS
 unfold ptr
 go_enter Tryz.func49, Tryz.ntmps49
 go_wp2_with fail
 go_loopg [24] gs (fun gg _ wr => Hid (DlvRel w base P c (N + data.size) mode q gg wr))
 case atStart => exact H1.out
 case round =>
  obtain ⟨m1, f1, G1, n, hgg, hn, hfd, hM, hI, hb8, hB⟩ := hrel.out
  clear hrel H1 b0 z0 hsum hP
  have hP := hM.row.lt
  have hwN := hI.waits hN c
  have b0 := hM.row.cell (j := 4 + c * 6) (by omega)
  rw [hM.bytes c hc] at b0
  have z0 := hM.row.frozen (4 + c * 6)
  obtain ⟨n, rfl⟩ : ∃ k, n = k + 1 := ⟨n - 1, by omega⟩
  have HU := hD (fun wc => unpack_any (m1.get c).bytes wc (by unfold maxLen; omega))
  have HM := hD hM
  have HI := hD hI
  have HB := hD hB
  have HT1 := hD (HT.out.below hB)
  have hbase : base ≤ wr.heap.size := Nat.le_trans hbP (Nat.le_of_lt hP)
  cases hp : pull (m1.get c).bytes with
  | none =>
   have HE := hD ((feed_none (n := n) (mode := mode) hp).symm.trans hfd)
   have hV : pullV (m1.get c).bytes = .tuple #[.int .u8 0, .string ⟨#[]⟩, .int .i64 0] := by unfold pullV; rw [hp]
   rw [hV] at HU
   generalize (m1.get c).bytes = bs1 at *
   clear hM hI hB hfd hp hV hgg hn
   go_wp2_with fail
   refine (HU.out _).mono ?_
   rintro e w1 ⟨rfl, hb1⟩
   have HF := hD (And.intro (HM.out.below hb1) (HB.out.trans (hb1.mono hbase)))
   clear hb1 HU b0 z0
   go_wp2
   go_end0
   rw [← HE.out]
   exact ⟨_, _, rfl, HF.out.1, HF.out.2⟩
  | some pr =>
   obtain ⟨k, t, j⟩ := pr
   have hj := pull_j hp
   have hV : pullV (m1.get c).bytes = .tuple #[.int .u8 k.toNat, .string t, .int .i64 (j : Int)] := by unfold pullV; rw [hp]
   rw [hV] at HU
   have hj0 : ((j : Int) == 0) = false := beq_eq_false_iff_ne.2 (by omega)
   by_cases hk : k = 88
   ·subst hk
    have HE := hD ((feed_bye (n := n) (mode := mode) hp).symm.trans hfd)
    generalize (m1.get c).bytes = bs1 at *
    clear hM hI hB hfd hp hV hgg hn hwN hj
    have hk8 : (((88 : UInt8).toNat : Int) == 88) = true := by decide
    go_wp2_with fail
    refine (HU.out _).mono ?_
    rintro e w1 ⟨rfl, hb1⟩
    have HF := hD (And.intro (HM.out.below hb1) (And.intro (HB.out.trans (hb1.mono hbase)) (HT1.out.below (hb1.mono hbase))))
    clear hb1 HU b0 z0
    have HA := hD (all_any w1 HF.out.1 HF.out.2.2 HI.out hN hb8)
    unfold ptr at HA
    go_wp2_with fail
    refine HA.out.mono ?_
    rintro e w2 ⟨f2, G2, rfl, hM2, hB2⟩
    have HL := hD (leave_any w2 hM2 (HF.out.2.2.below hB2) HI.out.all hc)
    have HB2 := hD (HF.out.2.1.trans hB2)
    unfold ptr at HL
    clear hM2 hB2 HA
    go_wp2_with fail
    refine HL.out.mono ?_
    rintro e w3 ⟨f3, G3, rfl, hM3, hB3⟩
    have HF3 := hD (And.intro hM3 (HB2.out.trans hB3))
    clear hM3 hB3 HL
    go_wp2
    go_end0
    rw [← HE.out]
    exact ⟨_, _, rfl, HF3.out.1, HF3.out.2⟩
   ·have hk8 : ((k.toNat : Int) == 88) = false := beq_eq_false_iff_ne.2 (fun e => hk (UInt8.toNat_inj.1 (by show k.toNat = 88; omega)))
    have hc1 : c < m1.cl.length := by rw [hI.ok.n6]; exact hc
    have HE := hD ((feed_req (n := n) (mode := mode) hp hk).symm.trans hfd)
    have HI2 := hD (hI.pull hc hp)
    have HS := hD (set_both hc1 ((m1.get c).bytes.extract j (m1.get c).bytes.size) (reqOf k t))
    have HSB := hD (fun w2 (h2 : PMem 0 w2 base P f1 G1 mode m1) => h2.setBytes hc hI.ok.n6 ((m1.get c).bytes.extract j (m1.get c).bytes.size))
    have hsz : ((m1.get c).bytes.extract j (m1.get c).bytes.size).size < n ∧ ((m1.get c).bytes.extract j (m1.get c).bytes.size).size < gk := by rw [ext_size]; omega
    have hgs1 : ∀ x : Cl, (m1.set c x).get c = x := fun x => by rw [get_set hc1, if_pos rfl]
    have HGS := hD hgs1
    have HRQ := hD (fun wc (hw : Words wc) => request_any k t wc hw)
    have HWL := hD hwN.1
    have HN6 := hD hI.ok.n6
    obtain ⟨x1, HX1⟩ : ∃ x, Hid (m1.get c = x) := ⟨_, hD rfl⟩
    rw [HX1.out] at HE HI2 HS HSB hsz HU b0 hj hwN
    obtain ⟨bs1, HBS⟩ : ∃ x, Hid (x1.bytes = x) := ⟨_, hD rfl⟩
    rw [HBS.out] at HE HI2 HS HSB hsz HU b0 hj hwN
    obtain ⟨rest, HRE⟩ : ∃ x, Hid (bs1.extract j bs1.size = x) := ⟨_, hD rfl⟩
    rw [HRE.out] at HE HI2 HS HSB hsz
    have hrl : rest.size ≤ 300000 := by have := HRE.out; rw [← this, ext_size]; omega
    have hre := HRE.out
    have hjI : (j : Int) ≤ (bs1.size : Int) := by omega
    have hjt : (j : Int).toNat = j := by omega
    clear hM hI hB hfd hp hV hgg hn hgs1 hc1 hk
    go_wp2_with fail
    refine (HU.out _).mono ?_
    rintro e w1 ⟨rfl, hb1⟩
    have hM1 := HM.out.below hb1
    have HB1 := hD (HB.out.trans (hb1.mono hbase))
    have HT2 := hD (HT1.out.below (hb1.mono hbase))
    have b1 := (hb1.cell (p := ⟨P, 4 + c * 6, none⟩) hP).trans b0
    have z1 := hM1.row.frozen (4 + c * 6)
    have hP1 := hM1.row.lt
    have HM1 := hD (HSB.out w1 hM1)
    clear hb1 HU b0 z0 hM1 HM HB HT1
    go_wp2_with fail
    (try rw [hre])
    have hM2 := HM1.out
    have hB2 := HB1.out.setCell (p := ⟨P, 4 + c * 6, none⟩) hbP (.string rest)
    have hT2 := HT2.out.below ((Below.refl base w1).setCell (p := ⟨P, 4 + c * 6, none⟩) hbP (.string rest))
    obtain ⟨W2, HW2⟩ : ∃ u, Hid (w1.setCell ⟨P, 4 + c * 6, none⟩ (.string rest) = u) := ⟨_, hD rfl⟩
    rw [HW2.out] at hM2 hB2 hT2 ⊢
    obtain ⟨f2, HF2⟩ : ∃ u, Hid (upd f1 (4 + c * 6) (.string rest) = u) := ⟨_, hD rfl⟩
    rw [HF2.out] at hM2
    clear HW2 b1 z1 HM1 HB1 HT2 HF2 hP1
    have HM2 := hD hM2
    have HB2 := hD hB2
    have HT2 := hD hT2
    have hP2 := hM2.row.lt
    have s0 := hM2.row.cell (j := 4 + c * 6 + 1) (by omega)
    obtain ⟨fv, HFV⟩ : ∃ u, Hid (f2 (4 + c * 6 + 1) = u) := ⟨_, hD rfl⟩
    rw [HFV.out] at s0
    clear hM2 hB2 hT2
    refine wp_region_z 12 (fun wx => wx.cell? ⟨P, 4 + c * 6 + 1, none⟩ = some fv) (by kernel_rfl) (s0) (fun hS => ?_)
    refine tkZ 0 ?vq0 rfl ?yq0 hS ?rq0
    case yq0 => (intro w hSw; (try dsimp only at hSw); (try simp only [gTA, gCZ, gCS]); go_simp; try with_reducible rfl)
    (try simp only [gTA, gCZ, gCS, Act.put, sTA, sCZ, sCS])
    refine tkZ 1 ?vq1 rfl ?yq1 hS ?rq1
    case yq1 => (intro w hSw; (try dsimp only at hSw); (try simp only [gTA, gCZ, gCS]); go_simp; try with_reducible rfl)
    (try simp only [gTA, gCZ, gCS, Act.put, sTA, sCZ, sCS])
    refine tkZ 2 ?vq2 rfl ?yq2 hS ?rq2
    case yq2 => (intro w hSw; (try dsimp only at hSw); (try simp only [gTA, gCZ, gCS]); go_simp; try with_reducible rfl)
    (try simp only [gTA, gCZ, gCS, Act.put, sTA, sCZ, sCS])
    refine tkZ 3 ?vq3 rfl ?yq3 hS ?rq3
    case yq3 => (intro w hSw; (try dsimp only at hSw); (try simp only [gTA, gCZ, gCS]); go_simp; try with_reducible rfl)
    (try simp only [gTA, gCZ, gCS, Act.put, sTA, sCZ, sCS])
    refine tkZ 4 ?vq4 rfl ?yq4 hS ?rq4
    case yq4 => (intro w hSw; (try dsimp only at hSw); (try simp only [gTA, gCZ, gCS]); go_simp; try with_reducible rfl)
    (try simp only [gTA, gCZ, gCS, Act.put, sTA, sCZ, sCS])
    refine tkZ 5 ?vq5 rfl ?yq5 hS ?rq5
    case yq5 => (intro w hSw; (try dsimp only at hSw); (try simp only [gTA, gCZ, gCS]); go_simp; try with_reducible rfl)
    (try simp only [gTA, gCZ, gCS, Act.put, sTA, sCZ, sCS])
    refine tkZ 6 ?vq6 rfl ?yq6 hS ?rq6
    case yq6 => (intro w hSw; (try dsimp only at hSw); (try simp only [gTA, gCZ, gCS]); go_simp; try with_reducible rfl)
    (try simp only [gTA, gCZ, gCS, Act.put, sTA, sCZ, sCS])
    refine wpAnyZ_one (i := 7) rfl rfl (by kernel_rfl) (fun K hK => ?_)
    (try simp only [gTA, gCZ, gCS])
    go_simp
    refine (HRQ.out _ (HT2.out.wo.below (Below.refl _ _).drew)).mono ?_
    rintro e w3 ⟨rfl, hb3⟩
    have kb := bel_add' (Below.refl W2.heap.size W2).drew hb3 (nL _)
    clear hb3
    have s3 := (kb.cell (p := ⟨P, 4 + c * 6 + 1, none⟩) hP2).trans s0
    obtain ⟨r, HR⟩ : ∃ u, Hid (reqOf k t = u) := ⟨_, hD rfl⟩
    rw [HR.out] at HE HI2 HS ⊢
    have nD := kb.alloc kb.size (.cells #[.int .i64 r.k, .string r.key, .string r.val] 41)
    have XD := RowTo.whole w3 #[.int .i64 r.k, .string r.key, .string r.val] 41
    have hMD := HM2.out.below nD
    obtain ⟨b, off, cap, nn, w8, hrun, p0, fz, hP8, hM8, hB8⟩ := hMD.waited (by show (m1.cl.set c _).length = 6; rw [List.length_set]; exact HN6.out) hc (by rw [HGS.out]; show x1.wait.length ≤ _; have := HWL.out; rw [HX1.out] at this; exact this) (ad := w3.heap.size) r (fun j u hu => by
     obtain ⟨x0, x1, x2⟩ := cells3 XD
     match j, hu with
     | 0, hu => injection hu with hu; rw [← hu]; exact x0
     | 1, hu => injection hu with hu; rw [← hu]; exact x1
     | 2, hu => injection hu with hu; rw [← hu]; exact x2
     | n + 3, hu => simp [reqV] at hu)
    rw [HS.out] at hM8
    rw [HFV.out] at hrun p0
    have sD := (nD.cell (p := ⟨P, 4 + c * 6 + 1, none⟩) hP2).trans s0
    have HFF := hD (And.intro hM8 (HB2.out.trans ((nD.mono (Nat.le_trans hbP (Nat.le_of_lt hP2))).trans hB8)))
    clear hM8 hB8 hMD nD XD kb
    go_simp
    have hS2 := s3
    refine hK.out _ _ hS2 ?_
    clear hK K hS
    have hS := hS2
    clear hS2
    (try simp only [gTA, gCZ, gCS, Act.put, sTA, sCZ, sCS])
    refine wpAnyZ_one (i := 8) rfl rfl (by kernel_rfl) (fun K hK => ?_)
    (try simp only [gTA, gCZ, gCS])
    refine wp_val (exec_stmts rfl rfl _) ?_
    have hS2 := sD
    refine hK.out _ _ hS2 ?_
    clear hK K hS
    have hS := hS2
    clear hS2
    (try simp only [gTA, gCZ, gCS, Act.put, sTA, sCZ, sCS])
    refine wpAnyZ_one (i := 9) rfl rfl (by kernel_rfl) (fun K hK => ?_)
    (try simp only [gTA, gCZ, gCS])
    refine Lib.wp_append_run _ _ _ _ _ rfl _ _ rfl rfl _ _ hrun ?_
    have hS2 := p0
    refine hK.out _ _ hS2 ?_
    clear hK K hS
    have hS := hS2
    clear hS2
    (try simp only [gTA, gCZ, gCS, Act.put, sTA, sCZ, sCS])
    refine tkY 10 [11] ?vq10 rfl ?yq10 hS ?rq10
    case yq10 => (intro w hSw; (try dsimp only at hSw); (try simp only [gTA, gCZ, gCS]); go_simp; try with_reducible rfl)
    (try simp only [gTA, gCZ, gCS, Act.put, sTA, sCZ, sCS])
    refine tkZ 11 ?vq11 rfl ?yq11 hS ?rq11
    case yq11 => (intro w hSw; (try dsimp only at hSw); (try simp only [gTA, gCZ, gCS]); go_simp; try with_reducible rfl)
    (try simp only [gTA, gCZ, gCS, Act.put, sTA, sCZ, sCS])
    refine wpAnyZ_last rfl rfl (by kernel_rfl) (by kernel_rfl) (fun K hK => ?_)
    (try simp only [gTA, gCZ, gCS])
    go_simp
    refine hK.out _ _ ?_
    clear hK K
    (try simp only [gTA, gCZ, gCS, Act.put, sTA, sCZ, sCS])
    go_wp2
    go_roundg rest.size
    case measure => exact hsz.2
    case rel => exact ⟨_, _, _, n, by rw [HGS.out]; exact nL _, by rw [HGS.out]; exact hsz.1, HE.out, HFF.out.1, HI2.out, hb8, HFF.out.2⟩
end
end Go.Proofs.YtpbaobmegomfpabGreatDoor
namespace Go.Proofs.YtpbaobmegomfpabGreatDoor
open Go.RowKit
structure TLst (w : World) (B : Nat) (v : Value) (l : List ByteArray) : Prop where
 form : ∃ A c, v = .slice A l.length c ∧ l.length ≤ c
 small : l.length ≤ 1000000
 sizes : ∀ t ∈ l, t.size ≤ 100000000
 cells : 0 < l.length → ∃ b off c, v = .slice (some ⟨b, off, none⟩) l.length c ∧ b < B ∧ ∀ i (h : i < l.length), w.cell? ⟨b, off + i, none⟩ = some (.string l[i])
structure DLst (w : World) (B : Nat) (v : Value) (l : List Deed) : Prop where
 form : ∃ A c, v = .slice A l.length c ∧ l.length ≤ c
 small : l.length ≤ 1000000
 cells : 0 < l.length → ∃ b off c, v = .slice (some ⟨b, off, none⟩) l.length c ∧ b < B ∧ ∀ i (h : i < l.length) j u, (deedV l[i])[j]? = some u → w.cell? ⟨b, off + i * 7 + j, none⟩ = some u
section
variable {w w' : World} {B B' : Nat} {v : Value}
theorem TLst.keep {l : List ByteArray} (h : TLst w B v l) (hB : B ≤ B') (hk : ∀ p : Addr, p.block < B → w'.cell? p = w.cell? p) : TLst w' B' v l := by
 refine ⟨h.form, h.small, h.sizes, fun hn => ?_⟩
 obtain ⟨b, off, c, e, hb, hc⟩ := h.cells hn
 exact ⟨b, off, c, e, by omega, fun i hi => (hk _ hb).trans (hc i hi)⟩
theorem TLst.step {l : List ByteArray} (h : TLst w w.heap.size v l) (hb : Below w.heap.size w w') : TLst w' w'.heap.size v l := h.keep hb.size fun _ hp => hb.cell hp
theorem TLst.pt {n c : Nat} {A : Option Addr} {l : List ByteArray} (h : TLst w B (.slice A n c) l) {k : Nat} (hk : k < l.length) : ∃ b off, A = some ⟨b, off, none⟩ ∧ b < B ∧ w.cell? ⟨b, off + k, none⟩ = some (.string l[k]) := by
 obtain ⟨b, off, c', e, hb, hc⟩ := h.cells (by omega)
 injection e with e1 e2 e3
 exact ⟨b, off, e1, hb, hc k hk⟩
theorem DLst.keep {l : List Deed} (h : DLst w B v l) (hB : B ≤ B') (hk : ∀ p : Addr, p.block < B → w'.cell? p = w.cell? p) : DLst w' B' v l := by
 refine ⟨h.form, h.small, fun hn => ?_⟩
 obtain ⟨b, off, c, e, hb, hc⟩ := h.cells hn
 exact ⟨b, off, c, e, by omega, fun i hi j u hu => (hk _ hb).trans (hc i hi j u hu)⟩
theorem DLst.step {l : List Deed} (h : DLst w w.heap.size v l) (hb : Below w.heap.size w w') : DLst w' w'.heap.size v l := h.keep hb.size fun _ hp => hb.cell hp
theorem DLst.pt {n c : Nat} {A : Option Addr} {l : List Deed} (h : DLst w B (.slice A n c) l) {k : Nat} (hk : k < l.length) : ∃ b off, A = some ⟨b, off, none⟩ ∧ b < B ∧ w.cell? ⟨b, off + k * 7, none⟩ = some (.int .i64 l[k].c) ∧ w.cell? ⟨b, off + k * 7 + 1, none⟩ = some (.int .i64 l[k].r.k) ∧ w.cell? ⟨b, off + k * 7 + 2, none⟩ = some (.string l[k].r.key) ∧
  w.cell? ⟨b, off + k * 7 + 3, none⟩ = some (.string l[k].r.val) ∧ w.cell? ⟨b, off + k * 7 + 4, none⟩ = some (.int .i64 l[k].a.kind) ∧ w.cell? ⟨b, off + k * 7 + 5, none⟩ = some (.string l[k].a.text) ∧ w.cell? ⟨b, off + k * 7 + 6, none⟩ = some (.int .i64 l[k].st) := by
 obtain ⟨b, off, c', e, hb, hc⟩ := h.cells (by omega)
 injection e with e1 e2 e3
 exact ⟨b, off, e1, hb, hc k hk 0 _ rfl, hc k hk 1 _ rfl, hc k hk 2 _ rfl, hc k hk 3 _ rfl, hc k hk 4 _ rfl, hc k hk 5 _ rfl, hc k hk 6 _ rfl⟩
end
structure OutV (w : World) (v1 v2 v3 : Value) (sent : List ByteArray) (deeds : List Deed) (rows : PL) : Prop where
 s : TLst w w.heap.size v1 sent
 d : DLst w w.heap.size v2 deeds
 r : Lst w w.heap.size v3 rows
theorem OutV.step {w w' : World} {v1 v2 v3 : Value} {sent : List ByteArray} {deeds : List Deed} {rows : PL} (h : OutV w v1 v2 v3 sent deeds rows) (hb : Below w.heap.size w w') : OutV w' v1 v2 v3 sent deeds rows :=
 ⟨h.s.step hb, h.d.step hb, (h.r.below hb).more hb.size⟩
theorem row_tlst {w : World} {g t n c : Nat} {l : List ByteArray} (h : RowTo w g t n (l.map Value.string)) (hc : l.length ≤ c) (hl : l.length ≤ 1000000) (hs : ∀ t ∈ l, t.size ≤ 100000000) : TLst w w.heap.size (.slice (some ⟨g, 0, none⟩) l.length c) l := by
 refine ⟨⟨_, _, rfl, hc⟩, hl, hs, fun _ => ⟨g, 0, c, rfl, h.lt, fun i hi => ?_⟩⟩
 have := h.cell (j := i) (by simpa using hi)
 rw [List.getElem_map] at this
 rw [Nat.zero_add]; exact this
theorem sl_dlst {w : World} {t : Nat} {v : Value} {g : Option Nat} {l : List Deed} (h : Sl w t 7 v g l.length (l.map deedV).flatten) (hl : l.length ≤ 1000000) (hg : ∀ b, g = some b → b < w.heap.size) : DLst w w.heap.size v l := by
 obtain ⟨A, c, rfl, hc⟩ := h.shape
 refine ⟨⟨A, c, rfl, hc⟩, hl, fun hn => ?_⟩
 obtain ⟨b, off, cap, h1, h2, h3, h4⟩ := h.at hn
 refine ⟨b, off, cap, h2, hg b h1, fun i hi j u hu => ?_⟩
 have hj : j < 7 := (List.getElem?_eq_some_iff.1 hu).1
 have hf := flat_get (d := l.map deedV) (size := 7) (fun e he => by obtain ⟨x, _, rfl⟩ := List.mem_map.1 he; rfl) (i := i) (by simpa using hi) hj
 rw [List.getElem_map, hu] at hf
 obtain ⟨hlt, hv⟩ := List.getElem?_eq_some_iff.1 hf
 rw [Nat.add_assoc, h4 _ hlt, hv]
end Go.Proofs.YtpbaobmegomfpabGreatDoor
namespace Go.Proofs.YtpbaobmegomfpabGreatDoor
open Go.RowKit
theorem ba_zero {s : ByteArray} (h : s.size = 0) : s = ⟨#[]⟩ := ba_ext (by
 have : s.data.toList.length = 0 := by simpa using h
 rw [List.eq_nil_of_length_eq_zero this])
theorem idx0 (v0 v1 v2 v3 v4 v5 : Value) (w : World) : (Instr.index 81 (.agg #[v0, v1, v2, v3, v4, v5]) (.int .i64 0)).run Tryz.prog w = .ok v0 w := by kernel_rfl
theorem idx1 (v0 v1 v2 v3 v4 v5 : Value) (w : World) : (Instr.index 81 (.agg #[v0, v1, v2, v3, v4, v5]) (.int .i64 1)).run Tryz.prog w = .ok v1 w := by kernel_rfl
theorem idx2 (v0 v1 v2 v3 v4 v5 : Value) (w : World) : (Instr.index 81 (.agg #[v0, v1, v2, v3, v4, v5]) (.int .i64 2)).run Tryz.prog w = .ok v2 w := by kernel_rfl
theorem idx3 (v0 v1 v2 v3 v4 v5 : Value) (w : World) : (Instr.index 81 (.agg #[v0, v1, v2, v3, v4, v5]) (.int .i64 3)).run Tryz.prog w = .ok v3 w := by kernel_rfl
theorem idx4 (v0 v1 v2 v3 v4 v5 : Value) (w : World) : (Instr.index 81 (.agg #[v0, v1, v2, v3, v4, v5]) (.int .i64 4)).run Tryz.prog w = .ok v4 w := by kernel_rfl
theorem idx5 (v0 v1 v2 v3 v4 v5 : Value) (w : World) : (Instr.index 81 (.agg #[v0, v1, v2, v3, v4, v5]) (.int .i64 5)).run Tryz.prog w = .ok v5 w := by kernel_rfl
theorem str_row : (Tryz.prog.info? 9).map (fun i => (i.zero, i.size, i.bytes)) = some (some (.string ⟨#[]⟩), 1, 16) := by kernel_rfl
theorem make_str6 (w : World) : (Instr.makeSlice 25 (.int .i64 6) (.int .i64 6)).run Tryz.prog w = .ok (.slice (some ⟨w.heap.size, 0, none⟩) 6 6) (w.alloc (.cells #[.string ⟨#[]⟩, .string ⟨#[]⟩, .string ⟨#[]⟩, .string ⟨#[]⟩, .string ⟨#[]⟩, .string ⟨#[]⟩] 9)) := by
 obtain ⟨i0, hi, hz0, hz1, hz2⟩ := info_parts str_row
 have hr := run_make (P := Tryz.prog) w 25 9 i0 _ Tryz.underlying25 hi hz0 .i64 .i64 6 6 (by omega) (Int.le_refl _) (by rw [hz2]; omega) (by omega)
 rw [hz1] at hr
 have e : madeCells (Value.string ⟨#[]⟩).cells 6 = #[.string ⟨#[]⟩, .string ⟨#[]⟩, .string ⟨#[]⟩, .string ⟨#[]⟩, .string ⟨#[]⟩, .string ⟨#[]⟩] := by kernel_rfl
 rw [show Int.toNat 6 * 1 = 6 from rfl, e] at hr
 exact hr
section
variable {base P : Nat} {f : Nat → Value} {G : Nat → Option Nat} {mode : Int} {m : Mach PE} {N : Nat}
theorem PMem.sentSl {w : World} (h : PMem 0 w base P f G mode m) {c : Nat} (hc : c < 6) : Sl w 5 1 (f (41 + c)) (G (9 + c)) (m.sent.getD c ⟨#[]⟩).size ((m.sent.getD c ⟨#[]⟩).data.toList.map (fun b => Value.int .u8 (b.toNat : Int))) := by
 have e1 : slC (9 + c) = 41 + c := by unfold slC; rw [if_neg (by omega), if_neg (by omega), if_neg (by omega), if_pos (by omega)]; omega
 have e2 : slT (9 + c) = 5 := by unfold slT; rw [if_neg (by omega), if_neg (by omega), if_neg (by omega), if_pos (by omega)]
 have e3 : slZ (9 + c) = 1 := by unfold slZ; rw [if_neg (by omega), if_neg (by omega), if_pos (by omega)]
 have hsl := h.sl (9 + c) (by omega) (by omega) (by omega)
 rw [e1, e2, e3, items_sent _ hc, flat_ones, List.length_map] at hsl
 exact hsl
theorem sent_conv {w wx : World} (h : PMem 0 w base P f G mode m) {c : Nat} (hc : c < 6) (hb : Below w.heap.size w wx) : (convert 80 9 (f (41 + c))).run Tryz.prog wx = .ok (.string (m.sent.getD c ⟨#[]⟩)) wx := by
 rcases (h.sentSl hc).form with ⟨_, hv, h0⟩ | ⟨b, off, cap, tot, hg, hv, hcap, _, _, hcell⟩
 ·rw [hv, ba_zero h0]
  exact Lib.run_convert_nil_bytes (P := Tryz.prog) wx 80 9 5 0 Tryz.underlying80 Tryz.underlying5 Tryz.underlying9
 ·rw [hv]
  refine Lib.run_convert_whole (P := Tryz.prog) wx 80 5 9 Tryz.underlying80 Tryz.underlying5 Tryz.underlying9 b off _ (fun i hi => ?_) cap
  have hbl := (h.lo _ b hg).2
  rw [hb.cell (p := ⟨b, off + i, none⟩) hbl, hcell i (by simpa using hi), List.getElem_map]
  rfl
def OutRel (w : World) (R Q : Nat) (sent : List ByteArray) (k : Nat) (wr : World) : Prop := RowTo wr Q 9 6 ((sent.take k).map Value.string) ∧ RowTo wr R 29 3 [.slice none 0 0, .slice none 0 0, .slice none 0 0] ∧ Below w.heap.size w wr
set_option maxHeartbeats 2000000 in
theorem outcome_any (w : World) (h : PMem 0 w base P f G mode m) (hI : Inv mode m N) (hN : N ≤ 300000) :
  Calls Tryz.prog 26 #[ptr P 0] w fun e w' => ∃ v1 v2 v3, e = .returned (.agg #[v1, v2, v3]) ∧ OutV w' v1 v2 v3 m.sent m.deeds m.e.w.rows ∧ Below w.heap.size w w' := by
 have hP := h.row.lt
 have hs6 := hI.ok.s6
 have n0 := ((Below.refl w.heap.size w).alloc (nL _) (.cells #[.slice none 0 0, .slice none 0 0, .slice none 0 0] 29)).alloc (by simp) (.cells #[.string ⟨#[]⟩, .string ⟨#[]⟩, .string ⟨#[]⟩, .string ⟨#[]⟩, .string ⟨#[]⟩, .string ⟨#[]⟩] 9)
 have X1 := (RowTo.whole w #[.slice none 0 0, .slice none 0 0, .slice none 0 0] 29).alloc (.cells #[.string ⟨#[]⟩, .string ⟨#[]⟩, .string ⟨#[]⟩, .string ⟨#[]⟩, .string ⟨#[]⟩, .string ⟨#[]⟩] 9)
 have X2 := (RowTo.whole (w.alloc (.cells #[.slice none 0 0, .slice none 0 0, .slice none 0 0] 29)) #[.string ⟨#[]⟩, .string ⟨#[]⟩, .string ⟨#[]⟩, .string ⟨#[]⟩, .string ⟨#[]⟩, .string ⟨#[]⟩] 9).front 0
 simp only [World.size_alloc, List.take_zero] at X2
 obtain ⟨A0, l0, q0, hf0'⟩ : ∃ A n q, f 41 = .slice A n q := by
  obtain ⟨A, q, e, _⟩ := (h.sentSl (c := 0) (by omega)).shape
  exact ⟨A, _, q, e⟩
 have y0 := (n0.cell (p := ⟨P, 41, none⟩) hP).trans (h.row.cell (j := 41) (by omega))
 rw [hf0'] at y0
 obtain ⟨A1, l1, q1, hf1'⟩ : ∃ A n q, f 42 = .slice A n q := by
  obtain ⟨A, q, e, _⟩ := (h.sentSl (c := 1) (by omega)).shape
  exact ⟨A, _, q, e⟩
 have y1 := (n0.cell (p := ⟨P, 42, none⟩) hP).trans (h.row.cell (j := 42) (by omega))
 rw [hf1'] at y1
 obtain ⟨A2, l2, q2, hf2'⟩ : ∃ A n q, f 43 = .slice A n q := by
  obtain ⟨A, q, e, _⟩ := (h.sentSl (c := 2) (by omega)).shape
  exact ⟨A, _, q, e⟩
 have y2 := (n0.cell (p := ⟨P, 43, none⟩) hP).trans (h.row.cell (j := 43) (by omega))
 rw [hf2'] at y2
 obtain ⟨A3, l3, q3, hf3'⟩ : ∃ A n q, f 44 = .slice A n q := by
  obtain ⟨A, q, e, _⟩ := (h.sentSl (c := 3) (by omega)).shape
  exact ⟨A, _, q, e⟩
 have y3 := (n0.cell (p := ⟨P, 44, none⟩) hP).trans (h.row.cell (j := 44) (by omega))
 rw [hf3'] at y3
 obtain ⟨A4, l4, q4, hf4'⟩ : ∃ A n q, f 45 = .slice A n q := by
  obtain ⟨A, q, e, _⟩ := (h.sentSl (c := 4) (by omega)).shape
  exact ⟨A, _, q, e⟩
 have y4 := (n0.cell (p := ⟨P, 45, none⟩) hP).trans (h.row.cell (j := 45) (by omega))
 rw [hf4'] at y4
 obtain ⟨A5, l5, q5, hf5'⟩ : ∃ A n q, f 46 = .slice A n q := by
  obtain ⟨A, q, e, _⟩ := (h.sentSl (c := 5) (by omega)).shape
  exact ⟨A, _, q, e⟩
 have y5 := (n0.cell (p := ⟨P, 46, none⟩) hP).trans (h.row.cell (j := 46) (by omega))
 rw [hf5'] at y5
 have HR0 : Hid (OutRel w w.heap.size (w.heap.size + 1) m.sent 0 ((w.alloc (.cells #[.slice none 0 0, .slice none 0 0, .slice none 0 0] 29)).alloc (.cells #[.string ⟨#[]⟩, .string ⟨#[]⟩, .string ⟨#[]⟩, .string ⟨#[]⟩, .string ⟨#[]⟩, .string ⟨#[]⟩] 9))) := hD ⟨X2, X1, n0⟩
 have HH := hD h
 have HI := hD hI
 have HS6 := hD hs6
 have hQs : P < w.heap.size + 1 + 1 := by omega
 have hmk := make_str6
 clear h hI X1 X2 n0 hs6
 unfold ptr
 go_enter Tryz.func26, Tryz.ntmps26
 go_wp2_with fail
 go_loopw [11] (fun i wr => ∃ k : Nat, k ≤ 6 ∧ i = .int .i64 k ∧ Hid (OutRel w w.heap.size (w.heap.size + 1) m.sent k wr)) (fun i _ => 6 - (intOf i).toNat)
 case atStart => exact ⟨0, by omega, rfl, HR0.out⟩
 case round =>
  obtain ⟨k, hk, rfl, HZ⟩ := hrel
  have hQl := HZ.out.1.lt
  have hRl := HZ.out.2.1.lt
  by_cases hlt : k < 6
  ·have hkm : k < m.sent.length := by rw [HS6.out]; exact hlt
   have hln : (((m.sent.take k).map Value.string)).length = k := by rw [List.length_map, List.length_take]; omega
   obtain ⟨u, hu⟩ := HZ.out.1.any (j := k) (by omega)
   have hfz := HZ.out.1.frozen k
   have hcv := sent_conv HH.out hlt HZ.out.2.2
   have hpush := HZ.out.1.push (by rw [hln]; exact hlt) (.string (m.sent.getD k ⟨#[]⟩)) (j := k) hln.symm
   have htk : (m.sent.take k).map Value.string ++ [.string (m.sent.getD k ⟨#[]⟩)] = (m.sent.take (k + 1)).map Value.string := by
    rw [List.take_succ_eq_append_getElem hkm, List.map_append, List.getD_eq_getElem?_getD, List.getElem?_eq_getElem hkm]; rfl
   rw [htk] at hpush
   have hkI : (k : Int) < 6 := by omega
   have HZ2 : Hid (OutRel w w.heap.size (w.heap.size + 1) m.sent (k + 1) (wr.setCell ⟨w.heap.size + 1, k, none⟩ (.string (m.sent.getD k ⟨#[]⟩)))) := hD ⟨hpush, HZ.out.2.1.other (by show w.heap.size + 1 ≠ w.heap.size; omega) _, HZ.out.2.2.setCell (p := ⟨w.heap.size + 1, k, none⟩) (by show w.heap.size ≤ w.heap.size + 1; omega) _⟩
   clear hpush htk hln hkm HR0
   generalize m.sent.getD k ⟨#[]⟩ = sk at *
   obtain rfl | rfl | rfl | rfl | rfl | rfl : k = 0 ∨ k = 1 ∨ k = 2 ∨ k = 3 ∨ k = 4 ∨ k = 5 := by omega
   ·have hcv' : (convert 80 9 (f 41)).run Tryz.prog wr = .ok (.string sk) wr := hcv
    rw [hf0'] at hcv'
    clear hcv
    have hix := idx0
    go_wp2
    go_roundw
    case rel => exact ⟨0 + 1, by omega, by go_num, HZ2.out⟩
    case measure => simp [intOf]
   ·have hcv' : (convert 80 9 (f 42)).run Tryz.prog wr = .ok (.string sk) wr := hcv
    rw [hf1'] at hcv'
    clear hcv
    have hix := idx1
    go_wp2
    go_roundw
    case rel => exact ⟨1 + 1, by omega, by go_num, HZ2.out⟩
    case measure => simp [intOf]
   ·have hcv' : (convert 80 9 (f 43)).run Tryz.prog wr = .ok (.string sk) wr := hcv
    rw [hf2'] at hcv'
    clear hcv
    have hix := idx2
    go_wp2
    go_roundw
    case rel => exact ⟨2 + 1, by omega, by go_num, HZ2.out⟩
    case measure => simp [intOf]
   ·have hcv' : (convert 80 9 (f 44)).run Tryz.prog wr = .ok (.string sk) wr := hcv
    rw [hf3'] at hcv'
    clear hcv
    have hix := idx3
    go_wp2
    go_roundw
    case rel => exact ⟨3 + 1, by omega, by go_num, HZ2.out⟩
    case measure => simp [intOf]
   ·have hcv' : (convert 80 9 (f 45)).run Tryz.prog wr = .ok (.string sk) wr := hcv
    rw [hf4'] at hcv'
    clear hcv
    have hix := idx4
    go_wp2
    go_roundw
    case rel => exact ⟨4 + 1, by omega, by go_num, HZ2.out⟩
    case measure => simp [intOf]
   ·have hcv' : (convert 80 9 (f 46)).run Tryz.prog wr = .ok (.string sk) wr := hcv
    rw [hf5'] at hcv'
    clear hcv
    have hix := idx5
    go_wp2
    go_roundw
    case rel => exact ⟨5 + 1, by omega, by go_num, HZ2.out⟩
    case measure => simp [intOf]
  ·obtain rfl : k = 6 := by omega
   have hB := HZ.out.2.2
   have hM := HH.out.below hB
   have c47 := hM.row.cell (j := 47) (by omega)
   have c1 := hM.row.cell (j := 1) (by omega)
   have hPr := hM.row.lt
   obtain ⟨D4, d4, hf47, _⟩ := (HH.out.sl 15 (by omega) (by omega) (by omega)).shape
   rw [items_deeds, List.length_map] at hf47
   have hf47' : f 47 = .slice D4 m.deeds.length d4 := hf47
   obtain ⟨E1, e1, hf1, _⟩ := HH.out.wld.wld.rows.form
   rw [hf47'] at c47
   rw [hf1] at c1
   have hD := HI.out.deeds hN
   have hTk : m.sent.take 6 = m.sent := List.take_of_length_le (by rw [HS6.out]; exact nL _)
   have HSZ := hD (show ∀ t ∈ m.sent, t.size ≤ 100000000 from fun t ht => by
    obtain ⟨i, hi, rfl⟩ := List.getElem_of_mem ht
    have := HI.out.sent hN i
    rw [List.getD_eq_getElem?_getD, List.getElem?_eq_getElem hi] at this
    exact this)
   have X1 := HZ.out.2.1
   obtain ⟨r0, r1, r2⟩ := cells3 X1
   have z0 := X1.frozen 0
   have z1 := X1.frozen 1
   have z2 := X1.frozen 2
   -- the result
   have hFin : ∀ wf : World, wf = ((((wr.setCell ⟨w.heap.size, 0, none⟩ (.slice (some ⟨w.heap.size + 1, 0, none⟩) 6 6)).setCell ⟨w.heap.size, 1, none⟩ (.slice D4 m.deeds.length d4)).setCell ⟨w.heap.size, 2, none⟩ (.slice E1 m.e.w.rows.length e1)).drew) → OutV wf (.slice (some ⟨w.heap.size + 1, 0, none⟩) 6 6) (.slice D4 m.deeds.length d4) (.slice E1 m.e.w.rows.length e1) m.sent m.deeds m.e.w.rows ∧ Below w.heap.size w wf ∧ RowTo wf w.heap.size 29 3 [.slice (some ⟨w.heap.size + 1, 0, none⟩) 6 6, .slice D4 m.deeds.length d4, .slice E1 m.e.w.rows.length e1] := by
    intro wf hwf
    subst hwf
    have hBf : Below w.heap.size w ((((wr.setCell ⟨w.heap.size, 0, none⟩ (.slice (some ⟨w.heap.size + 1, 0, none⟩) 6 6)).setCell ⟨w.heap.size, 1, none⟩ (.slice D4 m.deeds.length d4)).setCell ⟨w.heap.size, 2, none⟩ (.slice E1 m.e.w.rows.length e1)).drew) := (((hB.setCell (p := ⟨w.heap.size, 0, none⟩) (nL _) _).setCell (p := ⟨w.heap.size, 1, none⟩) (nL _) _).setCell (p := ⟨w.heap.size, 2, none⟩) (nL _) _).drew
    have hMf := HH.out.below hBf
    have hQf := (((HZ.out.1.other (p := ⟨w.heap.size, 0, none⟩) (by show w.heap.size ≠ w.heap.size + 1; omega) (.slice (some ⟨w.heap.size + 1, 0, none⟩) 6 6)).other (p := ⟨w.heap.size, 1, none⟩) (by show w.heap.size ≠ w.heap.size + 1; omega) (.slice D4 m.deeds.length d4)).other (p := ⟨w.heap.size, 2, none⟩) (by show w.heap.size ≠ w.heap.size + 1; omega) (.slice E1 m.e.w.rows.length e1)).drew
    rw [hTk] at hQf
    have hTL := row_tlst (c := 6) hQf (by rw [HS6.out]; exact nL _) (by rw [HS6.out]; omega) HSZ.out
    rw [HS6.out] at hTL
    have hsl := hMf.sl 15 (by omega) (by omega) (by omega)
    rw [items_deeds, List.length_map] at hsl
    have hsl' : Sl _ 70 7 (f 47) (G 15) m.deeds.length (m.deeds.map deedV).flatten := hsl
    rw [hf47'] at hsl'
    have hrow := hMf.wld.wld.rows
    rw [hf1] at hrow
    exact ⟨⟨hTL, sl_dlst hsl' (by omega) (fun b hb => (hMf.lo 15 b hb).2), hrow⟩, hBf, (((X1.put (j := 0) (by simp) _).put (j := 1) (by simp) _).put (j := 2) (by simp) _).drew⟩
   obtain ⟨nd, HND⟩ : ∃ n, Hid (m.deeds.length = n) := ⟨_, hD rfl⟩
   obtain ⟨nr, HNR⟩ : ∃ n, Hid (m.e.w.rows.length = n) := ⟨_, hD rfl⟩
   rw [HND.out] at c47 hFin
   rw [HNR.out] at c1 hFin
   have HFin := hD hFin
   clear hFin hM hB X1 hf47 hf47' hf1 hTk HSZ hD HND HNR HR0 y0 y1 y2 y3 y4 y5
   go_wp2_with fail
   refine wp_region_z 11 (fun wx => wx.cell? ⟨P, 47, none⟩ = some (.slice D4 nd d4) ∧ wx.cell? ⟨P, 1, none⟩ = some (.slice E1 nr e1)) (by kernel_rfl) (show wr.drew.cell? ⟨P, 47, none⟩ = some (.slice D4 nd d4) ∧ wr.drew.cell? ⟨P, 1, none⟩ = some (.slice E1 nr e1) from ⟨c47, c1⟩) (fun hS => ?_)
   refine tkZ 0 ?vo0 rfl ?yo0 hS ?ro0
   case yo0 => (intro w hSw; (try dsimp only at hSw); (try simp only [gTA, gCZ, gCS]); go_simp; try with_reducible rfl)
   (try simp only [gTA, gCZ, gCS, Act.put, sTA, sCZ, sCS])
   refine tkZ 1 ?vo1 rfl ?yo1 hS ?ro1
   case yo1 => (intro w hSw; (try dsimp only at hSw); (try simp only [gTA, gCZ, gCS]); go_simp; try with_reducible rfl)
   (try simp only [gTA, gCZ, gCS, Act.put, sTA, sCZ, sCS])
   refine tkZ 2 ?vo2 rfl ?yo2 hS ?ro2
   case yo2 => (intro w hSw; (try dsimp only at hSw); (try simp only [gTA, gCZ, gCS]); go_simp; try with_reducible rfl)
   (try simp only [gTA, gCZ, gCS, Act.put, sTA, sCZ, sCS])
   refine tkZ 3 ?vo3 rfl ?yo3 hS ?ro3
   case yo3 => (intro w hSw; (try dsimp only at hSw); (try simp only [gTA, gCZ, gCS]); go_simp; try with_reducible rfl)
   (try simp only [gTA, gCZ, gCS, Act.put, sTA, sCZ, sCS])
   refine tkZ 4 ?vo4 rfl ?yo4 hS ?ro4
   case yo4 => (intro w hSw; (try dsimp only at hSw); (try simp only [gTA, gCZ, gCS]); go_simp; try with_reducible rfl)
   (try simp only [gTA, gCZ, gCS, Act.put, sTA, sCZ, sCS])
   refine tkZ 5 ?vo5 rfl ?yo5 hS ?ro5
   case yo5 => (intro w hSw; (try dsimp only at hSw); (try simp only [gTA, gCZ, gCS]); go_simp; try with_reducible rfl)
   (try simp only [gTA, gCZ, gCS, Act.put, sTA, sCZ, sCS])
   refine tkZ 6 ?vo6 rfl ?yo6 hS ?ro6
   case yo6 => (intro w hSw; (try dsimp only at hSw); (try simp only [gTA, gCZ, gCS]); go_simp; try with_reducible rfl)
   (try simp only [gTA, gCZ, gCS, Act.put, sTA, sCZ, sCS])
   refine tkZ 7 ?vo7 rfl ?yo7 hS ?ro7
   case yo7 => (intro w hSw; (try dsimp only at hSw); (try simp only [gTA, gCZ, gCS]); go_simp; try with_reducible rfl)
   (try simp only [gTA, gCZ, gCS, Act.put, sTA, sCZ, sCS])
   refine tkZ 8 ?vo8 rfl ?yo8 hS ?ro8
   case yo8 => (intro w hSw; (try dsimp only at hSw); (try simp only [gTA, gCZ, gCS]); go_simp; try with_reducible rfl)
   (try simp only [gTA, gCZ, gCS, Act.put, sTA, sCZ, sCS])
   refine tkZ 9 ?vo9 rfl ?yo9 hS ?ro9
   case yo9 => (intro w hSw; (try dsimp only at hSw); (try simp only [gTA, gCZ, gCS]); go_simp; try with_reducible rfl)
   (try simp only [gTA, gCZ, gCS, Act.put, sTA, sCZ, sCS])
   refine tkZ 10 ?vo10 rfl ?yo10 hS ?ro10
   case yo10 => (intro w hSw; (try dsimp only at hSw); (try simp only [gTA, gCZ, gCS]); go_simp; try with_reducible rfl)
   (try simp only [gTA, gCZ, gCS, Act.put, sTA, sCZ, sCS])
   refine wpAnyZ_last rfl rfl (by kernel_rfl) (by kernel_rfl) (fun K hK => ?_)
   (try simp only [gTA, gCZ, gCS])
   go_simp
   refine hK.out _ _ ?_
   clear hK K
   (try simp only [gTA, gCZ, gCS, Act.put, sTA, sCZ, sCS])
   go_wp2
   generalize hWF : (((wr.setCell ⟨w.heap.size, 0, none⟩ (.slice (some ⟨w.heap.size + 1, 0, none⟩) 6 6)).setCell ⟨w.heap.size, 1, none⟩ (.slice D4 nd d4)).setCell ⟨w.heap.size, 2, none⟩ (.slice E1 nr e1)).drew = WF at *
   obtain ⟨hO, hBB, hRow⟩ := HFin.out WF rfl
   obtain ⟨t0, t1, t2⟩ := cells3 hRow
   refine bodyPost_ret (v := .agg #[.slice (some ⟨w.heap.size + 1, 0, none⟩) 6 6, .slice D4 nd d4, .slice E1 nr e1]) (by simp [results, Tryz.results26, go_sem, t0, t1, t2]) rfl ⟨_, _, _, rfl, hO, hBB⟩
end
end Go.Proofs.YtpbaobmegomfpabGreatDoor
