/-
  Texts of the proof, one behind the other: PProc.
-/
import Derived.Test.YtpbaobmegomfpabGreatDoorM32
import Derived.Test.YtpbaobmegomfpabGreatDoorM1
set_option linter.unusedVariables false
set_option linter.unusedSimpArgs false
set_option maxRecDepth 100000
open List renaming getElem_toArray → gTA, getElem_cons_zero → gCZ, getElem_cons_succ → gCS, setIfInBounds_toArray → sTA, set_cons_zero → sCZ, set_cons_succ → sCS
open Go.Lib renaming hid → jD
open Nat renaming le_refl → nL
namespace Go.Proofs.YtpbaobmegomfpabGreatDoor
open Go.RowKit
theorem deed_row : (Tryz.prog.info? 70).map (fun i => (i.zero, i.size, i.bytes)) = some (some (.agg #[.int .i64 0, .int .i64 0, .string ⟨#[]⟩, .string ⟨#[]⟩, .int .i64 0, .string ⟨#[]⟩, .int .i64 0]), 7, 80) := by kernel_rfl
section
variable {base P : Nat} {f : Nat → Value} {G : Nat → Option Nat} {mode : Int} {m : Mach PE} {N : Nat}
theorem PMem.fill' {w : World} {X : Nat} {m' : Mach PE} (h : PMem X w base P f G mode m) (hs : Sl w (slT X) (slZ X) (f (slC X)) (G X) (items m' X).length (items m' X).flatten) (ho : ∀ k, 1 ≤ k → k ≤ 15 → k ≠ X → items m' k = items m k) (he : m'.e = m.e) (hb : ∀ c, (m'.get c).bytes = (m.get c).bytes) (hv : ∀ c, (m'.get c).srv = (m.get c).srv) : PMem 0 w base P f G mode m' := by
 refine ⟨h.row, h.p0, h.lo, h.inj, fun k h1 h2 _ => ?_, h.md, by rw [he]; exact h.wld, fun c hc => by rw [hb]; exact h.bytes c hc, fun c hc => by rw [hv]; exact h.has c hc, fun c hc => by rw [hv]; exact h.srv c hc, fun c hc => by rw [he]; exact h.set c hc, fun c hc => by rw [he]; exact h.prep c hc⟩
 by_cases e : k = X
 ·subst e; exact hs
 ·rw [ho k h1 h2 e]; exact h.sl k h1 h2 e
theorem PMem.grow' {k n' : Nat} {w w1 : World} {m' : Mach PE} {v : Value} {xs : List Value} {b : Nat} (h : PMem 0 w base P f G mode m) (h1 : 1 ≤ k) (h2 : k ≤ 15) (hbase : base ≤ w.heap.size) (hg : w.grownBy w1 (G k)) (hs : Sl w1 (slT k) (slZ k) v (some b) n' xs) (hb : G k = some b ∨ (w.heap.size ≤ b ∧ b < w1.heap.size))
  (hn : n' = (items m' k).length) (hx : xs = (items m' k).flatten) (ho : ∀ k', 1 ≤ k' → k' ≤ 15 → k' ≠ k → items m' k' = items m k') (he : m'.e = m.e) (hby : ∀ c, (m'.get c).bytes = (m.get c).bytes) (hv : ∀ c, (m'.get c).srv = (m.get c).srv) :
  PMem 0 (w1.setCell ⟨P, slC k, none⟩ v) base P (upd f (slC k) v) (upd G k (some b)) mode m' := by
 have hkb : ∀ b, b < w.heap.size → G k ≠ some b → w1.heap[b]? = w.heap[b]? := fun b hlt hne => hg.block b hlt (fun e => hne e.symm)
 have h3 : PMem k w1 base P f (upd G k (some b)) mode m := by
  rcases hb with hb | ⟨hb, hb'⟩
  ·have : upd G k (some b) = G := by
    funext i; unfold upd; split
    ·rename_i e; rw [e, hb]
    ·rfl
   rw [this]; exact (h.but k).keep (by omega) hg.size hkb
  ·exact (h.but k).move (by omega) hg.size hkb hb hb' hbase
 have h4 := h3.cellX h1 h2 v
 refine h4.fill' ?_ ho he hby hv
 have e1 : upd f (slC k) v (slC k) = v := upd_at
 have e2 : upd G k (some b) k = some b := by unfold upd; rw [if_pos rfl]
 rw [e1, e2, ← hn, ← hx]
 refine hs.ne ?_ (set_off w1 P (slC k) v)
 intro e
 injection e with e
 have := h3.inj k 0 P (by rw [e2, e]) h3.p0
 omega
theorem items_wset {c : Nat} (hc : c < m.cl.length) {x : Cl} {k : Nat} (h1 : 1 ≤ k) (hk : k ≠ 2 + c) : items (m.set c x) k = items m k := by
 unfold items
 by_cases e1 : k = 1
 ·rw [if_pos e1, if_pos e1]; rfl
 ·rw [if_neg e1, if_neg e1]
  by_cases e2 : k < 8
  ·rw [if_pos e2, if_pos e2, get_set hc, if_neg (by omega)]
  ·rw [if_neg e2, if_neg e2]
   rfl
theorem PMem.cutW {w : World} (h : PMem 0 w base P f G mode m) (hcl : m.cl.length = 6) {c : Nat} (hc : c < 6) {r : Req} {l : List Req} (hw : (m.get c).wait = r :: l) {b off cap : Nat} (hf : f (4 + c * 6 + 1) = .slice (some ⟨b, off, none⟩) (l.length + 1) cap) :
  PMem 0 (w.setCell ⟨P, 4 + c * 6 + 1, none⟩ (cutv b off 3 l.length cap)) base P (upd f (4 + c * 6 + 1) (cutv b off 3 l.length cap)) G mode (m.set c { m.get c with wait := l }) := by
 have hc' : c < m.cl.length := by omega
 have e1 : slC (2 + c) = 4 + c * 6 + 1 := by unfold slC; rw [if_neg (by omega), if_pos (by omega)]; omega
 have e2 : slT (2 + c) = 41 := by unfold slT; rw [if_neg (by omega), if_pos (by omega)]
 have e3 : slZ (2 + c) = 3 := by unfold slZ; rw [if_neg (by omega), if_pos (by omega)]
 have hs := h.waitSl hc
 rw [hf, hw] at hs
 simp only [List.length_cons, List.map_cons, List.flatten_cons] at hs
 have hcut := hs.cut
 rw [List.drop_left' (show (reqV r).length = 3 from rfl)] at hcut
 have hgc : ((m.set c { m.get c with wait := l }).get c).wait = l := by rw [get_set hc', if_pos rfl]
 have hx := (h.but (2 + c)).cellX (by omega) (by omega) (cutv b off 3 l.length cap)
 rw [e1] at hx
 refine hx.fill' ?_ (fun k h1 _ hk => items_wset hc' h1 hk) rfl (fun d => ?_) (fun d => ?_)
 ·rw [e1, e2, e3, upd_at, items_wait _ hc, hgc, List.length_map]
  exact hcut.ne (h.noP (by omega)) (set_off w P _ _)
 ·rw [get_set hc']; split
  ·rename_i e; rw [e]
  ·rfl
 ·rw [get_set hc']; split
  ·rename_i e; rw [e]
  ·rfl
theorem items_deeds (m : Mach PE) : items m 15 = m.deeds.map deedV := by unfold items; rw [if_neg (by omega), if_neg (by omega), if_neg (by omega), if_neg (by omega)]
theorem PMem.deeded {w : World} (h : PMem 0 w base P f G mode m) (hl : m.deeds.length ≤ 300000) {ad : Nat} (d : Deed) (hx : ∀ j u, (deedV d)[j]? = some u → w.cell? ⟨ad, j, none⟩ = some u) :
  ∃ b off cap w', (Builtin.append_ #[26, 26] 26 #[f 47, .slice (some ⟨ad, 0, none⟩) 1 1]).run Tryz.prog w = .ok (.slice (some ⟨b, off, none⟩) (m.deeds.length + 1) cap) w' ∧ w'.cell? ⟨P, 47, none⟩ = some (f 47) ∧ w'.frozen? ⟨P, 47, none⟩ = false ∧ P < w'.heap.size ∧
   PMem 0 (w'.setCell ⟨P, 47, none⟩ (.slice (some ⟨b, off, none⟩) (m.deeds.length + 1) cap)) base P (upd f 47 (.slice (some ⟨b, off, none⟩) (m.deeds.length + 1) cap)) (upd G 15 (some b)) mode { m with deeds := m.deeds ++ [d] } ∧ Below base w (w'.setCell ⟨P, 47, none⟩ (.slice (some ⟨b, off, none⟩) (m.deeds.length + 1) cap)) ∧
   KeepF G w w' ∧ (∀ x, x < w.heap.size → Free G x → Free (upd G 15 (some b)) x) := by
 obtain ⟨i0, hi, hz0, hz1, hz2⟩ := info_parts deed_row
 have hbP := (h.lo 0 P h.p0).1
 have hbase : base ≤ w.heap.size := Nat.le_trans hbP (Nat.le_of_lt h.row.lt)
 have hsl := h.sl 15 (by omega) (by omega) (by omega)
 have hsl' : Sl w 70 7 (f 47) (G 15) m.deeds.length (m.deeds.map deedV).flatten := by rw [items_deeds, List.length_map] at hsl; exact hsl
 obtain ⟨b, off, cap, w', hrun, hs, hg, hb⟩ := hsl'.append (P := Tryz.prog) 26 26 i0 _ 80 Tryz.underlying26 hi hz0 hz1 hz2 rfl (by omega) ⟨ad, 0, none⟩ 1 (deedV d) rfl (fun j u hu => by rw [Addr.add_lit, Nat.zero_add]; exact hx j u hu) (fun u hu => by
  simp only [deedV, List.mem_cons, List.not_mem_nil, or_false] at hu
  rcases hu with rfl | rfl | rfl | rfl | rfl | rfl | rfl <;> rfl) (by unfold maxLen; omega) (by omega)
 have hne : some P ≠ G 15 := fun e => h.noP (k := 15) (by omega) e.symm
 have hP' := hg.block P h.row.lt hne
 have hgr := h.grow' (k := 15) (m' := { m with deeds := m.deeds ++ [d] }) (n' := m.deeds.length + 1) (v := .slice (some ⟨b, off, none⟩) (m.deeds.length + 1) cap) (b := b) (by omega) (by omega) hbase hg hs hb (by rw [items_deeds]; simp) (by rw [items_deeds, List.map_append, List.flatten_append]; simp) (fun k _ hk15 hk => by
  unfold items
  by_cases h1 : k = 1
  ·rw [if_pos h1, if_pos h1]
  ·rw [if_neg h1, if_neg h1]
   by_cases h2 : k < 8
   ·rw [if_pos h2, if_pos h2]; rfl
   ·rw [if_neg h2, if_neg h2]
    by_cases h3 : k = 8
    ·rw [if_pos h3, if_pos h3]
    ·rw [if_neg h3, if_neg h3, if_pos (by omega), if_pos (by omega)]) rfl (fun _ => rfl) (fun _ => rfl)
 refine ⟨b, off, cap, w', hrun, (World.cell?_of_block (a := ⟨P, 47, none⟩) hP').trans (h.row.cell (j := 47) (by omega)), (World.frozen?_of_block (a := ⟨P, 47, none⟩) hP').trans (h.row.frozen _), Nat.lt_of_lt_of_le h.row.lt hg.size, hgr, ((Below.refl base w).grown hg hbase (fun x hx => (h.lo _ _ hx).1)).setCell hbP _, (KeepF.refl G w).grown hg, fun x hx hf => free_upd hf (fun e => ?_)⟩
 rcases hb with hb | hb
 ·exact hf 15 (by rw [hb, e])
 ·omega
theorem MOk.did (h : MOk mode m) {c : Nat} (hc : c < 6) (hr : readyB mode (m.get c) = true) {r : Req} {l : List Req} (hw : (m.get c).wait = r :: l) {m' : Mach PE} (h1 : m'.cl = m.cl.set c { m.get c with wait := l }) (h2 : m'.busy = m.busy) (h3 : m'.line = m.line) (h4 : m'.sent.length = 6) : MOk mode m' :=
 (h.turn hc (fun q hq => h.fine c q (by rw [hw]; exact List.mem_cons_of_mem _ hq)) rfl (fun hl => absurd hl (proc_line h hr)) : MOk mode (m.set c { m.get c with wait := l })).same h1 h2 h3 h4
set_option maxHeartbeats 3000000 in
theorem process_any (w : World) (h : PMem 0 w base P f G mode m) (hT : Tabs w base) (hI : Inv mode m N) (hN : N ≤ 300000) {c : Nat} (hc : c < 6) (hr : readyB mode (m.get c) = true) :
  Calls Tryz.prog 100 #[ptr P 0, .int .i64 (c : Int)] w (PPost w base P mode (m.proc poolO mode c)) := by
 have hP := h.row.lt
 have hbP := (h.lo 0 P h.p0).1
 obtain ⟨r, l, hw, hsr⟩ := ready_wait hr
 obtain ⟨b, off, cap, hG, hv, hcap, c0, c1, c2⟩ := h.first hc hw
 have hbl := (h.lo _ _ hG).2
 have p1 := h.row.cell (j := 4 + c * 6 + 1) (by omega)
 rw [hv] at p1
 have hcI : (c : Int) < 6 := by omega
 have hPX : P ≠ w.heap.size := by omega
 have n0' := (Below.refl w.heap.size w).alloc (nL _) (.cells #[.int .i64 r.k, .string r.key, .string r.val] 41)
 have p1' := (n0'.cell (p := ⟨P, 4 + c * 6 + 1, none⟩) hP).trans p1
 have z1' := (h.below n0').row.frozen (4 + c * 6 + 1)
 obtain ⟨x0, x1, x2⟩ := cells3 (RowTo.whole w #[.int .i64 r.k, .string r.key, .string r.val] 41)
 obtain ⟨vq, hvq⟩ : ∃ v, cutv b off 3 l.length cap = v := ⟨_, rfl⟩
 have hM0 := h.cutW hI.ok.n6 hc hw hv
 rw [hvq] at hM0
 have n0 := (Below.refl (w.setCell ⟨P, 4 + c * 6 + 1, none⟩ vq).heap.size (w.setCell ⟨P, 4 + c * 6 + 1, none⟩ vq)).alloc (nL _) (.cells #[.int .i64 r.k, .string r.key, .string r.val] 41)
 have hM1 := hM0.below n0
 have hX1 := RowTo.whole (w.setCell ⟨P, 4 + c * 6 + 1, none⟩ vq) #[.int .i64 r.k, .string r.key, .string r.val] 41
 rw [size_set] at hX1
 have hB1 : Below base w ((w.setCell ⟨P, 4 + c * 6 + 1, none⟩ vq).alloc (.cells #[.int .i64 r.k, .string r.key, .string r.val] 41)) := ((Below.refl base w).setCell (p := ⟨P, 4 + c * 6 + 1, none⟩) hbP vq).trans (n0.mono (by rw [size_set]; omega))
 have HIN := jD hI
 have HRD := jD hr
 have HW := jD hw
 have HSR := jD hsr
 have H1 := jD (And.intro hM1 (And.intro hB1 (And.intro hX1 (hT.below hB1))))
 have HFX := jD (show Free G w.heap.size from fun i hi => by have := (h.lo i _ hi).2; omega)
 have HRF := jD (fun (wc : World) (h1 : wc.cell? ⟨P, 0, none⟩ = some (.int .i64 mode)) (h2 : P < wc.heap.size) => refusal_any P mode r.k r.key r.val wc h1 h2)
 obtain ⟨rf, HRf⟩ : ∃ x, Hid (refuse mode r = x) := ⟨_, jD rfl⟩
 have hrf : refuse mode ⟨r.k, r.key, r.val⟩ = rf := HRf.out
 rw [hrf] at HRF
 have hcapl : l.length + 1 ≤ cap := hcap
 have hpos : (0 : Int) < ((l.length + 1 : Nat) : Int) := by omega
 unfold ptr at HRF ⊢
 clear h hT hI hr hw hsr hG hv hM0 hM1 hB1 hX1 n0 n0' hrf hcap
 obtain ⟨nl, HNL⟩ : ∃ n, Hid (l.length = n) := ⟨_, jD rfl⟩
 rw [HNL.out] at p1 p1' hcapl hpos hvq
 by_cases hcp : cap = 1
 ·subst hcp
  obtain rfl : nl = 0 := by omega
  have HVQ := jD (show Value.slice (some ⟨b, off, none⟩) 0 0 = vq from hvq)
  clear hvq
  go_enter Tryz.func100, Tryz.ntmps100
  go_wp2_with fail
  simp only [HVQ.out]
  have hm0 := H1.out.1.row.cell (j := 0) (by omega)
  rw [H1.out.1.md] at hm0
  refine (HRF.out _ hm0 H1.out.1.row.lt).mono ?_
  rintro e w3 ⟨rfl, hb3⟩
  have H3 := jD (And.intro (H1.out.1.below hb3) (And.intro (bel_add' H1.out.2.1 hb3 (Nat.le_trans hbP (Nat.le_of_lt H1.out.1.row.lt))) (And.intro (H1.out.2.2.1.below hb3 (by have := H1.out.2.2.1.lt; exact this)) (H1.out.2.2.2.below (hb3.mono (show base ≤ ((w.setCell ⟨P, 4 + c * 6 + 1, none⟩ vq).alloc (.cells #[.int .i64 r.k, .string r.key, .string r.val] 41)).heap.size from Nat.le_trans hbP (Nat.le_of_lt H1.out.1.row.lt)))))))
  have hP3 := H3.out.1.row.lt
  have hXl3 := H3.out.2.2.1.lt
  clear hb3 hm0 H1 HRF x0 x1 x2 c0 c1 c2 p1 p1' z1'
  cases hrb : refB mode r with
  | true =>
   as_aux_lemma =>
    have hne : rf.toList.isEmpty = false := full_of (by
     have hh : rf.size ≠ 0 := fun h0 => by rw [← HRf.out] at h0; rw [refuse_empty.1 h0] at hrb; cases hrb
     omega)
    have HA := jD (show AnsOk ⟨4, rf⟩ by rw [← HRf.out]; exact ref_ans hrb)
    have HE := jD (show m.proc poolO mode c = (m.set c { m.get c with wait := l }).tell c ⟨4, rf⟩ (m.e.state (m.get c).srv) by
     unfold Mach.proc
     simp only [HW.out]
     rw [if_pos hrb, HRf.out]
     rfl)
    have hok1 : MOk mode (m.set c { m.get c with wait := l }) := HIN.out.ok.did hc HRD.out HW.out rfl rfl rfl HIN.out.ok.s6
    have HST := jD (state_any w3 H3.out.1 hok1 HIN.out.plen hc)
    have hgs : (m.set c { m.get c with wait := l }).e.state ((m.set c { m.get c with wait := l }).get c).srv = m.e.state (m.get c).srv := by rw [get_set (by rw [HIN.out.ok.n6]; exact hc), if_pos rfl]; rfl
    rw [hgs] at HST
    have HSB := jD (HIN.out.state hc)
    generalize m.e.state (m.get c).srv = st at *
    unfold ptr at HST
    clear hrb hgs hok1
    go_wp2_with fail
    refine HST.out.mono ?_
    rintro e w4 ⟨rfl, k4, rfl⟩
    go_wp2_with fail
    have hd4 : Below w3.heap.size w3 (w3.drewN k4) := below_drewN (Below.refl _ _) k4
    refine (send_any (w3.drewN k4) (H3.out.1.below hd4) (H3.out.2.2.2.below (hd4.mono (Nat.le_trans hbP (Nat.le_of_lt hP3)))) HIN.out.ok.s6 c hc ⟨4, rf⟩ st HA.out HSB.out (HIN.out.sent hN c)).mono ?_
    rintro e w5 ⟨f5, G5, rfl, hM5, hB5, _⟩
    have HFF := jD (And.intro hM5 ((H3.out.2.1.trans (hd4.mono (Nat.le_trans hbP (Nat.le_of_lt hP3)))).trans hB5))
    clear hM5 hB5 hd4
    go_wp2
    go_end0
    rw [HE.out]
    exact ⟨f5, G5, rfl, HFF.out.1, HFF.out.2⟩
  | false =>
   as_aux_lemma =>
    have hne : rf.toList.isEmpty = true := empty_of (by rw [← HRf.out]; exact refuse_empty.2 hrb)
    obtain ⟨s, hs⟩ : ∃ s, (m.get c).srv = some s := by
     have := HSR.out
     rw [hrb, Bool.or_false] at this
     exact Option.isSome_iff_exists.1 this
    have hlt := HIN.out.srvlt hs
    have hrk := HIN.out.req HW.out hrb
    obtain ⟨A, HAe⟩ : ∃ A, Hid ((doR m.e.w s r).2 = A) := ⟨_, jD rfl⟩
    obtain ⟨V, HVe⟩ : ∃ V, Hid ((doR m.e.w s r).1 = V) := ⟨_, jD rfl⟩
    obtain ⟨st, HSe⟩ : ∃ st, Hid ((V.at s).st = st) := ⟨_, jD rfl⟩
    have hdo := doR_ok HIN.out.w hlt hrk
    rw [HVe.out] at hdo
    have HA := jD (show AnsOk A by rw [← HAe.out]; exact doM_ans HIN.out.w hlt _ _ _)
    have HSB := jD (show 0 ≤ st ∧ st ≤ 2 by have := sess_at hdo.1 (i := s) (by rw [hdo.2]; exact hlt); rw [← HSe.out]; exact ⟨this.lo, this.hi⟩)
    have HPL := jD (show V.ss.length = m.busy.length by rw [hdo.2]; exact HIN.out.plen)
    obtain ⟨M4, HM4⟩ : ∃ x, Hid (Mach.tell (E := PE) { (m.set c { m.get c with wait := l }) with e := ⟨V, m.e.kept⟩, deeds := m.deeds ++ [⟨c, r, A, st⟩] } c A st = x) := ⟨_, jD rfl⟩
    have HK4 := jD (show MOk mode M4 ∧ M4.e.w.ss.length = M4.busy.length ∧ M4.e.kept.length = 6 ∧ (M4.get c).srv = some s by
     rw [← HM4.out]
     exact ⟨HIN.out.ok.did hc HRD.out HW.out rfl rfl rfl (by simp [Mach.tell, Mach.set, HIN.out.ok.s6]), HPL.out, HIN.out.klen, by show ((m.set c { m.get c with wait := l }).get c).srv = some s; rw [get_set (by rw [HIN.out.ok.n6]; exact hc), if_pos rfl]; exact hs⟩)
    have HE := jD (show m.proc poolO mode c = if mode ≠ 1 ∧ st = 0 then M4.release poolO c s else M4 by
     unfold Mach.proc
     simp only [HW.out]
     rw [if_neg (by rw [hrb]; simp), show (m.get c).srv.getD 0 = s by rw [hs]; rfl]
     have he : poolO.exec m.e c s r = (⟨V, m.e.kept⟩, A, st) := by
      show ((⟨(doR m.e.w s r).1, m.e.kept⟩ : PE), (doR m.e.w s r).2, ((doR m.e.w s r).1.at s).st) = _
      rw [HVe.out, HAe.out, HSe.out]
     rw [he]
     show (if mode ≠ 1 ∧ st = 0 then Mach.release poolO (Mach.tell (E := PE) { (m.set c { m.get c with wait := l }) with e := ⟨V, m.e.kept⟩, deeds := m.deeds ++ [⟨c, r, A, st⟩] } c A st) c s else Mach.tell (E := PE) { (m.set c { m.get c with wait := l }) with e := ⟨V, m.e.kept⟩, deeds := m.deeds ++ [⟨c, r, A, st⟩] } c A st) = _
     rw [HM4.out])
    have HDO := jD (fun (wc : World) (h1 : PMem 0 wc base P (upd f (4 + c * 6 + 1) vq) G mode (m.set c { m.get c with wait := l })) (h2 : Tabs wc base) => doP_any wc h1 h2 HIN.out.w s hlt r hrk)
    rw [show (m.set c { m.get c with wait := l }).e.w = m.e.w from rfl, HVe.out, HAe.out, HSe.out] at HDO
    have hgs : ((m.set c { m.get c with wait := l }).get c).srv = some s := by rw [get_set (by rw [HIN.out.ok.n6]; exact hc), if_pos rfl]; exact hs
    have HGS := jD hgs
    have a3 := H3.out.1.row.cell (j := 4 + c * 6 + 3) (by omega)
    obtain ⟨q, hq, hqs⟩ := H3.out.1.srv c hc
    obtain rfl := hqs s hgs
    rw [hq] at a3
    obtain ⟨x0, x1, x2⟩ := cells3 H3.out.2.2.1
    clear hrb hlt hrk hdo hgs hq hqs HAe HVe HSe
    unfold ptr at HDO
    go_wp2_with fail
    refine wp_region_z 8 (fun wx => wx.cell? ⟨P, 4 + c * 6 + 3, none⟩ = some (.int .i64 s) ∧ wx.cell? ⟨w.heap.size, 0, none⟩ = some (.int .i64 r.k) ∧ wx.cell? ⟨w.heap.size, 1, none⟩ = some (.string r.key) ∧ wx.cell? ⟨w.heap.size, 2, none⟩ = some (.string r.val)) (by kernel_rfl) (show w3.drew.cell? ⟨P, 4 + c * 6 + 3, none⟩ = some (.int .i64 s) ∧ w3.drew.cell? ⟨w.heap.size, 0, none⟩ = some (.int .i64 r.k) ∧ w3.drew.cell? ⟨w.heap.size, 1, none⟩ = some (.string r.key) ∧ w3.drew.cell? ⟨w.heap.size, 2, none⟩ = some (.string r.val) from ⟨a3, x0, x1, x2⟩) (fun hS => ?_)
    refine tkE [(0, []), (1, []), (2, []), (3, []), (4, []), (5, [])] ?_
    iterate 6
     refine tkS (v := ?_) hS ?_ ?_
     rotate_left
     ·(intro w hSw; (try dsimp only at hSw); (try simp only [gTA, gCZ, gCS]); go_simp; try with_reducible rfl)
     (try simp only [gTA, gCZ, gCS, Act.put, sTA, sCZ, sCS])
    refine tkF ?_
    refine grid1 (i := 6) (p := 7) (di := 46) (dp := 7) (tp := 46) (zp := #[.int .i64 0, .string ⟨#[]⟩, .int .i64 0]) (L := fun x y => #[true, true, true, true, true, true, x, y, false]) ⟨_, rfl, rfl, rfl, fun ev w => (by go_simp; rfl)⟩ (by decide) (by kernel_rfl) (by kernel_rfl) (by kernel_rfl) rfl rfl rfl rfl 1 (R := fun v wc w' => ∃ f', v = .agg #[.int .i64 A.kind, .string A.text, .int .i64 st] ∧ PMem 0 w' base P f' G mode { (m.set c { m.get c with wait := l }) with e := ⟨V, m.e.kept⟩ } ∧ Below base wc w' ∧ Only P wc w') (F := fun v b1 w' => (∃ f', v = .agg #[.int .i64 A.kind, .string A.text, .int .i64 st] ∧ PMem 0 w' base P f' G mode { (m.set c { m.get c with wait := l }) with e := ⟨V, m.e.kept⟩ }) ∧ Below base w3 w' ∧ Only P w3 w' ∧ RowTo w' b1 46 3 [.int .i64 0, .string ⟨#[]⟩, .int .i64 0] ∧ w3.heap.size ≤ b1) ?pc1 ?pc2 ?ps1 ?ps2 ?pf1 ?pf2 ?psf ?pfin
    case pc1 =>
     refine wpOp_wp rfl rfl (wp_call (g := 75) (args := #[.pointer (some ⟨P, 0, none⟩), .int .i64 s, .agg #[.int .i64 r.k, .string r.key, .string r.val]]) ?_ ?_)
     ·(try simp only [gTA, gCZ, gCS, Go.Act.put, sTA, sCZ, sCS]); go_simp; try rfl
     ·refine (HDO.out w3.drew (H3.out.1.below (Below.refl _ _).drew) (H3.out.2.2.2.below (Below.refl _ _).drew)).mono ?_
      rintro e w6 ⟨f6, rfl, hM6, hB6, hO6⟩
      exact ⟨_, rfl, _, rfl, f6, rfl, hM6, hB6, hO6⟩
    case pc2 =>
     refine wpOp_wp rfl rfl (wp_call (g := 75) (args := #[.pointer (some ⟨P, 0, none⟩), .int .i64 s, .agg #[.int .i64 r.k, .string r.key, .string r.val]]) ?_ ?_)
     ·(try simp only [pt, gTA, gCZ, gCS, Go.Act.put, sTA, sCZ, sCS]); go_simp; try rfl
     ·have na : Below w3.heap.size w3 (w3.drew.alloc (.cells #[.int .i64 0, .string ⟨#[]⟩, .int .i64 0] 46)) := (Below.refl _ _).drew.alloc (nL _) _
      refine (HDO.out _ (H3.out.1.below na) (H3.out.2.2.2.below (na.mono (Nat.le_trans hbP (Nat.le_of_lt hP3))))).mono ?_
      rintro e w6 ⟨f6, rfl, hM6, hB6, hO6⟩
      exact ⟨_, rfl, _, rfl, f6, rfl, hM6, hB6, hO6⟩
    case ps1 =>
     rintro v w' ⟨f', _, hM', _, hO'⟩
     exact ⟨(by have e1 := hM'.row.cell (j := 4 + c * 6 + 3) (by omega); obtain ⟨q', hq', hqs'⟩ := hM'.srv c hc; obtain rfl := hqs' s HGS.out; rw [hq'] at e1; exact e1), (World.cell?_of_block (a := ⟨w.heap.size, 0, none⟩) (hO'.2 _ hXl3 (Ne.symm hPX))).trans x0, (World.cell?_of_block (a := ⟨w.heap.size, 1, none⟩) (hO'.2 _ hXl3 (Ne.symm hPX))).trans x1, (World.cell?_of_block (a := ⟨w.heap.size, 2, none⟩) (hO'.2 _ hXl3 (Ne.symm hPX))).trans x2⟩
    case ps2 =>
     have na : Below w3.heap.size w3 (w3.drew.alloc (.cells #[.int .i64 0, .string ⟨#[]⟩, .int .i64 0] 46)) := (Below.refl _ _).drew.alloc (nL _) _
     exact ⟨(na.cell (p := ⟨P, 4 + c * 6 + 3, none⟩) hP3).trans a3, (na.cell (p := ⟨w.heap.size, 0, none⟩) hXl3).trans x0, (na.cell (p := ⟨w.heap.size, 1, none⟩) hXl3).trans x1, (na.cell (p := ⟨w.heap.size, 2, none⟩) hXl3).trans x2⟩
    case pf1 =>
     rintro v w' ⟨f', hv, hM', hB', hO'⟩
     have na := (Below.refl w'.heap.size w').alloc (nL _) (.cells #[.int .i64 0, .string ⟨#[]⟩, .int .i64 0] 46)
     exact ⟨⟨f', hv, hM'.below na⟩, ((Below.refl base w3).drew.trans hB').trans (na.mono (Nat.le_trans hbP (Nat.le_of_lt hM'.row.lt))), ((Only.below (P := P) (Below.refl w3.heap.size w3).drew).trans hO').trans (Only.below na), RowTo.whole w' _ _, hO'.1⟩
    case pf2 =>
     rintro v w' ⟨f', hv, hM', hB', hO'⟩
     have na : Below w3.heap.size w3 (w3.drew.alloc (.cells #[.int .i64 0, .string ⟨#[]⟩, .int .i64 0] 46)) := (Below.refl _ _).drew.alloc (nL _) _
     exact ⟨⟨f', hv, hM'⟩, (na.mono (Nat.le_trans hbP (Nat.le_of_lt hP3))).trans hB', (Only.below (P := P) na).trans hO', (RowTo.whole w3.drew _ _).same (hO'.2 _ (show w3.heap.size < (w3.drew.alloc _).heap.size by rw [World.size_alloc]; exact Nat.lt_succ_self _) (by show w3.heap.size ≠ P; omega)), nL _⟩
    case psf =>
     rintro v b1 w' ⟨⟨f', _, hM'⟩, _, hO', _⟩
     exact ⟨(by have e1 := hM'.row.cell (j := 4 + c * 6 + 3) (by omega); obtain ⟨q', hq', hqs'⟩ := hM'.srv c hc; obtain rfl := hqs' s HGS.out; rw [hq'] at e1; exact e1), (World.cell?_of_block (a := ⟨w.heap.size, 0, none⟩) (hO'.2 _ hXl3 (Ne.symm hPX))).trans x0, (World.cell?_of_block (a := ⟨w.heap.size, 1, none⟩) (hO'.2 _ hXl3 (Ne.symm hPX))).trans x1, (World.cell?_of_block (a := ⟨w.heap.size, 2, none⟩) (hO'.2 _ hXl3 (Ne.symm hPX))).trans x2⟩
    case pfin =>
     rintro v b1 w6 ⟨⟨f6, rfl, hM6⟩, hB6, hO6, hR6, hb6⟩
     obtain ⟨y0, y1, y2⟩ := cells3 hR6
     have z0 := hR6.frozen 0
     have z1 := hR6.frozen 1
     have z2 := hR6.frozen 2
     have hb1P : b1 ≠ P := by omega
     have hGb : ∀ i, G i ≠ some b1 := fun i hi => by have := (H3.out.1.lo i b1 hi).2; omega
     have hM7 := hM6.ans3 hR6 hGb (.int .i64 A.kind) (.string A.text) (.int .i64 st)
     have hR7 := hR6.set3 (.int .i64 A.kind) (.string A.text) (.int .i64 st)
     have hB7 := bel_set3 (H3.out.2.1.trans hB6) (show base ≤ b1 by omega) (.int .i64 A.kind) (.string A.text) (.int .i64 st)
     have hbX : b1 ≠ w.heap.size := by omega
     have hX7 := (((H3.out.2.2.1.same (hO6.2 _ hXl3 (Ne.symm hPX))).other (p := ⟨b1, 0, none⟩) hbX (.int .i64 A.kind)).other (p := ⟨b1, 1, none⟩) hbX (.string A.text)).other (p := ⟨b1, 2, none⟩) hbX (.int .i64 st)
     have hT7 := (H3.out.2.2.2.below hB6).below (bel_set3 (Below.refl base w6) (show base ≤ b1 by omega) (.int .i64 A.kind) (.string A.text) (.int .i64 st))
     simp only [pt, Go.Act.put, sTA, sCZ, sCS]
     refine wpAnyZ_last rfl rfl (by kernel_rfl) (by kernel_rfl) (fun K hK => ?_)
     (try simp only [gTA, gCZ, gCS])
     go_simp
     refine hK.out _ _ ?_
     clear hK K
     (try simp only [gTA, gCZ, gCS, Act.put, sTA, sCZ, sCS])
     have HFB := jD (show Free G b1 from hGb)
     have hb1l := hR7.lt
     have hXl7 := hX7.lt
     obtain ⟨W7, HW7⟩ : ∃ u, Hid ((((w6.setCell ⟨b1, 0, none⟩ (.int .i64 A.kind)).setCell ⟨b1, 1, none⟩ (.string A.text)).setCell ⟨b1, 2, none⟩ (.int .i64 st)) = u) := ⟨_, jD rfl⟩
     rw [HW7.out] at hM7 hR7 hB7 hX7 hT7 hb1l hXl7 ⊢
     clear HW7 hM6 hB6 hO6 hR6 y0 y1 y2 z0 z1 z2 H3 HDO hP3 hXl3 a3 x0 x1 x2 hGb
     have d7 := hM7.row.cell (j := 47) (by omega)
     have hP7 := hM7.row.lt
     obtain ⟨x0, x1, x2⟩ := cells3 hX7
     obtain ⟨y0, y1, y2⟩ := cells3 hR7
     have nd := ((Below.refl W7.heap.size W7).drew).alloc (nL _) (.cells #[.int .i64 (c : Int), .int .i64 r.k, .string r.key, .string r.val, .int .i64 A.kind, .string A.text, .int .i64 st] 70)
     have hM7a := hM7.below nd
     have hXd := RowTo.whole W7.drew #[.int .i64 (c : Int), .int .i64 r.k, .string r.key, .string r.val, .int .i64 A.kind, .string A.text, .int .i64 st] 70
     obtain ⟨bd, od, cd, w8, hrun, u0, uz, hP8, hM8, hB8, hK8, hF8⟩ := hM7a.deeded (HIN.out.deeds hN) (ad := W7.heap.size) ⟨c, r, A, st⟩ (fun j u hu => by
      obtain ⟨hj, hu⟩ := List.getElem?_eq_some_iff.1 hu
      rw [← hu]
      exact hXd.cell hj)
     have hrun' : (Builtin.append_ #[26, 26] 26 #[f6 47, .slice (some ⟨W7.heap.size, 0, none⟩) 1 1]).run Tryz.prog (W7.drew.alloc (.cells #[.int .i64 (c : Int), .int .i64 r.k, .string r.key, .string r.val, .int .i64 A.kind, .string A.text, .int .i64 st] 70)) = .ok (.slice (some ⟨bd, od, none⟩) (m.deeds.length + 1) cd) w8 := hrun
     have hFb := hF8 b1 (Nat.lt_of_lt_of_le hb1l nd.size) HFB.out
     have hbk : w8.heap[b1]? = W7.heap[b1]? := (hK8.2 b1 (Nat.lt_of_lt_of_le hb1l nd.size) HFB.out).trans (nd.block b1 hb1l)
     have hFX : Free G w.heap.size := fun i hi => HFX.out i hi
     have hbkX : w8.heap[w.heap.size]? = W7.heap[w.heap.size]? := (hK8.2 _ (Nat.lt_of_lt_of_le hXl7 nd.size) hFX).trans (nd.block _ hXl7)
     have hR8 := (hR7.same hbk).other (p := ⟨P, 47, none⟩) (Ne.symm hb1P) (.slice (some ⟨bd, od, none⟩) (m.deeds.length + 1) cd)
     have hM8' : PMem 0 (w8.setCell ⟨P, 47, none⟩ (.slice (some ⟨bd, od, none⟩) (m.deeds.length + 1) cd)) base P (upd f6 47 (.slice (some ⟨bd, od, none⟩) (m.deeds.length + 1) cd)) (upd G 15 (some bd)) mode { (m.set c { m.get c with wait := l }) with e := ⟨V, m.e.kept⟩, deeds := m.deeds ++ [⟨c, r, A, st⟩] } := hM8
     have hB8' : Below base (W7.drew.alloc (.cells #[.int .i64 (c : Int), .int .i64 r.k, .string r.key, .string r.val, .int .i64 A.kind, .string A.text, .int .i64 st] 70)) (w8.setCell ⟨P, 47, none⟩ (.slice (some ⟨bd, od, none⟩) (m.deeds.length + 1) cd)) := hB8
     have H8 := jD (And.intro hM8' (And.intro (hB7.trans ((nd.mono (Nat.le_trans hbP (Nat.le_of_lt hP7))).trans hB8')) (And.intro hR8 ((hT7.below (nd.mono (Nat.le_trans hbP (Nat.le_of_lt hP7)))).below hB8'))))
     have HBK := jD (And.intro hbk hbkX)
     have HFb := jD hFb
     have HND := jD nd
     obtain ⟨Af, cf, hf47, _⟩ := (hM7.sl 15 (by omega) (by omega) (by omega)).shape
     have hf47' : f6 47 = .slice Af m.deeds.length cf := by rw [items_deeds, List.length_map] at hf47; exact hf47
     have HXD := jD hXd
     clear hM7 hM7a hM8 hM8' hB7 hB8 hB8' hK8 hF8 hrun hR8 hX7 hT7 hFb hbk hbkX nd hf47 hFX hXd hR7
     generalize f6 47 = v47 at *
     subst hf47'
     go_wp2_with fail
     refine wp_region_z 13 (fun wx => wx.cell? ⟨P, 47, none⟩ = some (.slice Af m.deeds.length cf) ∧ wx.cell? ⟨w.heap.size, 0, none⟩ = some (.int .i64 r.k) ∧ wx.cell? ⟨w.heap.size, 1, none⟩ = some (.string r.key) ∧ wx.cell? ⟨w.heap.size, 2, none⟩ = some (.string r.val) ∧ wx.cell? ⟨b1, 0, none⟩ = some (.int .i64 A.kind) ∧ wx.cell? ⟨b1, 1, none⟩ = some (.string A.text) ∧ wx.cell? ⟨b1, 2, none⟩ = some (.int .i64 st)) (by kernel_rfl) (show W7.drew.cell? ⟨P, 47, none⟩ = some (.slice Af m.deeds.length cf) ∧ W7.drew.cell? ⟨w.heap.size, 0, none⟩ = some (.int .i64 r.k) ∧ W7.drew.cell? ⟨w.heap.size, 1, none⟩ = some (.string r.key) ∧ W7.drew.cell? ⟨w.heap.size, 2, none⟩ = some (.string r.val) ∧ W7.drew.cell? ⟨b1, 0, none⟩ = some (.int .i64 A.kind) ∧ W7.drew.cell? ⟨b1, 1, none⟩ = some (.string A.text) ∧ W7.drew.cell? ⟨b1, 2, none⟩ = some (.int .i64 st) from ⟨d7, x0, x1, x2, y0, y1, y2⟩) (fun hS => ?_)
     refine tkE [(0, []), (1, []), (2, []), (3, []), (4, []), (5, []), (6, []), (7, [])] ?_
     iterate 8
      refine tkS (v := ?_) hS ?_ ?_
      rotate_left
      ·(intro w hSw; (try dsimp only at hSw); (try simp only [gTA, gCZ, gCS]); go_simp; try with_reducible rfl)
      (try simp only [gTA, gCZ, gCS, Act.put, sTA, sCZ, sCS])
     refine tkF ?_
     refine wpAnyZ_take (i := 8) (v := .agg #[.int .i64 (c : Int), .int .i64 r.k, .string r.key, .string r.val, .int .i64 A.kind, .string A.text, .int .i64 st]) rfl (by kernel_rfl) (by kernel_rfl) (by kernel_rfl) (by kernel_rfl) (fun _ _ _ h => h) (Or.inl ⟨by rfl, ?ypb8⟩) hS ?rpb8
     case ypb8 => exact fun w _ => exec_deed rfl rfl rfl rfl w
     (try simp only [gTA, gCZ, gCS, Act.put, sTA, sCZ, sCS])
     refine wpAnyZ_one (i := 9) rfl rfl (by kernel_rfl) (fun K hK => ?_)
     (try simp only [gTA, gCZ, gCS])
     refine wp_val (exec_deeds rfl rfl _) ?_
     have hS2 := (show (W7.drew.alloc (.cells #[.int .i64 (c : Int), .int .i64 r.k, .string r.key, .string r.val, .int .i64 A.kind, .string A.text, .int .i64 st] 70)).cell? ⟨P, 47, none⟩ = some (.slice Af m.deeds.length cf) ∧ (W7.drew.alloc (.cells #[.int .i64 (c : Int), .int .i64 r.k, .string r.key, .string r.val, .int .i64 A.kind, .string A.text, .int .i64 st] 70)).cell? ⟨w.heap.size, 0, none⟩ = some (.int .i64 r.k) ∧ (W7.drew.alloc (.cells #[.int .i64 (c : Int), .int .i64 r.k, .string r.key, .string r.val, .int .i64 A.kind, .string A.text, .int .i64 st] 70)).cell? ⟨w.heap.size, 1, none⟩ = some (.string r.key) ∧ (W7.drew.alloc (.cells #[.int .i64 (c : Int), .int .i64 r.k, .string r.key, .string r.val, .int .i64 A.kind, .string A.text, .int .i64 st] 70)).cell? ⟨w.heap.size, 2, none⟩ = some (.string r.val) ∧ (W7.drew.alloc (.cells #[.int .i64 (c : Int), .int .i64 r.k, .string r.key, .string r.val, .int .i64 A.kind, .string A.text, .int .i64 st] 70)).cell? ⟨b1, 0, none⟩ = some (.int .i64 A.kind) ∧ (W7.drew.alloc (.cells #[.int .i64 (c : Int), .int .i64 r.k, .string r.key, .string r.val, .int .i64 A.kind, .string A.text, .int .i64 st] 70)).cell? ⟨b1, 1, none⟩ = some (.string A.text) ∧ (W7.drew.alloc (.cells #[.int .i64 (c : Int), .int .i64 r.k, .string r.key, .string r.val, .int .i64 A.kind, .string A.text, .int .i64 st] 70)).cell? ⟨b1, 2, none⟩ = some (.int .i64 st) from ⟨(HND.out.cell (p := ⟨P, 47, none⟩) hP7).trans d7, (HND.out.cell (p := ⟨w.heap.size, 0, none⟩) hXl7).trans x0, (HND.out.cell (p := ⟨w.heap.size, 1, none⟩) hXl7).trans x1, (HND.out.cell (p := ⟨w.heap.size, 2, none⟩) hXl7).trans x2, (HND.out.cell (p := ⟨b1, 0, none⟩) hb1l).trans y0, (HND.out.cell (p := ⟨b1, 1, none⟩) hb1l).trans y1, (HND.out.cell (p := ⟨b1, 2, none⟩) hb1l).trans y2⟩)
     refine hK.out _ _ hS2 ?_
     clear hK K hS
     have hS := hS2
     clear hS2
     (try simp only [gTA, gCZ, gCS, Act.put, sTA, sCZ, sCS])
     refine wpAnyZ_one (i := 10) rfl rfl (by kernel_rfl) (fun K hK => ?_)
     (try simp only [gTA, gCZ, gCS])
     refine Lib.wp_append_run _ _ _ _ _ rfl _ _ rfl rfl _ _ hrun' ?_
     have hS2 := (show w8.cell? ⟨P, 47, none⟩ = some (.slice Af m.deeds.length cf) ∧ w8.cell? ⟨w.heap.size, 0, none⟩ = some (.int .i64 r.k) ∧ w8.cell? ⟨w.heap.size, 1, none⟩ = some (.string r.key) ∧ w8.cell? ⟨w.heap.size, 2, none⟩ = some (.string r.val) ∧ w8.cell? ⟨b1, 0, none⟩ = some (.int .i64 A.kind) ∧ w8.cell? ⟨b1, 1, none⟩ = some (.string A.text) ∧ w8.cell? ⟨b1, 2, none⟩ = some (.int .i64 st) from ⟨u0, (World.cell?_of_block (a := ⟨w.heap.size, 0, none⟩) HBK.out.2).trans x0, (World.cell?_of_block (a := ⟨w.heap.size, 1, none⟩) HBK.out.2).trans x1, (World.cell?_of_block (a := ⟨w.heap.size, 2, none⟩) HBK.out.2).trans x2, (World.cell?_of_block (a := ⟨b1, 0, none⟩) HBK.out.1).trans y0, (World.cell?_of_block (a := ⟨b1, 1, none⟩) HBK.out.1).trans y1, (World.cell?_of_block (a := ⟨b1, 2, none⟩) HBK.out.1).trans y2⟩)
     refine hK.out _ _ hS2 ?_
     clear hK K hS
     have hS := hS2
     clear hS2
     (try simp only [gTA, gCZ, gCS, Act.put, sTA, sCZ, sCS])
     refine tkE [(11, [12]), (12, [])] ?_
     iterate 2
      refine tkS (v := ?_) hS ?_ ?_
      rotate_left
      ·(intro w hSw; (try dsimp only at hSw); (try simp only [gTA, gCZ, gCS]); go_simp; try with_reducible rfl)
      (try simp only [gTA, gCZ, gCS, Act.put, sTA, sCZ, sCS])
     refine tkF ?_
     refine wpAnyZ_last rfl rfl (by kernel_rfl) (by kernel_rfl) (fun K hK => ?_)
     (try simp only [gTA, gCZ, gCS])
     go_simp
     refine hK.out _ _ ?_
     clear hK K
     (try simp only [gTA, gCZ, gCS, Act.put, sTA, sCZ, sCS])
     clear hS d7 x0 x1 x2 y0 y1 y2 hrun' HBK HND u0 uz HXD
     obtain ⟨W8, HW8⟩ : ∃ u, Hid (w8.setCell ⟨P, 47, none⟩ (.slice (some ⟨bd, od, none⟩) (m.deeds.length + 1) cd) = u) := ⟨_, jD rfl⟩
     rw [HW8.out] at H8 ⊢
     clear HW8
     obtain ⟨y0, y1, y2⟩ := cells3 H8.out.2.2.1
     have hb8 := H8.out.2.2.1.lt
     have HS9 := jD (send_any W8 H8.out.1 H8.out.2.2.2 HIN.out.ok.s6 c hc A st HA.out HSB.out (HIN.out.sent hN c))
     unfold ptr at HS9
     go_wp2_with fail
     refine HS9.out.mono ?_
     rintro e w9 ⟨f9, G9, rfl, hM9, hB9, hK9⟩
     have hM9' : PMem 0 w9 base P f9 G9 mode (Mach.tell (E := PE) { (m.set c { m.get c with wait := l }) with e := ⟨V, m.e.kept⟩, deeds := m.deeds ++ [⟨c, r, A, st⟩] } c A st) := hM9
     rw [HM4.out] at hM9'
     clear hM9
     have hM9 := hM9'
     clear hM9'
     have y9 := (World.cell?_of_block (a := ⟨b1, 2, none⟩) (hK9.2 b1 hb8 HFb.out)).trans y2
     have hb9 : b1 < w9.heap.size := Nat.lt_of_lt_of_le hb8 hK9.1
     have m9 := hM9.row.cell (j := 0) (by omega)
     rw [hM9.md] at m9
     have hP9 := hM9.row.lt
     have H9 := jD (And.intro hM9 (H8.out.2.1.trans hB9))
     clear hM9 hB9 hK9 HS9 y0 y1 y2 H8
     by_cases hmo : mode = 1
     ·have t1 : (mode != 1) = false := by simp [hmo]
      have HE2 := jD (HE.out.trans (if_neg (fun hh => hh.1 hmo)))
      clear hmo HE
      go_wp2
      go_end0
      rw [HE2.out]
      exact ⟨f9, G9, rfl, H9.out.1, H9.out.2⟩
     have t1 : (mode != 1) = true := by simp [hmo]
     by_cases hst : st = 0
     ·have t2 : (st == 0) = true := by simp [hst]
      have HE2 := jD (HE.out.trans (if_pos ⟨hmo, hst⟩))
      have HRL := jD (release_any w9 H9.out.1 HK4.out.1 HK4.out.2.1 HK4.out.2.2.1 hc (s := s) HK4.out.2.2.2)
      unfold ptr at HRL
      clear hmo hst HE
      go_wp2_with fail
      refine HRL.out.mono ?_
      rintro e wA ⟨fA, rfl, hMA, hBA⟩
      have HFF := jD (And.intro hMA (H9.out.2.trans hBA))
      clear hMA hBA HRL
      go_wp2
      go_end0
      rw [HE2.out]
      exact ⟨fA, G9, rfl, HFF.out.1, HFF.out.2⟩
     ·have t2 : (st == 0) = false := by simp [hst]
      have HE2 := jD (HE.out.trans (if_neg (fun hh => hst hh.2)))
      clear hmo hst HE
      go_wp2
      go_end0
      rw [HE2.out]
      exact ⟨f9, G9, rfl, H9.out.1, H9.out.2⟩
 ·have HVQ := jD (show Value.slice (some ⟨b, off + 3, none⟩) nl (cap - 1) = vq by rw [← hvq]; unfold cutv; rw [if_neg hcp])
  clear hvq
  have hcp2 : cap - 1 ≠ 0 := by omega
  have hcp3 : ¬ cap ≤ 1 := by omega
  go_enter Tryz.func100, Tryz.ntmps100
  go_wp2_with fail
  simp only [HVQ.out]
  have hm0 := H1.out.1.row.cell (j := 0) (by omega)
  rw [H1.out.1.md] at hm0
  refine (HRF.out _ hm0 H1.out.1.row.lt).mono ?_
  rintro e w3 ⟨rfl, hb3⟩
  have H3 := jD (And.intro (H1.out.1.below hb3) (And.intro (bel_add' H1.out.2.1 hb3 (Nat.le_trans hbP (Nat.le_of_lt H1.out.1.row.lt))) (And.intro (H1.out.2.2.1.below hb3 (by have := H1.out.2.2.1.lt; exact this)) (H1.out.2.2.2.below (hb3.mono (show base ≤ ((w.setCell ⟨P, 4 + c * 6 + 1, none⟩ vq).alloc (.cells #[.int .i64 r.k, .string r.key, .string r.val] 41)).heap.size from Nat.le_trans hbP (Nat.le_of_lt H1.out.1.row.lt)))))))
  have hP3 := H3.out.1.row.lt
  have hXl3 := H3.out.2.2.1.lt
  clear hb3 hm0 H1 HRF x0 x1 x2 c0 c1 c2 p1 p1' z1'
  cases hrb : refB mode r with
  | true =>
   as_aux_lemma =>
    have hne : rf.toList.isEmpty = false := full_of (by
     have hh : rf.size ≠ 0 := fun h0 => by rw [← HRf.out] at h0; rw [refuse_empty.1 h0] at hrb; cases hrb
     omega)
    have HA := jD (show AnsOk ⟨4, rf⟩ by rw [← HRf.out]; exact ref_ans hrb)
    have HE := jD (show m.proc poolO mode c = (m.set c { m.get c with wait := l }).tell c ⟨4, rf⟩ (m.e.state (m.get c).srv) by
     unfold Mach.proc
     simp only [HW.out]
     rw [if_pos hrb, HRf.out]
     rfl)
    have hok1 : MOk mode (m.set c { m.get c with wait := l }) := HIN.out.ok.did hc HRD.out HW.out rfl rfl rfl HIN.out.ok.s6
    have HST := jD (state_any w3 H3.out.1 hok1 HIN.out.plen hc)
    have hgs : (m.set c { m.get c with wait := l }).e.state ((m.set c { m.get c with wait := l }).get c).srv = m.e.state (m.get c).srv := by rw [get_set (by rw [HIN.out.ok.n6]; exact hc), if_pos rfl]; rfl
    rw [hgs] at HST
    have HSB := jD (HIN.out.state hc)
    generalize m.e.state (m.get c).srv = st at *
    unfold ptr at HST
    clear hrb hgs hok1
    go_wp2_with fail
    refine HST.out.mono ?_
    rintro e w4 ⟨rfl, k4, rfl⟩
    go_wp2_with fail
    have hd4 : Below w3.heap.size w3 (w3.drewN k4) := below_drewN (Below.refl _ _) k4
    refine (send_any (w3.drewN k4) (H3.out.1.below hd4) (H3.out.2.2.2.below (hd4.mono (Nat.le_trans hbP (Nat.le_of_lt hP3)))) HIN.out.ok.s6 c hc ⟨4, rf⟩ st HA.out HSB.out (HIN.out.sent hN c)).mono ?_
    rintro e w5 ⟨f5, G5, rfl, hM5, hB5, _⟩
    have HFF := jD (And.intro hM5 ((H3.out.2.1.trans (hd4.mono (Nat.le_trans hbP (Nat.le_of_lt hP3)))).trans hB5))
    clear hM5 hB5 hd4
    go_wp2
    go_end0
    rw [HE.out]
    exact ⟨f5, G5, rfl, HFF.out.1, HFF.out.2⟩
  | false =>
   as_aux_lemma =>
    have hne : rf.toList.isEmpty = true := empty_of (by rw [← HRf.out]; exact refuse_empty.2 hrb)
    obtain ⟨s, hs⟩ : ∃ s, (m.get c).srv = some s := by
     have := HSR.out
     rw [hrb, Bool.or_false] at this
     exact Option.isSome_iff_exists.1 this
    have hlt := HIN.out.srvlt hs
    have hrk := HIN.out.req HW.out hrb
    obtain ⟨A, HAe⟩ : ∃ A, Hid ((doR m.e.w s r).2 = A) := ⟨_, jD rfl⟩
    obtain ⟨V, HVe⟩ : ∃ V, Hid ((doR m.e.w s r).1 = V) := ⟨_, jD rfl⟩
    obtain ⟨st, HSe⟩ : ∃ st, Hid ((V.at s).st = st) := ⟨_, jD rfl⟩
    have hdo := doR_ok HIN.out.w hlt hrk
    rw [HVe.out] at hdo
    have HA := jD (show AnsOk A by rw [← HAe.out]; exact doM_ans HIN.out.w hlt _ _ _)
    have HSB := jD (show 0 ≤ st ∧ st ≤ 2 by have := sess_at hdo.1 (i := s) (by rw [hdo.2]; exact hlt); rw [← HSe.out]; exact ⟨this.lo, this.hi⟩)
    have HPL := jD (show V.ss.length = m.busy.length by rw [hdo.2]; exact HIN.out.plen)
    obtain ⟨M4, HM4⟩ : ∃ x, Hid (Mach.tell (E := PE) { (m.set c { m.get c with wait := l }) with e := ⟨V, m.e.kept⟩, deeds := m.deeds ++ [⟨c, r, A, st⟩] } c A st = x) := ⟨_, jD rfl⟩
    have HK4 := jD (show MOk mode M4 ∧ M4.e.w.ss.length = M4.busy.length ∧ M4.e.kept.length = 6 ∧ (M4.get c).srv = some s by
     rw [← HM4.out]
     exact ⟨HIN.out.ok.did hc HRD.out HW.out rfl rfl rfl (by simp [Mach.tell, Mach.set, HIN.out.ok.s6]), HPL.out, HIN.out.klen, by show ((m.set c { m.get c with wait := l }).get c).srv = some s; rw [get_set (by rw [HIN.out.ok.n6]; exact hc), if_pos rfl]; exact hs⟩)
    have HE := jD (show m.proc poolO mode c = if mode ≠ 1 ∧ st = 0 then M4.release poolO c s else M4 by
     unfold Mach.proc
     simp only [HW.out]
     rw [if_neg (by rw [hrb]; simp), show (m.get c).srv.getD 0 = s by rw [hs]; rfl]
     have he : poolO.exec m.e c s r = (⟨V, m.e.kept⟩, A, st) := by
      show ((⟨(doR m.e.w s r).1, m.e.kept⟩ : PE), (doR m.e.w s r).2, ((doR m.e.w s r).1.at s).st) = _
      rw [HVe.out, HAe.out, HSe.out]
     rw [he]
     show (if mode ≠ 1 ∧ st = 0 then Mach.release poolO (Mach.tell (E := PE) { (m.set c { m.get c with wait := l }) with e := ⟨V, m.e.kept⟩, deeds := m.deeds ++ [⟨c, r, A, st⟩] } c A st) c s else Mach.tell (E := PE) { (m.set c { m.get c with wait := l }) with e := ⟨V, m.e.kept⟩, deeds := m.deeds ++ [⟨c, r, A, st⟩] } c A st) = _
     rw [HM4.out])
    have HDO := jD (fun (wc : World) (h1 : PMem 0 wc base P (upd f (4 + c * 6 + 1) vq) G mode (m.set c { m.get c with wait := l })) (h2 : Tabs wc base) => doP_any wc h1 h2 HIN.out.w s hlt r hrk)
    rw [show (m.set c { m.get c with wait := l }).e.w = m.e.w from rfl, HVe.out, HAe.out, HSe.out] at HDO
    have hgs : ((m.set c { m.get c with wait := l }).get c).srv = some s := by rw [get_set (by rw [HIN.out.ok.n6]; exact hc), if_pos rfl]; exact hs
    have HGS := jD hgs
    have a3 := H3.out.1.row.cell (j := 4 + c * 6 + 3) (by omega)
    obtain ⟨q, hq, hqs⟩ := H3.out.1.srv c hc
    obtain rfl := hqs s hgs
    rw [hq] at a3
    obtain ⟨x0, x1, x2⟩ := cells3 H3.out.2.2.1
    clear hrb hlt hrk hdo hgs hq hqs HAe HVe HSe
    unfold ptr at HDO
    go_wp2_with fail
    refine wp_region_z 8 (fun wx => wx.cell? ⟨P, 4 + c * 6 + 3, none⟩ = some (.int .i64 s) ∧ wx.cell? ⟨w.heap.size, 0, none⟩ = some (.int .i64 r.k) ∧ wx.cell? ⟨w.heap.size, 1, none⟩ = some (.string r.key) ∧ wx.cell? ⟨w.heap.size, 2, none⟩ = some (.string r.val)) (by kernel_rfl) (show w3.drew.cell? ⟨P, 4 + c * 6 + 3, none⟩ = some (.int .i64 s) ∧ w3.drew.cell? ⟨w.heap.size, 0, none⟩ = some (.int .i64 r.k) ∧ w3.drew.cell? ⟨w.heap.size, 1, none⟩ = some (.string r.key) ∧ w3.drew.cell? ⟨w.heap.size, 2, none⟩ = some (.string r.val) from ⟨a3, x0, x1, x2⟩) (fun hS => ?_)
    refine tkE [(0, []), (1, []), (2, []), (3, []), (4, []), (5, [])] ?_
    iterate 6
     refine tkS (v := ?_) hS ?_ ?_
     rotate_left
     ·(intro w hSw; (try dsimp only at hSw); (try simp only [gTA, gCZ, gCS]); go_simp; try with_reducible rfl)
     (try simp only [gTA, gCZ, gCS, Act.put, sTA, sCZ, sCS])
    refine tkF ?_
    refine grid1 (i := 6) (p := 7) (di := 46) (dp := 7) (tp := 46) (zp := #[.int .i64 0, .string ⟨#[]⟩, .int .i64 0]) (L := fun x y => #[true, true, true, true, true, true, x, y, false]) ⟨_, rfl, rfl, rfl, fun ev w => (by go_simp; rfl)⟩ (by decide) (by kernel_rfl) (by kernel_rfl) (by kernel_rfl) rfl rfl rfl rfl 1 (R := fun v wc w' => ∃ f', v = .agg #[.int .i64 A.kind, .string A.text, .int .i64 st] ∧ PMem 0 w' base P f' G mode { (m.set c { m.get c with wait := l }) with e := ⟨V, m.e.kept⟩ } ∧ Below base wc w' ∧ Only P wc w') (F := fun v b1 w' => (∃ f', v = .agg #[.int .i64 A.kind, .string A.text, .int .i64 st] ∧ PMem 0 w' base P f' G mode { (m.set c { m.get c with wait := l }) with e := ⟨V, m.e.kept⟩ }) ∧ Below base w3 w' ∧ Only P w3 w' ∧ RowTo w' b1 46 3 [.int .i64 0, .string ⟨#[]⟩, .int .i64 0] ∧ w3.heap.size ≤ b1) ?qc1 ?qc2 ?qs1 ?qs2 ?qf1 ?qf2 ?qsf ?qfin
    case qc1 =>
     refine wpOp_wp rfl rfl (wp_call (g := 75) (args := #[.pointer (some ⟨P, 0, none⟩), .int .i64 s, .agg #[.int .i64 r.k, .string r.key, .string r.val]]) ?_ ?_)
     ·(try simp only [gTA, gCZ, gCS, Go.Act.put, sTA, sCZ, sCS]); go_simp; try rfl
     ·refine (HDO.out w3.drew (H3.out.1.below (Below.refl _ _).drew) (H3.out.2.2.2.below (Below.refl _ _).drew)).mono ?_
      rintro e w6 ⟨f6, rfl, hM6, hB6, hO6⟩
      exact ⟨_, rfl, _, rfl, f6, rfl, hM6, hB6, hO6⟩
    case qc2 =>
     refine wpOp_wp rfl rfl (wp_call (g := 75) (args := #[.pointer (some ⟨P, 0, none⟩), .int .i64 s, .agg #[.int .i64 r.k, .string r.key, .string r.val]]) ?_ ?_)
     ·(try simp only [pt, gTA, gCZ, gCS, Go.Act.put, sTA, sCZ, sCS]); go_simp; try rfl
     ·have na : Below w3.heap.size w3 (w3.drew.alloc (.cells #[.int .i64 0, .string ⟨#[]⟩, .int .i64 0] 46)) := (Below.refl _ _).drew.alloc (nL _) _
      refine (HDO.out _ (H3.out.1.below na) (H3.out.2.2.2.below (na.mono (Nat.le_trans hbP (Nat.le_of_lt hP3))))).mono ?_
      rintro e w6 ⟨f6, rfl, hM6, hB6, hO6⟩
      exact ⟨_, rfl, _, rfl, f6, rfl, hM6, hB6, hO6⟩
    case qs1 =>
     rintro v w' ⟨f', _, hM', _, hO'⟩
     exact ⟨(by have e1 := hM'.row.cell (j := 4 + c * 6 + 3) (by omega); obtain ⟨q', hq', hqs'⟩ := hM'.srv c hc; obtain rfl := hqs' s HGS.out; rw [hq'] at e1; exact e1), (World.cell?_of_block (a := ⟨w.heap.size, 0, none⟩) (hO'.2 _ hXl3 (Ne.symm hPX))).trans x0, (World.cell?_of_block (a := ⟨w.heap.size, 1, none⟩) (hO'.2 _ hXl3 (Ne.symm hPX))).trans x1, (World.cell?_of_block (a := ⟨w.heap.size, 2, none⟩) (hO'.2 _ hXl3 (Ne.symm hPX))).trans x2⟩
    case qs2 =>
     have na : Below w3.heap.size w3 (w3.drew.alloc (.cells #[.int .i64 0, .string ⟨#[]⟩, .int .i64 0] 46)) := (Below.refl _ _).drew.alloc (nL _) _
     exact ⟨(na.cell (p := ⟨P, 4 + c * 6 + 3, none⟩) hP3).trans a3, (na.cell (p := ⟨w.heap.size, 0, none⟩) hXl3).trans x0, (na.cell (p := ⟨w.heap.size, 1, none⟩) hXl3).trans x1, (na.cell (p := ⟨w.heap.size, 2, none⟩) hXl3).trans x2⟩
    case qf1 =>
     rintro v w' ⟨f', hv, hM', hB', hO'⟩
     have na := (Below.refl w'.heap.size w').alloc (nL _) (.cells #[.int .i64 0, .string ⟨#[]⟩, .int .i64 0] 46)
     exact ⟨⟨f', hv, hM'.below na⟩, ((Below.refl base w3).drew.trans hB').trans (na.mono (Nat.le_trans hbP (Nat.le_of_lt hM'.row.lt))), ((Only.below (P := P) (Below.refl w3.heap.size w3).drew).trans hO').trans (Only.below na), RowTo.whole w' _ _, hO'.1⟩
    case qf2 =>
     rintro v w' ⟨f', hv, hM', hB', hO'⟩
     have na : Below w3.heap.size w3 (w3.drew.alloc (.cells #[.int .i64 0, .string ⟨#[]⟩, .int .i64 0] 46)) := (Below.refl _ _).drew.alloc (nL _) _
     exact ⟨⟨f', hv, hM'⟩, (na.mono (Nat.le_trans hbP (Nat.le_of_lt hP3))).trans hB', (Only.below (P := P) na).trans hO', (RowTo.whole w3.drew _ _).same (hO'.2 _ (show w3.heap.size < (w3.drew.alloc _).heap.size by rw [World.size_alloc]; exact Nat.lt_succ_self _) (by show w3.heap.size ≠ P; omega)), nL _⟩
    case qsf =>
     rintro v b1 w' ⟨⟨f', _, hM'⟩, _, hO', _⟩
     exact ⟨(by have e1 := hM'.row.cell (j := 4 + c * 6 + 3) (by omega); obtain ⟨q', hq', hqs'⟩ := hM'.srv c hc; obtain rfl := hqs' s HGS.out; rw [hq'] at e1; exact e1), (World.cell?_of_block (a := ⟨w.heap.size, 0, none⟩) (hO'.2 _ hXl3 (Ne.symm hPX))).trans x0, (World.cell?_of_block (a := ⟨w.heap.size, 1, none⟩) (hO'.2 _ hXl3 (Ne.symm hPX))).trans x1, (World.cell?_of_block (a := ⟨w.heap.size, 2, none⟩) (hO'.2 _ hXl3 (Ne.symm hPX))).trans x2⟩
    case qfin =>
     rintro v b1 w6 ⟨⟨f6, rfl, hM6⟩, hB6, hO6, hR6, hb6⟩
     obtain ⟨y0, y1, y2⟩ := cells3 hR6
     have z0 := hR6.frozen 0
     have z1 := hR6.frozen 1
     have z2 := hR6.frozen 2
     have hb1P : b1 ≠ P := by omega
     have hGb : ∀ i, G i ≠ some b1 := fun i hi => by have := (H3.out.1.lo i b1 hi).2; omega
     have hM7 := hM6.ans3 hR6 hGb (.int .i64 A.kind) (.string A.text) (.int .i64 st)
     have hR7 := hR6.set3 (.int .i64 A.kind) (.string A.text) (.int .i64 st)
     have hB7 := bel_set3 (H3.out.2.1.trans hB6) (show base ≤ b1 by omega) (.int .i64 A.kind) (.string A.text) (.int .i64 st)
     have hbX : b1 ≠ w.heap.size := by omega
     have hX7 := (((H3.out.2.2.1.same (hO6.2 _ hXl3 (Ne.symm hPX))).other (p := ⟨b1, 0, none⟩) hbX (.int .i64 A.kind)).other (p := ⟨b1, 1, none⟩) hbX (.string A.text)).other (p := ⟨b1, 2, none⟩) hbX (.int .i64 st)
     have hT7 := (H3.out.2.2.2.below hB6).below (bel_set3 (Below.refl base w6) (show base ≤ b1 by omega) (.int .i64 A.kind) (.string A.text) (.int .i64 st))
     simp only [pt, Go.Act.put, sTA, sCZ, sCS]
     refine wpAnyZ_last rfl rfl (by kernel_rfl) (by kernel_rfl) (fun K hK => ?_)
     (try simp only [gTA, gCZ, gCS])
     go_simp
     refine hK.out _ _ ?_
     clear hK K
     (try simp only [gTA, gCZ, gCS, Act.put, sTA, sCZ, sCS])
     have HFB := jD (show Free G b1 from hGb)
     have hb1l := hR7.lt
     have hXl7 := hX7.lt
     obtain ⟨W7, HW7⟩ : ∃ u, Hid ((((w6.setCell ⟨b1, 0, none⟩ (.int .i64 A.kind)).setCell ⟨b1, 1, none⟩ (.string A.text)).setCell ⟨b1, 2, none⟩ (.int .i64 st)) = u) := ⟨_, jD rfl⟩
     rw [HW7.out] at hM7 hR7 hB7 hX7 hT7 hb1l hXl7 ⊢
     clear HW7 hM6 hB6 hO6 hR6 y0 y1 y2 z0 z1 z2 H3 HDO hP3 hXl3 a3 x0 x1 x2 hGb
     have d7 := hM7.row.cell (j := 47) (by omega)
     have hP7 := hM7.row.lt
     obtain ⟨x0, x1, x2⟩ := cells3 hX7
     obtain ⟨y0, y1, y2⟩ := cells3 hR7
     have nd := ((Below.refl W7.heap.size W7).drew).alloc (nL _) (.cells #[.int .i64 (c : Int), .int .i64 r.k, .string r.key, .string r.val, .int .i64 A.kind, .string A.text, .int .i64 st] 70)
     have hM7a := hM7.below nd
     have hXd := RowTo.whole W7.drew #[.int .i64 (c : Int), .int .i64 r.k, .string r.key, .string r.val, .int .i64 A.kind, .string A.text, .int .i64 st] 70
     obtain ⟨bd, od, cd, w8, hrun, u0, uz, hP8, hM8, hB8, hK8, hF8⟩ := hM7a.deeded (HIN.out.deeds hN) (ad := W7.heap.size) ⟨c, r, A, st⟩ (fun j u hu => by
      obtain ⟨hj, hu⟩ := List.getElem?_eq_some_iff.1 hu
      rw [← hu]
      exact hXd.cell hj)
     have hrun' : (Builtin.append_ #[26, 26] 26 #[f6 47, .slice (some ⟨W7.heap.size, 0, none⟩) 1 1]).run Tryz.prog (W7.drew.alloc (.cells #[.int .i64 (c : Int), .int .i64 r.k, .string r.key, .string r.val, .int .i64 A.kind, .string A.text, .int .i64 st] 70)) = .ok (.slice (some ⟨bd, od, none⟩) (m.deeds.length + 1) cd) w8 := hrun
     have hFb := hF8 b1 (Nat.lt_of_lt_of_le hb1l nd.size) HFB.out
     have hbk : w8.heap[b1]? = W7.heap[b1]? := (hK8.2 b1 (Nat.lt_of_lt_of_le hb1l nd.size) HFB.out).trans (nd.block b1 hb1l)
     have hFX : Free G w.heap.size := fun i hi => HFX.out i hi
     have hbkX : w8.heap[w.heap.size]? = W7.heap[w.heap.size]? := (hK8.2 _ (Nat.lt_of_lt_of_le hXl7 nd.size) hFX).trans (nd.block _ hXl7)
     have hR8 := (hR7.same hbk).other (p := ⟨P, 47, none⟩) (Ne.symm hb1P) (.slice (some ⟨bd, od, none⟩) (m.deeds.length + 1) cd)
     have hM8' : PMem 0 (w8.setCell ⟨P, 47, none⟩ (.slice (some ⟨bd, od, none⟩) (m.deeds.length + 1) cd)) base P (upd f6 47 (.slice (some ⟨bd, od, none⟩) (m.deeds.length + 1) cd)) (upd G 15 (some bd)) mode { (m.set c { m.get c with wait := l }) with e := ⟨V, m.e.kept⟩, deeds := m.deeds ++ [⟨c, r, A, st⟩] } := hM8
     have hB8' : Below base (W7.drew.alloc (.cells #[.int .i64 (c : Int), .int .i64 r.k, .string r.key, .string r.val, .int .i64 A.kind, .string A.text, .int .i64 st] 70)) (w8.setCell ⟨P, 47, none⟩ (.slice (some ⟨bd, od, none⟩) (m.deeds.length + 1) cd)) := hB8
     have H8 := jD (And.intro hM8' (And.intro (hB7.trans ((nd.mono (Nat.le_trans hbP (Nat.le_of_lt hP7))).trans hB8')) (And.intro hR8 ((hT7.below (nd.mono (Nat.le_trans hbP (Nat.le_of_lt hP7)))).below hB8'))))
     have HBK := jD (And.intro hbk hbkX)
     have HFb := jD hFb
     have HND := jD nd
     obtain ⟨Af, cf, hf47, _⟩ := (hM7.sl 15 (by omega) (by omega) (by omega)).shape
     have hf47' : f6 47 = .slice Af m.deeds.length cf := by rw [items_deeds, List.length_map] at hf47; exact hf47
     have HXD := jD hXd
     clear hM7 hM7a hM8 hM8' hB7 hB8 hB8' hK8 hF8 hrun hR8 hX7 hT7 hFb hbk hbkX nd hf47 hFX hXd hR7
     generalize f6 47 = v47 at *
     subst hf47'
     go_wp2_with fail
     refine wp_region_z 13 (fun wx => wx.cell? ⟨P, 47, none⟩ = some (.slice Af m.deeds.length cf) ∧ wx.cell? ⟨w.heap.size, 0, none⟩ = some (.int .i64 r.k) ∧ wx.cell? ⟨w.heap.size, 1, none⟩ = some (.string r.key) ∧ wx.cell? ⟨w.heap.size, 2, none⟩ = some (.string r.val) ∧ wx.cell? ⟨b1, 0, none⟩ = some (.int .i64 A.kind) ∧ wx.cell? ⟨b1, 1, none⟩ = some (.string A.text) ∧ wx.cell? ⟨b1, 2, none⟩ = some (.int .i64 st)) (by kernel_rfl) (show W7.drew.cell? ⟨P, 47, none⟩ = some (.slice Af m.deeds.length cf) ∧ W7.drew.cell? ⟨w.heap.size, 0, none⟩ = some (.int .i64 r.k) ∧ W7.drew.cell? ⟨w.heap.size, 1, none⟩ = some (.string r.key) ∧ W7.drew.cell? ⟨w.heap.size, 2, none⟩ = some (.string r.val) ∧ W7.drew.cell? ⟨b1, 0, none⟩ = some (.int .i64 A.kind) ∧ W7.drew.cell? ⟨b1, 1, none⟩ = some (.string A.text) ∧ W7.drew.cell? ⟨b1, 2, none⟩ = some (.int .i64 st) from ⟨d7, x0, x1, x2, y0, y1, y2⟩) (fun hS => ?_)
     refine tkE [(0, []), (1, []), (2, []), (3, []), (4, []), (5, []), (6, []), (7, [])] ?_
     iterate 8
      refine tkS (v := ?_) hS ?_ ?_
      rotate_left
      ·(intro w hSw; (try dsimp only at hSw); (try simp only [gTA, gCZ, gCS]); go_simp; try with_reducible rfl)
      (try simp only [gTA, gCZ, gCS, Act.put, sTA, sCZ, sCS])
     refine tkF ?_
     refine wpAnyZ_take (i := 8) (v := .agg #[.int .i64 (c : Int), .int .i64 r.k, .string r.key, .string r.val, .int .i64 A.kind, .string A.text, .int .i64 st]) rfl (by kernel_rfl) (by kernel_rfl) (by kernel_rfl) (by kernel_rfl) (fun _ _ _ h => h) (Or.inl ⟨by rfl, ?yqb8⟩) hS ?rqb8
     case yqb8 => exact fun w _ => exec_deed rfl rfl rfl rfl w
     (try simp only [gTA, gCZ, gCS, Act.put, sTA, sCZ, sCS])
     refine wpAnyZ_one (i := 9) rfl rfl (by kernel_rfl) (fun K hK => ?_)
     (try simp only [gTA, gCZ, gCS])
     refine wp_val (exec_deeds rfl rfl _) ?_
     have hS2 := (show (W7.drew.alloc (.cells #[.int .i64 (c : Int), .int .i64 r.k, .string r.key, .string r.val, .int .i64 A.kind, .string A.text, .int .i64 st] 70)).cell? ⟨P, 47, none⟩ = some (.slice Af m.deeds.length cf) ∧ (W7.drew.alloc (.cells #[.int .i64 (c : Int), .int .i64 r.k, .string r.key, .string r.val, .int .i64 A.kind, .string A.text, .int .i64 st] 70)).cell? ⟨w.heap.size, 0, none⟩ = some (.int .i64 r.k) ∧ (W7.drew.alloc (.cells #[.int .i64 (c : Int), .int .i64 r.k, .string r.key, .string r.val, .int .i64 A.kind, .string A.text, .int .i64 st] 70)).cell? ⟨w.heap.size, 1, none⟩ = some (.string r.key) ∧ (W7.drew.alloc (.cells #[.int .i64 (c : Int), .int .i64 r.k, .string r.key, .string r.val, .int .i64 A.kind, .string A.text, .int .i64 st] 70)).cell? ⟨w.heap.size, 2, none⟩ = some (.string r.val) ∧ (W7.drew.alloc (.cells #[.int .i64 (c : Int), .int .i64 r.k, .string r.key, .string r.val, .int .i64 A.kind, .string A.text, .int .i64 st] 70)).cell? ⟨b1, 0, none⟩ = some (.int .i64 A.kind) ∧ (W7.drew.alloc (.cells #[.int .i64 (c : Int), .int .i64 r.k, .string r.key, .string r.val, .int .i64 A.kind, .string A.text, .int .i64 st] 70)).cell? ⟨b1, 1, none⟩ = some (.string A.text) ∧ (W7.drew.alloc (.cells #[.int .i64 (c : Int), .int .i64 r.k, .string r.key, .string r.val, .int .i64 A.kind, .string A.text, .int .i64 st] 70)).cell? ⟨b1, 2, none⟩ = some (.int .i64 st) from ⟨(HND.out.cell (p := ⟨P, 47, none⟩) hP7).trans d7, (HND.out.cell (p := ⟨w.heap.size, 0, none⟩) hXl7).trans x0, (HND.out.cell (p := ⟨w.heap.size, 1, none⟩) hXl7).trans x1, (HND.out.cell (p := ⟨w.heap.size, 2, none⟩) hXl7).trans x2, (HND.out.cell (p := ⟨b1, 0, none⟩) hb1l).trans y0, (HND.out.cell (p := ⟨b1, 1, none⟩) hb1l).trans y1, (HND.out.cell (p := ⟨b1, 2, none⟩) hb1l).trans y2⟩)
     refine hK.out _ _ hS2 ?_
     clear hK K hS
     have hS := hS2
     clear hS2
     (try simp only [gTA, gCZ, gCS, Act.put, sTA, sCZ, sCS])
     refine wpAnyZ_one (i := 10) rfl rfl (by kernel_rfl) (fun K hK => ?_)
     (try simp only [gTA, gCZ, gCS])
     refine Lib.wp_append_run _ _ _ _ _ rfl _ _ rfl rfl _ _ hrun' ?_
     have hS2 := (show w8.cell? ⟨P, 47, none⟩ = some (.slice Af m.deeds.length cf) ∧ w8.cell? ⟨w.heap.size, 0, none⟩ = some (.int .i64 r.k) ∧ w8.cell? ⟨w.heap.size, 1, none⟩ = some (.string r.key) ∧ w8.cell? ⟨w.heap.size, 2, none⟩ = some (.string r.val) ∧ w8.cell? ⟨b1, 0, none⟩ = some (.int .i64 A.kind) ∧ w8.cell? ⟨b1, 1, none⟩ = some (.string A.text) ∧ w8.cell? ⟨b1, 2, none⟩ = some (.int .i64 st) from ⟨u0, (World.cell?_of_block (a := ⟨w.heap.size, 0, none⟩) HBK.out.2).trans x0, (World.cell?_of_block (a := ⟨w.heap.size, 1, none⟩) HBK.out.2).trans x1, (World.cell?_of_block (a := ⟨w.heap.size, 2, none⟩) HBK.out.2).trans x2, (World.cell?_of_block (a := ⟨b1, 0, none⟩) HBK.out.1).trans y0, (World.cell?_of_block (a := ⟨b1, 1, none⟩) HBK.out.1).trans y1, (World.cell?_of_block (a := ⟨b1, 2, none⟩) HBK.out.1).trans y2⟩)
     refine hK.out _ _ hS2 ?_
     clear hK K hS
     have hS := hS2
     clear hS2
     (try simp only [gTA, gCZ, gCS, Act.put, sTA, sCZ, sCS])
     refine tkE [(11, [12]), (12, [])] ?_
     iterate 2
      refine tkS (v := ?_) hS ?_ ?_
      rotate_left
      ·(intro w hSw; (try dsimp only at hSw); (try simp only [gTA, gCZ, gCS]); go_simp; try with_reducible rfl)
      (try simp only [gTA, gCZ, gCS, Act.put, sTA, sCZ, sCS])
     refine tkF ?_
     refine wpAnyZ_last rfl rfl (by kernel_rfl) (by kernel_rfl) (fun K hK => ?_)
     (try simp only [gTA, gCZ, gCS])
     go_simp
     refine hK.out _ _ ?_
     clear hK K
     (try simp only [gTA, gCZ, gCS, Act.put, sTA, sCZ, sCS])
     clear hS d7 x0 x1 x2 y0 y1 y2 hrun' HBK HND u0 uz HXD
     obtain ⟨W8, HW8⟩ : ∃ u, Hid (w8.setCell ⟨P, 47, none⟩ (.slice (some ⟨bd, od, none⟩) (m.deeds.length + 1) cd) = u) := ⟨_, jD rfl⟩
     rw [HW8.out] at H8 ⊢
     clear HW8
     obtain ⟨y0, y1, y2⟩ := cells3 H8.out.2.2.1
     have hb8 := H8.out.2.2.1.lt
     have HS9 := jD (send_any W8 H8.out.1 H8.out.2.2.2 HIN.out.ok.s6 c hc A st HA.out HSB.out (HIN.out.sent hN c))
     unfold ptr at HS9
     go_wp2_with fail
     refine HS9.out.mono ?_
     rintro e w9 ⟨f9, G9, rfl, hM9, hB9, hK9⟩
     have hM9' : PMem 0 w9 base P f9 G9 mode (Mach.tell (E := PE) { (m.set c { m.get c with wait := l }) with e := ⟨V, m.e.kept⟩, deeds := m.deeds ++ [⟨c, r, A, st⟩] } c A st) := hM9
     rw [HM4.out] at hM9'
     clear hM9
     have hM9 := hM9'
     clear hM9'
     have y9 := (World.cell?_of_block (a := ⟨b1, 2, none⟩) (hK9.2 b1 hb8 HFb.out)).trans y2
     have hb9 : b1 < w9.heap.size := Nat.lt_of_lt_of_le hb8 hK9.1
     have m9 := hM9.row.cell (j := 0) (by omega)
     rw [hM9.md] at m9
     have hP9 := hM9.row.lt
     have H9 := jD (And.intro hM9 (H8.out.2.1.trans hB9))
     clear hM9 hB9 hK9 HS9 y0 y1 y2 H8
     by_cases hmo : mode = 1
     ·have t1 : (mode != 1) = false := by simp [hmo]
      have HE2 := jD (HE.out.trans (if_neg (fun hh => hh.1 hmo)))
      clear hmo HE
      go_wp2
      go_end0
      rw [HE2.out]
      exact ⟨f9, G9, rfl, H9.out.1, H9.out.2⟩
     have t1 : (mode != 1) = true := by simp [hmo]
     by_cases hst : st = 0
     ·have t2 : (st == 0) = true := by simp [hst]
      have HE2 := jD (HE.out.trans (if_pos ⟨hmo, hst⟩))
      have HRL := jD (release_any w9 H9.out.1 HK4.out.1 HK4.out.2.1 HK4.out.2.2.1 hc (s := s) HK4.out.2.2.2)
      unfold ptr at HRL
      clear hmo hst HE
      go_wp2_with fail
      refine HRL.out.mono ?_
      rintro e wA ⟨fA, rfl, hMA, hBA⟩
      have HFF := jD (And.intro hMA (H9.out.2.trans hBA))
      clear hMA hBA HRL
      go_wp2
      go_end0
      rw [HE2.out]
      exact ⟨fA, G9, rfl, HFF.out.1, HFF.out.2⟩
     ·have t2 : (st == 0) = false := by simp [hst]
      have HE2 := jD (HE.out.trans (if_neg (fun hh => hst hh.2)))
      clear hmo hst HE
      go_wp2
      go_end0
      rw [HE2.out]
      exact ⟨f9, G9, rfl, H9.out.1, H9.out.2⟩
end
end Go.Proofs.YtpbaobmegomfpabGreatDoor
