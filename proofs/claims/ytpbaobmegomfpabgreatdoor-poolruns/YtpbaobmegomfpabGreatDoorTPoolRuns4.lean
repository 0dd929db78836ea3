/-
  Texts of the proof, one behind the other: HouW2, HouP, HouA, HouS, HouB.
-/
import Derived.Test.YtpbaobmegomfpabGreatDoorTPoolRuns3
import Derived.Test.YtpbaobmegomfpabGreatDoorM29
import Derived.Test.YtpbaobmegomfpabGreatDoorM33
import Derived.Test.YtpbaobmegomfpabGreatDoorM30
import Derived.Test.YtpbaobmegomfpabGreatDoorM34
import Derived.Test.YtpbaobmegomfpabGreatDoorM16
import Derived.Test.YtpbaobmegomfpabGreatDoorTPoolRuns2
import Derived.Test.YtpbaobmegomfpabGreatDoorM37
import Derived.Test.YtpbaobmegomfpabGreatDoorM38
set_option linter.unusedVariables false
set_option linter.unusedSimpArgs false
set_option maxRecDepth 100000
open List renaming getElem_toArray → gTA, getElem_cons_zero → gCZ, getElem_cons_succ → gCS, setIfInBounds_toArray → sTA, set_cons_zero → sCZ, set_cons_succ → sCS
open Go.Lib renaming hid → jD
open Nat renaming le_refl → nL
namespace Go.Proofs.YtpbaobmegomfpabGreatDoor
open Go.RowKit
theorem hT_w {c : Nat} (hc : c < 6) : hT (c + 3) = 100 := by unfold hT; rw [if_pos (by omega)]
theorem hZ_w {c : Nat} (hc : c < 6) : hZ (c + 3) = 4 := by unfold hZ; rw [if_pos (by omega)]
theorem hV_w (f g : Nat → Value) {c : Nat} (hc : c < 6) : hV f g (c + 3) = g (c * 4 + 1) := by unfold hV; rw [if_pos (by omega), Nat.add_sub_cancel]
theorem hI_w (m : Mach Wd) (q : Nat → List Ask) (ow : List Int) {c : Nat} (hc : c < 6) : hI m q ow (c + 3) = (q c).map askV := by unfold hI; rw [if_pos (by omega), Nat.add_sub_cancel]
theorem hI_o (m : Mach Wd) (q : Nat → List Ask) (ow : List Int) : hI m q ow 9 = ow.map (fun n => [.int .i64 n]) := by unfold hI; rw [if_neg (by omega), if_pos rfl]
theorem hI_l (m : Mach Wd) (q : Nat → List Ask) (ow : List Int) : hI m q ow 10 = m.line.map (fun (n : Nat) => [Value.int .i64 (n : Int)]) := by unfold hI; rw [if_neg (by omega), if_neg (by omega), if_pos rfl]
theorem hI_d (m : Mach Wd) (q : Nat → List Ask) (ow : List Int) : hI m q ow 11 = m.deeds.map deedV := by unfold hI; rw [if_neg (by omega), if_neg (by omega), if_neg (by omega)]
theorem hI_cut {m m' : Mach Wd} {q q' : Nat → List Ask} {ow : List Int} {c : Nat} (hl : m'.line = m.line) (hd : m'.deeds = m.deeds) (hq : ∀ d, d ≠ c → q' d = q d) (k : Nat) (h3 : 3 ≤ k) (h : k ≠ c + 3) : hI m' q' ow k = hI m q ow k := by
 unfold hI
 rw [hq (k - 3) (by omega), hl, hd]
theorem flat_int (l : List Int) : (l.map (fun n => [Value.int .i64 n])).flatten = l.map (fun n => Value.int .i64 n) := by
 induction l with
 | nil => rfl
 | cons a l ih => simp [ih]
section
variable {w : World} {base H A S : Nat} {f g : Nat → Value} {G : Nat → Option Nat} {mode : Int} {m : Mach Wd} {q : Nat → List Ask} {ow : List Int}
theorem HMem.waitSl (h : HMem 0 w base H A S f g G mode m q ow) {c : Nat} (hc : c < 6) : Sl w 100 4 (g (c * 4 + 1)) (G (c + 3)) (q c).length ((q c).map askV).flatten := by
 have := h.sl (c + 3) (by omega) (by omega) (by omega)
 rw [hT_w hc, hZ_w hc, hV_w f g hc, hI_w m q ow hc, List.length_map] at this
 exact this
theorem HMem.ownSl (h : HMem 0 w base H A S f g G mode m q ow) : Sl w 3 1 (f 5) (G 9) ow.length (ow.map fun n => .int .i64 n) := by
 have := h.sl 9 (by omega) (by omega) (by omega)
 rw [hI_o, flat_int, List.length_map] at this
 exact this
theorem flat_nat (l : List Nat) : (l.map (fun (n : Nat) => [Value.int .i64 (n : Int)])).flatten = l.map (fun (n : Nat) => Value.int .i64 (n : Int)) := by
 induction l with
 | nil => rfl
 | cons a l ih => simp [ih]
theorem HMem.lineSl (h : HMem 0 w base H A S f g G mode m q ow) : Sl w 3 1 (f 6) (G 10) m.line.length (m.line.map fun (n : Nat) => Value.int .i64 (n : Int)) := by
 have := h.sl 10 (by omega) (by omega) (by omega)
 rw [hI_l, flat_nat, List.length_map] at this
 exact this
theorem HMem.deedSl (h : HMem 0 w base H A S f g G mode m q ow) : Sl w 70 7 (f 7) (G 11) m.deeds.length (m.deeds.map deedV).flatten := by
 have := h.sl 11 (by omega) (by omega) (by omega)
 rw [hI_d, List.length_map] at this
 exact this
theorem HMem.cut (h : HMem 0 w base H A S f g G mode m q ow) {c : Nat} (hc : c < 6) (hcl : m.cl.length = 6) {a : Ask} {l : List Ask} (hq : q c = a :: l) {b off cap : Nat} (hv : g (c * 4 + 1) = .slice (some ⟨b, off, none⟩) (l.length + 1) cap) (rest : List Req) :
  HMem 0 (w.setCell ⟨A, c * 4 + 1, none⟩ (cutv b off 4 l.length cap)) base H A S f (upd g (c * 4 + 1) (cutv b off 4 l.length cap)) G mode (m.set c { m.get c with wait := rest }) (upd q c l) ow := by
 have hsl := h.waitSl hc
 rw [hv, hq] at hsl
 have hcut := Sl.cut hsl
 have hcl' : c < m.cl.length := by omega
 have ed : ((askV a :: l.map askV).flatten).drop 4 = (l.map askV).flatten := rfl
 rw [List.map_cons, ed] at hcut
 have h1 := (h.but (c + 3)).cellA (m' := m.set c { m.get c with wait := rest }) (q' := upd q c l) (ow' := ow) (c * 4 + 1) (cutv b off 4 l.length cap) (fun k _ _ _ => by omega) rfl (fun k h1 _ h3 => hI_cut rfl rfl (fun d hd => by unfold upd; rw [if_neg hd]) k h1 h3)
  (fun d hd => by rw [upd_ne (by omega), get_set hcl']; split <;> (first | (subst_vars; exact h.bytes _ hd) | exact h.bytes d hd)) (fun d hd => by rw [upd_ne (by omega), get_set hcl']; split <;> (first | (subst_vars; exact h.srv _ hd) | exact h.srv d hd)) (fun d hd => by rw [upd_ne (by omega)]; exact h.sent d hd)
 refine h1.fill ?_ (fun _ _ _ _ => rfl) rfl (fun _ _ => rfl) (fun _ _ => rfl) (fun _ _ => rfl)
 rw [hT_w hc, hZ_w hc, hV_w _ _ hc, hI_w _ _ _ hc, upd_at, List.length_map]
 have e : upd q c l c = l := by unfold upd; rw [if_pos rfl]
 rw [e]
 exact hcut.keep fun x hx => set_off w A (c * 4 + 1) _ x (h.ne hx h.g1 (by omega))
theorem HMem.pushed {w1 : World} {b off cap : Nat} (h : HMem 0 w base H A S f g G mode m q ow) {c : Nat} (hc : c < 6) (hcl : m.cl.length = 6) (a : Ask) (wt : List Req) (hg : w.grownBy w1 (G (c + 3)))
  (hs : Sl w1 100 4 (.slice (some ⟨b, off, none⟩) ((q c).length + 1) cap) (some b) ((q c).length + 1) (((q c).map askV).flatten ++ askV a)) (hb : G (c + 3) = some b ∨ (w.heap.size ≤ b ∧ b < w1.heap.size)) :
  HMem 0 (w1.setCell ⟨A, c * 4 + 1, none⟩ (.slice (some ⟨b, off, none⟩) ((q c).length + 1) cap)) base H A S f (upd g (c * 4 + 1) (.slice (some ⟨b, off, none⟩) ((q c).length + 1) cap)) (upd G (c + 3) (some b)) mode (m.set c { m.get c with wait := wt }) (upd q c (q c ++ [a])) ow := by
 have hcl' : c < m.cl.length := by omega
 have h0 := (h.but (c + 3)).grown (by omega) h.bH.2.2 hg hb
 have h1 := h0.cellA (m' := m.set c { m.get c with wait := wt }) (q' := upd q c (q c ++ [a])) (ow' := ow) (c * 4 + 1) (.slice (some ⟨b, off, none⟩) ((q c).length + 1) cap) (fun k _ _ _ => by omega) rfl (fun k h1 _ h3 => hI_cut rfl rfl (fun d hd => by unfold upd; rw [if_neg hd]) k h1 h3)
  (fun d hd => by rw [upd_ne (by omega), get_set hcl']; split <;> (first | (subst_vars; exact h.bytes _ hd) | exact h.bytes d hd)) (fun d hd => by rw [upd_ne (by omega), get_set hcl']; split <;> (first | (subst_vars; exact h.srv _ hd) | exact h.srv d hd)) (fun d hd => by rw [upd_ne (by omega)]; exact h.sent d hd)
 refine h1.fill ?_ (fun _ _ _ _ => rfl) rfl (fun _ _ => rfl) (fun _ _ => rfl) (fun _ _ => rfl)
 rw [hT_w hc, hZ_w hc, hV_w _ _ hc, hI_w _ _ _ hc, upd_at, List.length_map]
 have e : upd q c (q c ++ [a]) c = q c ++ [a] := by unfold upd; rw [if_pos rfl]
 have e2 : upd G (c + 3) (some b) (c + 3) = some b := by unfold upd; rw [if_pos rfl]
 rw [e, e2, List.length_append, List.map_append, List.flatten_append]
 refine (by simpa using hs : Sl w1 _ 4 _ (some b) ((q c).length + 1) _).keep fun x hx => set_off w1 A (c * 4 + 1) _ x (h0.ne (i := c + 3) (by rw [e2, hx]) h0.g1 (by omega))
theorem HMem.deeded {w1 : World} {b off cap : Nat} (h : HMem 0 w base H A S f g G mode m q ow) (d : Deed) (hg : w.grownBy w1 (G 11))
  (hs : Sl w1 70 7 (.slice (some ⟨b, off, none⟩) (m.deeds.length + 1) cap) (some b) (m.deeds.length + 1) ((m.deeds.map deedV).flatten ++ deedV d)) (hb : G 11 = some b ∨ (w.heap.size ≤ b ∧ b < w1.heap.size)) :
  HMem 0 (w1.setCell ⟨H, 7, none⟩ (.slice (some ⟨b, off, none⟩) (m.deeds.length + 1) cap)) base H A S (upd f 7 (.slice (some ⟨b, off, none⟩) (m.deeds.length + 1) cap)) g (upd G 11 (some b)) mode { m with deeds := m.deeds ++ [d] } q ow := by
 have h0 := (h.but 11).grown (by omega) h.bH.2.2 hg hb
 have h1 := h0.cellH (by omega) (by omega) (.slice (some ⟨b, off, none⟩) (m.deeds.length + 1) cap)
 refine h1.fill ?_ (fun k _ h2 h3 => ?_) rfl (fun _ _ => rfl) (fun _ _ => rfl) (fun _ _ => rfl)
 ·have e2 : upd G 11 (some b) 11 = some b := by unfold upd; rw [if_pos rfl]
  have e3 : hV (upd f 7 (.slice (some ⟨b, off, none⟩) (m.deeds.length + 1) cap)) g 11 = .slice (some ⟨b, off, none⟩) (m.deeds.length + 1) cap := by unfold hV; rw [if_neg (by omega)]; exact upd_at
  rw [show hT 11 = 70 from rfl, show hZ 11 = 7 from rfl, hI_d, e2, e3, List.length_map, List.length_append, List.map_append, List.flatten_append]
  refine (by simpa using hs : Sl w1 _ 7 _ (some b) (m.deeds.length + 1) _).keep fun x hx => set_off w1 H 7 _ x (h0.ne (i := 11) (by rw [e2, hx]) h0.g0 (by omega))
 ·unfold hI
  split
  ·rfl
  ·split
   ·rfl
   ·rw [if_pos (by omega), if_pos (by omega)]
theorem HMem.setOwn (h : HMem 0 w base H A S f g G mode m q ow) {j : Nat} (hj : j < ow.length) (x : Int) (bs : List Bool) : ∃ b off cap, G 9 = some b ∧ f 5 = .slice (some ⟨b, off, none⟩) ow.length cap ∧ ow.length ≤ cap ∧ (∃ y, w.cell? ⟨b, off + j, none⟩ = some y) ∧ w.frozen? ⟨b, off + j, none⟩ = false ∧ b < w.heap.size ∧
  HMem 0 (w.setCell ⟨b, off + j, none⟩ (.int .i64 x)) base H A S f g G mode { m with busy := bs } q (ow.set j x) := by
 obtain ⟨b, off, cap, h1, h2, h3, h4, h5, h6⟩ := h.ownSl.set1 hj (.int .i64 x)
 refine ⟨b, off, cap, h1, h2, h3, h4, h5, (h.lo 9 b h1).2, ?_⟩
 have hk := (h.but 9).keep (w' := w.setCell ⟨b, off + j, none⟩ (.int .i64 x)) (by omega) (by rw [size_set]; exact nL _) (fun b' _ hne => Below.heap_setCell _ _ _ _ (fun e => hne (by rw [h1, e])))
 refine hk.fill ?_ (fun k _ h2 h3 => ?_) rfl (fun _ _ => rfl) (fun _ _ => rfl) (fun _ _ => rfl)
 ·rw [hI_o, flat_int, List.length_map, List.length_set, List.map_set]
  exact h6
 ·unfold hI
  split
  ·rfl
  ·rfl
theorem HMem.setSrv (h : HMem 0 w base H A S f g G mode m q ow) {c : Nat} (hc : c < 6) (hcl : m.cl.length = 6) (s : Option Nat) :
  HMem 0 (w.setCell ⟨A, c * 4 + 2, none⟩ (.int .i64 (srvI s))) base H A S f (upd g (c * 4 + 2) (.int .i64 (srvI s))) G mode (m.set c { m.get c with srv := s }) q ow := by
 have hcl' : c < m.cl.length := by omega
 refine h.cellA _ _ (fun k _ _ _ => by omega) rfl (fun _ _ _ _ => rfl) (fun d hd => ?_) (fun d hd => ?_) (fun d hd => by rw [upd_ne (by omega)]; exact h.sent d hd)
 ·rw [upd_ne (by omega), get_set hcl']
  split
  ·rename_i e; subst e; exact h.bytes c hd
  ·exact h.bytes d hd
 ·rw [get_set hcl']
  by_cases e : c = d
  ·subst e; rw [upd_at, if_pos rfl]
  ·rw [upd_ne (by omega), if_neg e]; exact h.srv d hd
end
def HInv (mode : Int) (m : Mach Wd) (N : Nat) : Prop := ∃ P, Inv mode P N ∧ Alike P m
section
variable {mode : Int} {m m' : Mach Wd} {N : Nat} {q : Nat → List Ask} {ow : List Int}
theorem HInv.w (h : HInv mode m N) : WorldOk m.e := by obtain ⟨P, _, a⟩ := h; exact a.okH
theorem HInv.h6 (h : HInv mode m N) : m.e.ss.length = 6 := by obtain ⟨P, _, a⟩ := h; exact a.hlen
theorem HInv.n6 (h : HInv mode m N) : m.cl.length = 6 := by obtain ⟨P, i, a⟩ := h; rw [← a.cl]; exact i.ok.n6
theorem HInv.s6 (h : HInv mode m N) : m.sent.length = 6 := by obtain ⟨P, i, a⟩ := h; rw [← a.sent]; exact i.ok.s6
theorem HInv.sent (h : HInv mode m N) (hN : N ≤ 300000) (c : Nat) : (m.sent.getD c ⟨#[]⟩).size ≤ 100000000 := by obtain ⟨P, i, a⟩ := h; rw [← a.sent]; exact i.sent hN c
theorem HInv.deeds (h : HInv mode m N) (hN : N ≤ 300000) : m.deeds.length ≤ 300000 := by obtain ⟨P, i, a⟩ := h; rw [← a.deeds]; exact i.deeds hN
theorem HInv.waits (h : HInv mode m N) (hN : N ≤ 300000) (c : Nat) : (m.get c).wait.length ≤ 300000 ∧ (m.get c).bytes.size ≤ 300000 := by obtain ⟨P, i, a⟩ := h; rw [a.get c]; exact i.waits hN c
theorem HInv.line (h : HInv mode m N) : m.line.length ≤ 6 := by obtain ⟨P, i, a⟩ := h; rw [← a.line]; exact i.line
theorem HInv.srv (h : HInv mode m N) {c s : Nat} (hs : (m.get c).srv = some s) : m.busy[s]? = some true := by obtain ⟨P, i, a⟩ := h; rw [← a.busy]; rw [a.get c] at hs; exact i.ok.srv c s hs
theorem HInv.state (h : HInv mode m N) {c : Nat} (hc : c < 6) : 0 ≤ (m.e.at c).st ∧ (m.e.at c).st ≤ 2 := by
 have := sess_at h.w (i := c) (by rw [h.h6]; exact hc)
 exact ⟨this.lo, this.hi⟩
theorem HInv.req (h : HInv mode m N) {c : Nat} {r : Req} {l : List Req} (hw : (m.get c).wait = r :: l) (hf : refB mode r = false) : r.ok := by
 obtain ⟨P, i, a⟩ := h
 rw [a.get c] at hw
 exact i.req hw hf
theorem HInv.proc (h : HInv mode m N) {c : Nat} (hc : c < 6) (hr : readyB mode (m.get c) = true) : HInv mode (m.proc houseO mode c) N := by
 obtain ⟨P, i, a⟩ := h
 rw [a.get c] at hr
 exact ⟨_, i.proc hc hr, a.proc i.ok hc hr⟩
theorem HInv.enq (h : HInv mode m N) (hr : m.firstR mode = none) : HInv mode m.enq N := by
 obtain ⟨P, i, a⟩ := h
 rw [a.first] at hr
 exact ⟨_, i.enq hr, a.enq⟩
theorem HInv.assign (h : HInv mode m N) : HInv mode (m.assign houseO).2 N := by
 obtain ⟨P, i, a⟩ := h
 exact ⟨_, i.assign, (a.assign i.ok).2⟩
theorem HInv.step (h : HInv mode m N) : HInv mode (m.step houseO mode).2 N := by
 obtain ⟨P, i, a⟩ := h
 exact ⟨_, i.step, (a.step i.ok).2⟩
theorem HInv.all (h : HInv mode m N) : HInv mode (m.all houseO mode) N := by
 obtain ⟨P, i, a⟩ := h
 exact ⟨_, i.all, a.all i.ok⟩
theorem HInv.leave (h : HInv mode m N) {c : Nat} (hc : c < 6) : HInv mode (m.leave houseO c) N := by
 obtain ⟨P, i, a⟩ := h
 exact ⟨_, i.leave hc, a.leave i.ok hc⟩
theorem proc_alone {c : Nat} {r : Req} {rest : List Req} (hw : (m.get c).wait = r :: rest) (hr : refB mode r = true) : m.proc houseO mode c = (m.set c { m.get c with wait := rest }).tell c ⟨4, refuse mode r⟩ (m.e.at c).st := by
 unfold Mach.proc
 rw [hw]
 simp only
 rw [if_pos hr]
 rfl
theorem proc_did {c : Nat} {r : Req} {rest : List Req} (hw : (m.get c).wait = r :: rest) (hr : refB mode r = false) {R : Wd × Ans} (hR : doM m.e c r.k r.key r.val = R) {st : Int} (hst : (R.1.at c).st = st) :
  m.proc houseO mode c = (if mode ≠ 1 ∧ st = 0 then Mach.release houseO (Mach.tell { m.set c { m.get c with wait := rest } with e := R.1, deeds := m.deeds ++ [⟨c, r, R.2, st⟩] } c R.2 st) c ((m.get c).srv.getD 0) else Mach.tell { m.set c { m.get c with wait := rest } with e := R.1, deeds := m.deeds ++ [⟨c, r, R.2, st⟩] } c R.2 st) := by
 subst hR hst
 unfold Mach.proc
 rw [hw]
 simp only
 rw [if_neg (by rw [hr]; simp)]
 rfl
theorem HRel.same (h : HRel m q ow) (h1 : ∀ c, c < 6 → (m'.get c).wait = (m.get c).wait) (h2 : m'.busy = m.busy) : HRel m' q ow := ⟨fun c hc => by rw [h1 c hc]; exact h.wait c hc, h.good, by rw [h2]; exact h.own, by rw [h2]; exact h.free⟩
theorem HRel.turn (h : HRel m q ow) {c : Nat} (hc : c < 6) (hcl : m.cl.length = 6) {l : List Ask} {x : Cl} (hx : x.wait = l.map Ask.req) (hg : ∀ a ∈ l, a.ok = true → a.r.ok) : HRel (m.set c x) (upd q c l) ow := by
 have hcl' : c < m.cl.length := by omega
 refine ⟨fun d hd => ?_, fun d hd a ha => ?_, h.own, h.free⟩
 ·rw [get_set hcl']
  unfold upd
  by_cases e : c = d
  ·subst e; rw [if_pos rfl, if_pos rfl]; exact hx
  ·rw [if_neg e, if_neg (fun e' => e e'.symm)]; exact h.wait d hd
 ·unfold upd at ha
  split at ha
  ·exact hg a ha
  ·exact h.good d hd a ha
theorem HRel.freed (h : HRel m q ow) {s : Nat} (h1 : ∀ c, c < 6 → (m'.get c).wait = (m.get c).wait) (h2 : m'.busy = m.busy.set s false) : HRel m' q (ow.set s (-1)) := by
 refine ⟨fun c hc => by rw [h1 c hc]; exact h.wait c hc, h.good, by rw [h2, List.length_set, List.length_set]; exact h.own, fun k hk => ?_⟩
 rw [List.length_set] at hk
 have hkb : k < m.busy.length := by rw [← h.own]; exact hk
 rw [h2, List.getElem_set, List.getElem?_set]
 by_cases e : s = k
 ·subst e; simp [hkb]
 ·rw [if_neg e, if_neg e]; exact h.free k hk
theorem HRel.taken (h : HRel m q ow) {s c : Nat} (h1 : ∀ c, c < 6 → (m'.get c).wait = (m.get c).wait) (h2 : m'.busy = m.busy.set s true) : HRel m' q (ow.set s (c : Int)) := by
 refine ⟨fun c hc => by rw [h1 c hc]; exact h.wait c hc, h.good, by rw [h2, List.length_set, List.length_set]; exact h.own, fun k hk => ?_⟩
 rw [List.length_set] at hk
 have hkb : k < m.busy.length := by rw [← h.own]; exact hk
 rw [h2, List.getElem_set, List.getElem?_set]
 by_cases e : s = k
 ·subst e; simp [hkb]
 ·rw [if_neg e, if_neg e]; exact h.free k hk
end
section
variable {E : Type} {o : Ops E} {mode : Int} {m : Mach E} {c : Nat}
def Mach.setB (m : Mach E) (c : Nat) (b : ByteArray) : Mach E := m.set c { m.get c with bytes := b }
theorem setB_len (c : Nat) (b : ByteArray) : (m.setB c b).cl.length = m.cl.length := by unfold Mach.setB Mach.set; simp
theorem setB_get (hc : c < m.cl.length) (b : ByteArray) (d : Nat) : (m.setB c b).get d = if c = d then { m.get c with bytes := b } else m.get d := get_set hc
theorem setB_wait (hc : c < m.cl.length) (b : ByteArray) (d : Nat) : ((m.setB c b).get d).wait = (m.get d).wait := by
 rw [setB_get hc]
 split
 ·rename_i e; subst e; rfl
 ·rfl
theorem setB_srv (hc : c < m.cl.length) (b : ByteArray) (d : Nat) : ((m.setB c b).get d).srv = (m.get d).srv := by
 rw [setB_get hc]
 split
 ·rename_i e; subst e; rfl
 ·rfl
theorem setB_turn (hc : c < m.cl.length) (b : ByteArray) (d : Nat) (F : Cl → Cl) (hF : ∀ x b, F { x with bytes := b } = { F x with bytes := b }) :
  (m.setB c b).set d (F ((m.setB c b).get d)) = (m.set d (F (m.get d))).setB c b := by
 rw [setB_get hc]
 by_cases e : c = d
 ·subst e
  rw [if_pos rfl, hF]
  unfold Mach.setB
  rw [get_set hc, if_pos rfl]
  unfold Mach.set
  simp
 ·rw [if_neg e]
  unfold Mach.setB
  have hg : (m.set d (F (m.get d))).get c = m.get c := by
   show (m.cl.set d _).getD c Cl.new = m.cl.getD c Cl.new
   rw [List.getD_eq_getElem?_getD, List.getD_eq_getElem?_getD, List.getElem?_set_ne (fun h => e h.symm)]
  rw [hg]
  unfold Mach.set
  simp only
  rw [List.set_comm _ _ e]
theorem setB_release (hc : c < m.cl.length) (b : ByteArray) (d s : Nat) : (m.setB c b).release o d s = (m.release o d s).setB c b := by
 have h := congrArg Mach.cl (setB_turn hc b d (fun x => { x with srv := none }) (fun _ _ => rfl))
 exact congrArg (fun l => (⟨o.free m.e d s, l, m.busy.set s false, m.line, m.sent, m.deeds⟩ : Mach E)) h
theorem setB_proc (hc : c < m.cl.length) (b : ByteArray) (d : Nat) : (m.setB c b).proc o mode d = (m.proc o mode d).setB c b := by
 unfold Mach.proc
 rw [setB_wait hc, setB_srv hc]
 cases hl : (m.get d).wait with
 | nil => rfl
 | cons r rest =>
  simp only
  have h := congrArg Mach.cl (setB_turn hc b d (fun x => { x with wait := rest }) (fun _ _ => rfl))
  split
  ·exact congrArg (fun l => (⟨m.e, l, m.busy, m.line, m.sent.set d (m.sent.getD d ⟨#[]⟩ ++ ansM ⟨4, refuse mode r⟩ (o.state m.e d (m.get d).srv)), m.deeds⟩ : Mach E)) h
  ·have h2 : Mach.tell { (m.setB c b).set d { (m.setB c b).get d with wait := rest } with e := (o.exec m.e d ((m.get d).srv.getD 0) r).1, deeds := m.deeds ++ [⟨d, r, (o.exec m.e d ((m.get d).srv.getD 0) r).2.1, (o.exec m.e d ((m.get d).srv.getD 0) r).2.2⟩] } d (o.exec m.e d ((m.get d).srv.getD 0) r).2.1 (o.exec m.e d ((m.get d).srv.getD 0) r).2.2 =
     (Mach.tell { m.set d { m.get d with wait := rest } with e := (o.exec m.e d ((m.get d).srv.getD 0) r).1, deeds := m.deeds ++ [⟨d, r, (o.exec m.e d ((m.get d).srv.getD 0) r).2.1, (o.exec m.e d ((m.get d).srv.getD 0) r).2.2⟩] } d (o.exec m.e d ((m.get d).srv.getD 0) r).2.1 (o.exec m.e d ((m.get d).srv.getD 0) r).2.2).setB c b :=
    congrArg (fun l => (⟨(o.exec m.e d ((m.get d).srv.getD 0) r).1, l, m.busy, m.line, m.sent.set d (m.sent.getD d ⟨#[]⟩ ++ ansM (o.exec m.e d ((m.get d).srv.getD 0) r).2.1 (o.exec m.e d ((m.get d).srv.getD 0) r).2.2), m.deeds ++ [(⟨d, r, (o.exec m.e d ((m.get d).srv.getD 0) r).2.1, (o.exec m.e d ((m.get d).srv.getD 0) r).2.2⟩ : Deed)]⟩ : Mach E)) h
   show (if mode ≠ 1 ∧ (o.exec m.e d ((m.get d).srv.getD 0) r).2.2 = 0 then Mach.release o (Mach.tell { (m.setB c b).set d { (m.setB c b).get d with wait := rest } with e := (o.exec m.e d ((m.get d).srv.getD 0) r).1, deeds := m.deeds ++ [⟨d, r, (o.exec m.e d ((m.get d).srv.getD 0) r).2.1, (o.exec m.e d ((m.get d).srv.getD 0) r).2.2⟩] } d (o.exec m.e d ((m.get d).srv.getD 0) r).2.1 (o.exec m.e d ((m.get d).srv.getD 0) r).2.2) d ((m.get d).srv.getD 0) else Mach.tell { (m.setB c b).set d { (m.setB c b).get d with wait := rest } with e := (o.exec m.e d ((m.get d).srv.getD 0) r).1, deeds := m.deeds ++ [⟨d, r, (o.exec m.e d ((m.get d).srv.getD 0) r).2.1, (o.exec m.e d ((m.get d).srv.getD 0) r).2.2⟩] } d (o.exec m.e d ((m.get d).srv.getD 0) r).2.1 (o.exec m.e d ((m.get d).srv.getD 0) r).2.2) = _
   rw [h2]
   split
   ·refine setB_release ?_ b d _
    show c < (m.cl.set d _).length
    simpa using hc
   ·rfl
theorem setB_enq (hc : c < m.cl.length) (b : ByteArray) : (m.setB c b).enq = m.enq.setB c b := by
 have h : enqL (m.setB c b) = enqL m := by
  funext l d
  unfold enqL
  rw [setB_wait hc]
 unfold Mach.enq
 rw [h]
 rfl
theorem setB_assign (hc : c < m.cl.length) (b : ByteArray) : (m.setB c b).assign o = ((m.assign o).1, (m.assign o).2.setB c b) := by
 unfold Mach.assign
 rw [show (m.setB c b).line = m.line from rfl, show (m.setB c b).busy = m.busy from rfl, show (m.setB c b).e = m.e from rfl]
 cases m.line with
 | nil => rfl
 | cons x l =>
  simp only
  split
  ·have h := congrArg Mach.cl (setB_turn hc b x (fun y => { y with srv := some (m.busy.idxOf false) }) (fun _ _ => rfl))
   exact congrArg (fun k => (true, (⟨o.grant m.e x (m.busy.idxOf false), k, m.busy.set (m.busy.idxOf false) true, l, m.sent, m.deeds⟩ : Mach E))) h
  ·rfl
theorem setB_first (hc : c < m.cl.length) (b : ByteArray) : (m.setB c b).firstR mode = m.firstR mode := by
 unfold Mach.firstR
 congr 1
 funext d
 unfold readyB
 rw [setB_wait hc, setB_srv hc]
theorem setB_step (hc : c < m.cl.length) (b : ByteArray) : (m.setB c b).step o mode = ((m.step o mode).1, (m.step o mode).2.setB c b) := by
 unfold Mach.step
 rw [setB_first hc]
 cases m.firstR mode with
 | some d => simp only [setB_proc hc]
 | none => simp only; rw [setB_enq hc, setB_assign (m := m.enq) hc]
theorem step_cl : (m.step o mode).2.cl.length = m.cl.length := by
 unfold Mach.step
 split
 ·unfold Mach.proc
  split
  ·rfl
  ·split
   ·simp [Mach.tell, Mach.set]
   ·simp only; split <;> simp [Mach.tell, Mach.set, Mach.release]
 ·unfold Mach.assign
  split
  ·rfl
  ·split <;> simp [Mach.enq]
theorem iter_cl : ∀ (n : Nat) (m : Mach E), (m.iter o mode n).cl.length = m.cl.length
 | 0, m => rfl
 | n + 1, m => by
  unfold Mach.iter
  split
  ·rw [iter_cl n, step_cl]
  ·exact step_cl
theorem setB_iter (b : ByteArray) : ∀ (n : Nat) (m : Mach E), c < m.cl.length → (m.setB c b).iter o mode n = (m.iter o mode n).setB c b
 | 0, m, _ => rfl
 | n + 1, m, hc => by
  unfold Mach.iter
  rw [setB_step hc]
  simp only
  split
  ·exact setB_iter b n _ (by rw [step_cl]; exact hc)
  ·rfl
theorem setB_map {β : Type} (hc : c < m.cl.length) (b : ByteArray) (f : Cl → β) (hf : ∀ x b, f { x with bytes := b } = f x) : (m.setB c b).cl.map f = m.cl.map f := by
 show (m.cl.set c _).map f = _
 rw [List.map_set, hf, get_lt hc]
 have : f m.cl[c] = (m.cl.map f)[c]'(by simpa using hc) := by simp
 rw [this, List.set_getElem_self]
theorem setB_mu (hc : c < m.cl.length) (b : ByteArray) : (m.setB c b).mu = m.mu := by
 unfold Mach.mu waits bare
 rw [setB_map hc b (fun x => x.wait.length) (fun _ _ => rfl)]
 have h : ∀ l : List Cl, l.countP (fun x => x.srv.isNone) = (l.map fun x => x.srv.isNone).countP id := fun l => by rw [List.countP_map]; rfl
 rw [h, h, setB_map hc b (fun x => x.srv.isNone) (fun _ _ => rfl)]
theorem setB_leave (hc : c < m.cl.length) (b : ByteArray) : (m.setB c b).leave o c = m.leave o c := by
 unfold Mach.leave
 rw [setB_srv hc]
 unfold Mach.setB Mach.set
 simp
theorem bye_bytes (hc : c < m.cl.length) (b : ByteArray) : ((m.setB c b).all o mode).leave o c = (m.all o mode).leave o c := by
 unfold Mach.all
 rw [setB_mu hc, setB_iter b _ _ hc]
 exact setB_leave (by rw [iter_cl]; exact hc) b
theorem feedH_none {n : Nat} (hp : pull (m.get c).bytes = none) : m.feed o mode (n + 1) c = m := by rw [Mach.feed, hp]
theorem feedH_bye {n : Nat} {t : ByteArray} {j : Nat} (hp : pull (m.get c).bytes = some (88, t, j)) : m.feed o mode (n + 1) c = (m.all o mode).leave o c := by
 rw [Mach.feed, hp]
 simp only
 rw [if_pos trivial]
theorem feedH_req {n : Nat} {k : UInt8} {t : ByteArray} {j : Nat} (hp : pull (m.get c).bytes = some (k, t, j)) (hk : k ≠ 88) : m.feed o mode (n + 1) c = (m.set c { m.get c with bytes := (m.get c).bytes.extract j (m.get c).bytes.size, wait := (m.get c).wait ++ [reqOf k t] }).feed o mode n c := by
 rw [Mach.feed, hp]
 simp only
 rw [if_neg hk]
theorem runH_take {l : List Act} {k : Nat} (hk : k < l.length) : m.run o mode (l.take (k + 1)) = (m.run o mode (l.take k)).act o mode l[k] := by
 unfold Mach.run
 rw [List.take_succ_eq_append_getElem hk, List.foldl_append]
 rfl
end
section
variable {mode : Int} {m : Mach Wd} {N M : Nat} {c : Nat}
theorem HInv.start {n : Nat} (hn : n ≤ 8) : HInv mode (Mach.start houseStart n) 0 := ⟨_, Inv.start hn, start_alike hn⟩
theorem HInv.mono (h : HInv mode m N) (hN : N ≤ M) : HInv mode m M := by obtain ⟨P, i, a⟩ := h; exact ⟨P, i.mono hN, a⟩
theorem HInv.bytes (h : HInv mode m N) (hc : c < 6) (d : ByteArray) : HInv mode (m.set c { m.get c with bytes := (m.get c).bytes ++ d }) (N + d.size) := by
 obtain ⟨P, i, a⟩ := h
 rw [a.get c]
 exact ⟨_, i.bytes hc d, a.turn (by rw [i.ok.n6]; exact hc) rfl⟩
theorem HInv.cutB (h : HInv mode m N) (hc : c < 6) {b : ByteArray} (hb : b.size ≤ (m.get c).bytes.size) : HInv mode (m.setB c b) N := by
 obtain ⟨P, i, a⟩ := h
 have hc' : c < P.cl.length := by rw [i.ok.n6]; exact hc
 unfold Mach.setB
 rw [a.get c] at hb ⊢
 obtain ⟨H, al⟩ := i.al
 exact ⟨_, ⟨i.ok.bytes hc b, ⟨_, al.turn (x := { P.get c with bytes := b }) hc' rfl⟩, i.bnd.turn (x := { P.get c with bytes := b }) hc' (by unfold clS; simp only; omega) rfl rfl rfl⟩, a.turn hc' rfl⟩
theorem HInv.pull (h : HInv mode m N) (hc : c < 6) {k : UInt8} {t : ByteArray} {j : Nat} (hp : Proofs.YtpbaobmegomfpabGreatDoor.pull (m.get c).bytes = some (k, t, j)) :
  HInv mode (m.set c { m.get c with bytes := (m.get c).bytes.extract j (m.get c).bytes.size, wait := (m.get c).wait ++ [reqOf k t] }) N := by
 obtain ⟨P, i, a⟩ := h
 rw [a.get c] at hp ⊢
 exact ⟨_, i.pull hc hp, a.turn (by rw [i.ok.n6]; exact hc) rfl⟩
theorem HInv.act (h : HInv mode m N) {a : Act} (ha : actE a = 0) : HInv mode (m.act houseO mode a) (N + 1000) := by
 obtain ⟨P, i, al⟩ := h
 exact ⟨_, i.act ha, al.act i.ok ha⟩
end
def askOf (k : UInt8) (t : ByteArray) : Ask := if readE t = 0 then ⟨⟨kindN (cutA t), cutA (cutB t), cutB (cutB t)⟩, decide (k = 81)⟩ else ⟨Req.none_, false⟩
theorem askOf_req (k : UInt8) (t : ByteArray) : (askOf k t).req = reqOf k t := by
 unfold askOf reqOf
 by_cases h : readE t = 0
 ·by_cases hk : k = 81
  ·rw [if_pos h, if_pos ⟨hk, h⟩]; unfold Ask.req; simp [hk]
  ·rw [if_pos h, if_neg (fun e => hk e.1)]; unfold Ask.req; simp [hk]
 ·rw [if_neg h, if_neg (fun e => h e.2)]; rfl
theorem askOf_good (k : UInt8) (t : ByteArray) (h : (askOf k t).ok = true) : (askOf k t).r.ok := by
 unfold askOf at h ⊢
 by_cases hr : readE t = 0
 ·rw [if_pos hr]; exact (text_read hr).1
 ·rw [if_neg hr] at h; cases h
theorem askOf_ok (k : UInt8) (t : ByteArray) : (askOf k t).ok = (decide (k = 81) && decide (readE t = 0)) := by
 unfold askOf
 by_cases hr : readE t = 0
 ·rw [if_pos hr]; simp [hr]
 ·rw [if_neg hr]; simp [hr]
theorem stmtOf_any (k : UInt8) (t : ByteArray) (w : World) :
  Calls Tryz.prog 31 #[.string t] w fun e w' => e = .returned (.tuple #[.agg #[.int .i64 (askOf k t).r.k, .string (askOf k t).r.key, .string (askOf k t).r.val], .int .i64 (readE t)]) ∧ Below w.heap.size w w' := by
 have h := of_all t.size t (nL _)
 unfold askOf
 by_cases hr : readE t = 0
 ·rw [if_pos hr, hr]; exact h.ok hr w
 ·rw [if_neg hr]; exact h.no hr w
theorem unpackH_any (s : ByteArray) (w : World) (hs : s.size ≤ maxLen) : Calls Tryz.prog 29 #[.string s] w fun e w' => e = .returned (pullV s) ∧ Below w.heap.size w w' := by
 unfold pullV pull
 by_cases h2 : 2 ≤ s.size
 ·rw [dif_pos h2]
  by_cases h : 2 + s[1].toNat ≤ s.size
  ·rw [if_pos h]
   refine (unpackedOf_ok s w hs h2 h).mono ?_
   rintro e w' ⟨rfl, n, rfl⟩
   exact ⟨rfl, below_drewN (Below.refl _ _) n⟩
  ·rw [if_neg h]
   refine (unpackedOf_cut s w hs h2 (by omega)).mono ?_
   rintro e w' ⟨rfl, rfl⟩
   exact ⟨rfl, Below.refl _ _⟩
 ·rw [dif_neg h2]
  refine (unpackedOf_two s w (by omega)).mono ?_
  rintro e w' ⟨rfl, rfl⟩
  exact ⟨rfl, Below.refl _ _⟩
section
variable {w : World} {base H A S : Nat} {f g : Nat → Value} {G : Nat → Option Nat} {mode : Int} {m : Mach Wd} {q : Nat → List Ask} {ow : List Int} {N : Nat}
theorem HMem.setBy (h : HMem 0 w base H A S f g G mode m q ow) {c : Nat} (hc : c < 6) (hcl : m.cl.length = 6) (b : ByteArray) :
  HMem 0 (w.setCell ⟨A, c * 4, none⟩ (.string b)) base H A S f (upd g (c * 4) (.string b)) G mode (m.setB c b) q ow := by
 have hcl' : c < m.cl.length := by omega
 refine h.cellA (m' := m.setB c b) _ _ (fun k _ _ _ => by omega) rfl (fun _ _ _ _ => rfl) (fun d hd => ?_) (fun d hd => ?_) (fun d hd => by rw [upd_ne (by omega)]; exact h.sent d hd)
 ·rw [setB_get hcl']
  by_cases e : c = d
  ·subst e; rw [upd_at, if_pos rfl]
  ·rw [upd_ne (by omega), if_neg e]; exact h.bytes d hd
 ·rw [upd_ne (by omega), setB_srv hcl']; exact h.srv d hd
theorem HRel.setB (h : HRel m q ow) {c : Nat} (hcl : c < m.cl.length) (b : ByteArray) : HRel (m.setB c b) q ow := h.same (fun d _ => setB_wait hcl b d) rfl
theorem ask_row : (Tryz.prog.info? 100).map (fun i => (i.zero, i.size, i.bytes)) = some (some (.agg #[.int .i64 0, .string ⟨#[]⟩, .string ⟨#[]⟩, .bool false]), 4, 48) := by kernel_rfl
theorem HMem.waitRun (h : HMem 0 w base H A S f g G mode m q ow) {c : Nat} (hc : c < 6) (hcl : m.cl.length = 6) (hl : (q c).length ≤ 300000) {ad : Nat} (a : Ask) (wt : List Req) (hx : ∀ j u, (askV a)[j]? = some u → w.cell? ⟨ad, j, none⟩ = some u) :
  ∃ b off cap n w', (Builtin.append_ #[92, 92] 92 #[g (c * 4 + 1), .slice (some ⟨ad, 0, none⟩) 1 1]).run Tryz.prog w = .ok (.slice (some ⟨b, off, none⟩) n cap) w' ∧ w'.cell? ⟨A, c * 4 + 1, none⟩ = some (g (c * 4 + 1)) ∧ w'.frozen? ⟨A, c * 4 + 1, none⟩ = false ∧ A < w'.heap.size ∧
   HMem 0 (w'.setCell ⟨A, c * 4 + 1, none⟩ (.slice (some ⟨b, off, none⟩) n cap)) base H A S f (upd g (c * 4 + 1) (.slice (some ⟨b, off, none⟩) n cap)) (upd G (c + 3) (some b)) mode (m.set c { m.get c with wait := wt }) (upd q c (q c ++ [a])) ow ∧ Below base w (w'.setCell ⟨A, c * 4 + 1, none⟩ (.slice (some ⟨b, off, none⟩) n cap)) ∧ w.heap.size ≤ w'.heap.size ∧ ∀ x, x < w.heap.size → G (c + 3) ≠ some x → w'.heap[x]? = w.heap[x]? := by
 obtain ⟨i0, hi, hz0, hz1, hz2⟩ := info_parts ask_row
 have hbH := h.bH
 obtain ⟨b, off, cap, w', hrun, hs, hg, hb⟩ := (h.waitSl hc).append (P := Tryz.prog) 92 92 i0 _ 48 Tryz.underlying92 hi hz0 hz1 hz2 rfl (by omega) ⟨ad, 0, none⟩ 1 (askV a) rfl (fun j u hu => by rw [Addr.add_lit, Nat.zero_add]; exact hx j u hu) (fun u hu => by
  simp only [askV, List.mem_cons, List.not_mem_nil, or_false] at hu
  rcases hu with rfl | rfl | rfl | rfl <;> rfl) (by unfold maxLen; omega) (by omega)
 have hP' := hg.block A h.a.lt (fun e => h.ne (i := c + 3) (j := 1) (b := A) (c := A) e.symm h.g1 (by omega) rfl)
 exact ⟨b, off, cap, _, w', hrun, (World.cell?_of_block (a := ⟨A, c * 4 + 1, none⟩) hP').trans (h.a.cell (j := c * 4 + 1) (by omega)), (World.frozen?_of_block (a := ⟨A, c * 4 + 1, none⟩) hP').trans (h.a.frozen _), Nat.lt_of_lt_of_le h.a.lt hg.size, h.pushed hc hcl a wt hg hs hb, ((Below.refl base w).grown hg hbH.2.2 (fun x hx => (h.lo _ _ hx).1)).setCell hbH.2.1 _, hg.size, fun x hx hne => hg.block x hx (fun e => hne e.symm)⟩
theorem HMem.owned {w1 : World} {b off cap : Nat} (h : HMem 0 w base H A S f g G mode m q ow) (x : Int) (hg : w.grownBy w1 (G 9))
  (hs : Sl w1 3 1 (.slice (some ⟨b, off, none⟩) (ow.length + 1) cap) (some b) (ow.length + 1) ((ow.map fun n => Value.int .i64 n) ++ [.int .i64 x])) (hb : G 9 = some b ∨ (w.heap.size ≤ b ∧ b < w1.heap.size)) :
  HMem 0 (w1.setCell ⟨H, 5, none⟩ (.slice (some ⟨b, off, none⟩) (ow.length + 1) cap)) base H A S (upd f 5 (.slice (some ⟨b, off, none⟩) (ow.length + 1) cap)) g (upd G 9 (some b)) mode m q (ow ++ [x]) := by
 have h0 := (h.but 9).grown (by omega) h.bH.2.2 hg hb
 have h1 := h0.cellH (by omega) (by omega) (.slice (some ⟨b, off, none⟩) (ow.length + 1) cap)
 refine h1.fill ?_ (fun k _ h2 h3 => ?_) rfl (fun _ _ => rfl) (fun _ _ => rfl) (fun _ _ => rfl)
 ·have e2 : upd G 9 (some b) 9 = some b := by unfold upd; rw [if_pos rfl]
  have e3 : hV (upd f 5 (.slice (some ⟨b, off, none⟩) (ow.length + 1) cap)) g 9 = .slice (some ⟨b, off, none⟩) (ow.length + 1) cap := by unfold hV; rw [if_neg (by omega)]; exact upd_at
  rw [show hT 9 = 3 from rfl, show hZ 9 = 1 from rfl, hI_o, flat_int, e2, e3, List.length_map, List.length_append, List.map_append]
  refine (by simpa using hs : Sl w1 _ 1 _ (some b) (ow.length + 1) _).keep fun x hx => set_off w1 H 5 _ x (h0.ne (i := 9) (by rw [e2, hx]) h0.g0 (by omega))
 ·unfold hI
  split
  ·rfl
  ·rfl
theorem HMem.ownRun (h : HMem 0 w base H A S f g G mode m q ow) {n : Nat} (hn : ow.length = n) (hl : n ≤ 1000) {ad : Nat} (x : Int) (hx : w.cell? ⟨ad, 0, none⟩ = some (.int .i64 x)) :
  ∃ b off cap w', (Builtin.append_ #[79, 79] 79 #[f 5, .slice (some ⟨ad, 0, none⟩) 1 1]).run Tryz.prog w = .ok (.slice (some ⟨b, off, none⟩) (n + 1) cap) w' ∧ w'.cell? ⟨H, 5, none⟩ = some (f 5) ∧ w'.frozen? ⟨H, 5, none⟩ = false ∧ H < w'.heap.size ∧
   HMem 0 (w'.setCell ⟨H, 5, none⟩ (.slice (some ⟨b, off, none⟩) (n + 1) cap)) base H A S (upd f 5 (.slice (some ⟨b, off, none⟩) (n + 1) cap)) g (upd G 9 (some b)) mode m q (ow ++ [x]) ∧ Below base w (w'.setCell ⟨H, 5, none⟩ (.slice (some ⟨b, off, none⟩) (n + 1) cap)) := by
 subst hn
 obtain ⟨i0, hi, hz0, hz1, hz2⟩ := info_parts int_row
 have hbH := h.bH
 obtain ⟨b, off, cap, w', hrun, hs, hg, hb⟩ := h.ownSl.append (P := Tryz.prog) 79 79 i0 _ 8 Tryz.underlying79 hi hz0 hz1 hz2 rfl (by omega) ⟨ad, 0, none⟩ 1 [.int .i64 x] rfl (fun j u hu => by
  cases j with
  | zero => simp at hu; rw [← hu]; exact hx
  | succ j => simp at hu) (fun u hu => by simp at hu; rw [hu]; rfl) (by unfold maxLen; omega) (by omega)
 have hP' := hg.block H h.h.lt (fun e => h.ne (i := 9) (j := 0) (b := H) (c := H) e.symm h.g0 (by omega) rfl)
 exact ⟨b, off, cap, w', hrun, (World.cell?_of_block (a := ⟨H, 5, none⟩) hP').trans (h.h.cell (j := 5) (by omega)), (World.frozen?_of_block (a := ⟨H, 5, none⟩) hP').trans (h.h.frozen _), Nat.lt_of_lt_of_le h.h.lt hg.size, h.owned x hg hs hb, ((Below.refl base w).grown hg hbH.2.2 (fun x hx => (h.lo _ _ hx).1)).setCell hbH.1 _⟩
theorem HMem.busy {X : Nat} (h : HMem X w base H A S f g G mode m q ow) (bs : List Bool) : HMem X w base H A S f g G mode { m with busy := bs } q ow :=
 ⟨h.h, h.a, h.ref, h.g0, h.g1, h.g2, h.lo, h.inj, h.sl, h.md, h.f3, h.f4, h.bytes, h.srv, h.sent⟩
end
def clZ : Cl := ⟨⟨#[]⟩, [], some 0⟩
def startM (k : Nat) : Mach Wd := ⟨houseStart, List.replicate k Cl.new ++ List.replicate (6 - k) clZ, [], [], List.replicate 6 ⟨#[]⟩, []⟩
theorem startM_len {k : Nat} (h : k ≤ 6) : (startM k).cl.length = 6 := by unfold startM; simp; omega
theorem startM_set {k : Nat} (h : k < 6) : (startM k).set k { (startM k).get k with srv := none } = startM (k + 1) := by
 obtain rfl | rfl | rfl | rfl | rfl | rfl := c6 h <;> rfl
theorem startM_end (n : Nat) : { startM 6 with busy := List.replicate n false } = Mach.start houseStart n := rfl
def startH (H A S : Nat) : Nat → Option Nat := fun i => if i = 0 then some H else if i = 1 then some A else if i = 2 then some S else none
theorem startH_out {H A S i b : Nat} (h : startH H A S i = some b) : (i = 0 ∧ b = H) ∨ (i = 1 ∧ b = A) ∨ (i = 2 ∧ b = S) := by
 unfold startH at h
 split at h
 ·rename_i e; injection h with h; exact .inl ⟨e, h.symm⟩
 ·split at h
  ·rename_i e; injection h with h; exact .inr (.inl ⟨e, h.symm⟩)
  ·split at h
   ·rename_i e; injection h with h; exact .inr (.inr ⟨e, h.symm⟩)
   ·cases h
def gZ (j : Nat) : Value := [Value.string ⟨#[]⟩, .slice none 0 0, .int .i64 0, .string ⟨#[]⟩].getD (j % 4) (.int .i64 0)
theorem gZ_at (c : Nat) : gZ (c * 4) = .string ⟨#[]⟩ ∧ gZ (c * 4 + 1) = .slice none 0 0 ∧ gZ (c * 4 + 2) = .int .i64 0 ∧ gZ (c * 4 + 3) = .string ⟨#[]⟩ := by
 unfold gZ
 rw [show c * 4 % 4 = 0 by omega, show (c * 4 + 1) % 4 = 1 by omega, show (c * 4 + 2) % 4 = 2 by omega, show (c * 4 + 3) % 4 = 3 by omega]
 exact ⟨rfl, rfl, rfl, rfl⟩
def hZf (mode srv : Int) (A S : Nat) (j : Nat) : Value := [Value.int .i64 mode, .int .i64 srv, .slice none 0 0, .slice (some ⟨S, 0, none⟩) 6 6, .slice (some ⟨A, 0, none⟩) 6 6, .slice none 0 0, .slice none 0 0, .slice none 0 0].getD j (.int .i64 0)
theorem HMem.start {w : World} {base H A S : Nat} {mode srv : Int} (hH : FRow w H 91 8 (hZf mode srv A S)) (hA : FRow w A 94 24 gZ)
  (hS : RowTo w S 115 30 (madeCells #[.int .i64 0, .slice none 0 0, .slice none 0 0, .slice none 0 0, .slice none 0 0] 30).toList) (h1 : H ≠ A) (h2 : H ≠ S) (h3 : A ≠ S) (l1 : base ≤ H) (l2 : base ≤ A) (l3 : base ≤ S) :
  HMem 0 w base H A S (hZf mode srv A S) gZ (startH H A S) mode (startM 0) (fun _ => []) [] := by
 have hSl := hS.lt
 have hc : ∀ j, j < 30 → w.cell? ⟨S, j, none⟩ = some (if j % 5 = 0 then .int .i64 0 else .slice none 0 0) := fun j hj => by
  have hl : j < (madeCells #[Value.int .i64 0, .slice none 0 0, .slice none 0 0, .slice none 0 0, .slice none 0 0] 30).toList.length := by simpa [madeCells] using hj
  rw [hS.cell hl]
  have h5 : j % 5 < 5 := Nat.mod_lt _ (by omega)
  simp only [madeCells, Array.getElem_toList, Array.getElem_map, Array.getElem_range, List.size_toArray, List.length_cons, List.length_nil]
  obtain e | e | e | e | e : j % 5 = 0 ∨ j % 5 = 1 ∨ j % 5 = 2 ∨ j % 5 = 3 ∨ j % 5 = 4 := by omega
  all_goals (rw [e]; rfl)
 have hnil : ∀ {X : Nat} {g : Option Nat}, ∀ k, 3 ≤ k → k ≤ 11 → hV (hZf mode srv A S) gZ k = .slice none 0 0 := fun k h3 h11 => by
  unfold hV
  split
  ·exact (gZ_at (k - 3)).2.1
  ·obtain rfl | rfl | rfl : k = 9 ∨ k = 10 ∨ k = 11 := by omega
   all_goals rfl
 have hI0 : ∀ k, hI (startM 0) (fun _ => []) [] k = [] := fun k => by
  unfold hI
  split
  ·rfl
  ·split
   ·rfl
   ·split <;> rfl
 have hg : ∀ i, 3 ≤ i → startH H A S i = none := fun i hi => by unfold startH; rw [if_neg (by omega), if_neg (by omega), if_neg (by omega)]
 have hget : ∀ c, c < 6 → (startM 0).get c = clZ := fun c hc => by
  obtain rfl | rfl | rfl | rfl | rfl | rfl := c6 hc <;> rfl
 refine ⟨hH, hA, ⟨Lst.none_ _ _, InP.nil_ _ _, hS.front 0, nL _, by show 6 * 104 ≤ _; omega, fun i hi => ⟨.slice none 0 0, .slice none 0 0, .slice none 0 0, .slice none 0 0, ?_⟩⟩, rfl, rfl, rfl, fun i b hi => ?_, fun i j b hi hj => ?_, fun k h3 h11 _ => ?_, rfl, rfl, rfl, fun c hc => ?_, fun c hc => ?_, fun c hc => ?_⟩
 ·have hi6 : i < 6 := hi
  show SesP _ _ _ _ _ ((List.replicate 6 Sess.zero)[i]'(by simpa using hi6)) _ _ _ _
  rw [List.getElem_replicate]
  exact ⟨⟨by rw [hc _ (by omega), if_pos (by omega)]; rfl, by rw [hc _ (by omega), if_neg (by omega)], by rw [hc _ (by omega), if_neg (by omega)], by rw [hc _ (by omega), if_neg (by omega)], by rw [hc _ (by omega), if_neg (by omega)], Lst.none_ _ _, Lst.none_ _ _, Lst.none_ _ _, Lst.none_ _ _⟩, InP.nil_ _ _, InP.nil_ _ _, InP.nil_ _ _, InP.nil_ _ _⟩
 ·have := hH.lt
  have := hA.lt
  rcases startH_out hi with ⟨_, rfl⟩ | ⟨_, rfl⟩ | ⟨_, rfl⟩ <;> omega
 ·rcases startH_out hi with ⟨a1, a2⟩ | ⟨a1, a2⟩ | ⟨a1, a2⟩ <;> rcases startH_out hj with ⟨b1, b2⟩ | ⟨b1, b2⟩ | ⟨b1, b2⟩ <;> omega
 ·rw [hnil (X := 0) (g := none) k h3 h11, hI0, hg k h3]
  exact Sl.nil_ _ _ _
 ·rw [(gZ_at c).1, hget c hc]; rfl
 ·rw [(gZ_at c).2.2.1, hget c hc]; rfl
 ·rw [(gZ_at c).2.2.2]
  obtain rfl | rfl | rfl | rfl | rfl | rfl := c6 hc <;> rfl
theorem HRel.start (n : Nat) : HRel (Mach.start houseStart n) (fun _ => []) (List.replicate n (-1)) := by
 have hget : ∀ c, c < 6 → (Mach.start houseStart n).get c = Cl.new := fun c hc => by
  obtain rfl | rfl | rfl | rfl | rfl | rfl := c6 hc <;> rfl
 refine ⟨fun c hc => (by rw [hget c hc]; rfl), fun c hc a ha => (by cases ha), (by simp [Mach.start]), fun s hs => ?_⟩
 rw [List.length_replicate] at hs
 show _ ↔ (List.replicate n false)[s]? = some false
 rw [List.getElem_replicate, List.getElem?_replicate, if_pos hs]
 simp
theorem madeCells_get (z : Array Value) (n j : Nat) (hj : j < n) : (madeCells z n)[j]? = some (z[j % z.size]!) := by
 simp [madeCells, hj]
theorem sl_tlst {w : World} {t : Nat} {v : Value} {g : Option Nat} {l : List ByteArray} (h : Sl w t 1 v g l.length (l.map Value.string)) (hl : l.length ≤ 1000000) (hs : ∀ t ∈ l, t.size ≤ 100000000) (hg : ∀ b, g = some b → b < w.heap.size) : TLst w w.heap.size v l := by
 obtain ⟨A, c, rfl, hc⟩ := h.shape
 refine ⟨⟨A, c, rfl, hc⟩, hl, hs, fun hn => ?_⟩
 obtain ⟨b, off, cap, h1, h2, h3, h4⟩ := h.at hn
 refine ⟨b, off, cap, h2, hg b h1, fun i hi => ?_⟩
 rw [h4 i (by simpa using hi), List.getElem_map]
set_option maxHeartbeats 2000000 in
theorem scriptOf_bad (mode srv : Int) (v : Value) (l : List Act) (w : World) (hl : ALst w w.heap.size v l) (hE : runE mode srv l ≠ 0) :
  Calls Tryz.prog 8 #[.agg #[.int .i64 mode, .int .i64 srv], v] w fun e w' => e = .returned (.tuple #[.agg #[.slice none 0 0, .slice none 0 0, .slice none 0 0], .int .i64 (runE mode srv l)]) ∧ Below w.heap.size w w' := by
 have n0 := ((Below.refl w.heap.size w).alloc (nL _) (.cells #[.int .i64 mode, .int .i64 srv] 23)).alloc (by simp) (.cells #[.slice none 0 0, .slice none 0 0, .slice none 0 0] 29)
 have X1 := (RowTo.whole w #[.int .i64 mode, .int .i64 srv] 23).alloc (.cells #[.slice none 0 0, .slice none 0 0, .slice none 0 0] 29)
 have X2 := RowTo.whole (w.alloc (.cells #[.int .i64 mode, .int .i64 srv] 23)) #[.slice none 0 0, .slice none 0 0, .slice none 0 0] 29
 simp only [World.size_alloc] at X2
 obtain ⟨x0, x1⟩ := cells2 X1
 have HSF := jD (fun wc => setupFault_any mode srv wc)
 obtain ⟨Al, cAl, rfl, hcAl⟩ := hl.form
 have hby := hl.bytes
 have HL := jD (hl.step n0)
 have HX := jD (And.intro X1 X2)
 have HN0 := jD n0
 have hz0 : ((w.alloc (.cells #[.int .i64 mode, .int .i64 srv] 23)).alloc (.cells #[.slice none 0 0, .slice none 0 0, .slice none 0 0] 29)).heap.size = w.heap.size + 1 + 1 := by simp
 clear hl n0 X1 X2
 by_cases hs : setupE mode srv = 0
 case neg =>
  have HER := jD (show runE mode srv l = setupE mode srv by unfold runE; rw [if_pos hs])
  have t1 : (setupE mode srv == 0) = false := beq_eq_false_iff_ne.2 hs
  have t2 : (setupE mode srv != 0) = true := bne_iff_ne.2 hs
  clear hs hE
  generalize setupE mode srv = er at *
  go_enter Tryz.func8, Tryz.ntmps8
  go_wp2_with fail
  refine (HSF.out _).mono ?_
  rintro e w1 ⟨rfl, hb1⟩
  have hX2 := HX.out.2.below hb1 HX.out.2.lt
  have hbw := bel_add' HN0.out hb1 HN0.out.size
  clear hb1 HSF HX HN0 x0 x1 hz0
  go_wp2_with fail
  go_loopw [6, 7] (fun e i wr => e = .int .i64 er ∧ i = .int .i64 0 ∧ w1 = wr) (fun _ _ _ => 0)
  case atStart => exact ⟨rfl, rfl, rfl⟩
  case round =>
   obtain ⟨rfl, rfl, rfl⟩ := hrel
   by_cases hlt : 0 < l.length
   ·have hkI : decide ((0 : Int) < (l.length : Int)) = true := decide_eq_true (by omega)
    obtain ⟨y0, y1, y2⟩ := cells3 hX2
    have z0 := hX2.frozen 0
    have z1 := hX2.frozen 1
    have z2 := hX2.frozen 2
    have hRl := hX2.lt
    have hBf := ((hbw.setCell (p := ⟨w.heap.size + 1, 0, none⟩) (by show w.heap.size ≤ w.heap.size + 1; omega) (.slice none 0 0)).setCell (p := ⟨w.heap.size + 1, 1, none⟩) (by show w.heap.size ≤ w.heap.size + 1; omega) (.slice none 0 0)).setCell (p := ⟨w.heap.size + 1, 2, none⟩) (by show w.heap.size ≤ w.heap.size + 1; omega) (.slice none 0 0)
    have hRf := ((hX2.put (j := 0) (by simp) (.slice none 0 0)).put (j := 1) (by simp) (.slice none 0 0)).put (j := 2) (by simp) (.slice none 0 0)
    have HF := jD (And.intro hBf hRf)
    clear hBf hRf hX2 hbw
    go_wp2
    obtain ⟨hBB, hRow⟩ := HF.out
    obtain ⟨t0, t1, t2⟩ := cells3 hRow
    generalize ((w1.setCell ⟨w.heap.size + 1, 0, none⟩ (.slice none 0 0)).setCell ⟨w.heap.size + 1, 1, none⟩ (.slice none 0 0)).setCell ⟨w.heap.size + 1, 2, none⟩ (.slice none 0 0) = WF at *
    refine bodyPost_ret (v := .tuple #[.agg #[.slice none 0 0, .slice none 0 0, .slice none 0 0], .int .i64 er]) (by simp [results, Tryz.results8, go_sem, t0, t1, t2]) rfl ⟨by rw [HER.out], hBB⟩
   ·have hkI : decide ((0 : Int) < (l.length : Int)) = false := decide_eq_false (by omega)
    obtain ⟨y0, y1, y2⟩ := cells3 hX2
    have z0 := hX2.frozen 0
    have z1 := hX2.frozen 1
    have z2 := hX2.frozen 2
    have hRl := hX2.lt
    have hBf := ((hbw.setCell (p := ⟨w.heap.size + 1, 0, none⟩) (by show w.heap.size ≤ w.heap.size + 1; omega) (.slice none 0 0)).setCell (p := ⟨w.heap.size + 1, 1, none⟩) (by show w.heap.size ≤ w.heap.size + 1; omega) (.slice none 0 0)).setCell (p := ⟨w.heap.size + 1, 2, none⟩) (by show w.heap.size ≤ w.heap.size + 1; omega) (.slice none 0 0)
    have hRf := ((hX2.put (j := 0) (by simp) (.slice none 0 0)).put (j := 1) (by simp) (.slice none 0 0)).put (j := 2) (by simp) (.slice none 0 0)
    have HF := jD (And.intro hBf hRf)
    clear hBf hRf hX2 hbw
    go_wp2
    obtain ⟨hBB, hRow⟩ := HF.out
    obtain ⟨t0, t1, t2⟩ := cells3 hRow
    generalize ((w1.setCell ⟨w.heap.size + 1, 0, none⟩ (.slice none 0 0)).setCell ⟨w.heap.size + 1, 1, none⟩ (.slice none 0 0)).setCell ⟨w.heap.size + 1, 2, none⟩ (.slice none 0 0) = WF at *
    refine bodyPost_ret (v := .tuple #[.agg #[.slice none 0 0, .slice none 0 0, .slice none 0 0], .int .i64 er]) (by simp [results, Tryz.results8, go_sem, t0, t1, t2]) rfl ⟨by rw [HER.out], hBB⟩
 rw [hs] at HSF
 by_cases h3 : 300 < l.length
 ·have t3 : decide (300 < (l.length : Int)) = true := decide_eq_true (by omega)
  have HER := jD (show runE mode srv l = 1 by unfold runE; rw [if_neg (fun h => h hs), if_pos h3])
  clear hs hE h3
  go_enter Tryz.func8, Tryz.ntmps8
  go_wp2_with fail
  refine (HSF.out _).mono ?_
  rintro e w1 ⟨rfl, hb1⟩
  have hX2 := HX.out.2.below hb1 HX.out.2.lt
  have hbw := bel_add' HN0.out hb1 HN0.out.size
  clear hb1 HSF HX HN0 x0 x1 hz0
  go_wp2_with fail
  go_loopw [6, 7] (fun e i wr => e = .int .i64 1 ∧ i = .int .i64 0 ∧ w1 = wr) (fun _ _ _ => 0)
  case atStart => exact ⟨rfl, rfl, rfl⟩
  case round =>
   obtain ⟨rfl, rfl, rfl⟩ := hrel
   by_cases hlt : 0 < l.length
   ·have hkI : decide ((0 : Int) < (l.length : Int)) = true := decide_eq_true (by omega)
    obtain ⟨y0, y1, y2⟩ := cells3 hX2
    have z0 := hX2.frozen 0
    have z1 := hX2.frozen 1
    have z2 := hX2.frozen 2
    have hRl := hX2.lt
    have hBf := ((hbw.setCell (p := ⟨w.heap.size + 1, 0, none⟩) (by show w.heap.size ≤ w.heap.size + 1; omega) (.slice none 0 0)).setCell (p := ⟨w.heap.size + 1, 1, none⟩) (by show w.heap.size ≤ w.heap.size + 1; omega) (.slice none 0 0)).setCell (p := ⟨w.heap.size + 1, 2, none⟩) (by show w.heap.size ≤ w.heap.size + 1; omega) (.slice none 0 0)
    have hRf := ((hX2.put (j := 0) (by simp) (.slice none 0 0)).put (j := 1) (by simp) (.slice none 0 0)).put (j := 2) (by simp) (.slice none 0 0)
    have HF := jD (And.intro hBf hRf)
    clear hBf hRf hX2 hbw
    go_wp2
    obtain ⟨hBB, hRow⟩ := HF.out
    obtain ⟨t0, t1, t2⟩ := cells3 hRow
    generalize ((w1.setCell ⟨w.heap.size + 1, 0, none⟩ (.slice none 0 0)).setCell ⟨w.heap.size + 1, 1, none⟩ (.slice none 0 0)).setCell ⟨w.heap.size + 1, 2, none⟩ (.slice none 0 0) = WF at *
    refine bodyPost_ret (v := .tuple #[.agg #[.slice none 0 0, .slice none 0 0, .slice none 0 0], .int .i64 1]) (by simp [results, Tryz.results8, go_sem, t0, t1, t2]) rfl ⟨by rw [HER.out], hBB⟩
   ·have hkI : decide ((0 : Int) < (l.length : Int)) = false := decide_eq_false (by omega)
    obtain ⟨y0, y1, y2⟩ := cells3 hX2
    have z0 := hX2.frozen 0
    have z1 := hX2.frozen 1
    have z2 := hX2.frozen 2
    have hRl := hX2.lt
    have hBf := ((hbw.setCell (p := ⟨w.heap.size + 1, 0, none⟩) (by show w.heap.size ≤ w.heap.size + 1; omega) (.slice none 0 0)).setCell (p := ⟨w.heap.size + 1, 1, none⟩) (by show w.heap.size ≤ w.heap.size + 1; omega) (.slice none 0 0)).setCell (p := ⟨w.heap.size + 1, 2, none⟩) (by show w.heap.size ≤ w.heap.size + 1; omega) (.slice none 0 0)
    have hRf := ((hX2.put (j := 0) (by simp) (.slice none 0 0)).put (j := 1) (by simp) (.slice none 0 0)).put (j := 2) (by simp) (.slice none 0 0)
    have HF := jD (And.intro hBf hRf)
    clear hBf hRf hX2 hbw
    go_wp2
    obtain ⟨hBB, hRow⟩ := HF.out
    obtain ⟨t0, t1, t2⟩ := cells3 hRow
    generalize ((w1.setCell ⟨w.heap.size + 1, 0, none⟩ (.slice none 0 0)).setCell ⟨w.heap.size + 1, 1, none⟩ (.slice none 0 0)).setCell ⟨w.heap.size + 1, 2, none⟩ (.slice none 0 0) = WF at *
    refine bodyPost_ret (v := .tuple #[.agg #[.slice none 0 0, .slice none 0 0, .slice none 0 0], .int .i64 1]) (by simp [results, Tryz.results8, go_sem, t0, t1, t2]) rfl ⟨by rw [HER.out], hBB⟩
 have t3 : decide (300 < (l.length : Int)) = false := decide_eq_false (by omega)
 have HER := jD (show runE mode srv l = actsE l by unfold runE; rw [if_neg (fun h => h hs), if_neg h3])
 rw [HER.out] at hE
 clear hs
 go_enter Tryz.func8, Tryz.ntmps8
 go_wp2_with fail
 refine (HSF.out _).mono ?_
 rintro e w1 ⟨rfl, hb1⟩
 have hX2 := HX.out.2.below hb1 HX.out.2.lt
 have hbw := bel_add' HN0.out hb1 HN0.out.size
 have HX2 := jD (And.intro hX2 hbw)
 have HL1 := jD (HL.out.step hb1)
 clear hb1 HSF HX HN0 x0 x1 hz0 hX2 hbw HL
 go_wp2_with fail
 go_loopw [6, 7] (fun e i wr => ∃ (k : Nat) (x : Int), k ≤ l.length ∧ i = .int .i64 k ∧ e = .int .i64 x ∧ Hid ((x = 0 ∧ actsE (l.take k) = 0 ∨ x ≠ 0 ∧ actsE l = x) ∧ Below w1.heap.size w1 wr)) (fun _ i _ => l.length - (intOf i).toNat)
 case atStart => exact ⟨0, 0, by omega, rfl, rfl, Or.inl ⟨rfl, rfl⟩, Below.refl _ _⟩
 case round =>
  obtain ⟨k, x, hk, rfl, rfl, hR⟩ := hrel
  rcases hR.out.1 with ⟨rfl, h0⟩ | ⟨hx, hE2⟩
  ·by_cases hlt : k < l.length
   ·have bl := hR.out.2
    obtain ⟨b, off, rfl, hb, l0, l1, l2⟩ := HL1.out.pt hlt
    have d0 := (bl.cell (p := ⟨b, off + k * 3, none⟩) hb).trans l0
    have d1 := (bl.cell (p := ⟨b, off + k * 3 + 1, none⟩) hb).trans l1
    have d2 := (bl.cell (p := ⟨b, off + k * 3 + 2, none⟩) hb).trans l2
    have hbw : b < wr.heap.size := Nat.lt_of_lt_of_le hb bl.size
    have hkI : (k : Int) < (l.length : Int) := by omega
    have HT := jD (actsE_take hlt h0)
    have HO := jD (fun h => actsE_of hlt h0 h)
    have HBL := jD bl
    have hae : ∀ a : Act, actE a = if ¬ (a.kind = 1 ∨ a.kind = 2) then 3 else if a.c < 0 ∨ 6 ≤ a.c then 2 else if 1000 < a.data.size then 1 else 0 := fun _ => rfl
    rw [hae] at HT HO
    generalize l[k] = x at *
    obtain ⟨kd, cl, da⟩ := x
    simp only at d0 d1 d2 HT HO
    clear l0 l1 l2 bl hR hae h0 hE
    by_cases h1 : kd = 1 ∨ kd = 2
    case neg =>
     have q1 : (decide (1 ≤ kd) && decide (kd ≤ 2)) = false := by rw [Bool.and_eq_false_iff, decide_eq_false_iff_not, decide_eq_false_iff_not]; omega
     rw [if_pos h1] at HO
     have HO2 := jD (HO.out (by decide))
     clear HO HT h1
     go_wp2_with fail
     refine (inN_any kd 1 2 _).mono ?_
     rw [q1]
     rintro e w2 ⟨rfl, rfl⟩
     go_wp2
     go_roundw
     case rel => exact ⟨k + 1, 3, by omega, by go_num, rfl, Or.inr ⟨by decide, HO2.out⟩, HBL.out⟩
     case measure => simp [intOf]; omega
    have q1 : (decide (1 ≤ kd) && decide (kd ≤ 2)) = true := by rw [Bool.and_eq_true, decide_eq_true_eq, decide_eq_true_eq]; omega
    rw [if_neg (fun h => h h1)] at HO HT
    by_cases h2 : cl < 0 ∨ 6 ≤ cl
    ·have q2 : (decide (0 ≤ cl) && decide (cl ≤ 5)) = false := by rw [Bool.and_eq_false_iff, decide_eq_false_iff_not, decide_eq_false_iff_not]; omega
     rw [if_pos h2] at HO
     have HO2 := jD (HO.out (by decide))
     clear HO HT h1 h2
     go_wp2_with fail
     refine (inN_any kd 1 2 _).mono ?_
     rw [q1]
     rintro e w2 ⟨rfl, rfl⟩
     go_wp2_with fail
     refine (inN_any cl 0 5 _).mono ?_
     rw [q2]
     rintro e w2 ⟨rfl, rfl⟩
     go_wp2
     go_roundw
     case rel => exact ⟨k + 1, 2, by omega, by go_num, rfl, Or.inr ⟨by decide, HO2.out⟩, HBL.out⟩
     case measure => simp [intOf]; omega
    have q2 : (decide (0 ≤ cl) && decide (cl ≤ 5)) = true := by rw [Bool.and_eq_true, decide_eq_true_eq, decide_eq_true_eq]; omega
    rw [if_neg h2] at HO HT
    by_cases h3 : 1000 < da.size
    ·have q3 : decide (1000 < (da.size : Int)) = true := decide_eq_true (by omega)
     rw [if_pos h3] at HO
     have HO2 := jD (HO.out (by decide))
     clear HO HT h1 h2 h3
     go_wp2_with fail
     refine (inN_any kd 1 2 _).mono ?_
     rw [q1]
     rintro e w2 ⟨rfl, rfl⟩
     go_wp2_with fail
     refine (inN_any cl 0 5 _).mono ?_
     rw [q2]
     rintro e w2 ⟨rfl, rfl⟩
     go_wp2
     go_roundw
     case rel => exact ⟨k + 1, 1, by omega, by go_num, rfl, Or.inr ⟨by decide, HO2.out⟩, HBL.out⟩
     case measure => simp [intOf]; omega
    ·have q3 : decide (1000 < (da.size : Int)) = false := decide_eq_false (by omega)
     rw [if_neg h3] at HT
     clear HO h1 h2 h3
     go_wp2_with fail
     refine (inN_any kd 1 2 _).mono ?_
     rw [q1]
     rintro e w2 ⟨rfl, rfl⟩
     go_wp2_with fail
     refine (inN_any cl 0 5 _).mono ?_
     rw [q2]
     rintro e w2 ⟨rfl, rfl⟩
     go_wp2
     go_roundw
     case rel => exact ⟨k + 1, 0, by omega, by go_num, rfl, Or.inl ⟨rfl, HT.out⟩, HBL.out⟩
     case measure => simp [intOf]; omega
   ·obtain rfl : k = l.length := by omega
    rw [List.take_length] at h0
    exact absurd h0 hE
  ·have t4 : (x == 0) = false := beq_eq_false_iff_ne.2 hx
   have t5 : (x != 0) = true := bne_iff_ne.2 hx
   have hbl := hR.out.2
   have hX2 := HX2.out.1.below hbl HX2.out.1.lt
   have hbw := bel_add' HX2.out.2 hbl HX2.out.2.size
   replace HER := jD (HER.out.trans hE2)
   clear hR hbl hx hE2 hE
   by_cases hlt : k < l.length
   ·have hkI : decide ((k : Int) < (l.length : Int)) = true := decide_eq_true (by omega)
    clear HL1
    obtain ⟨y0, y1, y2⟩ := cells3 hX2
    have z0 := hX2.frozen 0
    have z1 := hX2.frozen 1
    have z2 := hX2.frozen 2
    have hRl := hX2.lt
    have hBf := ((hbw.setCell (p := ⟨w.heap.size + 1, 0, none⟩) (by show w.heap.size ≤ w.heap.size + 1; omega) (.slice none 0 0)).setCell (p := ⟨w.heap.size + 1, 1, none⟩) (by show w.heap.size ≤ w.heap.size + 1; omega) (.slice none 0 0)).setCell (p := ⟨w.heap.size + 1, 2, none⟩) (by show w.heap.size ≤ w.heap.size + 1; omega) (.slice none 0 0)
    have hRf := ((hX2.put (j := 0) (by simp) (.slice none 0 0)).put (j := 1) (by simp) (.slice none 0 0)).put (j := 2) (by simp) (.slice none 0 0)
    have HF := jD (And.intro hBf hRf)
    clear hBf hRf hX2 hbw
    go_wp2
    obtain ⟨hBB, hRow⟩ := HF.out
    obtain ⟨t0, t1, t2⟩ := cells3 hRow
    generalize ((wr.setCell ⟨w.heap.size + 1, 0, none⟩ (.slice none 0 0)).setCell ⟨w.heap.size + 1, 1, none⟩ (.slice none 0 0)).setCell ⟨w.heap.size + 1, 2, none⟩ (.slice none 0 0) = WF at *
    refine bodyPost_ret (v := .tuple #[.agg #[.slice none 0 0, .slice none 0 0, .slice none 0 0], .int .i64 x]) (by simp [results, Tryz.results8, go_sem, t0, t1, t2]) rfl ⟨by rw [HER.out], hBB⟩
   ·have hkI : decide ((k : Int) < (l.length : Int)) = false := decide_eq_false (by omega)
    clear HL1
    obtain ⟨y0, y1, y2⟩ := cells3 hX2
    have z0 := hX2.frozen 0
    have z1 := hX2.frozen 1
    have z2 := hX2.frozen 2
    have hRl := hX2.lt
    have hBf := ((hbw.setCell (p := ⟨w.heap.size + 1, 0, none⟩) (by show w.heap.size ≤ w.heap.size + 1; omega) (.slice none 0 0)).setCell (p := ⟨w.heap.size + 1, 1, none⟩) (by show w.heap.size ≤ w.heap.size + 1; omega) (.slice none 0 0)).setCell (p := ⟨w.heap.size + 1, 2, none⟩) (by show w.heap.size ≤ w.heap.size + 1; omega) (.slice none 0 0)
    have hRf := ((hX2.put (j := 0) (by simp) (.slice none 0 0)).put (j := 1) (by simp) (.slice none 0 0)).put (j := 2) (by simp) (.slice none 0 0)
    have HF := jD (And.intro hBf hRf)
    clear hBf hRf hX2 hbw
    go_wp2
    obtain ⟨hBB, hRow⟩ := HF.out
    obtain ⟨t0, t1, t2⟩ := cells3 hRow
    generalize ((wr.setCell ⟨w.heap.size + 1, 0, none⟩ (.slice none 0 0)).setCell ⟨w.heap.size + 1, 1, none⟩ (.slice none 0 0)).setCell ⟨w.heap.size + 1, 2, none⟩ (.slice none 0 0) = WF at *
    refine bodyPost_ret (v := .tuple #[.agg #[.slice none 0 0, .slice none 0 0, .slice none 0 0], .int .i64 x]) (by simp [results, Tryz.results8, go_sem, t0, t1, t2]) rfl ⟨by rw [HER.out], hBB⟩
end Go.Proofs.YtpbaobmegomfpabGreatDoor
