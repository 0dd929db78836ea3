/-
  Texts of the proof, one behind the other: BDo, InP, WOff, Math4, PoolM, PoolM2, PoolM3, PIdx, SlM, RwM, DelP, PWo, WldP0, PoolM4, HouseM.
-/
import Derived.Test.YtpbaobmegomfpabGreatDoorM3
import Derived.Test.YtpbaobmegomfpabGreatDoorM1
import Derived.Test.YtpbaobmegomfpabGreatDoorRows
import Derived.WalkKit
import Derived.WalkSpells
import Derived.Lib.Hide
import Derived.Deep.QuietTactic
import Derived.BigQuiet
import Derived.IntWalk
import Derived.WalkSmall
import Derived.ArgAppend
import Derived.Deep.Upon
import Derived.Laws.IdiomCopy
import Derived.Tactics
import Derived.WalkLawsBesides
import Derived.Lib.SliceRun
set_option linter.unusedVariables false
set_option linter.unusedSimpArgs false
set_option maxRecDepth 100000
open List renaming getElem_toArray → gTA, getElem_cons_zero → gCZ, getElem_cons_succ → gCS, setIfInBounds_toArray → sTA, set_cons_zero → sCZ, set_cons_succ → sCS
open Go.Lib renaming hid → hD
open Nat renaming le_refl → nL
namespace Go.Proofs.YtpbaobmegomfpabGreatDoor
open Go.RowKit
def doBad (e : Int) : Value := .tuple #[.agg #[.slice none 0 0, .slice none 0 0], .agg #[.int .i64 0, .string ⟨#[]⟩, .int .i64 0], .int .i64 e]
def doGood (r s : Value) (a : Ans) (st : Int) : Value := .tuple #[.agg #[r, s], .agg #[.int .i64 a.kind, .string a.text, .int .i64 st], .int .i64 0]
def doW0 (w : World) (r s : Value) (k : Int) (key val : ByteArray) : World :=
 (((w.alloc (.cells #[r, s] 39)).alloc (.cells #[.int .i64 k, .string key, .string val] 41)).alloc (.cells #[.slice none 0 0, .slice none 0 0] 39)).alloc (.cells #[.int .i64 0, .string ⟨#[]⟩, .int .i64 0] 46)
structure DoAt (w w1 : World) (r s : Value) (k : Int) (key val : ByteArray) : Prop where
 X : RowTo w1 w.heap.size 39 2 [r, s]
 Y : RowTo w1 (w.heap.size + 1) 41 3 [.int .i64 k, .string key, .string val]
 R : RowTo w1 (w.heap.size + 1 + 1) 39 2 [.slice none 0 0, .slice none 0 0]
 A : RowTo w1 (w.heap.size + 1 + 1 + 1) 46 3 [.int .i64 0, .string ⟨#[]⟩, .int .i64 0]
 bel : Below w.heap.size w w1
 size : w.heap.size + 1 + 1 + 1 + 1 ≤ w1.heap.size
theorem doAt0 (w : World) (r s : Value) (k : Int) (key val : ByteArray) : DoAt w (doW0 w r s k key val) r s k key val := by
 unfold doW0
 refine ⟨(((RowTo.whole w #[r, s] _).alloc _).alloc _).alloc _, ?_, ?_, ?_, ?_, by simp⟩
 ·have := ((RowTo.whole (w.alloc (.cells #[r, s] 39)) #[.int .i64 k, .string key, .string val] 41).alloc (.cells #[.slice none 0 0, .slice none 0 0] 39)).alloc (.cells #[.int .i64 0, .string ⟨#[]⟩, .int .i64 0] 46)
  simpa using this
 ·have := (RowTo.whole ((w.alloc (.cells #[r, s] 39)).alloc (.cells #[.int .i64 k, .string key, .string val] 41)) #[.slice none 0 0, .slice none 0 0] 39).alloc (.cells #[.int .i64 0, .string ⟨#[]⟩, .int .i64 0] 46)
  simpa using this
 ·have := RowTo.whole (((w.alloc (.cells #[r, s] 39)).alloc (.cells #[.int .i64 k, .string key, .string val] 41)).alloc (.cells #[.slice none 0 0, .slice none 0 0] 39)) #[.int .i64 0, .string ⟨#[]⟩, .int .i64 0] 46
  simpa using this
 ·repeat' (first | exact Below.refl _ _ | assumption | with_reducible refine below_drewN ?_ _ | with_reducible refine Below.drew ?_ | with_reducible refine Below.setCell ?_ ?_ _ | with_reducible refine Below.alloc ?_ ?_ _ | (simp; done) | (simp; omega))
theorem DoAt.below {w w1 w2 : World} {r s : Value} {k : Int} {key val : ByteArray} (h : DoAt w w1 r s k key val) (hb : Below w1.heap.size w1 w2) : DoAt w w2 r s k key val :=
 ⟨h.X.below hb h.X.lt, h.Y.below hb h.Y.lt, h.R.below hb h.R.lt, h.A.below hb h.A.lt, bel_add' h.bel hb h.bel.size, Nat.le_trans h.size hb.size⟩
def NoTwo (w : World) (R : Nat) : Prop := ∀ j x y, w.cell? ⟨R, j, none⟩ = some (.string x) → w.cell? ⟨R, j + 1, none⟩ ≠ some (.string y)
theorem Lst.offN {w w' : World} {B R : Nat} {v : Value} {l : PL} (hR : NoTwo w R) (h : Lst w B v l) (hk : ∀ b, b ≠ R → w'.heap[b]? = w.heap[b]?) : Lst w' B v l := by
 refine ⟨h.form, h.bytes, h.sizes, fun hn => ?_, h.nil⟩
 obtain ⟨b, off, c, e, hb, hc⟩ := h.cells hn
 have hne : b ≠ R := by
  rintro rfl
  obtain ⟨h1, h2⟩ := hc 0 hn
  rw [Nat.zero_mul, Nat.add_zero] at h1 h2
  exact hR _ _ _ h1 h2
 exact ⟨b, off, c, e, hb, fun i hi => ⟨(World.cell?_of_block (hk b hne)).trans (hc i hi).1, (World.cell?_of_block (hk b hne)).trans (hc i hi).2⟩⟩
structure EndR (w : World) (base X S : Nat) (r : Value) (W : Wd) : Prop where
 box : RowTo w X 39 2 [r, slc S W.ss.length W.ss.length] ∧ Wld w w.heap.size r (slc S W.ss.length W.ss.length) W ∧ LoV base r
 blk : RowTo w S 115 (W.ss.length * 5) []
 loX : base ≤ X
 loS : base ≤ S
 los : ∀ k j v, k < W.ss.length → j < 4 → w.cell? ⟨S, k * 5 + (j + 1), none⟩ = some v → LoV base v
theorem EndW.r {w : World} {base X S : Nat} {W : Wd} (h : EndW w base X S W) : ∃ r, EndR w base X S r W := by
 obtain ⟨r, hb⟩ := h.box
 exact ⟨r, hb, h.blk, h.loX, h.loS, h.los⟩
theorem EndR.offN {w w' : World} {base X S R : Nat} {r : Value} {W : Wd} (h : EndR w base X S r W) (hX : X ≠ R) (hS : S ≠ R) (hR : NoTwo w R) (hs : w'.heap.size = w.heap.size) (hk : ∀ b, b ≠ R → w'.heap[b]? = w.heap[b]?) : EndR w' base X S r W := by
 obtain ⟨hbox, ⟨hr, hss⟩, hlr⟩ := h.box
 refine ⟨⟨hbox.same (hk X hX), ⟨?_, ?_⟩, hlr⟩, h.blk.same (hk S hS), h.loX, h.loS, fun k j v hk' hj hv => h.los k j v hk' hj ((World.cell?_of_block (hk S hS)).symm.trans hv)⟩
 ·rw [hs]; exact hr.offN hR hk
 ·rw [hs]
  refine ⟨hss.form, hss.bytes, fun hn => ?_⟩
  obtain ⟨b, off, c, e, hb, hc⟩ := hss.cells hn
  refine ⟨b, off, c, e, hb, fun i hi => ?_⟩
  obtain ⟨v1, v2, v3, v4, q⟩ := hc i hi
  have hbS : b = S := by unfold slc at e; injection e with e; injection e with e; injection e with e; exact e.symm
  have cs : ∀ j, w'.cell? ⟨b, j, none⟩ = w.cell? ⟨b, j, none⟩ := fun j => World.cell?_of_block (hk b (by rw [hbS]; exact hS))
  exact ⟨v1, v2, v3, v4, (cs _).trans q.c0, (cs _).trans q.c1, (cs _).trans q.c2, (cs _).trans q.c3, (cs _).trans q.c4, q.l1.offN hR hk, q.l2.offN hR hk, q.l3.offN hR hk, q.l4.offN hR hk⟩
theorem EndR.below {w w' : World} {base X S : Nat} {r : Value} {W : Wd} (h : EndR w base X S r W) (hb : Below w.heap.size w w') : EndR w' base X S r W := by
 obtain ⟨hbox, hw, hlr⟩ := h.box
 exact ⟨⟨hbox.below hb hbox.lt, hw.step hb, hlr⟩, h.blk.below hb h.blk.lt, h.loX, h.loS, fun k j v hk hj hv => h.los k j v hk hj ((hb.cell (p := ⟨S, k * 5 + (j + 1), none⟩) h.blk.lt).symm.trans hv)⟩
theorem noTwo_answer {w : World} {R : Nat} {x y : Int} {s : ByteArray} (h : RowTo w R 46 3 [.int .i64 x, .string s, .int .i64 y]) : NoTwo w R := by
 intro j a b h1 h2
 have r0 := h.cell (j := 0) (by simp)
 have r2 := h.cell (j := 2) (by simp)
 simp only [gCZ, gCS] at r0 r2
 rcases Nat.lt_or_ge j 3 with hj | hj
 ·obtain rfl | rfl | rfl : j = 0 ∨ j = 1 ∨ j = 2 := by omega
  ·rw [r0] at h1; cases h1
  ·rw [r2] at h2; cases h2
  ·rw [r2] at h1; cases h1
 ·rw [h.out_ hj] at h1; cases h1
theorem noTwo_world {w : World} {R t : Nat} {a b : Option Addr} {n m c d : Nat} (h : RowTo w R t 2 [.slice a n c, .slice b m d]) : NoTwo w R := by
 intro j x y h1 h2
 have r0 := h.cell (j := 0) (by simp)
 have r1 := h.cell (j := 1) (by simp)
 simp only [gCZ, gCS] at r0 r1
 rcases Nat.lt_or_ge j 2 with hj | hj
 ·obtain rfl | rfl : j = 0 ∨ j = 1 := by omega
  ·rw [r0] at h1; cases h1
  ·rw [r1] at h1; cases h1
 ·rw [h.out_ hj] at h1; cases h1
theorem EndR.sess {w : World} {base X S : Nat} {r : Value} {W : Wd} (h : EndR w base X S r W) {i : Nat} (hi : i < W.ss.length) : ∃ v1 v2 v3 v4, Ses w w.heap.size S (i * 5) W.ss[i] v1 v2 v3 v4 := by
 obtain ⟨hbox, ⟨hr, hss⟩, hlr⟩ := h.box
 obtain ⟨b, off, c, e, hb, hc⟩ := hss.cells (by omega)
 unfold slc at e
 injection e with e
 injection e with e
 injection e with e1 e2
 subst e1
 subst e2
 have := hc i hi
 rw [Nat.zero_add] at this
 exact this
theorem EndR.noTwo {w : World} {base X S : Nat} {r : Value} {W : Wd} (h : EndR w base X S r W) : NoTwo w S := by
 intro j x y h1 h2
 rcases Nat.lt_or_ge j (W.ss.length * 5) with hj | hj
 ·obtain ⟨v1, v2, v3, v4, q⟩ := h.sess (i := j / 5) (by omega)
  have hm : j % 5 = 0 ∨ j % 5 = 1 ∨ j % 5 = 2 ∨ j % 5 = 3 ∨ j % 5 = 4 := by omega
  rcases hm with hm | hm | hm | hm | hm
  ·have := q.c0; rw [show j / 5 * 5 = j by omega, h1] at this; cases this
  ·have := q.c1; rw [show j / 5 * 5 + 1 = j by omega, h1] at this; obtain ⟨a, c, e, _⟩ := q.l1.form; rw [e] at this; cases this
  ·have := q.c2; rw [show j / 5 * 5 + 2 = j by omega, h1] at this; obtain ⟨a, c, e, _⟩ := q.l2.form; rw [e] at this; cases this
  ·have := q.c3; rw [show j / 5 * 5 + 3 = j by omega, h1] at this; obtain ⟨a, c, e, _⟩ := q.l3.form; rw [e] at this; cases this
  ·have := q.c4; rw [show j / 5 * 5 + 4 = j by omega, h1] at this; obtain ⟨a, c, e, _⟩ := q.l4.form; rw [e] at this; cases this
 ·rw [h.blk.out_ hj] at h1; cases h1
theorem EndR.failed {w : World} {base X S : Nat} {r : Value} {W : Wd} (h : EndR w base X S r W) {i : Nat} (hi : i < W.ss.length) (hne : X ≠ S) :
  EndR ((w.setCell ⟨S, i * 5, none⟩ (.int .i64 2)).setCell ⟨S, i * 5 + 4, none⟩ (.slice none 0 0)) base X S r (W.put i { W.ss[i] with st := 2, wr := [] }) := by
 have hn := h.noTwo
 have hk : ∀ b, b ≠ S → ((w.setCell ⟨S, i * 5, none⟩ (.int .i64 2)).setCell ⟨S, i * 5 + 4, none⟩ (.slice none 0 0)).heap[b]? = w.heap[b]? := fun b hb => by rw [Below.heap_setCell _ _ _ _ hb, Below.heap_setCell _ _ _ _ hb]
 have hs : ((w.setCell ⟨S, i * 5, none⟩ (.int .i64 2)).setCell ⟨S, i * 5 + 4, none⟩ (.slice none 0 0)).heap.size = w.heap.size := by simp [World.setCell]
 have hl : (W.put i { W.ss[i] with st := 2, wr := [] }).ss.length = W.ss.length := by unfold Wd.put; simp
 have hall := fun q (hq : q < W.ss.length) => h.sess hq
 obtain ⟨hbox, ⟨hr, hss⟩, hlr⟩ := h.box
 have c0 : ((w.setCell ⟨S, i * 5, none⟩ (.int .i64 2)).setCell ⟨S, i * 5 + 4, none⟩ (.slice none 0 0)).cell? ⟨S, i * 5, none⟩ = some (.int .i64 2) := by
  rw [cell_off _ (by omega)]; exact cell_put h.blk (by omega) _
 have c4 : ((w.setCell ⟨S, i * 5, none⟩ (.int .i64 2)).setCell ⟨S, i * 5 + 4, none⟩ (.slice none 0 0)).cell? ⟨S, i * 5 + 4, none⟩ = some (.slice none 0 0) := cell_put (h.blk.hit _) (by omega) _
 have co : ∀ j, j ≠ i * 5 → j ≠ i * 5 + 4 → ((w.setCell ⟨S, i * 5, none⟩ (.int .i64 2)).setCell ⟨S, i * 5 + 4, none⟩ (.slice none 0 0)).cell? ⟨S, j, none⟩ = w.cell? ⟨S, j, none⟩ := fun j h1 h2 => by rw [cell_off _ h2, cell_off _ h1]
 refine ⟨⟨by rw [hl]; exact hbox.same (hk X hne), ⟨?_, ?_⟩, hlr⟩, by rw [hl]; exact (h.blk.hit _).hit _, h.loX, h.loS, fun k j v hk' hj hv => ?_⟩
 ·rw [hs]; exact hr.offN hn hk
 ·rw [hs]
  refine ⟨⟨_, _, rfl, nL _⟩, by rw [hl]; exact hss.bytes, fun _ => ⟨S, 0, _, rfl, h.blk.lt, fun q hq => ?_⟩⟩
  rw [hl] at hq
  obtain ⟨v1, v2, v3, v4, z⟩ := hall q hq
  rw [Nat.zero_add]
  by_cases e : i = q
  ·subst e
   have eg : (W.put i { W.ss[i] with st := 2, wr := [] }).ss[i]'(by rw [hl]; exact hi) = { W.ss[i] with st := 2, wr := [] } := by simp [Wd.put]
   rw [eg]
   exact ⟨v1, v2, v3, .slice none 0 0, c0, (co _ (by omega) (by omega)).trans z.c1, (co _ (by omega) (by omega)).trans z.c2, (co _ (by omega) (by omega)).trans z.c3, c4, z.l1.offN hn hk, z.l2.offN hn hk, z.l3.offN hn hk, Lst.none_ _ _⟩
  ·have eg : (W.put i { W.ss[i] with st := 2, wr := [] }).ss[q]'(by rw [hl]; exact hq) = W.ss[q] := by simp [Wd.put, List.getElem_set_ne e]
   rw [eg]
   exact ⟨v1, v2, v3, v4, (co _ (by omega) (by omega)).trans z.c0, (co _ (by omega) (by omega)).trans z.c1, (co _ (by omega) (by omega)).trans z.c2, (co _ (by omega) (by omega)).trans z.c3, (co _ (by omega) (by omega)).trans z.c4, z.l1.offN hn hk, z.l2.offN hn hk, z.l3.offN hn hk, z.l4.offN hn hk⟩
 ·rw [hl] at hk'
  by_cases e : k * 5 + (j + 1) = i * 5 + 4
  ·rw [e, c4] at hv; injection hv with hv; rw [← hv]; exact LoV.non _ _ _
  ·rw [co _ (by omega) e] at hv; exact h.los k j v hk' hj hv
theorem wput_at_ {V : Wd} {i : Nat} {x : Sess} (h : i < V.ss.length) : (V.put i x).at i = x := by unfold Wd.at Wd.put; simp [List.getD_eq_getElem?_getD, List.getElem?_set_self h]
theorem OwnW.ownD {w : World} {base gR S X : Nat} {G : Nat → Nat → Nat} {W : Wd} {xs : List Value} (h : OwnW w base gR S G W) (hx : RowTo w X 39 2 xs) (hX : X < base) (hz : SzW W) :
  OwnD ((w.setCell ⟨X, 0, none⟩ (sl gR W.rows.length)).setCell ⟨X, 1, none⟩ (sl S W.ss.length)) X S gR W.rows.length G (fun i j => ((W.at i).li j).length) W := by
 have loG : ∀ i j, i < W.ss.length → j < 4 → X < G i j := fun i j hi hj => Nat.lt_of_lt_of_le hX (h.sess.lo i j hi hj)
 have hR := h.loR
 have hS := h.loS
 have cw : ∀ j, ((w.setCell ⟨X, 0, none⟩ (sl gR W.rows.length)).setCell ⟨X, 1, none⟩ (sl S W.ss.length)).cell? ⟨S, j, none⟩ = w.cell? ⟨S, j, none⟩ := fun j => by
  rw [World.cell?_setCell_other _ _ _ _ (fun e => by injection e with e; omega), World.cell?_setCell_other _ _ _ _ (fun e => by injection e with e; omega)]
 have hrow : RowTo ((w.setCell ⟨X, 0, none⟩ (sl gR W.rows.length)).setCell ⟨X, 1, none⟩ (sl S W.ss.length)) X 39 2 ([] ++ [sl gR W.rows.length] ++ [sl S W.ss.length]) :=
  (hx.nil.push (by simp) _ rfl).push (by simp) _ (by simp)
 refine ⟨hrow, ⟨(h.rows.other (by show X ≠ gR; omega) _).other (by show X ≠ gR; omega) _, nL _, by have := hz.rows.1; omega⟩, (h.sess.blk.other (by show X ≠ S; omega) _).other (by show X ≠ S; omega) _, fun i hi => (cw _).trans (h.sess.st i hi hi), fun i j hi hj => ?_, fun i j hi hj => ?_, by omega, by omega, h.neS, fun i j hi hj => by have := loG i j hi hj; omega, fun i j hi hj => h.sess.ne i j hi hj, fun i j hi hj => h.neG i j hi hj, fun i j i' j' hi hj hi' hj' e => h.sess.inj i j i' j' hi hj hi' hj' e⟩
 ·rw [cw, h.sess.cs i j hi hi hj, getD_at hi]; rfl
 ·rw [getD_at hi]
  have hg := loG i j hi hj
  exact ⟨((h.sess.ls i j hi hi hj).other (by show X ≠ G i j; omega) _).other (by show X ≠ G i j; omega) _, nL _, by have := (hz.li i j hi hj).1; omega⟩
set_option maxHeartbeats 2000000 in
theorem do_ok (r s : Value) (W : Wd) (i : Nat) (k : Int) (key val : ByteArray) (w : World) (hW : Wld w w.heap.size r s W) (hWo : Words w) (hkz : key.size ≤ maxLen) (hvz : val.size ≤ maxLen) (he : doE W i k key val = 0) :
  Calls Tryz.prog 23 #[.agg #[r, s], .int .i64 i, .agg #[.int .i64 k, .string key, .string val]] w fun e w' => ∃ r' s', e = .returned (doGood r' s' (doM W i k key val).2 ((doM W i k key val).1.at i).st) ∧ Wld w' w'.heap.size r' s' (doM W i k key val).1 ∧ Below w.heap.size w w' := by
 obtain ⟨A, c, rfl, hc⟩ := hW.sess.form
 obtain ⟨D, d, rfl, hd⟩ := hW.rows.form
 have HW := hD hW
 have HWo := hD hWo
 have t : (doE W i k key val != 0) = false := bne_eq_false_iff_eq.2 he
 obtain ⟨hwb, hi, hchk⟩ : worldB W = true ∧ i < W.ss.length ∧ checkE k key val = 0 := by
  unfold doE at he
  split at he
  ·cases he
  ·rename_i h1
   split at he
   ·cases he
   ·rename_i h2
    exact ⟨by simpa using h1, by omega, he⟩
 have hwo := worldB_iff.1 hwb
 have hz := worldOk_sz hwo
 have HZ := hD hz
 have HK := hD hchk
 have HWK := hD hwo
 clear hwb hwo hz hchk
 have H0 := hD (doAt0 w (.slice D W.rows.length d) (.slice A W.ss.length c) k key val)
 clear hW hWo he
 go_enter Tryz.func23, Tryz.ntmps23
 go_wp2_with fail
 refine (checkDo_any _ _ W i k key val _ (HW.out.step H0.out.bel) (HWo.out.below H0.out.bel) hkz hvz).mono ?_
 rintro e w1 ⟨rfl, hb1⟩
 have h1 := H0.out.below hb1
 have x0 := h1.X.cell (j := 0) (by simp)
 have x1 := h1.X.cell (j := 1) (by simp)
 have y0 := h1.Y.cell (j := 0) (by simp)
 have y1 := h1.Y.cell (j := 1) (by simp)
 have y2 := h1.Y.cell (j := 2) (by simp)
 simp only [gCZ, gCS] at x0 x1 y0 y1 y2
 have H1 := hD h1
 clear hb1 h1
 go_wp2_with fail
 refine (copy_any _ _ W _ (HW.out.step H1.out.bel)).mono ?_
 rintro e w2 ⟨gR, S, G, rfl, hown, hb2⟩
 have h2 := H1.out.below hb2
 have hD := hown.ownD h2.X (by have := H1.out.size; omega) HZ.out
 have hlo : LoD w.heap.size w.heap.size S gR G W.ss.length := ⟨nL _, by have := hown.loS; have := H1.out.size; omega, by have := hown.loR; have := H1.out.size; omega, fun i j hi hj => by have := hown.sess.lo i j hi hj; have := H1.out.size; omega⟩
 have HD := hD hD
 have HO := hD hown
 have H2 := hD h2
 have HLO := hD hlo
 obtain ⟨u0, x0⟩ := h2.X.any (j := 0) (by omega)
 obtain ⟨u1, x1⟩ := h2.X.any (j := 1) (by omega)
 have f0 := h2.X.frozen 0
 have f1 := h2.X.frozen 1
 have y0 := h2.Y.cell (j := 0) (by simp)
 have y1 := h2.Y.cell (j := 1) (by simp)
 have y2 := h2.Y.cell (j := 2) (by simp)
 simp only [gCZ, gCS] at y0 y1 y2
 clear hb2 h2 hD hown hlo
 unfold sl at HD ⊢
 go_wp2_with fail
 have hfine := didM_ok HWK.out hi HK.out
 have htx := (didM_ans HWK.out hi k key val).len
 obtain ⟨q, hq⟩ : ∃ q, q = didM W i k key val := ⟨_, rfl⟩
 have HE := hD (execute_any w.heap.size w.heap.size S gR W.rows.length G (fun i j => ((W.at i).li j).length) W i k key val _ HD.out HLO.out HWK.out (by have := H2.out.size; simp [World.setCell]; omega) hi HK.out (HWo.out.below ((H2.out.bel.setCell (nL _) _).setCell (nL _) _)))
 rw [← hq] at HE hfine htx
 refine HE.out.mono ?_
 rintro e w4 hp
 obtain rfl := hp.1
 have hsz : ∀ u v, ((w2.setCell ⟨w.heap.size, 0, none⟩ u).setCell ⟨w.heap.size, 1, none⟩ v).heap.size = w2.heap.size := fun u v => by simp [World.setCell]
 have hrest : ∀ b, w.heap.size < b → b < w.heap.size + 1 + 1 + 1 + 1 → w4.heap[b]? = w2.heap[b]? := fun b h1 h2 => by
  have h3 := H2.out.size
  have h4 := HO.out.loS
  have h5 := HO.out.loR
  have h6 := H1.out.size
  rw [hp.2.2.2 b (by rw [hsz]; omega) (by omega) (by omega) (by omega) (fun i j hi hj => by have := HO.out.sess.lo i j hi hj; omega), Below.heap_setCell _ _ _ _ (by show b ≠ w.heap.size; omega), Below.heap_setCell _ _ _ _ (by show b ≠ w.heap.size; omega)]
 have R4 := H2.out.R.same (hrest _ (by omega) (by omega))
 have A4 := H2.out.A.same (hrest _ (by omega) (by omega))
 obtain ⟨rv, hEnd⟩ := hp.2.1.r
 have hBel : Below w.heap.size w w4 := ((H2.out.bel.setCell (nL _) _).setCell (nL _) _).trans hp.2.2.1
 obtain ⟨hbox, hwl, hlr⟩ := hEnd.box
 have hqi : i < q.1.ss.length := by rw [hfine.2]; exact hi
 obtain ⟨v1, v2, v3, v4, hses⟩ := hEnd.sess hqi
 have hsi := hses.c0
 obtain ⟨rA, rc, rfl, _⟩ := hwl.rows.form
 have z0 := hbox.cell (j := 0) (by simp)
 have z1 := hbox.cell (j := 1) (by simp)
 simp only [gCZ, gCS] at z0 z1
 unfold slc at z1
 have hqi' : (i : Int) < (q.1.ss.length : Int) := by omega
 have hSw := hEnd.blk.lt
 have hXw := hbox.lt
 have fS0 := hEnd.blk.frozen (i * 5)
 have fS4 := hEnd.blk.frozen (i * 5 + 4)
 obtain ⟨u4, uS4⟩ := hEnd.blk.any (j := i * 5 + 4) (by omega)
 have hRw := R4.lt
 have hAw := A4.lt
 have hXS : w.heap.size ≠ S := fun e => by have := HO.out.loS; have := H1.out.size; omega
 have HP := hD hEnd
 have HB := hD hBel
 have HR := hD R4
 have HA := hD A4
 have HF := hD hfine
 have HQ := hD hq
 clear hp hrest R4 A4 hEnd hBel hbox hwl hlr hses hfine hq HE hsz x0 x1 f0 f1 y0 y1 y2
 unfold ansV
 have hRS : w.heap.size + 1 + 1 ≠ S := fun e => by have := HO.out.loS; have := H1.out.size; omega
 have hRS3 : w.heap.size + 1 + 1 + 1 ≠ S := fun e => by have := HO.out.loS; have := H1.out.size; omega
 by_cases hcase : q.2.kind = 4 ∧ q.1.ss[i].st = 1
 ·have c1 : (q.2.kind == 4) = true := beq_iff_eq.2 hcase.1
  have c2 : (q.1.ss[i].st == 1) = true := beq_iff_eq.2 hcase.2
  have HC := hD hcase
  clear hcase
  go_wp2
  have hE5 := (HP.out.failed hqi hXS).below ((Below.refl _ _).alloc (nL _) (.cells #[.int .i64 q.2.kind, .string q.2.text, .int .i64 0] 46))
  have hR5 := ((HR.out.other (p := ⟨S, i * 5, none⟩) (fun e => hRS e.symm) (.int .i64 2)).other (p := ⟨S, i * 5 + 4, none⟩) (fun e => hRS e.symm) (.slice none 0 0)).alloc (.cells #[.int .i64 q.2.kind, .string q.2.text, .int .i64 0] 46)
  have hA5' := ((HA.out.other (p := ⟨S, i * 5, none⟩) (fun e => hRS3 e.symm) (.int .i64 2)).other (p := ⟨S, i * 5 + 4, none⟩) (fun e => hRS3 e.symm) (.slice none 0 0)).alloc (.cells #[.int .i64 q.2.kind, .string q.2.text, .int .i64 0] 46)
  have hB5 := ((HB.out.setCell (p := ⟨S, i * 5, none⟩) HLO.out.s (.int .i64 2)).setCell (p := ⟨S, i * 5 + 4, none⟩) HLO.out.s (.slice none 0 0)).alloc (by simp [World.setCell]; omega) (.cells #[.int .i64 q.2.kind, .string q.2.text, .int .i64 0] 46)
  have hz5 : (((w4.setCell ⟨S, i * 5, none⟩ (.int .i64 2)).setCell ⟨S, i * 5 + 4, none⟩ (.slice none 0 0)).alloc (.cells #[.int .i64 q.2.kind, .string q.2.text, .int .i64 0] 46)).heap.size = w4.heap.size + 1 := by simp [World.setCell]
  have hNew := RowTo.whole ((w4.setCell ⟨S, i * 5, none⟩ (.int .i64 2)).setCell ⟨S, i * 5 + 4, none⟩ (.slice none 0 0)) #[.int .i64 q.2.kind, .string q.2.text, .int .i64 0] 46
  rw [show ((w4.setCell ⟨S, i * 5, none⟩ (.int .i64 2)).setCell ⟨S, i * 5 + 4, none⟩ (.slice none 0 0)).heap.size = w4.heap.size by simp [World.setCell]] at hNew
  have hq5 : i < (q.1.put i { q.1.ss[i] with st := 2, wr := [] }).ss.length := by rw [wput_len]; exact hqi
  have hst5 : (q.1.put i { q.1.ss[i] with st := 2, wr := [] }).ss[i].st = 2 := by simp [Wd.put]
  obtain ⟨u1, u2, u3, u5, hs5⟩ := hE5.sess hq5
  have s0 := hs5.c0
  rw [hst5] at s0
  have zn : ∀ j u, w4.cell? ⟨w.heap.size, j, none⟩ = some u → (((w4.setCell ⟨S, i * 5, none⟩ (.int .i64 2)).setCell ⟨S, i * 5 + 4, none⟩ (.slice none 0 0)).alloc (.cells #[.int .i64 q.2.kind, .string q.2.text, .int .i64 0] 46)).cell? ⟨w.heap.size, j, none⟩ = some u := fun j u h => by rw [World.cell?_alloc_lt _ _ _ (by simp [World.setCell]; omega), World.cell?_setCell_other _ _ _ _ (fun e => by injection e with e; exact hXS e.symm), World.cell?_setCell_other _ _ _ _ (fun e => by injection e with e; exact hXS e.symm)]; exact h
  have z0 := zn 0 _ z0
  have z1 := zn 1 _ z1
  have a0 := hNew.cell (j := 0) (by simp)
  have a1 := hNew.cell (j := 1) (by simp)
  simp only [gCZ, gCS] at a0 a1
  have hX5 : w.heap.size < (((w4.setCell ⟨S, i * 5, none⟩ (.int .i64 2)).setCell ⟨S, i * 5 + 4, none⟩ (.slice none 0 0)).alloc (.cells #[.int .i64 q.2.kind, .string q.2.text, .int .i64 0] 46)).heap.size := by rw [hz5]; omega
  have hA5 : w4.heap.size < (((w4.setCell ⟨S, i * 5, none⟩ (.int .i64 2)).setCell ⟨S, i * 5 + 4, none⟩ (.slice none 0 0)).alloc (.cells #[.int .i64 q.2.kind, .string q.2.text, .int .i64 0] 46)).heap.size := by rw [hz5]; omega
  have hS5 : S < (((w4.setCell ⟨S, i * 5, none⟩ (.int .i64 2)).setCell ⟨S, i * 5 + 4, none⟩ (.slice none 0 0)).alloc (.cells #[.int .i64 q.2.kind, .string q.2.text, .int .i64 0] 46)).heap.size := by rw [hz5]; omega
  have HDM := hD (show doM W i k key val = (q.1.put i { q.1.ss[i] with st := 2, wr := [] }, q.2) by rw [doM, ← HQ.out]; simp only [getD_at hqi]; rw [if_pos HC.out])
  have hXR : w.heap.size ≠ w.heap.size + 1 + 1 := by omega
  have hAR : w4.heap.size ≠ w.heap.size + 1 + 1 := by omega
  have hSR : S ≠ w.heap.size + 1 + 1 := fun e => hRS e.symm
  have hXA : w.heap.size ≠ w.heap.size + 1 + 1 + 1 := by omega
  have hAA : w4.heap.size ≠ w.heap.size + 1 + 1 + 1 := by omega
  have hSA : S ≠ w.heap.size + 1 + 1 + 1 := fun e => hRS3 e.symm
  have HR5 := hD hR5
  have HA5 := hD hA5'
  have HE5 := hD hE5
  have HB5 := hD hB5
  have hRw5 := hR5.lt
  have hAw5 := hA5'.lt
  clear hR5 hA5' hE5 hB5 zn hz5 hNew hs5 hst5 hq5
  generalize ((w4.setCell ⟨S, i * 5, none⟩ (.int .i64 2)).setCell ⟨S, i * 5 + 4, none⟩ (.slice none 0 0)).alloc (.cells #[.int .i64 q.2.kind, .string q.2.text, .int .i64 0] 46) = W5 at *
  have kb := Below.refl W5.heap.size W5
  have HS := hD (show W5.drew.cell? ⟨w.heap.size, 0, none⟩ = some (.slice rA q.1.rows.length rc) ∧ W5.drew.cell? ⟨w.heap.size, 1, none⟩ = some (.slice (some ⟨S, 0, none⟩) q.1.ss.length q.1.ss.length) ∧ W5.drew.cell? ⟨w4.heap.size, 0, none⟩ = some (.int .i64 q.2.kind) ∧ W5.drew.cell? ⟨w4.heap.size, 1, none⟩ = some (.string q.2.text) ∧ W5.drew.cell? ⟨S, i * 5, none⟩ = some (.int .i64 2) from ⟨z0, z1, a0, a1, s0⟩)
  go_region_held3 (fun wx => wx.cell? ⟨w.heap.size, 0, none⟩ = some (.slice rA q.1.rows.length rc) ∧ wx.cell? ⟨w.heap.size, 1, none⟩ = some (.slice (some ⟨S, 0, none⟩) q.1.ss.length q.1.ss.length) ∧ wx.cell? ⟨w4.heap.size, 0, none⟩ = some (.int .i64 q.2.kind) ∧ wx.cell? ⟨w4.heap.size, 1, none⟩ = some (.string q.2.text) ∧ wx.cell? ⟨S, i * 5, none⟩ = some (.int .i64 2))
   (first
    | with_reducible exact ⟨z0, z1, a0, a1, s0⟩
    | with_reducible exact HS.out
    | with_reducible exact ⟨(kb.cell (p := ⟨w.heap.size, 0, none⟩) hX5).trans z0, (kb.cell (p := ⟨w.heap.size, 1, none⟩) hX5).trans z1, (kb.cell (p := ⟨w4.heap.size, 0, none⟩) hA5).trans a0, (kb.cell (p := ⟨w4.heap.size, 1, none⟩) hA5).trans a1, (kb.cell (p := ⟨S, i * 5, none⟩) hS5).trans s0⟩
    | with_reducible exact ⟨cell_set3 (cell_set2 ((kb.cell (p := ⟨w.heap.size, 0, none⟩) hX5).trans z0) hXR) hXA, cell_set3 (cell_set2 ((kb.cell (p := ⟨w.heap.size, 1, none⟩) hX5).trans z1) hXR) hXA, cell_set3 (cell_set2 ((kb.cell (p := ⟨w4.heap.size, 0, none⟩) hA5).trans a0) hAR) hAA, cell_set3 (cell_set2 ((kb.cell (p := ⟨w4.heap.size, 1, none⟩) hA5).trans a1) hAR) hAA, cell_set3 (cell_set2 ((kb.cell (p := ⟨S, i * 5, none⟩) hS5).trans s0) hSR) hSA⟩
    | with_reducible exact ⟨cell_set2 ((kb.cell (p := ⟨w.heap.size, 0, none⟩) hX5).trans z0) hXR, cell_set2 ((kb.cell (p := ⟨w.heap.size, 1, none⟩) hX5).trans z1) hXR, cell_set2 ((kb.cell (p := ⟨w4.heap.size, 0, none⟩) hA5).trans a0) hAR, cell_set2 ((kb.cell (p := ⟨w4.heap.size, 1, none⟩) hA5).trans a1) hAR, cell_set2 ((kb.cell (p := ⟨S, i * 5, none⟩) hS5).trans s0) hSR⟩)
   (first
    | (
     go_at_call 46
     refine (clone_any q.2.text _ (by omega)).mono ?_
     rintro e w6 ⟨rfl, hy⟩
     have kb : Below W5.heap.size W5 w6 := by first | exact hy | exact bel_addN kb hy kb.size | exact bel_add kb hy kb.size
     have R6 := HR5.out.below kb hRw5
     have A6 := HA5.out.below kb hAw5
     have r0 := R6.cell (j := 0) (by simp)
     have r1 := R6.cell (j := 1) (by simp)
     have b0 := A6.cell (j := 0) (by simp)
     have b1 := A6.cell (j := 1) (by simp)
     have b2 := A6.cell (j := 2) (by simp)
     have g0 := R6.frozen 0
     have g1 := R6.frozen 1
     have k0 := A6.frozen 0
     have k1 := A6.frozen 1
     have k2 := A6.frozen 2
     simp only [gCZ, gCS] at r0 r1 b0 b1 b2))
  all_goals go_wp2
  all_goals refine bodyPost_ret (v := doGood (.slice rA q.1.rows.length rc) (.slice (some ⟨S, 0, none⟩) q.1.ss.length q.1.ss.length) q.2 2) (by simp [results, Tryz.results23, go_sem, r0, r1, b0, b1, b2, doGood]) rfl ?_
  all_goals
   have hk1 : ∀ b, b ≠ w.heap.size + 1 + 1 → ((w6.setCell ⟨w.heap.size + 1 + 1, 0, none⟩ (.slice rA q.1.rows.length rc)).setCell ⟨w.heap.size + 1 + 1, 1, none⟩ (.slice (some ⟨S, 0, none⟩) q.1.ss.length q.1.ss.length)).heap[b]? = w6.heap[b]? := fun b hb => by rw [Below.heap_setCell _ _ _ _ hb, Below.heap_setCell _ _ _ _ hb]
   have e1 := (HE5.out.below kb).offN (R := w.heap.size + 1 + 1) (by omega) hSR (noTwo_world R6) (by simp [World.setCell]) hk1
   have A7 := (A6.other (p := ⟨w.heap.size + 1 + 1, 0, none⟩) (by show w.heap.size + 1 + 1 ≠ _; omega) (.slice rA q.1.rows.length rc)).other (p := ⟨w.heap.size + 1 + 1, 1, none⟩) (by show w.heap.size + 1 + 1 ≠ _; omega) (.slice (some ⟨S, 0, none⟩) q.1.ss.length q.1.ss.length)
   have hk2 : ∀ (x y z : Value) b, b ≠ w.heap.size + 1 + 1 + 1 → (((((w6.setCell ⟨w.heap.size + 1 + 1, 0, none⟩ (.slice rA q.1.rows.length rc)).setCell ⟨w.heap.size + 1 + 1, 1, none⟩ (.slice (some ⟨S, 0, none⟩) q.1.ss.length q.1.ss.length)).setCell ⟨w.heap.size + 1 + 1 + 1, 0, none⟩ x).setCell ⟨w.heap.size + 1 + 1 + 1, 1, none⟩ y).setCell ⟨w.heap.size + 1 + 1 + 1, 2, none⟩ z).heap[b]? = ((w6.setCell ⟨w.heap.size + 1 + 1, 0, none⟩ (.slice rA q.1.rows.length rc)).setCell ⟨w.heap.size + 1 + 1, 1, none⟩ (.slice (some ⟨S, 0, none⟩) q.1.ss.length q.1.ss.length)).heap[b]? := fun x y z b hb => by rw [Below.heap_setCell _ _ _ _ hb, Below.heap_setCell _ _ _ _ hb, Below.heap_setCell _ _ _ _ hb]
   have e2 := e1.offN (R := w.heap.size + 1 + 1 + 1) (w' := ((((w6.setCell ⟨w.heap.size + 1 + 1, 0, none⟩ (.slice rA q.1.rows.length rc)).setCell ⟨w.heap.size + 1 + 1, 1, none⟩ (.slice (some ⟨S, 0, none⟩) q.1.ss.length q.1.ss.length)).setCell ⟨w.heap.size + 1 + 1 + 1, 0, none⟩ (.int .i64 q.2.kind)).setCell ⟨w.heap.size + 1 + 1 + 1, 1, none⟩ (.string q.2.text)).setCell ⟨w.heap.size + 1 + 1 + 1, 2, none⟩ (.int .i64 2)) (by omega) (fun e => hRS3 e.symm) (noTwo_answer A7) (by simp [World.setCell]) (hk2 _ _ _)
   have bf := (((((HB5.out.trans (kb.mono (by omega))).setCell (p := ⟨w.heap.size + 1 + 1, 0, none⟩) (by show w.heap.size ≤ w.heap.size + 1 + 1; omega) (.slice rA q.1.rows.length rc)).setCell (p := ⟨w.heap.size + 1 + 1, 1, none⟩) (by show w.heap.size ≤ w.heap.size + 1 + 1; omega) (.slice (some ⟨S, 0, none⟩) q.1.ss.length q.1.ss.length)).setCell (p := ⟨w.heap.size + 1 + 1 + 1, 0, none⟩) (by show w.heap.size ≤ w.heap.size + 1 + 1 + 1; omega) (.int .i64 q.2.kind)).setCell (p := ⟨w.heap.size + 1 + 1 + 1, 1, none⟩) (by show w.heap.size ≤ w.heap.size + 1 + 1 + 1; omega) (.string q.2.text)).setCell (p := ⟨w.heap.size + 1 + 1 + 1, 2, none⟩) (by show w.heap.size ≤ w.heap.size + 1 + 1 + 1; omega) (.int .i64 2)
   rw [HDM.out]
   refine ⟨.slice rA q.1.rows.length rc, .slice (some ⟨S, 0, none⟩) q.1.ss.length q.1.ss.length, (by simp only [wput_at_ hqi]), ?_, bf⟩
   have := e2.box.2.1
   rw [wput_len] at this
   exact this
 ·have HC := hD hcase
  cases c1 : (q.2.kind == 4)
  ·clear hcase
   go_wp2
   have hE5 := HP.out.below ((Below.refl _ _).alloc (nL _) (.cells #[.int .i64 q.2.kind, .string q.2.text, .int .i64 0] 46))
   have hR5 := HR.out.alloc (.cells #[.int .i64 q.2.kind, .string q.2.text, .int .i64 0] 46)
   have hA5' := HA.out.alloc (.cells #[.int .i64 q.2.kind, .string q.2.text, .int .i64 0] 46)
   have hB5 := HB.out.alloc (by omega) (.cells #[.int .i64 q.2.kind, .string q.2.text, .int .i64 0] 46)
   have hz5 : (w4.alloc (.cells #[.int .i64 q.2.kind, .string q.2.text, .int .i64 0] 46)).heap.size = w4.heap.size + 1 := by simp
   have hNew := RowTo.whole w4 #[.int .i64 q.2.kind, .string q.2.text, .int .i64 0] 46
   obtain ⟨u1, u2, u3, u5, hs5⟩ := hE5.sess hqi
   have s0 := hs5.c0
   have zn : ∀ j u, w4.cell? ⟨w.heap.size, j, none⟩ = some u → (w4.alloc (.cells #[.int .i64 q.2.kind, .string q.2.text, .int .i64 0] 46)).cell? ⟨w.heap.size, j, none⟩ = some u := fun j u h => by rw [World.cell?_alloc_lt _ _ _ hXw]; exact h
   have z0 := zn 0 _ z0
   have z1 := zn 1 _ z1
   have a0 := hNew.cell (j := 0) (by simp)
   have a1 := hNew.cell (j := 1) (by simp)
   simp only [gCZ, gCS] at a0 a1
   have hX5 : w.heap.size < (w4.alloc (.cells #[.int .i64 q.2.kind, .string q.2.text, .int .i64 0] 46)).heap.size := by rw [hz5]; omega
   have hA5 : w4.heap.size < (w4.alloc (.cells #[.int .i64 q.2.kind, .string q.2.text, .int .i64 0] 46)).heap.size := by rw [hz5]; omega
   have hS5 : S < (w4.alloc (.cells #[.int .i64 q.2.kind, .string q.2.text, .int .i64 0] 46)).heap.size := by rw [hz5]; omega
   have HDM := hD (show doM W i k key val = q by rw [doM, ← HQ.out]; simp only [getD_at hqi]; rw [if_neg HC.out])
   have hXR : w.heap.size ≠ w.heap.size + 1 + 1 := by omega
   have hAR : w4.heap.size ≠ w.heap.size + 1 + 1 := by omega
   have hSR : S ≠ w.heap.size + 1 + 1 := fun e => hRS e.symm
   have hXA : w.heap.size ≠ w.heap.size + 1 + 1 + 1 := by omega
   have hAA : w4.heap.size ≠ w.heap.size + 1 + 1 + 1 := by omega
   have hSA : S ≠ w.heap.size + 1 + 1 + 1 := fun e => hRS3 e.symm
   have HR5 := hD hR5
   have HA5 := hD hA5'
   have HE5 := hD hE5
   have HB5 := hD hB5
   have hRw5 := hR5.lt
   have hAw5 := hA5'.lt
   clear hR5 hA5' hE5 hB5 zn hz5 hNew hs5
   generalize w4.alloc (.cells #[.int .i64 q.2.kind, .string q.2.text, .int .i64 0] 46) = W5 at *
   have kb := Below.refl W5.heap.size W5
   have HS := hD (show W5.drew.cell? ⟨w.heap.size, 0, none⟩ = some (.slice rA q.1.rows.length rc) ∧ W5.drew.cell? ⟨w.heap.size, 1, none⟩ = some (.slice (some ⟨S, 0, none⟩) q.1.ss.length q.1.ss.length) ∧ W5.drew.cell? ⟨w4.heap.size, 0, none⟩ = some (.int .i64 q.2.kind) ∧ W5.drew.cell? ⟨w4.heap.size, 1, none⟩ = some (.string q.2.text) ∧ W5.drew.cell? ⟨S, i * 5, none⟩ = some (.int .i64 q.1.ss[i].st) from ⟨z0, z1, a0, a1, s0⟩)
   go_region_held3 (fun wx => wx.cell? ⟨w.heap.size, 0, none⟩ = some (.slice rA q.1.rows.length rc) ∧ wx.cell? ⟨w.heap.size, 1, none⟩ = some (.slice (some ⟨S, 0, none⟩) q.1.ss.length q.1.ss.length) ∧ wx.cell? ⟨w4.heap.size, 0, none⟩ = some (.int .i64 q.2.kind) ∧ wx.cell? ⟨w4.heap.size, 1, none⟩ = some (.string q.2.text) ∧ wx.cell? ⟨S, i * 5, none⟩ = some (.int .i64 q.1.ss[i].st))
    (first
     | with_reducible exact ⟨z0, z1, a0, a1, s0⟩
     | with_reducible exact HS.out
     | with_reducible exact ⟨(kb.cell (p := ⟨w.heap.size, 0, none⟩) hX5).trans z0, (kb.cell (p := ⟨w.heap.size, 1, none⟩) hX5).trans z1, (kb.cell (p := ⟨w4.heap.size, 0, none⟩) hA5).trans a0, (kb.cell (p := ⟨w4.heap.size, 1, none⟩) hA5).trans a1, (kb.cell (p := ⟨S, i * 5, none⟩) hS5).trans s0⟩
     | with_reducible exact ⟨cell_set3 (cell_set2 ((kb.cell (p := ⟨w.heap.size, 0, none⟩) hX5).trans z0) hXR) hXA, cell_set3 (cell_set2 ((kb.cell (p := ⟨w.heap.size, 1, none⟩) hX5).trans z1) hXR) hXA, cell_set3 (cell_set2 ((kb.cell (p := ⟨w4.heap.size, 0, none⟩) hA5).trans a0) hAR) hAA, cell_set3 (cell_set2 ((kb.cell (p := ⟨w4.heap.size, 1, none⟩) hA5).trans a1) hAR) hAA, cell_set3 (cell_set2 ((kb.cell (p := ⟨S, i * 5, none⟩) hS5).trans s0) hSR) hSA⟩
     | with_reducible exact ⟨cell_set2 ((kb.cell (p := ⟨w.heap.size, 0, none⟩) hX5).trans z0) hXR, cell_set2 ((kb.cell (p := ⟨w.heap.size, 1, none⟩) hX5).trans z1) hXR, cell_set2 ((kb.cell (p := ⟨w4.heap.size, 0, none⟩) hA5).trans a0) hAR, cell_set2 ((kb.cell (p := ⟨w4.heap.size, 1, none⟩) hA5).trans a1) hAR, cell_set2 ((kb.cell (p := ⟨S, i * 5, none⟩) hS5).trans s0) hSR⟩)
    (first
     | (
      go_at_call 46
      refine (clone_any q.2.text _ (by omega)).mono ?_
      rintro e w6 ⟨rfl, hy⟩
      have kb : Below W5.heap.size W5 w6 := by first | exact hy | exact bel_addN kb hy kb.size | exact bel_add kb hy kb.size
      have R6 := HR5.out.below kb hRw5
      have A6 := HA5.out.below kb hAw5
      have r0 := R6.cell (j := 0) (by simp)
      have r1 := R6.cell (j := 1) (by simp)
      have b0 := A6.cell (j := 0) (by simp)
      have b1 := A6.cell (j := 1) (by simp)
      have b2 := A6.cell (j := 2) (by simp)
      have g0 := R6.frozen 0
      have g1 := R6.frozen 1
      have k0 := A6.frozen 0
      have k1 := A6.frozen 1
      have k2 := A6.frozen 2
      simp only [gCZ, gCS] at r0 r1 b0 b1 b2))
   all_goals go_wp2
   all_goals refine bodyPost_ret (v := doGood (.slice rA q.1.rows.length rc) (.slice (some ⟨S, 0, none⟩) q.1.ss.length q.1.ss.length) q.2 q.1.ss[i].st) (by simp [results, Tryz.results23, go_sem, r0, r1, b0, b1, b2, doGood]) rfl ?_
   all_goals
    have hk1 : ∀ b, b ≠ w.heap.size + 1 + 1 → ((w6.setCell ⟨w.heap.size + 1 + 1, 0, none⟩ (.slice rA q.1.rows.length rc)).setCell ⟨w.heap.size + 1 + 1, 1, none⟩ (.slice (some ⟨S, 0, none⟩) q.1.ss.length q.1.ss.length)).heap[b]? = w6.heap[b]? := fun b hb => by rw [Below.heap_setCell _ _ _ _ hb, Below.heap_setCell _ _ _ _ hb]
    have e1 := (HE5.out.below kb).offN (R := w.heap.size + 1 + 1) (by omega) hSR (noTwo_world R6) (by simp [World.setCell]) hk1
    have A7 := (A6.other (p := ⟨w.heap.size + 1 + 1, 0, none⟩) (by show w.heap.size + 1 + 1 ≠ _; omega) (.slice rA q.1.rows.length rc)).other (p := ⟨w.heap.size + 1 + 1, 1, none⟩) (by show w.heap.size + 1 + 1 ≠ _; omega) (.slice (some ⟨S, 0, none⟩) q.1.ss.length q.1.ss.length)
    have hk2 : ∀ (x y z : Value) b, b ≠ w.heap.size + 1 + 1 + 1 → (((((w6.setCell ⟨w.heap.size + 1 + 1, 0, none⟩ (.slice rA q.1.rows.length rc)).setCell ⟨w.heap.size + 1 + 1, 1, none⟩ (.slice (some ⟨S, 0, none⟩) q.1.ss.length q.1.ss.length)).setCell ⟨w.heap.size + 1 + 1 + 1, 0, none⟩ x).setCell ⟨w.heap.size + 1 + 1 + 1, 1, none⟩ y).setCell ⟨w.heap.size + 1 + 1 + 1, 2, none⟩ z).heap[b]? = ((w6.setCell ⟨w.heap.size + 1 + 1, 0, none⟩ (.slice rA q.1.rows.length rc)).setCell ⟨w.heap.size + 1 + 1, 1, none⟩ (.slice (some ⟨S, 0, none⟩) q.1.ss.length q.1.ss.length)).heap[b]? := fun x y z b hb => by rw [Below.heap_setCell _ _ _ _ hb, Below.heap_setCell _ _ _ _ hb, Below.heap_setCell _ _ _ _ hb]
    have e2 := e1.offN (R := w.heap.size + 1 + 1 + 1) (w' := ((((w6.setCell ⟨w.heap.size + 1 + 1, 0, none⟩ (.slice rA q.1.rows.length rc)).setCell ⟨w.heap.size + 1 + 1, 1, none⟩ (.slice (some ⟨S, 0, none⟩) q.1.ss.length q.1.ss.length)).setCell ⟨w.heap.size + 1 + 1 + 1, 0, none⟩ (.int .i64 q.2.kind)).setCell ⟨w.heap.size + 1 + 1 + 1, 1, none⟩ (.string q.2.text)).setCell ⟨w.heap.size + 1 + 1 + 1, 2, none⟩ (.int .i64 q.1.ss[i].st)) (by omega) (fun e => hRS3 e.symm) (noTwo_answer A7) (by simp [World.setCell]) (hk2 _ _ _)
    have bf := (((((HB5.out.trans (kb.mono (by omega))).setCell (p := ⟨w.heap.size + 1 + 1, 0, none⟩) (by show w.heap.size ≤ w.heap.size + 1 + 1; omega) (.slice rA q.1.rows.length rc)).setCell (p := ⟨w.heap.size + 1 + 1, 1, none⟩) (by show w.heap.size ≤ w.heap.size + 1 + 1; omega) (.slice (some ⟨S, 0, none⟩) q.1.ss.length q.1.ss.length)).setCell (p := ⟨w.heap.size + 1 + 1 + 1, 0, none⟩) (by show w.heap.size ≤ w.heap.size + 1 + 1 + 1; omega) (.int .i64 q.2.kind)).setCell (p := ⟨w.heap.size + 1 + 1 + 1, 1, none⟩) (by show w.heap.size ≤ w.heap.size + 1 + 1 + 1; omega) (.string q.2.text)).setCell (p := ⟨w.heap.size + 1 + 1 + 1, 2, none⟩) (by show w.heap.size ≤ w.heap.size + 1 + 1 + 1; omega) (.int .i64 q.1.ss[i].st)
    rw [HDM.out]
    refine ⟨.slice rA q.1.rows.length rc, .slice (some ⟨S, 0, none⟩) q.1.ss.length q.1.ss.length, (by rw [getD_at hqi]), ?_, bf⟩
    have := e2.box.2.1
    exact this
  ·have c2 : (q.1.ss[i].st == 1) = false := beq_eq_false_iff_ne.2 fun h1 => hcase ⟨beq_iff_eq.1 c1, h1⟩
   clear hcase
   go_wp2
   have hE5 := HP.out.below ((Below.refl _ _).alloc (nL _) (.cells #[.int .i64 q.2.kind, .string q.2.text, .int .i64 0] 46))
   have hR5 := HR.out.alloc (.cells #[.int .i64 q.2.kind, .string q.2.text, .int .i64 0] 46)
   have hA5' := HA.out.alloc (.cells #[.int .i64 q.2.kind, .string q.2.text, .int .i64 0] 46)
   have hB5 := HB.out.alloc (by omega) (.cells #[.int .i64 q.2.kind, .string q.2.text, .int .i64 0] 46)
   have hz5 : (w4.alloc (.cells #[.int .i64 q.2.kind, .string q.2.text, .int .i64 0] 46)).heap.size = w4.heap.size + 1 := by simp
   have hNew := RowTo.whole w4 #[.int .i64 q.2.kind, .string q.2.text, .int .i64 0] 46
   obtain ⟨u1, u2, u3, u5, hs5⟩ := hE5.sess hqi
   have s0 := hs5.c0
   have zn : ∀ j u, w4.cell? ⟨w.heap.size, j, none⟩ = some u → (w4.alloc (.cells #[.int .i64 q.2.kind, .string q.2.text, .int .i64 0] 46)).cell? ⟨w.heap.size, j, none⟩ = some u := fun j u h => by rw [World.cell?_alloc_lt _ _ _ hXw]; exact h
   have z0 := zn 0 _ z0
   have z1 := zn 1 _ z1
   have a0 := hNew.cell (j := 0) (by simp)
   have a1 := hNew.cell (j := 1) (by simp)
   simp only [gCZ, gCS] at a0 a1
   have hX5 : w.heap.size < (w4.alloc (.cells #[.int .i64 q.2.kind, .string q.2.text, .int .i64 0] 46)).heap.size := by rw [hz5]; omega
   have hA5 : w4.heap.size < (w4.alloc (.cells #[.int .i64 q.2.kind, .string q.2.text, .int .i64 0] 46)).heap.size := by rw [hz5]; omega
   have hS5 : S < (w4.alloc (.cells #[.int .i64 q.2.kind, .string q.2.text, .int .i64 0] 46)).heap.size := by rw [hz5]; omega
   have HDM := hD (show doM W i k key val = q by rw [doM, ← HQ.out]; simp only [getD_at hqi]; rw [if_neg HC.out])
   have hXR : w.heap.size ≠ w.heap.size + 1 + 1 := by omega
   have hAR : w4.heap.size ≠ w.heap.size + 1 + 1 := by omega
   have hSR : S ≠ w.heap.size + 1 + 1 := fun e => hRS e.symm
   have hXA : w.heap.size ≠ w.heap.size + 1 + 1 + 1 := by omega
   have hAA : w4.heap.size ≠ w.heap.size + 1 + 1 + 1 := by omega
   have hSA : S ≠ w.heap.size + 1 + 1 + 1 := fun e => hRS3 e.symm
   have HR5 := hD hR5
   have HA5 := hD hA5'
   have HE5 := hD hE5
   have HB5 := hD hB5
   have hRw5 := hR5.lt
   have hAw5 := hA5'.lt
   clear hR5 hA5' hE5 hB5 zn hz5 hNew hs5
   generalize w4.alloc (.cells #[.int .i64 q.2.kind, .string q.2.text, .int .i64 0] 46) = W5 at *
   have kb := Below.refl W5.heap.size W5
   have HS := hD (show W5.drew.cell? ⟨w.heap.size, 0, none⟩ = some (.slice rA q.1.rows.length rc) ∧ W5.drew.cell? ⟨w.heap.size, 1, none⟩ = some (.slice (some ⟨S, 0, none⟩) q.1.ss.length q.1.ss.length) ∧ W5.drew.cell? ⟨w4.heap.size, 0, none⟩ = some (.int .i64 q.2.kind) ∧ W5.drew.cell? ⟨w4.heap.size, 1, none⟩ = some (.string q.2.text) ∧ W5.drew.cell? ⟨S, i * 5, none⟩ = some (.int .i64 q.1.ss[i].st) from ⟨z0, z1, a0, a1, s0⟩)
   go_region_held3 (fun wx => wx.cell? ⟨w.heap.size, 0, none⟩ = some (.slice rA q.1.rows.length rc) ∧ wx.cell? ⟨w.heap.size, 1, none⟩ = some (.slice (some ⟨S, 0, none⟩) q.1.ss.length q.1.ss.length) ∧ wx.cell? ⟨w4.heap.size, 0, none⟩ = some (.int .i64 q.2.kind) ∧ wx.cell? ⟨w4.heap.size, 1, none⟩ = some (.string q.2.text) ∧ wx.cell? ⟨S, i * 5, none⟩ = some (.int .i64 q.1.ss[i].st))
    (first
     | with_reducible exact ⟨z0, z1, a0, a1, s0⟩
     | with_reducible exact HS.out
     | with_reducible exact ⟨(kb.cell (p := ⟨w.heap.size, 0, none⟩) hX5).trans z0, (kb.cell (p := ⟨w.heap.size, 1, none⟩) hX5).trans z1, (kb.cell (p := ⟨w4.heap.size, 0, none⟩) hA5).trans a0, (kb.cell (p := ⟨w4.heap.size, 1, none⟩) hA5).trans a1, (kb.cell (p := ⟨S, i * 5, none⟩) hS5).trans s0⟩
     | with_reducible exact ⟨cell_set3 (cell_set2 ((kb.cell (p := ⟨w.heap.size, 0, none⟩) hX5).trans z0) hXR) hXA, cell_set3 (cell_set2 ((kb.cell (p := ⟨w.heap.size, 1, none⟩) hX5).trans z1) hXR) hXA, cell_set3 (cell_set2 ((kb.cell (p := ⟨w4.heap.size, 0, none⟩) hA5).trans a0) hAR) hAA, cell_set3 (cell_set2 ((kb.cell (p := ⟨w4.heap.size, 1, none⟩) hA5).trans a1) hAR) hAA, cell_set3 (cell_set2 ((kb.cell (p := ⟨S, i * 5, none⟩) hS5).trans s0) hSR) hSA⟩
     | with_reducible exact ⟨cell_set2 ((kb.cell (p := ⟨w.heap.size, 0, none⟩) hX5).trans z0) hXR, cell_set2 ((kb.cell (p := ⟨w.heap.size, 1, none⟩) hX5).trans z1) hXR, cell_set2 ((kb.cell (p := ⟨w4.heap.size, 0, none⟩) hA5).trans a0) hAR, cell_set2 ((kb.cell (p := ⟨w4.heap.size, 1, none⟩) hA5).trans a1) hAR, cell_set2 ((kb.cell (p := ⟨S, i * 5, none⟩) hS5).trans s0) hSR⟩)
    (first
     | (
      go_at_call 46
      refine (clone_any q.2.text _ (by omega)).mono ?_
      rintro e w6 ⟨rfl, hy⟩
      have kb : Below W5.heap.size W5 w6 := by first | exact hy | exact bel_addN kb hy kb.size | exact bel_add kb hy kb.size
      have R6 := HR5.out.below kb hRw5
      have A6 := HA5.out.below kb hAw5
      have r0 := R6.cell (j := 0) (by simp)
      have r1 := R6.cell (j := 1) (by simp)
      have b0 := A6.cell (j := 0) (by simp)
      have b1 := A6.cell (j := 1) (by simp)
      have b2 := A6.cell (j := 2) (by simp)
      have g0 := R6.frozen 0
      have g1 := R6.frozen 1
      have k0 := A6.frozen 0
      have k1 := A6.frozen 1
      have k2 := A6.frozen 2
      simp only [gCZ, gCS] at r0 r1 b0 b1 b2))
   all_goals go_wp2
   all_goals refine bodyPost_ret (v := doGood (.slice rA q.1.rows.length rc) (.slice (some ⟨S, 0, none⟩) q.1.ss.length q.1.ss.length) q.2 q.1.ss[i].st) (by simp [results, Tryz.results23, go_sem, r0, r1, b0, b1, b2, doGood]) rfl ?_
   all_goals
    have hk1 : ∀ b, b ≠ w.heap.size + 1 + 1 → ((w6.setCell ⟨w.heap.size + 1 + 1, 0, none⟩ (.slice rA q.1.rows.length rc)).setCell ⟨w.heap.size + 1 + 1, 1, none⟩ (.slice (some ⟨S, 0, none⟩) q.1.ss.length q.1.ss.length)).heap[b]? = w6.heap[b]? := fun b hb => by rw [Below.heap_setCell _ _ _ _ hb, Below.heap_setCell _ _ _ _ hb]
    have e1 := (HE5.out.below kb).offN (R := w.heap.size + 1 + 1) (by omega) hSR (noTwo_world R6) (by simp [World.setCell]) hk1
    have A7 := (A6.other (p := ⟨w.heap.size + 1 + 1, 0, none⟩) (by show w.heap.size + 1 + 1 ≠ _; omega) (.slice rA q.1.rows.length rc)).other (p := ⟨w.heap.size + 1 + 1, 1, none⟩) (by show w.heap.size + 1 + 1 ≠ _; omega) (.slice (some ⟨S, 0, none⟩) q.1.ss.length q.1.ss.length)
    have hk2 : ∀ (x y z : Value) b, b ≠ w.heap.size + 1 + 1 + 1 → (((((w6.setCell ⟨w.heap.size + 1 + 1, 0, none⟩ (.slice rA q.1.rows.length rc)).setCell ⟨w.heap.size + 1 + 1, 1, none⟩ (.slice (some ⟨S, 0, none⟩) q.1.ss.length q.1.ss.length)).setCell ⟨w.heap.size + 1 + 1 + 1, 0, none⟩ x).setCell ⟨w.heap.size + 1 + 1 + 1, 1, none⟩ y).setCell ⟨w.heap.size + 1 + 1 + 1, 2, none⟩ z).heap[b]? = ((w6.setCell ⟨w.heap.size + 1 + 1, 0, none⟩ (.slice rA q.1.rows.length rc)).setCell ⟨w.heap.size + 1 + 1, 1, none⟩ (.slice (some ⟨S, 0, none⟩) q.1.ss.length q.1.ss.length)).heap[b]? := fun x y z b hb => by rw [Below.heap_setCell _ _ _ _ hb, Below.heap_setCell _ _ _ _ hb, Below.heap_setCell _ _ _ _ hb]
    have e2 := e1.offN (R := w.heap.size + 1 + 1 + 1) (w' := ((((w6.setCell ⟨w.heap.size + 1 + 1, 0, none⟩ (.slice rA q.1.rows.length rc)).setCell ⟨w.heap.size + 1 + 1, 1, none⟩ (.slice (some ⟨S, 0, none⟩) q.1.ss.length q.1.ss.length)).setCell ⟨w.heap.size + 1 + 1 + 1, 0, none⟩ (.int .i64 q.2.kind)).setCell ⟨w.heap.size + 1 + 1 + 1, 1, none⟩ (.string q.2.text)).setCell ⟨w.heap.size + 1 + 1 + 1, 2, none⟩ (.int .i64 q.1.ss[i].st)) (by omega) (fun e => hRS3 e.symm) (noTwo_answer A7) (by simp [World.setCell]) (hk2 _ _ _)
    have bf := (((((HB5.out.trans (kb.mono (by omega))).setCell (p := ⟨w.heap.size + 1 + 1, 0, none⟩) (by show w.heap.size ≤ w.heap.size + 1 + 1; omega) (.slice rA q.1.rows.length rc)).setCell (p := ⟨w.heap.size + 1 + 1, 1, none⟩) (by show w.heap.size ≤ w.heap.size + 1 + 1; omega) (.slice (some ⟨S, 0, none⟩) q.1.ss.length q.1.ss.length)).setCell (p := ⟨w.heap.size + 1 + 1 + 1, 0, none⟩) (by show w.heap.size ≤ w.heap.size + 1 + 1 + 1; omega) (.int .i64 q.2.kind)).setCell (p := ⟨w.heap.size + 1 + 1 + 1, 1, none⟩) (by show w.heap.size ≤ w.heap.size + 1 + 1 + 1; omega) (.string q.2.text)).setCell (p := ⟨w.heap.size + 1 + 1 + 1, 2, none⟩) (by show w.heap.size ≤ w.heap.size + 1 + 1 + 1; omega) (.int .i64 q.1.ss[i].st)
    rw [HDM.out]
    refine ⟨.slice rA q.1.rows.length rc, .slice (some ⟨S, 0, none⟩) q.1.ss.length q.1.ss.length, (by rw [getD_at hqi]), ?_, bf⟩
    have := e2.box.2.1
    exact this
theorem do_any (r s : Value) (W : Wd) (i : Nat) (k : Int) (key val : ByteArray) (w : World) (hW : Wld w w.heap.size r s W) (hWo : Words w) (hok : WorldOk W) (hi : i < W.ss.length) (hc : checkE k key val = 0) :
  Calls Tryz.prog 23 #[.agg #[r, s], .int .i64 i, .agg #[.int .i64 k, .string key, .string val]] w fun e w' => ∃ r' s', e = .returned (doGood r' s' (doM W i k key val).2 ((doM W i k key val).1.at i).st) ∧ Wld w' w'.heap.size r' s' (doM W i k key val).1 ∧ Below w.heap.size w w' := by
 have g := good_of hc
 exact do_ok r s W i k key val w hW hWo (by have := g.key8; unfold maxLen; omega) (by have := g.v60; unfold maxLen; omega) (by
  unfold doE
  rw [if_neg (by rw [worldB_iff.2 hok]; simp), if_neg (by omega)]; exact hc)
end Go.Proofs.YtpbaobmegomfpabGreatDoor
namespace Go.Proofs.YtpbaobmegomfpabGreatDoor
open Go.RowKit
def InP (P : Nat → Prop) (v : Value) (l : PL) : Prop := 0 < l.length → ∀ b off n c, v = .slice (some ⟨b, off, none⟩) n c → P b
theorem Lst.keepP {w w' : World} {B B' : Nat} {v : Value} {l : PL} {P : Nat → Prop} (h : Lst w B v l) (hp : InP P v l) (hk : ∀ b, P b → w'.heap[b]? = w.heap[b]?) (hB : ∀ b, P b → b < B') : Lst w' B' v l := by
 refine ⟨h.form, h.bytes, h.sizes, fun hn => ?_, h.nil⟩
 obtain ⟨b, off, c, e, hb, hc⟩ := h.cells hn
 have hP := hp hn b off _ c e
 exact ⟨b, off, c, e, hB b hP, fun i hi => ⟨(World.cell?_of_block (hk b hP)).trans (hc i hi).1, (World.cell?_of_block (hk b hP)).trans (hc i hi).2⟩⟩
theorem InP.mono {P Q : Nat → Prop} {v : Value} {l : PL} (h : InP P v l) (hpq : ∀ b, P b → Q b) : InP Q v l := fun hn b off n c e => hpq b (h hn b off n c e)
theorem Lst.inP {w : World} {B : Nat} {v : Value} {l : PL} (h : Lst w B v l) : InP (· < B) v l := fun hn b off n c e => by
 obtain ⟨b', off', c', e', hb, _⟩ := h.cells hn
 rw [e'] at e
 injection e with e
 injection e with e
 injection e with e
 rw [← e]; exact hb
theorem InP.and {P Q : Nat → Prop} {v : Value} {l : PL} (h : InP P v l) (h2 : InP Q v l) : InP (fun b => P b ∧ Q b) v l := fun hn b off n c e => ⟨h hn b off n c e, h2 hn b off n c e⟩
theorem InP.nil_ (P : Nat → Prop) (v : Value) : InP P v [] := fun h => absurd h (by simp)
theorem own_lt {w : World} {B : Nat} {v : Value} {l : PL} {P : Nat → Prop} (h : Lst w B v l) (hp : InP P v l) : InP (fun b => P b ∧ b < B) v l := hp.and h.inP
end Go.Proofs.YtpbaobmegomfpabGreatDoor
namespace Go.Proofs.YtpbaobmegomfpabGreatDoor
open Go.RowKit
def NoSes (w : World) (R : Nat) : Prop := ∀ o st A n c, w.cell? ⟨R, o, none⟩ = some (.int .i64 st) → w.cell? ⟨R, o + 1, none⟩ ≠ some (.slice A n c)
theorem noSes_answer {w : World} {R : Nat} {x y : Int} {s : ByteArray} (h : RowTo w R 46 3 [.int .i64 x, .string s, .int .i64 y]) : NoSes w R := by
 intro o st A n c h1 h2
 have r1 := h.cell (j := 1) (by simp)
 have r2 := h.cell (j := 2) (by simp)
 simp only [gCZ, gCS] at r1 r2
 rcases Nat.lt_or_ge (o + 1) 3 with hj | hj
 ·obtain rfl | rfl : o = 0 ∨ o = 1 := by omega
  ·rw [r1] at h2; cases h2
  ·rw [r2] at h2; cases h2
 ·rw [h.out_ hj] at h2; cases h2
theorem noSes_world {w : World} {R t : Nat} {a b : Option Addr} {n m c d : Nat} (h : RowTo w R t 2 [.slice a n c, .slice b m d]) : NoSes w R := by
 intro o st A n' c' h1 h2
 have r0 := h.cell (j := 0) (by simp)
 have r1 := h.cell (j := 1) (by simp)
 simp only [gCZ, gCS] at r0 r1
 rcases Nat.lt_or_ge o 2 with hj | hj
 ·obtain rfl | rfl : o = 0 ∨ o = 1 := by omega
  ·rw [r0] at h1; cases h1
  ·rw [r1] at h1; cases h1
 ·rw [h.out_ hj] at h1; cases h1
theorem Sss.off {w w' : World} {B R : Nat} {v : Value} {ss : List Sess} (h : Sss w B v ss) (h2 : NoTwo w R) (hs : NoSes w R) (hk : ∀ b, b ≠ R → w'.heap[b]? = w.heap[b]?) : Sss w' B v ss := by
 refine ⟨h.form, h.bytes, fun hn => ?_⟩
 obtain ⟨b, off, c, e, hb, hc⟩ := h.cells hn
 have hne : b ≠ R := by
  rintro rfl
  obtain ⟨v1, v2, v3, v4, q⟩ := hc 0 hn
  obtain ⟨A, c', hv, _⟩ := q.l1.form
  have := q.c1
  rw [hv] at this
  exact hs _ _ _ _ _ q.c0 this
 refine ⟨b, off, c, e, hb, fun i hi => ?_⟩
 obtain ⟨v1, v2, v3, v4, q⟩ := hc i hi
 have cs : ∀ j, w'.cell? ⟨b, j, none⟩ = w.cell? ⟨b, j, none⟩ := fun j => World.cell?_of_block (hk b hne)
 exact ⟨v1, v2, v3, v4, (cs _).trans q.c0, (cs _).trans q.c1, (cs _).trans q.c2, (cs _).trans q.c3, (cs _).trans q.c4, q.l1.offN h2 hk, q.l2.offN h2 hk, q.l3.offN h2 hk, q.l4.offN h2 hk⟩
theorem Wld.off {w w' : World} {B R : Nat} {r s : Value} {W : Wd} (h : Wld w B r s W) (h2 : NoTwo w R) (hs : NoSes w R) (hk : ∀ b, b ≠ R → w'.heap[b]? = w.heap[b]?) : Wld w' B r s W := ⟨h.rows.offN h2 hk, h.sess.off h2 hs hk⟩
theorem Wld.set2 {w : World} {R t : Nat} {a b : Option Addr} {n m c d : Nat} {r s : Value} {W : Wd} (h : Wld w w.heap.size r s W) (hR : RowTo w R t 2 [.slice a n c, .slice b m d]) (x y : Value) : Wld ((w.setCell ⟨R, 0, none⟩ x).setCell ⟨R, 1, none⟩ y) ((w.setCell ⟨R, 0, none⟩ x).setCell ⟨R, 1, none⟩ y).heap.size r s W := by
 have : ((w.setCell ⟨R, 0, none⟩ x).setCell ⟨R, 1, none⟩ y).heap.size = w.heap.size := by simp [World.setCell]
 rw [this]
 exact h.off (noTwo_world hR) (noSes_world hR) fun b hb => by rw [Below.heap_setCell _ _ _ _ hb, Below.heap_setCell _ _ _ _ hb]
theorem Wld.set3 {w : World} {R : Nat} {x y : Int} {z : ByteArray} {r s : Value} {W : Wd} (h : Wld w w.heap.size r s W) (hR : RowTo w R 46 3 [.int .i64 x, .string z, .int .i64 y]) (a b c : Value) : Wld (((w.setCell ⟨R, 0, none⟩ a).setCell ⟨R, 1, none⟩ b).setCell ⟨R, 2, none⟩ c) (((w.setCell ⟨R, 0, none⟩ a).setCell ⟨R, 1, none⟩ b).setCell ⟨R, 2, none⟩ c).heap.size r s W := by
 have : (((w.setCell ⟨R, 0, none⟩ a).setCell ⟨R, 1, none⟩ b).setCell ⟨R, 2, none⟩ c).heap.size = w.heap.size := by simp [World.setCell]
 rw [this]
 exact h.off (noTwo_answer hR) (noSes_answer hR) fun b hb => by rw [Below.heap_setCell _ _ _ _ hb, Below.heap_setCell _ _ _ _ hb, Below.heap_setCell _ _ _ _ hb]
theorem RowTo.set2 {w : World} {R t : Nat} {a b : Value} (h : RowTo w R t 2 [a, b]) (x y : Value) : RowTo ((w.setCell ⟨R, 0, none⟩ x).setCell ⟨R, 1, none⟩ y) R t 2 [x, y] := (h.put (j := 0) (by simp) x).put (j := 1) (by simp) y
theorem RowTo.set3 {w : World} {R t : Nat} {a b c : Value} (h : RowTo w R t 3 [a, b, c]) (x y z : Value) : RowTo (((w.setCell ⟨R, 0, none⟩ x).setCell ⟨R, 1, none⟩ y).setCell ⟨R, 2, none⟩ z) R t 3 [x, y, z] := ((h.put (j := 0) (by simp) x).put (j := 1) (by simp) y).put (j := 2) (by simp) z
theorem RowTo.oth2 {w : World} {R g t n : Nat} {xs : List Value} (h : RowTo w g t n xs) (hne : R ≠ g) (x y : Value) : RowTo ((w.setCell ⟨R, 0, none⟩ x).setCell ⟨R, 1, none⟩ y) g t n xs := (h.other (p := ⟨R, 0, none⟩) hne x).other (p := ⟨R, 1, none⟩) hne y
theorem RowTo.oth3 {w : World} {R g t n : Nat} {xs : List Value} (h : RowTo w g t n xs) (hne : R ≠ g) (x y z : Value) : RowTo (((w.setCell ⟨R, 0, none⟩ x).setCell ⟨R, 1, none⟩ y).setCell ⟨R, 2, none⟩ z) g t n xs := ((h.other (p := ⟨R, 0, none⟩) hne x).other (p := ⟨R, 1, none⟩) hne y).other (p := ⟨R, 2, none⟩) hne z
theorem bel_set2 {B R : Nat} {a w : World} (h : Below B a w) (hR : B ≤ R) (x y : Value) : Below B a ((w.setCell ⟨R, 0, none⟩ x).setCell ⟨R, 1, none⟩ y) := (h.setCell (p := ⟨R, 0, none⟩) hR x).setCell (p := ⟨R, 1, none⟩) hR y
theorem bel_set3 {B R : Nat} {a w : World} (h : Below B a w) (hR : B ≤ R) (x y z : Value) : Below B a (((w.setCell ⟨R, 0, none⟩ x).setCell ⟨R, 1, none⟩ y).setCell ⟨R, 2, none⟩ z) := ((h.setCell (p := ⟨R, 0, none⟩) hR x).setCell (p := ⟨R, 1, none⟩) hR y).setCell (p := ⟨R, 2, none⟩) hR z
theorem cells2 {w : World} {g t n : Nat} {a b : Value} (h : RowTo w g t n [a, b]) : w.cell? ⟨g, 0, none⟩ = some a ∧ w.cell? ⟨g, 1, none⟩ = some b := ⟨h.cell (j := 0) (by simp), h.cell (j := 1) (by simp)⟩
theorem cells3 {w : World} {g t n : Nat} {a b c : Value} (h : RowTo w g t n [a, b, c]) : w.cell? ⟨g, 0, none⟩ = some a ∧ w.cell? ⟨g, 1, none⟩ = some b ∧ w.cell? ⟨g, 2, none⟩ = some c := ⟨h.cell (j := 0) (by simp), h.cell (j := 1) (by simp), h.cell (j := 2) (by simp)⟩
end Go.Proofs.YtpbaobmegomfpabGreatDoor
namespace Go.Proofs.YtpbaobmegomfpabGreatDoor
open Go.RowKit
def leadL : Nat → List UInt8
 | 1 => [111, 107]
 | 2 => [61]
 | 3 => [110, 111, 110, 101]
 | 4 => [33]
 | _ => []
def leadAt (k : Nat) : ByteArray := ⟨(leadL k).toArray⟩
def markAt : Nat → ByteArray
 | 0 => ⟨#[73]⟩
 | 1 => ⟨#[84]⟩
 | _ => ⟨#[70]⟩
def tellT (k st : Nat) (x : ByteArray) : ByteArray := (markAt st ++ leadAt k) ++ x
end Go.Proofs.YtpbaobmegomfpabGreatDoor
namespace Go.Proofs.YtpbaobmegomfpabGreatDoor
open Go.RowKit
structure Req where
 k : Int
 key : ByteArray
 val : ByteArray
def Req.none_ : Req := ⟨0, ⟨#[]⟩, ⟨#[]⟩⟩
def Req.fine (r : Req) : Prop := r = Req.none_ ∨ checkE r.k r.key r.val = 0
structure Deed where
 c : Nat
 r : Req
 a : Ans
 st : Int
structure Cl where
 bytes : ByteArray
 wait : List Req
 srv : Option Nat
def Cl.new : Cl := ⟨⟨#[]⟩, [], none⟩
structure Ops (E : Type) where
 exec : E → Nat → Nat → Req → E × Ans × Int
 state : E → Nat → Option Nat → Int
 grant : E → Nat → Nat → E
 free : E → Nat → Nat → E
 leave : E → Nat → Option Nat → E
structure Mach (E : Type) where
 e : E
 cl : List Cl
 busy : List Bool
 line : List Nat
 sent : List ByteArray
 deeds : List Deed
def tUnder : ByteArray := ⟨#[110, 111, 116, 32, 117, 110, 100, 101, 114, 115, 116, 111, 111, 100]⟩
def tMode : ByteArray := ⟨#[110, 111, 116, 32, 105, 110, 32, 116, 104, 105, 115, 32, 109, 111, 100, 101]⟩
def refuse (mode : Int) (r : Req) : ByteArray := if r.k = 0 then tUnder else if r.k = 1 ∧ mode = 3 then tMode else ⟨#[]⟩
def refB (mode : Int) (r : Req) : Bool := decide (r.k = 0 ∨ (r.k = 1 ∧ mode = 3))
def readyB (mode : Int) (x : Cl) : Bool := match x.wait with
 | [] => false
 | r :: _ => x.srv.isSome || refB mode r
section
variable {E : Type} (o : Ops E) (mode : Int)
def Mach.get (m : Mach E) (c : Nat) : Cl := m.cl.getD c Cl.new
def Mach.set (m : Mach E) (c : Nat) (x : Cl) : Mach E := { m with cl := m.cl.set c x }
def ansM (a : Ans) (st : Int) : ByteArray := msg 82 (tellT a.kind.toNat st.toNat a.text)
def Mach.tell (m : Mach E) (c : Nat) (a : Ans) (st : Int) : Mach E := { m with sent := m.sent.set c (m.sent.getD c ⟨#[]⟩ ++ ansM a st) }
def Mach.release (m : Mach E) (c s : Nat) : Mach E := { m with e := o.free m.e c s, busy := m.busy.set s false, cl := m.cl.set c { m.get c with srv := none } }
def Mach.proc (m : Mach E) (c : Nat) : Mach E := match (m.get c).wait with
 | [] => m
 | r :: rest =>
  if refB mode r then (m.set c { m.get c with wait := rest }).tell c ⟨4, refuse mode r⟩ (o.state m.e c (m.get c).srv)
  else
   let x := o.exec m.e c ((m.get c).srv.getD 0) r
   let m2 := Mach.tell { m.set c { m.get c with wait := rest } with e := x.1, deeds := m.deeds ++ [⟨c, r, x.2.1, x.2.2⟩] } c x.2.1 x.2.2
   if mode ≠ 1 ∧ x.2.2 = 0 then m2.release o c ((m.get c).srv.getD 0) else m2
def enqL (m : Mach E) (l : List Nat) (c : Nat) : List Nat := if (m.get c).wait ≠ [] ∧ ¬ c ∈ l then l ++ [c] else l
def Mach.enq (m : Mach E) : Mach E := { m with line := (List.range 6).foldl (enqL m) m.line }
def Mach.assign (m : Mach E) : Bool × Mach E := match m.line with
 | [] => (false, m)
 | c :: l => if m.busy.idxOf false < m.busy.length then (true, { m with line := l, busy := m.busy.set (m.busy.idxOf false) true, cl := m.cl.set c { m.get c with srv := some (m.busy.idxOf false) }, e := o.grant m.e c (m.busy.idxOf false) }) else (false, m)
def Mach.firstR (m : Mach E) : Option Nat := (List.range 6).find? (fun c => readyB mode (m.get c))
def Mach.step (m : Mach E) : Bool × Mach E := match m.firstR mode with
 | some c => (true, m.proc o mode c)
 | none => m.enq.assign o
def Mach.iter : Nat → Mach E → Mach E
 | 0, m => m
 | n + 1, m => if (m.step o mode).1 then Mach.iter n (m.step o mode).2 else (m.step o mode).2
def waits (l : List Cl) : Nat := (l.map fun x => x.wait.length).sum
def bare (l : List Cl) : Nat := l.countP fun x => x.srv.isNone
def Mach.mu (m : Mach E) : Nat := 2 * waits m.cl + bare m.cl
def Mach.all (m : Mach E) : Mach E := m.iter o mode (m.mu + 1)
def Mach.leave (m : Mach E) (c : Nat) : Mach E :=
 { m with e := o.leave m.e c (m.get c).srv, busy := match (m.get c).srv with
   | some s => m.busy.set s false
   | none => m.busy, line := m.line.filter (fun n => n != c), cl := m.cl.set c Cl.new }
def pull (b : ByteArray) : Option (UInt8 × ByteArray × Nat) := if h : 2 ≤ b.size then (if 2 + b[1].toNat ≤ b.size then some (b[0], b.extract 2 (2 + b[1].toNat), 2 + b[1].toNat) else none) else none
def reqOf (k : UInt8) (t : ByteArray) : Req := if k = 81 ∧ readE t = 0 then ⟨kindN (cutA t), cutA (cutB t), cutB (cutB t)⟩ else Req.none_
def Mach.feed : Nat → Mach E → Nat → Mach E
 | 0, m, _ => m
 | n + 1, m, c => match pull (m.get c).bytes with
  | none => m
  | some (k, t, j) => if k = 88 then (m.all o mode).leave o c else Mach.feed n (m.set c { m.get c with bytes := (m.get c).bytes.extract j (m.get c).bytes.size, wait := (m.get c).wait ++ [reqOf k t] }) c
def Mach.deliver (m : Mach E) (c : Nat) (data : ByteArray) : Mach E := (m.set c { m.get c with bytes := (m.get c).bytes ++ data }).feed o mode ((m.get c).bytes.size + data.size + 1) c
structure Act where
 kind : Int
 c : Int
 data : ByteArray
def Mach.act (m : Mach E) (a : Act) : Mach E := (if a.kind = 1 then m.deliver o mode a.c.toNat a.data else m.leave o a.c.toNat).all o mode
def Mach.run (m : Mach E) (l : List Act) : Mach E := l.foldl (fun m a => m.act o mode a) m
def Mach.start (e : E) (n : Nat) : Mach E := ⟨e, List.replicate 6 Cl.new, List.replicate n false, [], List.replicate 6 ⟨#[]⟩, []⟩
end
def setupE (mode servers : Int) : Int := if mode < 1 ∨ 3 < mode then 3 else if servers < 1 ∨ 4 < servers then 2 else 0
def actE (a : Act) : Int := if ¬ (a.kind = 1 ∨ a.kind = 2) then 3 else if a.c < 0 ∨ 6 ≤ a.c then 2 else if 1000 < a.data.size then 1 else 0
def actsE : List Act → Int
 | [] => 0
 | a :: l => if actE a ≠ 0 then actE a else actsE l
def runE (mode servers : Int) (l : List Act) : Int := if setupE mode servers ≠ 0 then setupE mode servers else if 300 < l.length then 1 else actsE l
structure PE where
 w : Wd
 kept : List (PL × PL)
def PE.of (e : PE) (c : Nat) : PL × PL := e.kept.getD c ([], [])
def pairB (p q : ByteArray × ByteArray) : Bool := eqB p.1 q.1 && eqB p.2 q.2
def without (l o : PL) : PL := l.filter fun q => !o.any fun p => pairB p q
def doW (w : Wd) (s : Nat) (k : Int) (l : PL) : Wd := l.foldl (fun w q => (doM w s k q.1 q.2).1) w
def restoreW (w : Wd) (s : Nat) (p : PL × PL) : Wd :=
 let w1 := if (without (w.at s).set p.1).length > 0 ∨ (without (w.at s).prep p.2).length > 0 then (doM w s 4 ⟨#[]⟩ ⟨#[]⟩).1 else w
 doW (doW w1 s 9 (without p.1 (w1.at s).set)) s 11 (without p.2 (w1.at s).prep)
def PE.free (e : PE) (c s : Nat) : PE := ⟨e.w, e.kept.set c ((e.w.at s).set, (e.w.at s).prep)⟩
def PE.state (e : PE) (srv : Option Nat) : Int := match srv with
 | none => 0
 | some s => (e.w.at s).st
def poolO : Ops PE where
 exec e c s r := let x := doM e.w s r.k r.key r.val; (⟨x.1, e.kept⟩, x.2, (x.1.at s).st)
 state e _ srv := e.state srv
 grant e c s := ⟨restoreW e.w s (e.of c), e.kept⟩
 free e c s := e.free c s
 leave e c srv := match srv with
  | none => ⟨e.w, e.kept.set c ([], [])⟩
  | some s => ⟨if (e.w.at s).st ≠ 0 then (doM e.w s 3 ⟨#[]⟩ ⟨#[]⟩).1 else e.w, e.kept.set c ([], [])⟩
def Sess.zero : Sess := ⟨0, [], [], [], []⟩
def houseO : Ops Wd where
 exec e c _ r := let x := doM e c r.k r.key r.val; (x.1, x.2, (x.1.at c).st)
 state e c _ := (e.at c).st
 grant e _ _ := e
 free e _ _ := e
 leave e c _ := e.put c Sess.zero
def poolStart (n : Nat) : PE := ⟨⟨[], List.replicate n Sess.zero⟩, List.replicate 6 ([], [])⟩
def houseStart : Wd := ⟨[], List.replicate 6 Sess.zero⟩
end Go.Proofs.YtpbaobmegomfpabGreatDoor
namespace Go.Proofs.YtpbaobmegomfpabGreatDoor
open Go.RowKit
theorem waits_set : ∀ {l : List Cl} {c : Nat} {x : Cl} (h : c < l.length), waits (l.set c x) + l[c].wait.length = waits l + x.wait.length
 | a :: l, 0, x, _ => by simp [waits]; omega
 | a :: l, c + 1, x, h => by
  have := waits_set (l := l) (c := c) (x := x) (by simpa using h)
  simp only [waits, sCS, List.map_cons, List.sum_cons, gCS] at this ⊢
  omega
theorem bare_set : ∀ {l : List Cl} {c : Nat} {x : Cl} (h : c < l.length), bare (l.set c x) + l[c].srv.isNone.toNat = bare l + x.srv.isNone.toNat
 | a :: l, 0, x, _ => by
  simp only [bare, sCZ, List.countP_cons, gCZ]
  cases a.srv.isNone <;> cases x.srv.isNone <;> simp
 | a :: l, c + 1, x, h => by
  have := bare_set (l := l) (c := c) (x := x) (by simpa using h)
  simp only [bare, sCS, List.countP_cons, gCS] at this ⊢
  omega
section
variable {E : Type} {o : Ops E} {mode : Int} {m : Mach E}
theorem get_lt {c : Nat} (h : c < m.cl.length) : m.get c = m.cl[c] := by
 unfold Mach.get; rw [List.getD_eq_getElem?_getD, List.getElem?_eq_getElem h]; rfl
theorem get_ge {c : Nat} (h : m.cl.length ≤ c) : m.get c = Cl.new := by
 unfold Mach.get; rw [List.getD_eq_getElem?_getD, List.getElem?_eq_none h]; rfl
theorem getD_set {α : Type} (l : List α) (c d : Nat) (x z : α) : (l.set c x).getD d z = if c = d ∧ c < l.length then x else l.getD d z := by
 rw [List.getD_eq_getElem?_getD, List.getD_eq_getElem?_getD, List.getElem?_set]
 by_cases h : c = d
 ·subst h
  by_cases h2 : c < l.length
  ·simp [h2]
  ·simp [h2]
 ·simp [h]
theorem get_set {c d : Nat} {x : Cl} (h : c < m.cl.length) : (m.set c x).get d = if c = d then x else m.get d := by
 unfold Mach.get Mach.set; simp only; rw [getD_set]; by_cases e : c = d <;> simp [e, h]; intro hh; omega
theorem get_cl {c d : Nat} {x : Cl} (h : c < m.cl.length) : (m.cl.set c x).getD d Cl.new = if c = d then x else m.get d := get_set h
structure MOk (mode : Int) (m : Mach E) : Prop where
 n6 : m.cl.length = 6
 s6 : m.sent.length = 6
 line : ∀ c ∈ m.line, c < 6 ∧ (m.get c).srv = none ∧ (m.get c).wait ≠ [] ∧ readyB mode (m.get c) = false
 nodup : m.line.Nodup
 fine : ∀ c r, r ∈ (m.get c).wait → r.fine
 srv : ∀ c s, (m.get c).srv = some s → m.busy[s]? = some true
 inj : ∀ c d s, (m.get c).srv = some s → (m.get d).srv = some s → c = d
 own : ∀ s, m.busy[s]? = some true → ∃ c, (m.get c).srv = some s
theorem srv_lt {c s : Nat} (h : (m.get c).srv = some s) : c < m.cl.length := by
 rcases Nat.lt_or_ge c m.cl.length with h' | h'
 ·exact h'
 ·rw [get_ge h'] at h; cases h
theorem ready_wait {x : Cl} (h : readyB mode x = true) : ∃ r l, x.wait = r :: l ∧ (x.srv.isSome || refB mode r) = true := by
 unfold readyB at h
 cases hx : x.wait with
 | nil => rw [hx] at h; cases h
 | cons r l => rw [hx] at h; exact ⟨r, l, rfl, h⟩
theorem first_some {c : Nat} (h : m.firstR mode = some c) : c < 6 ∧ readyB mode (m.get c) = true := by
 unfold Mach.firstR at h
 have h2 := List.find?_some (p := fun c => readyB mode (m.get c)) h
 exact ⟨List.mem_range.1 (List.mem_of_find?_eq_some h), h2⟩
theorem first_none (h : m.firstR mode = none) {c : Nat} (hc : c < 6) : readyB mode (m.get c) = false := by
 unfold Mach.firstR at h
 have := List.find?_eq_none.1 h c (List.mem_range.2 hc)
 simpa using this
theorem MOk.turn (h : MOk mode m) {c : Nat} (hc : c < 6) {x : Cl} (hf : ∀ r ∈ x.wait, r.fine) (hs : x.srv = (m.get c).srv) (hl : c ∈ m.line → x.wait ≠ [] ∧ readyB mode x = false) : MOk mode (m.set c x) := by
 have hc' : c < m.cl.length := by rw [h.n6]; exact hc
 have hsrv : ∀ d, ((m.set c x).get d).srv = (m.get d).srv := fun d => by
  rw [get_set hc']
  by_cases e : c = d
  ·subst e; rw [if_pos rfl]; exact hs
  ·rw [if_neg e]
 refine ⟨by simp [Mach.set, h.n6], h.s6, fun d hd => ?_, h.nodup, fun d r hr => ?_, fun d s hd => ?_, fun d d' s h1 h2 => ?_, fun s hb => ?_⟩
 ·obtain ⟨h1, h2, h3, h4⟩ := h.line d hd
  refine ⟨h1, (hsrv d).trans h2, ?_⟩
  rw [get_set hc']
  by_cases e : c = d
  ·subst e; rw [if_pos rfl]; exact hl hd
  ·rw [if_neg e]; exact ⟨h3, h4⟩
 ·rw [get_set hc'] at hr
  by_cases e : c = d
  ·rw [if_pos e] at hr; exact hf r hr
  ·rw [if_neg e] at hr; exact h.fine d r hr
 ·rw [hsrv] at hd; exact h.srv d s hd
 ·rw [hsrv] at h1 h2; exact h.inj d d' s h1 h2
 ·obtain ⟨d, hd⟩ := h.own s hb
  exact ⟨d, (hsrv d).trans hd⟩
theorem MOk.same (h : MOk mode m) {m' : Mach E} (h1 : m'.cl = m.cl) (h2 : m'.busy = m.busy) (h3 : m'.line = m.line) (h4 : m'.sent.length = 6) : MOk mode m' := by
 have hg : ∀ c, m'.get c = m.get c := fun c => by unfold Mach.get; rw [h1]
 exact ⟨by rw [h1]; exact h.n6, h4, fun c hc => by rw [h3] at hc; rw [hg]; exact h.line c hc, by rw [h3]; exact h.nodup, fun c r hr => by rw [hg] at hr; exact h.fine c r hr,
  fun c s hs => by rw [hg] at hs; rw [h2]; exact h.srv c s hs, fun c d s a b => by rw [hg] at a b; exact h.inj c d s a b, fun s hs => by rw [h2] at hs; obtain ⟨c, hc⟩ := h.own s hs; exact ⟨c, by rw [hg]; exact hc⟩⟩
theorem MOk.tell (h : MOk mode m) (c : Nat) (a : Ans) (st : Int) : MOk mode (m.tell c a st) := h.same rfl rfl rfl (by simp [Mach.tell, h.s6])
theorem MOk.release (h : MOk mode m) {c s : Nat} (hs : (m.get c).srv = some s) : MOk mode (m.release o c s) := by
 have hc' := srv_lt hs
 have hc : c < 6 := by rw [h.n6] at hc'; exact hc'
 have hg : ∀ d, (m.release o c s).get d = if c = d then { m.get c with srv := none } else m.get d := fun d => get_set (m := m) hc'
 have hn : c ∉ m.line := fun hl => by have := (h.line c hl).2.1; rw [hs] at this; cases this
 refine ⟨by simp [Mach.release, h.n6], h.s6, fun d hd => ?_, h.nodup, fun d r hr => ?_, fun d s' hd => ?_, fun d d' s' h1 h2 => ?_, fun s' hb => ?_⟩
 ·have e : c ≠ d := fun e => hn (by rw [e]; exact hd)
  rw [hg, if_neg e]; exact h.line d hd
 ·rw [hg] at hr
  by_cases e : c = d
  ·rw [if_pos e] at hr; exact h.fine c r hr
  ·rw [if_neg e] at hr; exact h.fine d r hr
 ·rw [hg] at hd
  by_cases e : c = d
  ·rw [if_pos e] at hd; cases hd
  ·rw [if_neg e] at hd
   have hne : s ≠ s' := fun e' => e (h.inj c d s hs (by rw [e']; exact hd))
   show (m.busy.set s false)[s']? = _
   rw [List.getElem?_set_ne hne]; exact h.srv d s' hd
 ·rw [hg] at h1 h2
  by_cases e : c = d
  ·rw [if_pos e] at h1; cases h1
  ·by_cases e' : c = d'
   ·rw [if_pos e'] at h2; cases h2
   ·rw [if_neg e] at h1; rw [if_neg e'] at h2; exact h.inj d d' s' h1 h2
 ·have hb : (m.busy.set s false)[s']? = some true := hb
  by_cases e : s = s'
  ·subst e
   rw [List.getElem?_set_self (List.getElem?_eq_some_iff.1 (h.srv c s hs)).1] at hb; cases hb
  ·rw [List.getElem?_set_ne e] at hb
   obtain ⟨d, hd⟩ := h.own s' hb
   refine ⟨d, ?_⟩
   rw [hg, if_neg (fun e' => e (by rw [← e', hs] at hd; injection hd))]; exact hd
theorem release_mu (h : MOk mode m) {c s : Nat} (hs : (m.get c).srv = some s) : (m.release o c s).mu = m.mu + 1 := by
 have hc' := srv_lt hs
 have e := get_lt (m := m) hc'
 have h1 := waits_set (x := { m.get c with srv := none }) hc'
 have h2 := bare_set (x := { m.get c with srv := none }) hc'
 rw [← e] at h1 h2
 rw [hs] at h2
 simp only [Option.isNone_some, Option.isNone_none, Bool.toNat_false, Bool.toNat_true, Nat.add_zero] at h2
 simp only at h1
 unfold Mach.mu Mach.release
 simp only
 omega
theorem proc_line (h : MOk mode m) {c : Nat} (hr : readyB mode (m.get c) = true) : c ∉ m.line := fun hl => by
 have := (h.line c hl).2.2.2; rw [hr] at this; cases this
theorem MOk.proc (h : MOk mode m) {c : Nat} (hc : c < 6) (hr : readyB mode (m.get c) = true) : MOk mode (m.proc o mode c) ∧ (m.proc o mode c).mu < m.mu := by
 have hc' : c < m.cl.length := by rw [h.n6]; exact hc
 have hn := proc_line h hr
 obtain ⟨r, l, hw, hs⟩ := ready_wait hr
 have h1 : MOk mode (m.set c { m.get c with wait := l }) := h.turn hc (fun q hq => h.fine c q (by rw [hw]; exact List.mem_cons_of_mem _ hq)) rfl (fun hl => absurd hl hn)
 have e := get_lt (m := m) hc'
 have q1 := waits_set (x := { m.get c with wait := l }) hc'
 have q2 := bare_set (x := { m.get c with wait := l }) hc'
 rw [← e] at q1 q2
 rw [hw] at q1
 simp only [List.length_cons] at q1 q2
 have q3 : (m.set c { m.get c with wait := l }).mu + 2 = m.mu := by unfold Mach.mu Mach.set; simp only; omega
 unfold Mach.proc
 simp only [hw]
 by_cases hf : refB mode r = true
 ·rw [if_pos hf]
  exact ⟨h1.tell _ _ _, by show (m.set c { m.get c with wait := l }).mu < _; omega⟩
 ·rw [if_neg hf]
  have hsv : (m.get c).srv.isSome = true := by rw [Bool.or_eq_true] at hs; exact hs.resolve_right hf
  obtain ⟨s, hs⟩ := Option.isSome_iff_exists.1 hsv
  have h2 : MOk mode (Mach.tell { m.set c { m.get c with wait := l } with e := (o.exec m.e c ((m.get c).srv.getD 0) r).1, deeds := m.deeds ++ [⟨c, r, (o.exec m.e c ((m.get c).srv.getD 0) r).2.1, (o.exec m.e c ((m.get c).srv.getD 0) r).2.2⟩] } c (o.exec m.e c ((m.get c).srv.getD 0) r).2.1 (o.exec m.e c ((m.get c).srv.getD 0) r).2.2) :=
   h1.same rfl rfl rfl (by simp [Mach.tell, Mach.set, h.s6])
  split
  ·refine ⟨h2.release (by show ((m.set c _).get c).srv = _; rw [get_set hc', if_pos rfl, hs]; rfl), ?_⟩
   rw [release_mu h2 (by show ((m.set c _).get c).srv = _; rw [get_set hc', if_pos rfl, hs]; rfl)]
   show (m.set c { m.get c with wait := l }).mu + 1 < _; omega
  ·exact ⟨h2, by show (m.set c { m.get c with wait := l }).mu < _; omega⟩
theorem enqL_mem {l : List Nat} {c d : Nat} : d ∈ enqL m l c ↔ d ∈ l ∨ (d = c ∧ (m.get c).wait ≠ []) := by
 unfold enqL
 by_cases h : (m.get c).wait ≠ [] ∧ ¬ c ∈ l
 ·rw [if_pos h]; simp only [List.mem_append, List.mem_singleton]; exact ⟨fun hh => hh.imp_right fun e => ⟨e, h.1⟩, fun hh => hh.imp_right And.left⟩
 ·rw [if_neg h]
  refine ⟨.inl, fun hh => ?_⟩
  rcases hh with hh | ⟨rfl, hw⟩
  ·exact hh
  ·exact Classical.byContradiction fun hn => h ⟨hw, hn⟩
theorem enqL_nodup {l : List Nat} {c : Nat} (h : l.Nodup) : (enqL m l c).Nodup := by
 unfold enqL
 split
 ·rename_i hh
  rw [List.nodup_append]
  exact ⟨h, by simp, fun a ha b hb e => by rw [List.mem_singleton] at hb; subst hb; subst e; exact hh.2 ha⟩
 ·exact h
theorem enq_mem : ∀ {cs l : List Nat} {d : Nat}, d ∈ cs.foldl (enqL m) l ↔ d ∈ l ∨ (d ∈ cs ∧ (m.get d).wait ≠ [])
 | [], l, d => by simp
 | c :: cs, l, d => by
  rw [List.foldl_cons, enq_mem, enqL_mem]
  constructor
  ·rintro ((h | ⟨rfl, h⟩) | ⟨h1, h2⟩)
   ·exact .inl h
   ·exact .inr ⟨List.mem_cons_self, h⟩
   ·exact .inr ⟨List.mem_cons_of_mem _ h1, h2⟩
  ·rintro (h | ⟨h1, h2⟩)
   ·exact .inl (.inl h)
   ·rcases List.mem_cons.1 h1 with rfl | h1
    ·exact .inl (.inr ⟨rfl, h2⟩)
    ·exact .inr ⟨h1, h2⟩
theorem enq_nodup : ∀ {cs l : List Nat}, l.Nodup → (cs.foldl (enqL m) l).Nodup
 | [], l, h => h
 | c :: cs, l, h => by rw [List.foldl_cons]; exact enq_nodup (enqL_nodup h)
theorem MOk.enq (h : MOk mode m) (hr : m.firstR mode = none) : MOk mode m.enq := by
 refine ⟨h.n6, h.s6, fun d hd => ?_, enq_nodup h.nodup, h.fine, h.srv, h.inj, h.own⟩
 rcases enq_mem.1 hd with hd | ⟨h1, h2⟩
 ·exact h.line d hd
 ·have h6 := List.mem_range.1 h1
  have hn := first_none hr h6
  refine ⟨h6, ?_, h2, hn⟩
  cases hx : (m.get d).wait with
  | nil => exact absurd hx h2
  | cons r l =>
   unfold readyB at hn
   rw [hx] at hn
   simp only [Bool.or_eq_false_iff] at hn
   have : (m.get d).srv = none := Option.not_isSome_iff_eq_none.1 (by rw [hn.1]; simp)
   exact this
theorem idx_free {l : List Bool} (h : l.idxOf false < l.length) : l[l.idxOf false]? = some false := by
 rw [List.getElem?_eq_getElem h]
 have := List.getElem_idxOf h
 rw [this]
theorem MOk.assign (h : MOk mode m) (ht : (m.assign o).1 = true) : MOk mode (m.assign o).2 ∧ (m.assign o).2.mu < m.mu := by
 unfold Mach.assign at ht ⊢
 cases hl : m.line with
 | nil => rw [hl] at ht; cases ht
 | cons c l =>
  rw [hl] at ht
  simp only at ht ⊢
  by_cases hb : m.busy.idxOf false < m.busy.length
  ·rw [if_pos hb]
   obtain ⟨hc, hs, hw, hr⟩ := h.line c (by rw [hl]; exact List.mem_cons_self)
   have hc' : c < m.cl.length := by rw [h.n6]; exact hc
   have hnd := h.nodup
   rw [hl, List.nodup_cons] at hnd
   generalize hs0 : m.busy.idxOf false = s at *
   have hfree : m.busy[s]? = some false := by rw [← hs0]; exact idx_free (by rw [hs0]; exact hb)
   have hg : ∀ (q : Mach E) d, q.cl = m.cl.set c { m.get c with srv := some s } → q.get d = if c = d then { m.get c with srv := some s } else m.get d := fun q d hq => by
    unfold Mach.get; rw [hq]; exact get_cl hc'
   have hns : ∀ d, (m.get d).srv ≠ some s := fun d hd => by rw [h.srv d s hd] at hfree; cases hfree
   refine ⟨⟨by simp [h.n6], h.s6, fun d hd => ?_, hnd.2, fun d r hr => ?_, fun d s' hd => ?_, fun d d' s' h1 h2 => ?_, fun s' hb' => ?_⟩, ?_⟩
   ·have e : c ≠ d := fun e => hnd.1 (by rw [e]; exact hd)
    rw [hg _ d rfl, if_neg e]
    exact h.line d (by rw [hl]; exact List.mem_cons_of_mem _ hd)
   ·rw [hg _ d rfl] at hr
    by_cases e : c = d
    ·rw [if_pos e] at hr; exact h.fine c r hr
    ·rw [if_neg e] at hr; exact h.fine d r hr
   ·rw [hg _ d rfl] at hd
    by_cases e : c = d
    ·rw [if_pos e] at hd; injection hd with hd; subst hd
     show (m.busy.set s true)[s]? = _
     rw [List.getElem?_set_self hb]
    ·rw [if_neg e] at hd
     have hne : s ≠ s' := fun e' => hns d (by rw [e']; exact hd)
     show (m.busy.set s true)[s']? = _
     rw [List.getElem?_set_ne hne]; exact h.srv d s' hd
   ·rw [hg _ d rfl] at h1
    rw [hg _ d' rfl] at h2
    by_cases e : c = d <;> by_cases e' : c = d'
    ·rw [← e, ← e']
    ·rw [if_pos e] at h1; rw [if_neg e'] at h2; injection h1 with h1; exact absurd (by rw [h1]; exact h2) (hns d')
    ·rw [if_neg e] at h1; rw [if_pos e'] at h2; injection h2 with h2; exact absurd (by rw [h2]; exact h1) (hns d)
    ·rw [if_neg e] at h1; rw [if_neg e'] at h2; exact h.inj d d' s' h1 h2
   ·have hb' : (m.busy.set s true)[s']? = some true := hb'
    by_cases e : s = s'
    ·subst e
     exact ⟨c, by rw [hg _ c rfl, if_pos rfl]⟩
    ·rw [List.getElem?_set_ne e] at hb'
     obtain ⟨d, hd⟩ := h.own s' hb'
     exact ⟨d, by rw [hg _ d rfl, if_neg (fun e' => by rw [← e', hs] at hd; cases hd)]; exact hd⟩
   ·have e := get_lt (m := m) hc'
    have q1 := waits_set (x := { m.get c with srv := some s }) hc'
    have q2 := bare_set (x := { m.get c with srv := some s }) hc'
    rw [← e] at q1 q2
    rw [hs] at q2
    simp only [Option.isNone_some, Option.isNone_none, Bool.toNat_false, Bool.toNat_true, Nat.add_zero] at q2
    simp only at q1
    unfold Mach.mu
    simp only
    omega
  ·rw [if_neg hb] at ht; cases ht
theorem assign_no (h : (m.assign o).1 = false) : (m.assign o).2 = m := by
 unfold Mach.assign at h ⊢
 cases hl : m.line with
 | nil => rfl
 | cons c l =>
  rw [hl] at h
  simp only at h ⊢
  by_cases hb : m.busy.idxOf false < m.busy.length
  ·rw [if_pos hb] at h; cases h
  ·rw [if_neg hb]
theorem MOk.step (h : MOk mode m) : MOk mode (m.step o mode).2 ∧ ((m.step o mode).1 = true → (m.step o mode).2.mu < m.mu) := by
 unfold Mach.step
 cases hf : m.firstR mode with
 | some c =>
  obtain ⟨hc, hr⟩ := first_some hf
  have := h.proc (o := o) hc hr
  exact ⟨this.1, fun _ => this.2⟩
 | none =>
  have he := h.enq hf
  simp only
  cases ha : (m.enq.assign o).1 with
  | true => have := he.assign ha; exact ⟨this.1, fun _ => this.2⟩
  | false => rw [assign_no ha]; exact ⟨he, fun hh => by cases hh⟩
theorem iter_enough : ∀ (n k : Nat) (m : Mach E), MOk mode m → m.mu < n → m.mu < k → m.iter o mode n = m.iter o mode k
 | n + 1, k + 1, m, h, hn, hk => by
  simp only [Mach.iter]
  cases ht : (m.step o mode).1 with
  | false => simp
  | true =>
   have h1 := h.step (o := o)
   have h2 := h1.2 ht
   simp only [if_true]
   exact iter_enough n k _ h1.1 (by omega) (by omega)
theorem all_step (h : MOk mode m) (ht : (m.step o mode).1 = true) : m.all o mode = (m.step o mode).2.all o mode := by
 have h1 := h.step (o := o)
 have h2 := h1.2 ht
 unfold Mach.all
 rw [Mach.iter, if_pos ht]
 exact iter_enough _ _ _ h1.1 (by omega) (by omega)
theorem all_stop (ht : (m.step o mode).1 = false) : m.all o mode = (m.step o mode).2 := by
 unfold Mach.all
 rw [Mach.iter, if_neg (by rw [ht]; simp)]
theorem all_ind (P : Mach E → Prop) (Q : Mach E → Mach E → Prop) (hstep : ∀ m, MOk mode m → P m → (m.step o mode).1 = true → P (m.step o mode).2 ∧ ∀ r, Q (m.step o mode).2 r → Q m r) (hstop : ∀ m, MOk mode m → P m → (m.step o mode).1 = false → Q m (m.step o mode).2) :
  ∀ (n : Nat) (m : Mach E), m.mu ≤ n → MOk mode m → P m → Q m (m.all o mode)
 | 0, m, hn, h, hp => by
  cases ht : (m.step o mode).1 with
  | false => rw [all_stop ht]; exact hstop m h hp ht
  | true => have := (h.step (o := o)).2 ht; omega
 | n + 1, m, hn, h, hp => by
  cases ht : (m.step o mode).1 with
  | false => rw [all_stop ht]; exact hstop m h hp ht
  | true =>
   have h1 := h.step (o := o)
   have h2 := h1.2 ht
   have h3 := hstep m h hp ht
   rw [all_step h ht]
   exact h3.2 _ (all_ind P Q hstep hstop n _ (by omega) h1.1 h3.1)
theorem MOk.all (h : MOk mode m) : MOk mode (m.all o mode) :=
 all_ind (fun _ => True) (fun _ r => MOk mode r) (fun m h _ _ => ⟨trivial, fun r hr => hr⟩) (fun m h _ _ => (h.step (o := o)).1) _ m (nL _) h trivial
theorem MOk.leave (h : MOk mode m) {c : Nat} (hc : c < 6) : MOk mode (m.leave o c) := by
 have hc' : c < m.cl.length := by rw [h.n6]; exact hc
 have hg : ∀ d, (m.leave o c).get d = if c = d then Cl.new else m.get d := fun d => get_set (m := m) hc'
 have hm : ∀ d, d ∈ (m.leave o c).line ↔ d ∈ m.line ∧ d ≠ c := fun d => by
  show d ∈ m.line.filter _ ↔ _
  rw [List.mem_filter]; simp
 refine ⟨by simp [Mach.leave, h.n6], h.s6, fun d hd => ?_, h.nodup.filter _, fun d r hr => ?_, fun d s hd => ?_, fun d d' s h1 h2 => ?_, fun s hb => ?_⟩
 ·obtain ⟨h1, h2⟩ := (hm d).1 hd
  rw [hg, if_neg (fun e => h2 e.symm)]; exact h.line d h1
 ·rw [hg] at hr
  by_cases e : c = d
  ·rw [if_pos e] at hr; cases hr
  ·rw [if_neg e] at hr; exact h.fine d r hr
 ·rw [hg] at hd
  by_cases e : c = d
  ·rw [if_pos e] at hd; cases hd
  ·rw [if_neg e] at hd
   have := h.srv d s hd
   unfold Mach.leave
   simp only
   cases hx : (m.get c).srv with
   | none => exact this
   | some s' =>
    simp only
    rw [List.getElem?_set_ne (fun e' => e (h.inj c d s (by rw [hx, e']) hd))]; exact this
 ·rw [hg] at h1 h2
  by_cases e : c = d
  ·rw [if_pos e] at h1; cases h1
  ·by_cases e' : c = d'
   ·rw [if_pos e'] at h2; cases h2
   ·rw [if_neg e] at h1; rw [if_neg e'] at h2; exact h.inj d d' s h1 h2
 ·unfold Mach.leave at hb
  simp only at hb
  cases hx : (m.get c).srv with
  | none =>
   rw [hx] at hb
   obtain ⟨d, hd⟩ := h.own s hb
   exact ⟨d, by rw [hg, if_neg (fun e => by rw [← e, hx] at hd; cases hd)]; exact hd⟩
  | some s' =>
   rw [hx] at hb
   simp only at hb
   by_cases e : s' = s
   ·subst e
    rw [List.getElem?_set_self (List.getElem?_eq_some_iff.1 (h.srv c s' hx)).1] at hb; cases hb
   ·rw [List.getElem?_set_ne e] at hb
    obtain ⟨d, hd⟩ := h.own s hb
    exact ⟨d, by rw [hg, if_neg (fun e' => e (by rw [← e', hx] at hd; injection hd))]; exact hd⟩
theorem reqOf_fine (k : UInt8) (t : ByteArray) : (reqOf k t).fine := by
 unfold reqOf
 split
 ·rename_i h; exact .inr (text_read h.2).1
 ·exact .inl rfl
theorem fine_app {l : List Req} {r : Req} (h : ∀ q ∈ l, q.fine) (hr : r.fine) : ∀ q ∈ l ++ [r], q.fine := fun q hq => by
 rcases List.mem_append.1 hq with hq | hq
 ·exact h q hq
 ·rw [List.mem_singleton] at hq; rw [hq]; exact hr
theorem ready_app {x : Cl} {r : Req} {b : ByteArray} (hw : x.wait ≠ []) (hr : readyB mode x = false) : readyB mode { x with bytes := b, wait := x.wait ++ [r] } = false := by
 unfold readyB at hr ⊢
 cases hx : x.wait with
 | nil => exact absurd hx hw
 | cons q l => rw [hx] at hr; exact hr
theorem MOk.feed (h : MOk mode m) {c : Nat} (hc : c < 6) (n : Nat) : MOk mode (m.feed o mode n c) := by
 induction n generalizing m with
 | zero => exact h
 | succ n ih =>
  unfold Mach.feed
  cases hp : pull (m.get c).bytes with
  | none => exact h
  | some q =>
   obtain ⟨k, t, j⟩ := q
   simp only
   split
   ·exact h.all.leave hc
   ·refine ih (h.turn hc (fine_app (fun q hq => h.fine c q hq) (reqOf_fine k t)) rfl fun hl => ⟨by simp, ?_⟩)
    obtain ⟨_, _, h3, h4⟩ := h.line c hl
    exact ready_app h3 h4
theorem MOk.bytes (h : MOk mode m) {c : Nat} (hc : c < 6) (b : ByteArray) : MOk mode (m.set c { m.get c with bytes := b }) :=
 h.turn hc (fun r hr => h.fine c r hr) rfl fun hl => ⟨(h.line c hl).2.2.1, (h.line c hl).2.2.2⟩
theorem MOk.deliver (h : MOk mode m) {c : Nat} (hc : c < 6) (d : ByteArray) : MOk mode (m.deliver o mode c d) := (h.bytes hc _).feed hc _
theorem MOk.act (h : MOk mode m) {a : Act} (ha : actE a = 0) : MOk mode (m.act o mode a) := by
 have hc : a.c.toNat < 6 := by
  unfold actE at ha
  split at ha
  ·cases ha
  split at ha
  ·cases ha
  omega
 unfold Mach.act
 split
 ·exact (h.deliver hc _).all
 ·exact (h.leave hc).all
theorem actsE_cons {a : Act} {l : List Act} (h : actsE (a :: l) = 0) : actE a = 0 ∧ actsE l = 0 := by
 unfold actsE at h
 split at h
 ·rename_i hh; exact absurd h hh
 ·rename_i hh; exact ⟨Classical.byContradiction hh, h⟩
theorem MOk.run (h : MOk mode m) {l : List Act} (hl : actsE l = 0) : MOk mode (m.run o mode l) := by
 induction l generalizing m with
 | nil => exact h
 | cons a l ih => exact ih (h.act (actsE_cons hl).1) (actsE_cons hl).2
end
theorem start_ok {E : Type} (e : E) (n : Nat) (mode : Int) : MOk mode (Mach.start e n) := by
 have hg : ∀ c, (Mach.start e n).get c = Cl.new := fun c => by
  unfold Mach.get Mach.start
  simp only
  rw [List.getD_eq_getElem?_getD, List.getElem?_replicate]
  split <;> rfl
 refine ⟨by simp [Mach.start], by simp [Mach.start], (fun c hc => by cases hc), List.nodup_nil, (fun c r hr => by rw [hg] at hr; cases hr), (fun c s hs => by rw [hg] at hs; cases hs), (fun c d s h1 _ => by rw [hg] at h1; cases h1), fun s hs => ?_⟩
 have : (List.replicate n false)[s]? = some true := hs
 rw [List.getElem?_replicate] at this
 split at this <;> cases this
end Go.Proofs.YtpbaobmegomfpabGreatDoor
namespace Go.Proofs.YtpbaobmegomfpabGreatDoor
open Go.RowKit
theorem at_lt {W : Wd} {i : Nat} (h : i < W.ss.length) : W.at i = W.ss[i] := by
 unfold Wd.at; rw [List.getD_eq_getElem?_getD, List.getElem?_eq_getElem h]; rfl
theorem put_self {W : Wd} {i : Nat} (h : i < W.ss.length) : (⟨W.rows, W.ss.set i (W.at i)⟩ : Wd) = W := by
 rw [at_lt h, List.set_getElem_self]
theorem any_own {W : Wd} {s : Nat} (h : s < W.ss.length) (key : ByteArray) : W.ss.any (fun x => fndL x.wr key) = (fndL (W.at s).wr key || heldB W.ss s key) := by
 rw [at_lt h]
 rw [Bool.eq_iff_iff, Bool.or_eq_true, any_get, heldB_iff]
 constructor
 ·rintro ⟨k, hk, hf⟩
  by_cases e : k = s
  ·subst e; exact .inl hf
  ·exact .inr ⟨k, hk, hf, by omega⟩
 ·rintro (hf | ⟨k, hk, hf, _⟩)
  ·exact ⟨s, h, hf⟩
  ·exact ⟨k, hk, hf⟩
structure Like (A B : Wd) (s c : Nat) : Prop where
 a : WorldOk A
 b : WorldOk B
 hs : s < A.ss.length
 hc : c < B.ss.length
 rows : A.rows = B.rows
 me : A.at s = B.at c
 held : ∀ key, heldB A.ss s key = heldB B.ss c key
section
variable {A B : Wd} {s c : Nat}
theorem Like.fnd (h : Like A B s c) (key : ByteArray) : fndL (allL A) key = fndL (allL B) key := by
 rw [fnd_all (pairsB_rising h.a.rows).1, fnd_all (pairsB_rising h.b.rows).1, any_own h.hs, any_own h.hc, h.rows, h.me, h.held]
theorem Like.len (h : Like A B s c) : (allL A).length = (allL B).length := by
 have h1 := sub_len (all_rising h.b) (all_rising h.a) (fun p hp => by rw [← h.fnd]; exact fnd_of_mem hp)
 have h2 := sub_len (all_rising h.a) (all_rising h.b) (fun p hp => by rw [h.fnd]; exact fnd_of_mem hp)
 omega
def Both (A B : Wd) (s c : Nat) (r q : Wd × Ans) : Prop := ∃ rows x a, r = (⟨rows, A.ss.set s x⟩, a) ∧ q = (⟨rows, B.ss.set c x⟩, a)
theorem both_ite {p : Prop} [Decidable p] {r r' q q' : Wd × Ans} (h1 : Both A B s c r q) (h2 : Both A B s c r' q') : Both A B s c (if p then r else r') (if p then q else q') := by
 by_cases h : p
 ·rw [if_pos h, if_pos h]; exact h1
 ·rw [if_neg h, if_neg h]; exact h2
theorem Like.same (h : Like A B s c) (a : Ans) : Both A B s c (A, a) (B, a) :=
 ⟨A.rows, A.at s, a, by rw [put_self h.hs], by rw [h.rows, h.me, put_self h.hc]⟩
theorem Like.put (h : Like A B s c) (x : Sess) (a : Ans) : Both A B s c (A.put s x, a) (B.put c x, a) := ⟨A.rows, x, a, rfl, by rw [h.rows]; rfl⟩
theorem Like.did1 (h : Like A B s c) (k : Int) (key val : ByteArray) : Both A B s c (did1 A s k key val) (did1 B c k key val) := by
 unfold Go.Proofs.YtpbaobmegomfpabGreatDoor.did1
 simp only
 rw [h.me, h.rows, h.held, h.fnd, h.len]
 have hr := h.rows
 refine both_ite (h.same _) ?_
 refine both_ite (both_ite (h.put _ _) (h.same _)) ?_
 refine both_ite (both_ite (h.same _) (both_ite ⟨_, _, _, rfl, rfl⟩ (h.put _ _))) ?_
 refine both_ite (both_ite (h.put _ _) (h.same _)) ?_
 refine both_ite (h.same _) ?_
 refine both_ite (h.same _) ?_
 refine both_ite (both_ite (h.same _) (h.put _ _)) ?_
 refine both_ite (both_ite (h.same _) (both_ite (h.same _) (both_ite (h.put _ _) ?_))) ?_
 ·refine ⟨plusL B.rows key val, A.at s, ok', ?_, ?_⟩
  ·rw [show A.ss.set s (A.at s) = A.ss by rw [at_lt h.hs, List.set_getElem_self]]
  ·rw [h.me, show B.ss.set c (B.at c) = B.ss by rw [at_lt h.hc, List.set_getElem_self]]
 exact both_ite (both_ite (h.same _) (h.put _ _)) (h.same _)
theorem Like.didM (h : Like A B s c) (k : Int) (key val : ByteArray) : Both A B s c (didM A s k key val) (didM B c k key val) := by
 unfold Go.Proofs.YtpbaobmegomfpabGreatDoor.didM
 rw [h.me]
 refine both_ite (both_ite (h.same _) ?_) (h.did1 _ _ _)
 cases atL (B.at c).prep key with
 | none => exact h.same _
 | some t => exact h.did1 _ _ _
theorem Like.doM (h : Like A B s c) (k : Int) (key val : ByteArray) : Both A B s c (doM A s k key val) (doM B c k key val) := by
 obtain ⟨rows, x, a, h1, h2⟩ := h.didM k key val
 have e1 : ∀ y, (⟨rows, A.ss.set s y⟩ : Wd).at s = y := fun y => by unfold Wd.at; simp only; rw [getD_set, if_pos ⟨rfl, h.hs⟩]
 have e2 : ∀ y, (⟨rows, B.ss.set c y⟩ : Wd).at c = y := fun y => by unfold Wd.at; simp only; rw [getD_set, if_pos ⟨rfl, h.hc⟩]
 unfold Go.Proofs.YtpbaobmegomfpabGreatDoor.doM
 simp only [h1, h2, e1, e2]
 refine both_ite ⟨rows, { x with st := 2, wr := [] }, a, ?_, ?_⟩ ⟨rows, x, a, rfl, rfl⟩
 ·simp [Wd.put]
 ·simp [Wd.put]
end
theorem rising_ext : ∀ {l m : PL}, risingB l = true → risingB m = true → (∀ k, atL l k = atL m k) → l = m
 | [], [], _, _, _ => rfl
 | [], q :: m, _, _, h => by have := h q.1; rw [atL_yes (eqB_self _)] at this; cases this
 | p :: l, [], _, _, h => by have := h p.1; rw [atL_yes (eqB_self _)] at this; cases this
 | p :: l, q :: m, hl, hm, h => by
  have hp : ∀ {l : PL} {p : ByteArray × ByteArray}, risingB (p :: l) = true → ∀ k v, atL (p :: l) k = some v → p.1 = k ∨ ltB p.1 k = true := fun {l p} hl k v hk => by
   have := atL_mem hk
   rcases List.mem_cons.1 this with e | hm
   ·left; rw [← e]
   ·right; exact rising_head hl _ hm
  have e1 : p.1 = q.1 := by
   have a1 : atL (q :: m) p.1 = some p.2 := by rw [← h, atL_yes (eqB_self _)]
   have a2 : atL (p :: l) q.1 = some q.2 := by rw [h, atL_yes (eqB_self _)]
   rcases hp hm _ _ a1 with e | h1
   ·exact e.symm
   ·rcases hp hl _ _ a2 with e | h2
    ·exact e
    ·have := ltB_asymm h1; rw [h2] at this; cases this
  have e2 : p.2 = q.2 := by
   have a1 := h p.1
   rw [atL_yes (eqB_self _), atL_yes (by rw [e1]; exact eqB_self _)] at a1
   injection a1
  have e3 : l = m := rising_ext (rising_tail hl) (rising_tail hm) (fun k => by
   by_cases e : eqB p.1 k = true
   ·have e' := eqB_iff.1 e
    rw [atL_none (fun r hr => eqB_false.2 (fun x => by have := ltB_ne (rising_head hl r hr); exact this (by rw [e', x]))), atL_none (fun r hr => eqB_false.2 (fun x => by have := ltB_ne (rising_head hm r hr); exact this (by rw [← e1, e', x])))]
   ·have e : eqB p.1 k = false := by simpa using e
    have := h k
    rwa [atL_no e, atL_no (by rw [← e1]; exact e)] at this)
  rw [e3, Prod.ext e1 e2]
theorem pairB_iff {p q : ByteArray × ByteArray} : pairB p q = true ↔ p = q := by
 unfold pairB; rw [Bool.and_eq_true, eqB_iff, eqB_iff]
 exact ⟨fun h => Prod.ext h.1 h.2, fun h => by rw [h]; exact ⟨rfl, rfl⟩⟩
theorem without_mem {l o : PL} {p : ByteArray × ByteArray} : p ∈ without l o ↔ p ∈ l ∧ p ∉ o := by
 unfold without
 rw [List.mem_filter]
 simp only [Bool.not_eq_true', and_congr_right_iff]
 intro _
 rw [← Bool.not_eq_true, List.any_eq_true]
 exact ⟨fun h hp => h ⟨p, hp, pairB_iff.2 rfl⟩, fun h ⟨q, hq, e⟩ => h (by rw [← pairB_iff.1 e]; exact hq)⟩
theorem without_nil {l o : PL} : (without l o).length > 0 ↔ ∃ p ∈ l, p ∉ o := by
 rw [gt_iff_lt, List.length_pos_iff_exists_mem]
 exact ⟨fun ⟨p, hp⟩ => ⟨p, (without_mem.1 hp).1, (without_mem.1 hp).2⟩, fun ⟨p, h1, h2⟩ => ⟨p, without_mem.2 ⟨h1, h2⟩⟩⟩
theorem at_plus {l : PL} {k v k' : ByteArray} (h : risingB l = true) : atL (plusL l k v) k' = if eqB k k' then some v else atL l k' := by rw [plus_ins h, at_ins h]
theorem mem_at {T : PL} (h : risingB T = true) {p : ByteArray × ByteArray} (hp : p ∈ T) : atL T p.1 = some p.2 := by
 induction T with
 | nil => cases hp
 | cons q T ih =>
  rcases List.mem_cons.1 hp with rfl | hp
  ·exact atL_yes (eqB_self _)
  ·rw [atL_no (eqB_false.2 (ltB_ne (rising_head h p hp)))]; exact ih (rising_tail h) hp
theorem plusF_at {T : PL} (hT : risingB T = true) : ∀ {l cur : PL}, risingB cur = true → (∀ p ∈ cur, p ∈ T) → (∀ p ∈ l, p ∈ T) → ∀ k, atL (plusF cur l) k = if (atL cur k).isSome || fndL l k then atL T k else none
 | [], cur, hc, h1, _, k => by
  show atL cur k = _
  have : fndL [] k = false := rfl
  rw [this, Bool.or_false]
  cases h : atL cur k with
  | none => simp
  | some v => simp [mem_at hT (h1 _ (atL_mem h))]
 | p :: l, cur, hc, h1, h2, k => by
  have hp := h2 p List.mem_cons_self
  have e : plusF cur (p :: l) = plusF (plusL cur p.1 p.2) l := rfl
  rw [e, plusF_at hT (by rw [plus_ins hc]; exact ins_rising hc) (fun q hq => by
   rcases plusL_mem hq with rfl | hq
   ·exact hp
   ·exact h1 q hq) (fun q hq => h2 q (List.mem_cons_of_mem _ hq)), at_plus hc]
  have : fndL (p :: l) k = (eqB p.1 k || fndL l k) := by
   unfold fndL
   cases e : eqB p.1 k
   ·rw [atL_no e]; simp
   ·rw [atL_yes e]; simp
  rw [this]
  cases e : eqB p.1 k <;> simp
theorem plusF_whole {T cur : PL} (hT : risingB T = true) (hc : risingB cur = true) (h : ∀ p ∈ cur, p ∈ T) : plusF cur (without T cur) = T := by
 refine rising_ext (plusF_up hc _) hT fun k => ?_
 rw [plusF_at hT hc h (fun p hp => (without_mem.1 hp).1)]
 cases hk : atL T k with
 | none => split <;> rfl
 | some v =>
  have hm := atL_mem hk
  by_cases hin : (k, v) ∈ cur
  ·have := atL_of_mem hin; simp only at this; rw [this]; simp
  ·have := fnd_of_mem (without_mem.2 ⟨hm, hin⟩); simp only at this; rw [this]; simp
section
variable {w : Wd} {s : Nat}
theorem wput_at (hs : s < w.ss.length) (x : Sess) : (w.put s x).at s = x := by unfold Wd.at Wd.put; simp only; rw [getD_set, if_pos ⟨rfl, hs⟩]
theorem wput_put (x y : Sess) : (w.put s x).put s y = w.put s y := by unfold Wd.put; simp
theorem do_set (hs : s < w.ss.length) (h0 : (w.at s).st = 0) {key val : ByteArray} (hr : fndL (w.at s).set key = true ∨ (w.at s).set.length < 6) : (doM w s 9 key val).1 = w.put s { w.at s with set := plusL (w.at s).set key val } := by
 have : ¬ (fndL (w.at s).set key = false ∧ 6 ≤ (w.at s).set.length) := fun h => by
  rcases hr with hr | hr
  ·rw [hr] at h; cases h.1
  ·omega
 unfold doM didM did1
 simp [h0, this, ok']
theorem do_prep (hs : s < w.ss.length) (h0 : (w.at s).st = 0) {key val : ByteArray} (hr : fndL (w.at s).prep key = true ∨ (w.at s).prep.length < 6) : (doM w s 11 key val).1 = w.put s { w.at s with prep := plusL (w.at s).prep key val } := by
 have : ¬ (fndL (w.at s).prep key = false ∧ 6 ≤ (w.at s).prep.length) := fun h => by
  rcases hr with hr | hr
  ·rw [hr] at h; cases h.1
  ·omega
 unfold doM didM did1
 simp [h0, this, ok']
theorem room_T {T cur : PL} (hT : risingB T = true) (h6 : T.length ≤ 6) (hc : risingB cur = true) (h : ∀ p ∈ cur, p ∈ T) {p : ByteArray × ByteArray} (hp : p ∈ T) : fndL cur p.1 = true ∨ cur.length < 6 := by
 cases hf : fndL cur p.1
 ·right
  have := sub_less hT hc (fun q hq => fnd_of_mem (h q hq)) (fnd_of_mem hp) hf
  omega
 ·exact .inl rfl
theorem doW_set {T : PL} (hT : risingB T = true) (h6 : T.length ≤ 6) : ∀ {l : PL} {w : Wd} (hs : s < w.ss.length) (h0 : (w.at s).st = 0) (hr : risingB (w.at s).set = true) (h1 : ∀ p ∈ (w.at s).set, p ∈ T) (h2 : ∀ p ∈ l, p ∈ T), doW w s 9 l = w.put s { w.at s with set := plusF (w.at s).set l }
 | [], w, hs, h0, hr, h1, _ => by show w = _; exact (put_self hs).symm
 | p :: l, w, hs, h0, hr, h1, h2 => by
  have e : doW w s 9 (p :: l) = doW (doM w s 9 p.1 p.2).1 s 9 l := rfl
  have hp := h2 p List.mem_cons_self
  rw [e, do_set hs h0 (room_T hT h6 hr h1 hp), doW_set hT h6 (by rw [wput_len]; exact hs) (by rw [wput_at hs]; exact h0) (by rw [wput_at hs]; simp only; rw [plus_ins hr]; exact ins_rising hr) (by
   rw [wput_at hs]
   intro q hq
   rcases plusL_mem hq with rfl | hq
   ·exact hp
   ·exact h1 q hq) (fun q hq => h2 q (List.mem_cons_of_mem _ hq)), wput_at hs, wput_put]
  rfl
theorem doW_prep {T : PL} (hT : risingB T = true) (h6 : T.length ≤ 6) : ∀ {l : PL} {w : Wd} (hs : s < w.ss.length) (h0 : (w.at s).st = 0) (hr : risingB (w.at s).prep = true) (h1 : ∀ p ∈ (w.at s).prep, p ∈ T) (h2 : ∀ p ∈ l, p ∈ T), doW w s 11 l = w.put s { w.at s with prep := plusF (w.at s).prep l }
 | [], w, hs, h0, hr, h1, _ => by show w = _; exact (put_self hs).symm
 | p :: l, w, hs, h0, hr, h1, h2 => by
  have e : doW w s 11 (p :: l) = doW (doM w s 11 p.1 p.2).1 s 11 l := rfl
  have hp := h2 p List.mem_cons_self
  rw [e, do_prep hs h0 (room_T hT h6 hr h1 hp), doW_prep hT h6 (by rw [wput_len]; exact hs) (by rw [wput_at hs]; exact h0) (by rw [wput_at hs]; simp only; rw [plus_ins hr]; exact ins_rising hr) (by
   rw [wput_at hs]
   intro q hq
   rcases plusL_mem hq with rfl | hq
   ·exact hp
   ·exact h1 q hq) (fun q hq => h2 q (List.mem_cons_of_mem _ hq)), wput_at hs, wput_put]
  rfl
theorem restore_ok (h : WorldOk w) (hs : s < w.ss.length) (h0 : (w.at s).st = 0) {p : PL × PL} (hp1 : pairsB p.1 6 9 = true) (hp2 : pairsB p.2 6 11 = true) : restoreW w s p = w.put s ⟨0, p.1, p.2, [], []⟩ := by
 have hx := h.sess s hs
 rw [← at_lt hs] at hx
 obtain ⟨r1, l1, _⟩ := pairsB_rising hp1
 obtain ⟨r2, l2, _⟩ := pairsB_rising hp2
 have hsav := hx.idle h0
 have hwr := hx.tx (by omega)
 unfold restoreW
 simp only
 obtain ⟨x, hw1, hx0, hxs, hxp, hxv, hxw, hrs, hrp, hms, hmp⟩ : ∃ x : Sess, (if (without (w.at s).set p.1).length > 0 ∨ (without (w.at s).prep p.2).length > 0 then (doM w s 4 ⟨#[]⟩ ⟨#[]⟩).1 else w) = w.put s x ∧ x.st = 0 ∧ True ∧ True ∧ x.sav = [] ∧ x.wr = [] ∧ risingB x.set = true ∧ risingB x.prep = true ∧ (∀ q ∈ x.set, q ∈ p.1) ∧ (∀ q ∈ x.prep, q ∈ p.2) := by
  by_cases hc : (without (w.at s).set p.1).length > 0 ∨ (without (w.at s).prep p.2).length > 0
  ·rw [if_pos hc]
   refine ⟨{ w.at s with set := [], prep := [] }, ?_, h0, trivial, trivial, hsav, hwr, rfl, rfl, (fun q hq => by cases hq), (fun q hq => by cases hq)⟩
   unfold doM didM did1
   simp [h0, ok']
  ·rw [if_neg hc]
   have h1 : ∀ q ∈ (w.at s).set, q ∈ p.1 := fun q hq => Classical.byContradiction fun hn => hc (.inl (without_nil.2 ⟨q, hq, hn⟩))
   have h2 : ∀ q ∈ (w.at s).prep, q ∈ p.2 := fun q hq => Classical.byContradiction fun hn => hc (.inr (without_nil.2 ⟨q, hq, hn⟩))
   exact ⟨w.at s, (put_self hs).symm, h0, trivial, trivial, hsav, hwr, (pairsB_rising hx.set).1, (pairsB_rising hx.prep).1, h1, h2⟩
 rw [hw1, wput_at hs]
 rw [doW_set r1 l1 (by rw [wput_len]; exact hs) (by rw [wput_at hs]; exact hx0) (by rw [wput_at hs]; exact hrs) (by rw [wput_at hs]; exact hms) (fun q hq => (without_mem.1 hq).1), wput_at hs, wput_put, plusF_whole r1 hrs hms]
 rw [doW_prep r2 l2 (by rw [wput_len]; exact hs) (by rw [wput_at hs]; exact hx0) (by rw [wput_at hs]; exact hrp) (by rw [wput_at hs]; exact hmp) (fun q hq => (without_mem.1 hq).1), wput_at hs, wput_put]
 simp only
 rw [plusF_whole r2 hrp hmp, hx0, hxv, hxw]
end
end Go.Proofs.YtpbaobmegomfpabGreatDoor
namespace Go.Proofs.YtpbaobmegomfpabGreatDoor
open Go.RowKit
set_option maxHeartbeats 400000 in
theorem indexP_any (v : Value) (l : PL) (q1 q2 : ByteArray) (w : World) (hl : Lst w w.heap.size v l) :
  Calls Tryz.prog 150 #[v, .agg #[.string q1, .string q2]] w fun e w' => ∃ i : Int, e = .returned (.int .i64 i) ∧ decide (0 ≤ i) = l.any (fun p => pairB p (q1, q2)) ∧ Below w.heap.size w w' := by
 obtain ⟨A, c, rfl, hc⟩ := hl.form
 have hby := hl.bytes
 have n0 := (Below.refl w.heap.size w).alloc (nL _) (.cells #[.string q1, .string q2] 60)
 have HL := hD (hl.below n0)
 have HN := hD n0
 have X := RowTo.whole w #[.string q1, .string q2] 60
 obtain ⟨x0, x1⟩ := cells2 X
 clear hl n0 X
 go_enter Tryz.func150, Tryz.ntmps150
 go_wp2
 generalize hwA : w.alloc (.cells #[.string q1, .string q2] 60) = wA at *
 have hsz : wA.heap.size = w.heap.size + 1 := by rw [← hwA]; simp
 clear hwA
 go_loopw [8] (fun i wr => ∃ k : Nat, k ≤ l.length ∧ i = .int .i64 k ∧ Hid ((l.take k).any (fun p => pairB p (q1, q2)) = false) ∧ ∃ n, wr = wA.drewN n) (fun i _ => l.length - (intOf i).toNat)
 case atStart => exact ⟨0, by omega, rfl, rfl, 0, rfl⟩
 case round =>
  obtain ⟨k, hk, rfl, HZ, n, rfl⟩ := hrel
  by_cases hlt : k < l.length
  ·obtain ⟨b, off, rfl, hb, c0, c1⟩ := HL.out.pt hlt
   have hs1 : (l.take (k + 1)).any (fun p => pairB p (q1, q2)) = pairB l[k] (q1, q2) := by
    rw [List.take_succ_eq_append_getElem hlt, List.any_append, HZ.out]; simp
   have HS1 := hD hs1
   have HAN := hD (fun (h : pairB l[k] (q1, q2) = true) => show l.any (fun p => pairB p (q1, q2)) = true from List.any_eq_true.2 ⟨l[k], List.getElem_mem hlt, h⟩)
   generalize l[k] = y at *
   obtain ⟨y1, y2⟩ := y
   clear hs1
   cases hq : pairB (y1, y2) (q1, q2) with
   | true =>
    have he : y1 = q1 ∧ y2 = q2 := by have := pairB_iff.1 hq; injection this with a b; exact ⟨a, b⟩
    have HT := hD (HAN.out hq)
    obtain ⟨rfl, rfl⟩ := he
    clear hq HAN HS1
    go_wp2
    go_quiet (fail)
    go_wp2
    go_ret
    refine ⟨_, rfl, ?_, ?_⟩
    ·rw [HT.out]; simp
    ·exact below_drewN (below_drewN HN.out _) _
   | false =>
    have ht : (q1.toList == y1.toList) = false ∨ (q1 = y1 ∧ (q2.toList == y2.toList) = false) := by
     by_cases h1 : q1 = y1
     ·refine .inr ⟨h1, eqB_false.2 fun h2 => ?_⟩
      rw [pairB_iff.2 (by rw [h1, h2])] at hq; cases hq
     ·exact .inl (eqB_false.2 h1)
    rw [hq] at HS1
    clear hq HAN
    rcases ht with t1 | ⟨rfl, t2⟩
    all_goals
     go_wp2
     go_quiet (fail)
     go_wp2
     go_roundw
     case rel => exact ⟨k + 1, by omega, by go_num, HS1.out, n + nq, rfl⟩
     case measure => simp [intOf]; omega
  ·obtain rfl : k = l.length := by omega
   rw [List.take_length] at HZ
   go_wp2
   go_ret
   refine ⟨_, rfl, ?_, ?_⟩
   ·rw [HZ.out]; decide
   ·exact below_drewN HN.out _
set_option maxHeartbeats 400000 in
theorem containsP_any (v : Value) (l : PL) (q1 q2 : ByteArray) (w : World) (hl : Lst w w.heap.size v l) :
  Calls Tryz.prog 146 #[v, .agg #[.string q1, .string q2]] w fun e w' => e = .returned (.bool (l.any fun p => pairB p (q1, q2))) ∧ Below w.heap.size w w' := by
 have n0 := (Below.refl w.heap.size w).alloc (nL _) (.cells #[.string q1, .string q2] 60)
 have HN := hD n0
 have X := RowTo.whole w #[.string q1, .string q2] 60
 obtain ⟨x0, x1⟩ := cells2 X
 have HI := hD (indexP_any v l q1 q2 _ ((hl.below n0).more n0.size))
 obtain ⟨A, c, rfl, hc⟩ := hl.form
 clear hl n0 X
 go_enter Tryz.func146, Tryz.ntmps146
 go_wp2_with fail
 refine HI.out.mono ?_
 rintro e w1 ⟨i, rfl, hi, hb⟩
 have HI2 := hD hi
 have HB := hD (bel_add' HN.out hb HN.out.size)
 clear hi hb
 go_wp2
 go_ret
 exact ⟨by rw [← HI2.out]; rfl, HB.out⟩
theorem withoutC_any (q : ByteArray × ByteArray) (v : Value) (l : PL) (bx : Nat) (w : World) (hl : Lst w w.heap.size v l) (hx : w.cell? ⟨bx, 0, none⟩ = some v) (hxl : bx < w.heap.size) :
  Calls Tryz.prog 145 #[.agg #[.string q.1, .string q.2], .pointer (some ⟨bx, 0, none⟩)] w fun e w' => e = .returned (.bool (l.any fun p => pairB p q)) ∧ Below w.heap.size w w' := by
 have n0 := (Below.refl w.heap.size w).alloc (nL _) (.cells #[.string q.1, .string q.2] 60)
 have HN := hD n0
 have X := RowTo.whole w #[.string q.1, .string q.2] 60
 obtain ⟨x0, x1⟩ := cells2 X
 have HI := hD (containsP_any v l q.1 q.2 _ ((hl.below n0).more n0.size))
 obtain ⟨A, c, rfl, hc⟩ := hl.form
 clear hl n0 X
 go_enter Tryz.func145, Tryz.ntmps145
 go_wp2_with fail
 refine HI.out.mono ?_
 rintro e w1 ⟨rfl, hb⟩
 have HB := hD (bel_add' HN.out hb HN.out.size)
 clear hb
 go_wp2
 go_ret
 exact ⟨rfl, HB.out⟩
end Go.Proofs.YtpbaobmegomfpabGreatDoor
namespace Go.Proofs.YtpbaobmegomfpabGreatDoor
open Go.RowKit
structure Sl (w : World) (t size : Nat) (v : Value) (g : Option Nat) (n : Nat) (xs : List Value) : Prop where
 len : xs.length = n * size
 form : (g = none ∧ v = .slice none 0 0 ∧ n = 0) ∨ ∃ b off cap tot, g = some b ∧ v = .slice (some ⟨b, off, none⟩) n cap ∧ n ≤ cap ∧ RowTo w b t tot [] ∧ (cap = 0 ∨ off + cap * size = tot) ∧ ∀ j (h : j < xs.length), w.cell? ⟨b, off + j, none⟩ = some xs[j]
section
variable {w w' : World} {t size n : Nat} {v : Value} {g : Option Nat} {xs : List Value}
theorem Sl.nil_ (w : World) (t size : Nat) : Sl w t size (.slice none 0 0) none 0 [] := ⟨by simp, .inl ⟨rfl, rfl, rfl⟩⟩
theorem Sl.lt (h : Sl w t size v g n xs) {b : Nat} (hb : g = some b) : b < w.heap.size := by
 rcases h.form with ⟨h1, _⟩ | ⟨b', off, cap, tot, h1, _, _, hr, _⟩
 ·rw [h1] at hb; cases hb
 ·rw [h1] at hb; injection hb with hb; subst hb; exact hr.lt
theorem Sl.keep (h : Sl w t size v g n xs) (hk : ∀ b, g = some b → w'.heap[b]? = w.heap[b]?) : Sl w' t size v g n xs := by
 refine ⟨h.len, h.form.imp id ?_⟩
 rintro ⟨b, off, cap, tot, h1, h2, h3, hr, h4, h5⟩
 exact ⟨b, off, cap, tot, h1, h2, h3, hr.same (hk b h1), h4, fun j hj => (World.cell?_of_block (hk b h1)).trans (h5 j hj)⟩
theorem Sl.below (h : Sl w t size v g n xs) (hb : Below w.heap.size w w') : Sl w' t size v g n xs := h.keep fun b hg => hb.block b (h.lt hg)
theorem Sl.at (h : Sl w t size v g n xs) (hn : 0 < n) : ∃ b off cap, g = some b ∧ v = .slice (some ⟨b, off, none⟩) n cap ∧ n ≤ cap ∧ ∀ j (h : j < xs.length), w.cell? ⟨b, off + j, none⟩ = some xs[j] := by
 rcases h.form with ⟨_, _, h0⟩ | ⟨b, off, cap, tot, h1, h2, h3, _, _, h5⟩
 ·omega
 ·exact ⟨b, off, cap, h1, h2, h3, h5⟩
theorem Sl.shape (h : Sl w t size v g n xs) : ∃ A c, v = .slice A n c ∧ n ≤ c := by
 rcases h.form with ⟨_, h1, h0⟩ | ⟨b, off, cap, tot, h1, h2, h3, _, _, h5⟩
 ·exact ⟨none, 0, by rw [h1, h0], by omega⟩
 ·exact ⟨_, cap, h2, h3⟩
def cutv (b off size n cap : Nat) : Value := if cap = 1 then .slice (some ⟨b, off, none⟩) n 0 else .slice (some ⟨b, off + size, none⟩) n (cap - 1)
theorem Sl.cut {b off cap : Nat} (h : Sl w t size (.slice (some ⟨b, off, none⟩) (n + 1) cap) g (n + 1) xs) : Sl w t size (cutv b off size n cap) g n (xs.drop size) := by
 refine ⟨by rw [List.length_drop, h.len, Nat.add_mul]; omega, .inr ?_⟩
 rcases h.form with ⟨_, h1, h0⟩ | ⟨b', off', cap', tot, h1, h2, h3, hr, h4, h5⟩
 ·cases h1
 ·injection h2 with e1 _ e3
  injection e1 with e1
  injection e1 with e1 e2
  subst e1 e2 e3
  have h4 := h4.resolve_left (by omega)
  unfold cutv
  by_cases hc1 : cap = 1
  ·rw [if_pos hc1]
   obtain rfl : n = 0 := by omega
   refine ⟨b, off, 0, tot, h1, rfl, by omega, hr, .inl rfl, fun j hj => ?_⟩
   rw [List.length_drop, h.len] at hj
   omega
  rw [if_neg hc1]
  refine ⟨b, off + size, cap - 1, tot, h1, rfl, by omega, hr, .inr ?_, fun j hj => ?_⟩
  ·obtain ⟨k, rfl⟩ : ∃ k, cap = k + 1 := ⟨cap - 1, by omega⟩
   rw [Nat.add_sub_cancel]
   rw [Nat.add_mul] at h4
   omega
  ·rw [List.length_drop] at hj
   have := h5 (size + j) (by omega)
   rw [← Nat.add_assoc] at this
   rw [this]
   simp
theorem ownsRow_sl {base : Nat} (h : w.ownsRow base t size v n xs) (hn : 0 < n) : ∃ b cap, v = .slice (some ⟨b, 0, none⟩) n cap ∧ base ≤ b ∧ b < w.heap.size ∧ Sl w t size v (some b) n xs := by
 obtain ⟨hl, ⟨_, h0⟩ | ⟨b, cap, cur, rfl, hb, hh, hc, hm, hz, hx⟩⟩ := h
 ·omega
 ·have hr : RowTo w b t (cap * size) xs := ⟨cur, hh, hz, by rw [hl]; exact hx⟩
  exact ⟨b, cap, rfl, hb, hr.lt, hl, .inr ⟨b, 0, cap, cap * size, rfl, rfl, hc, hr.nil, .inr (by omega), fun j hj => by rw [Nat.zero_add]; exact hr.cell hj⟩⟩
theorem sl_setCells {b o : Nat} {vs : List Value} (h : RowTo w b t n []) : RowTo (w.setCells b o vs) b t n [] := by
 induction vs generalizing o w with
 | nil => exact h
 | cons x vs ih => exact ih (h.hit _)
theorem setCells_keeps (b : Nat) : ∀ (vs : List Value) (o : Nat) (w : World), (w.setCells b o vs).os = w.os ∧ (w.setCells b o vs).tape = w.tape ∧ (w.setCells b o vs).output = w.output ∧ (w.setCells b o vs).heap.size = w.heap.size
 | [], o, w => ⟨rfl, rfl, rfl, rfl⟩
 | v :: r, o, w => by
  have h := setCells_keeps b r (o + 1) (w.setCell ⟨b, o, none⟩ v)
  rw [World.setCells]
  refine ⟨h.1, h.2.1, h.2.2.1, h.2.2.2.trans (by simp [World.setCell])⟩
theorem Sl.append {P : Program} (h : Sl w t size v g n xs) (ts ty : TypeId) (i : TypeInfo) (z : Value) (bytes : Nat) (ht : P.underlying ts = some (.slice t)) (hi : P.info? t = some i) (hz : i.zero = some z)
  (hsize : i.size = size) (hby : i.bytes = bytes) (hzs : z.cells.size = size) (hsz : 0 < size) (ad : Addr) (c : Nat) (news : List Value) (hl : news.length = size) (hnews : ∀ j u, news[j]? = some u → w.cell? (ad.add j) = some u) (h1 : ∀ u ∈ news, u.oneCell' = true)
  (h63 : n + 1 ≤ maxLen) (hbytes : (n + 1) * bytes ≤ 140737488355328) :
  ∃ b off cap w', (Builtin.append_ #[ts, ts] ty #[v, .slice (some ad) 1 c]).run P w = .ok (.slice (some ⟨b, off, none⟩) (n + 1) cap) w' ∧ Sl w' t size (.slice (some ⟨b, off, none⟩) (n + 1) cap) (some b) (n + 1) (xs ++ news) ∧
   w.grownBy w' g ∧ (g = some b ∨ (w.heap.size ≤ b ∧ b < w'.heap.size)) := by
 have hl1 : news.length = 1 * i.size := by rw [hl, hsize, Nat.one_mul]
 rcases h.form with ⟨rfl, rfl, rfl⟩ | ⟨b, off, cap, tot, rfl, rfl, hc, hr, hfit, hcell⟩
 ·have hx : xs = [] := List.eq_nil_of_length_eq_zero (by simpa using h.len)
  subst hx
  obtain ⟨v', w', hrun, hown, hgr, _⟩ := run_append_own (P := P) w w.heap.size ts ty t i z size bytes ht hi hz hsize hby hzs hsz _ 0 [] (World.ownsRow_nil w w.heap.size t size) ad 1 c news (by rw [hl, Nat.one_mul]) hnews h1 h63 hbytes (nL _)
  obtain ⟨b, cap, rfl, hb, hlt, hs⟩ := ownsRow_sl hown (by omega)
  exact ⟨b, 0, cap, w', hrun, hs, hgr, .inr ⟨hb, hlt⟩⟩
 ·by_cases hroom : n + 1 ≤ cap
  ·have hfit0 := hfit
   have hfit := hfit.resolve_left (by omega)
   have hmul : (n + 1) * size ≤ cap * size := Nat.mul_le_mul_right _ hroom
   rw [Nat.add_mul, Nat.one_mul] at hmul
   have hin : ∀ j, j < news.length → off + n * i.size + j < tot := fun j hj => by rw [hsize]; omega
   have hrun := run_append_room_cells (P := P) w ts ty t i ht hi b off n cap ad 1 c news hl1 hnews h1 hroom (fun j hj => by obtain ⟨u, hu⟩ := hr.any (hin j hj); rw [hu]; rfl) (fun j hj => hr.frozen _)
   rw [hsize] at hrun
   refine ⟨b, off, cap, _, hrun, ⟨?_, .inr ⟨b, off, cap, tot, rfl, rfl, hroom, sl_setCells hr, hfit0, fun j hj => ?_⟩⟩, ⟨?_, ?_, ?_, ?_, fun k hk hne => ?_⟩, .inl rfl⟩
   ·rw [List.length_append, h.len, hl, Nat.add_mul, Nat.one_mul]
   ·have hlen := h.len
    by_cases hj' : j < xs.length
    ·rw [World.cell?_setCells_out b _ _ _ _ (fun _ _ => Or.inl (by show off + j < off + n * size; omega)), hcell j hj', List.getElem_append_left hj']
    ·have hj2 : j - xs.length < news.length := by rw [List.length_append] at hj; omega
     have := World.cell?_setCells_in b news (off + n * size) w (fun k hk => by obtain ⟨u, hu⟩ := hr.any (j := off + n * size + k) (by rw [hsize] at hin; exact hin k hk); rw [hu]; rfl) (j - xs.length) hj2
     rw [show off + n * size + (j - xs.length) = off + j by omega] at this
     rw [this, List.getElem_append_right (by omega)]
   ·exact (setCells_keeps b news _ w).1
   ·exact (setCells_keeps b news _ w).2.1
   ·exact (setCells_keeps b news _ w).2.2.1
   ·exact Nat.le_of_eq (setCells_keeps b news _ w).2.2.2.symm
   ·exact World.heap_setCells_other w b _ news hk (fun e => hne (by rw [e]))
  ·obtain ⟨v', w', hrun, hown, hgr⟩ := run_append_arg_grows (P := P) w ts ty t i z size bytes ht hi hz hsize hby hzs hsz ⟨b, off, none⟩ n cap xs h.len (fun j u hu => by
    have hj := (List.getElem?_eq_some_iff.1 hu).1
    rw [Addr.add_lit, hcell j hj]
    rw [List.getElem?_eq_getElem hj] at hu
    exact hu) ad 1 c news (by rw [hl, Nat.one_mul]) hnews (by omega) h63 hbytes
   obtain ⟨b', cap', rfl, hb, hlt, hs⟩ := ownsRow_sl hown (by omega)
   exact ⟨b', 0, cap', w', hrun, hs, ⟨hgr.os, hgr.tape, hgr.output, hgr.size, fun k hk _ => hgr.block k hk (by simp)⟩, .inr ⟨hb, hlt⟩⟩
end
end Go.Proofs.YtpbaobmegomfpabGreatDoor
namespace Go.Proofs.YtpbaobmegomfpabGreatDoor
open Go.RowKit
structure Rw (w : World) (t size b off cap : Nat) (d : List (List Value)) : Prop where
 each : ∀ e ∈ d, e.length = size
 room : d.length ≤ cap
 row : RowTo w b t (off + cap * size) []
 cell : ∀ i (h : i < d.length) j, j < size → w.cell? ⟨b, off + i * size + j, none⟩ = d[i][j]?
section
variable {w w' : World} {t size b off cap : Nat} {d : List (List Value)}
theorem Rw.keep (h : Rw w t size b off cap d) (hk : w'.heap[b]? = w.heap[b]?) : Rw w' t size b off cap d :=
 ⟨h.each, h.room, h.row.same hk, fun i hi j hj => (World.cell?_of_block hk).trans (h.cell i hi j hj)⟩
theorem Rw.below (h : Rw w t size b off cap d) {B : Nat} (hb : Below B w w') (hB : b < B) : Rw w' t size b off cap d := h.keep (hb.block b hB)
theorem Rw.cut (h : Rw w t size b off cap d) (n : Nat) : Rw w t size b off cap (d.take n) :=
 ⟨fun e he => h.each e (List.mem_of_mem_take he), Nat.le_trans (by rw [List.length_take]; omega) h.room, h.row, fun i hi j hj => by
  have hi' : i < d.length := by rw [List.length_take] at hi; omega
  rw [h.cell i hi' j hj, List.getElem_take]⟩
theorem at_in {i n size j : Nat} (hi : i < n) (hj : j < size) : i * size + j < n * size := by
 have : (i + 1) * size ≤ n * size := Nat.mul_le_mul_right _ hi
 rw [Nat.add_mul, Nat.one_mul] at this
 omega
theorem Rw.set (h : Rw w t size b off cap d) {i : Nat} (hi : i < d.length) {e : List Value} (he : e.length = size) : Rw (w.setCells b (off + i * size) e) t size b off cap (d.set i e) := by
 have hroom := h.room
 refine ⟨fun x hx => ?_, by rw [List.length_set]; exact hroom, sl_setCells h.row, fun k hk j hj => ?_⟩
 ·rcases List.mem_or_eq_of_mem_set hx with hx | hx
  ·exact h.each x hx
  ·rw [hx]; exact he
 ·rw [List.length_set] at hk
  by_cases e' : k = i
  ·subst e'
   rw [World.cell?_setCells_in b e (off + k * size) w (fun q hq => ?_) j (by omega), List.getElem_set_self, List.getElem?_eq_getElem]
   obtain ⟨u, hu⟩ := h.row.any (j := off + k * size + q) (by have := at_in (i := k) (n := cap) (size := size) (j := q) (by omega) (by omega); omega)
   rw [hu]; rfl
  ·rw [World.cell?_setCells_out b e _ w _ (fun _ _ => ?_), h.cell k hk j hj, List.getElem_set_ne (Ne.symm e')]
   show off + k * size + j < off + i * size ∨ off + i * size + e.length ≤ off + k * size + j
   rcases Nat.lt_or_ge k i with hlt | hge
   ·have := at_in hlt hj; omega
   ·have : (i + 1) * size ≤ k * size := Nat.mul_le_mul_right _ (by omega)
    rw [Nat.add_mul, Nat.one_mul] at this
    omega
theorem Rw.behind (h : Rw w t size b off cap d) {i : Nat} (hi : i ≤ d.length) (vs : List Value) : Rw (w.setCells b (off + i * size) vs) t size b off cap (d.take i) :=
 ⟨fun e he => h.each e (List.mem_of_mem_take he), Nat.le_trans (by rw [List.length_take]; omega) h.room, sl_setCells h.row, fun k hk j hj => by
  have hk' : k < i := by rw [List.length_take] at hk; omega
  rw [World.cell?_setCells_out b vs _ w _ (fun _ _ => .inl (by show off + k * size + j < off + i * size; have := at_in hk' hj; omega)), h.cell k (by omega) j hj, List.getElem_take]⟩
theorem setCells_other (w : World) (b o : Nat) (vs : List Value) {g : Nat} (hg : g ≠ b) : (w.setCells b o vs).heap[g]? = w.heap[g]? := by
 induction vs generalizing w o with
 | nil => rfl
 | cons v r ih => rw [World.setCells, ih]; exact Below.heap_setCell _ _ _ _ hg
theorem below_setCells {B : Nat} {w0 : World} (h : Below B w0 w) (hB : B ≤ b) (o : Nat) (vs : List Value) : Below B w0 (w.setCells b o vs) := by
 have k := setCells_keeps b vs o w
 exact ⟨k.1.trans h.os, k.2.1.trans h.tape, k.2.2.1.trans h.output, by rw [k.2.2.2]; exact h.size, fun g hg => (setCells_other w b o vs (by omega)).trans (h.block g hg)⟩
theorem run_clear_cells {P : Program} (w : World) (t e ty : TypeId) (z : Value) (ht : P.underlying t = some (.slice e)) (hv : ∀ w, (zeroValue e).run P w = .ok z w) (h1 : ∀ v ∈ z.cells.toList, v.oneCell' = true) (hz : 0 < z.cells.size) (b o n c : Nat) (hn : 0 < n)
  (hc : ∀ j, j < n * z.cells.size → (w.cell? ⟨b, o + j, none⟩).isSome = true) (hf : ∀ j, w.frozen? ⟨b, o + j, none⟩ = false) :
  (Builtin.clear_ #[t] ty #[.slice (some ⟨b, o, none⟩) n c]).run P w = .ok (.tuple #[]) (w.setCells b o (Builtin.zeroCells z.cells n).toList) := by
 have hl : (Builtin.zeroCells z.cells n).toList.length = n * z.cells.size := by simp [Builtin.zeroCells]
 have hst := run_storeCells_cells (P := P) b o (Builtin.zeroCells z.cells n).toList 0 w (by rw [hl]; simpa using hc) (fun j _ => by simpa using hf j) (by
  intro v hv'
  unfold Builtin.zeroCells at hv'
  simp only [Array.toList_map, List.mem_map] at hv'
  obtain ⟨i, _, rfl⟩ := hv'
  refine h1 _ ?_
  have hlt : i % z.cells.size < z.cells.size := Nat.mod_lt _ hz
  rw [getElem!_pos z.cells _ hlt]
  exact Array.getElem_mem_toList hlt)
 simp only [Nat.add_zero] at hst
 obtain ⟨m, rfl⟩ : ∃ m, n = m + 1 := ⟨n - 1, by omega⟩
 simp [Builtin.clear_, run_underlying ht, hv, hst]
end
theorem flat_get : ∀ {d : List (List Value)} {size : Nat}, (∀ e ∈ d, e.length = size) → ∀ {i : Nat} (hi : i < d.length) {j : Nat}, j < size → d.flatten[i * size + j]? = d[i][j]?
 | e :: d, size, he, 0, hi, j, hj => by
  rw [List.flatten_cons, List.getElem?_append_left (by rw [he e List.mem_cons_self]; omega)]
  simp
 | e :: d, size, he, i + 1, hi, j, hj => by
  have h1 := he e List.mem_cons_self
  rw [List.flatten_cons, List.getElem?_append_right (by rw [h1, Nat.add_mul]; omega), h1, show (i + 1) * size + j - size = i * size + j by rw [Nat.add_mul]; omega]
  exact flat_get (fun e' he' => he e' (List.mem_cons_of_mem _ he')) (by simpa using hi) hj
theorem Sl.rw {w : World} {t size n : Nat} {v : Value} {g : Option Nat} {d : List (List Value)} (h : Sl w t size v g n d.flatten) (he : ∀ e ∈ d, e.length = size) (hd : d.length = n) (hn : 0 < n) : ∃ b off cap, g = some b ∧ v = .slice (some ⟨b, off, none⟩) n cap ∧ Rw w t size b off cap d := by
 rcases h.form with ⟨_, _, h0⟩ | ⟨b, off, cap, tot, h1, h2, h3, h4, h5, h6⟩
 ·omega
 ·have h5 := h5.resolve_left (by omega)
  refine ⟨b, off, cap, h1, h2, he, by omega, by rw [h5]; exact h4, fun i hi j hj => ?_⟩
  have hl : i * size + j < d.flatten.length := by rw [h.len, ← hd]; exact at_in hi hj
  rw [Nat.add_assoc, h6 _ hl, ← List.getElem?_eq_getElem hl]
  exact flat_get he hi hj
theorem flat_len : ∀ {d : List (List Value)} {size : Nat}, (∀ e ∈ d, e.length = size) → d.flatten.length = d.length * size
 | [], _, _ => by simp
 | e :: d, size, he => by rw [List.flatten_cons, List.length_append, he e List.mem_cons_self, flat_len (fun e' he' => he e' (List.mem_cons_of_mem _ he')), List.length_cons, Nat.add_mul]; omega
theorem Rw.sl {w : World} {t size b off cap : Nat} {d : List (List Value)} (h : Rw w t size b off cap d) (hs : 0 < size) : Sl w t size (.slice (some ⟨b, off, none⟩) d.length cap) (some b) d.length d.flatten := by
 refine ⟨flat_len h.each, .inr ⟨b, off, cap, _, rfl, rfl, h.room, h.row, .inr rfl, fun q hq => ?_⟩⟩
 rw [flat_len h.each] at hq
 have hi : q / size < d.length := (Nat.div_lt_iff_lt_mul hs).2 hq
 have hj : q % size < size := Nat.mod_lt _ hs
 have e : q = q / size * size + q % size := by rw [Nat.mul_comm]; exact (Nat.div_add_mod q size).symm
 have h1 := h.cell _ hi _ hj
 rw [← flat_get h.each hi hj, Nat.add_assoc, ← e] at h1
 rw [h1, List.getElem?_eq_getElem]
section
variable {α : Type}
structure KeepI (p : α → Bool) (d : List α) (i j : Nat) (dk : List α) : Prop where
 len : dk.length = d.length
 ij : i < j
 jn : j ≤ d.length
 low : dk.take i = (d.take j).filter fun x => !p x
 high : dk.drop j = d.drop j
theorem KeepI.start {p : α → Bool} {d : List α} {k : Nat} (hk : k < d.length) (h1 : p d[k] = true) (h0 : ∀ x ∈ d.take k, p x = false) : KeepI p d k (k + 1) d := by
 refine ⟨rfl, by omega, by omega, ?_, rfl⟩
 rw [List.take_succ_eq_append_getElem hk, List.filter_append, List.filter_eq_self.2 (fun x hx => by rw [h0 x hx]; rfl)]
 simp [h1]
theorem KeepI.at {p : α → Bool} {d dk : List α} {i j : Nat} (h : KeepI p d i j dk) (hj : j < d.length) : dk[j]'(by rw [h.len]; exact hj) = d[j] := by
 have h1 := congrArg (fun l => l[0]?) h.high
 simp only [List.getElem?_drop, Nat.add_zero] at h1
 rw [List.getElem?_eq_getElem (by rw [h.len]; exact hj), List.getElem?_eq_getElem hj] at h1
 injection h1
theorem KeepI.keep {p : α → Bool} {d dk : List α} {i j : Nat} (h : KeepI p d i j dk) (hj : j < d.length) (hp : p d[j] = false) : KeepI p d (i + 1) (j + 1) (dk.set i d[j]) := by
 have hl := h.len
 have hij := h.ij
 refine ⟨by rw [List.length_set]; exact hl, by omega, by omega, ?_, ?_⟩
 ·rw [List.take_succ_eq_append_getElem (by rw [List.length_set]; omega), List.getElem_set_self, List.take_set_of_le (nL _), h.low, List.take_succ_eq_append_getElem hj, List.filter_append]
  simp [hp]
 ·rw [List.drop_set_of_lt (by omega), ← List.drop_drop, ← List.drop_drop, h.high]
theorem KeepI.skip {p : α → Bool} {d dk : List α} {i j : Nat} (h : KeepI p d i j dk) (hj : j < d.length) (hp : p d[j] = true) : KeepI p d i (j + 1) dk := by
 refine ⟨h.len, by have := h.ij; omega, by omega, ?_, ?_⟩
 ·rw [h.low, List.take_succ_eq_append_getElem hj, List.filter_append]
  simp [hp]
 ·rw [← List.drop_drop, ← List.drop_drop, h.high]
theorem KeepI.done {p : α → Bool} {d dk : List α} {i : Nat} (h : KeepI p d i d.length dk) : dk.take i = d.filter fun x => !p x := by rw [h.low, List.take_length]
theorem KeepI.num {p : α → Bool} {d dk : List α} {i : Nat} (h : KeepI p d i d.length dk) : (d.filter fun x => !p x).length = i := by
 rw [← h.done, List.length_take, h.len]; have := h.ij; omega
end
end Go.Proofs.YtpbaobmegomfpabGreatDoor
namespace Go.Proofs.YtpbaobmegomfpabGreatDoor
open Go.RowKit
def encP (x : ByteArray × ByteArray) : List Value := [.string x.1, .string x.2]
section
variable {w : World} {b off cap : Nat} {d : List (ByteArray × ByteArray)}
theorem encP_each : ∀ e ∈ d.map encP, e.length = 2 := fun e he => by
 obtain ⟨x, _, rfl⟩ := List.mem_map.1 he
 rfl
theorem Rw.cP (h : Rw w 60 2 b off cap (d.map encP)) {i : Nat} (hi : i < d.length) : w.cell? ⟨b, off + i * 2, none⟩ = some (.string d[i].1) ∧ w.cell? ⟨b, off + i * 2 + 1, none⟩ = some (.string d[i].2) := by
 have hi' : i < (d.map encP).length := by simpa using hi
 have h0 := h.cell i hi' 0 (by omega)
 have h1 := h.cell i hi' 1 (by omega)
 rw [List.getElem_map] at h0
 rw [List.getElem_map] at h1
 exact ⟨by simpa [encP] using h0, by simpa [encP] using h1⟩
end
set_option maxHeartbeats 400000 in
theorem indexFuncP (lbv : Value) (p : ByteArray × ByteArray → Bool) (w : World) (b off cap B : Nat) (d : List (ByteArray × ByteArray)) (hR : Rw w 60 2 b off cap (d.map encP)) (hby : d.length ≤ 1000000000000000) (hB : B ≤ b)
  (hp : ∀ x ∈ d, ∀ wc, Below B w wc → Calls Tryz.prog 145 #[.agg #[.string x.1, .string x.2], lbv] wc fun e w' => e = .returned (.bool (p x)) ∧ Below wc.heap.size wc w') :
  Calls Tryz.prog 149 #[.slice (some ⟨b, off, none⟩) d.length cap, .func (.func 145) #[] #[lbv]] w fun e w' => (∃ i : Int, e = .returned (.int .i64 i) ∧ ((i = -1 ∧ ∀ x ∈ d, p x = false) ∨ ∃ k, ∃ hk : k < d.length, i = k ∧ p d[k] = true ∧ ∀ x ∈ d.take k, p x = false)) ∧ Below w.heap.size w w' := by
 have hbl := hR.row.lt
 have HR := hD hR
 have HP := hD hp
 have hcap : d.length ≤ cap := by simpa using hR.room
 clear hR hp
 go_enter Tryz.func149, Tryz.ntmps149
 go_wp2
 go_loopw [8] (fun i wr => ∃ k : Nat, k ≤ d.length ∧ i = .int .i64 k ∧ Hid ((∀ x ∈ d.take k, p x = false) ∧ Below w.heap.size w wr)) (fun i _ => d.length - (intOf i).toNat)
 case atStart => exact ⟨0, by omega, rfl, (fun x hx => by simp at hx), Below.refl _ _⟩
 case round =>
  obtain ⟨k, hk, rfl, HZ⟩ := hrel
  by_cases hlt : k < d.length
  ·have hRk := HR.out.below HZ.out.2 hbl
   obtain ⟨a0, a1⟩ := hRk.cP hlt
   have hblr : b < wr.heap.size := Nat.lt_of_lt_of_le hbl HZ.out.2.size
   have HC := hD (HP.out d[k] (List.getElem_mem hlt) wr (HZ.out.2.mono (by omega)))
   have HT := hD (fun (h : p d[k] = true) => (show ∃ k', ∃ hk : k' < d.length, (k : Int) = k' ∧ p d[k'] = true ∧ ∀ x ∈ d.take k', p x = false from ⟨k, hlt, rfl, h, HZ.out.1⟩))
   have HF := hD (fun (h : p d[k] = false) => (show ∀ x ∈ d.take (k + 1), p x = false from fun x hx => by
    rw [List.take_succ_eq_append_getElem hlt] at hx
    rcases List.mem_append.1 hx with hx | hx
    ·exact HZ.out.1 x hx
    ·rw [List.mem_singleton.1 hx]; exact h))
   have HZ2 := hD HZ.out.2
   generalize d[k] = x at *
   clear HZ hRk
   cases hq : p x with
   | true =>
    have HT2 := hD (HT.out hq)
    rw [hq] at HC
    clear HT HF hq
    go_wp2_with fail
    refine HC.out.mono ?_
    rintro e w2 ⟨rfl, hb2⟩
    have HB2 := hD (HZ2.out.trans (hb2.mono HZ2.out.size))
    clear hb2
    go_wp2
    go_ret
    exact ⟨⟨k, rfl, .inr HT2.out⟩, HB2.out⟩
   | false =>
    have HF2 := hD (HF.out hq)
    rw [hq] at HC
    clear HT HF hq
    go_wp2_with fail
    refine HC.out.mono ?_
    rintro e w2 ⟨rfl, hb2⟩
    have HB2 := hD (HZ2.out.trans (hb2.mono HZ2.out.size))
    clear hb2
    go_wp2
    go_roundw
    case rel => exact ⟨k + 1, by omega, by go_num, HF2.out, HB2.out⟩
    case measure => simp [intOf]; omega
  ·obtain rfl : k = d.length := by omega
   rw [List.take_length] at HZ
   go_wp2
   go_ret
   exact ⟨⟨-1, rfl, .inl ⟨rfl, HZ.out.1⟩⟩, HZ.out.2⟩
set_option maxHeartbeats 1000000 in
theorem deleteFuncP (lbv : Value) (p : ByteArray × ByteArray → Bool) (w : World) (b off cap B : Nat) (d : List (ByteArray × ByteArray)) (hR : Rw w 60 2 b off cap (d.map encP)) (hby : d.length ≤ 1000000000000000) (hB : B ≤ b)
  (hp : ∀ x ∈ d, ∀ wc, Below B w wc → Calls Tryz.prog 145 #[.agg #[.string x.1, .string x.2], lbv] wc fun e w' => e = .returned (.bool (p x)) ∧ Below wc.heap.size wc w') :
  Calls Tryz.prog 143 #[.slice (some ⟨b, off, none⟩) d.length cap, .func (.func 145) #[] #[lbv]] w fun e w' => e = .returned (.slice (some ⟨b, off, none⟩) (d.filter fun x => !p x).length cap) ∧ Rw w' 60 2 b off cap ((d.filter fun x => !p x).map encP) ∧ Below B w w' ∧ ∀ g, g < w.heap.size → g ≠ b → w'.heap[g]? = w.heap[g]? := by
 have hbl := hR.row.lt
 have HI := hD (indexFuncP lbv p w b off cap B d hR hby hB hp)
 have HR := hD hR
 have HP := hD hp
 have hcap : d.length ≤ cap := by simpa using hR.room
 clear hR hp
 go_enter Tryz.func143, Tryz.ntmps143
 go_wp2_with fail
 refine HI.out.mono ?_
 rintro e w1 ⟨⟨i, rfl, hi⟩, hb1⟩
 have HB1 := hD hb1
 clear HI hb1
 rcases hi with ⟨rfl, hall⟩ | ⟨k, hk, rfl, h1, h0⟩
 ·have HA := hD (show (d.filter fun x => !p x) = d from List.filter_eq_self.2 fun x hx => by rw [hall x hx]; rfl)
  clear hall
  go_wp2
  go_ret
  rw [HA.out]
  exact ⟨rfl, HR.out.below HB1.out hbl, HB1.out.mono (by omega), fun g hg _ => HB1.out.block g hg⟩
 ·have HK := hD (KeepI.start hk h1 h0)
  have hne : ((k : Int) == -1) = false := beq_eq_false_iff_ne.2 (by omega)
  clear h1 h0
  go_wp2_with fail
  go_loopw [5, 6, 7] (fun s5 s6 s7 wr => ∃ (i j : Nat) (dk : List (ByteArray × ByteArray)), s5 = .int .i64 i ∧ s6 = .int .i64 j ∧ i < j ∧ j ≤ d.length ∧ Hid (KeepI p d i j dk ∧ Rw wr 60 2 b off cap (dk.map encP) ∧ Below B w wr ∧ (w.heap.size ≤ wr.heap.size) ∧ ∀ g, g < w.heap.size → g ≠ b → wr.heap[g]? = w.heap[g]?)) (fun _ s6 _ _ => d.length - (intOf s6).toNat)
  case atStart => exact ⟨k, k + 1, d, rfl, by go_num, by omega, by omega, HK.out, HR.out.below HB1.out hbl, HB1.out.mono (by omega), HB1.out.size, fun g hg _ => HB1.out.block g hg⟩
  case round =>
   obtain ⟨i, j, dk, rfl, rfl, hij, hjn, HZ⟩ := hrel
   clear HK HB1
   by_cases hlt : j < d.length
   ·have hRk := HZ.out.2.1
    have hlk := HZ.out.1.len
    have c0 := hRk.cP (i := j) (by omega)
    have z0 := hRk.cP (i := i) (by omega)
    rw [HZ.out.1.at hlt] at c0
    obtain ⟨a0, a1⟩ := c0
    obtain ⟨z0, z1⟩ := z0
    have f0 := hRk.row.frozen (off + i * 2)
    have f1 := hRk.row.frozen (off + i * 2 + 1)
    have hbr := hRk.row.lt
    have y0 := (RowTo.whole wr #[.string d[j].1, .string d[j].2] 60).cell (j := 0) (by simp)
    have y1 := (RowTo.whole wr #[.string d[j].1, .string d[j].2] 60).cell (j := 1) (by simp)
    have HC := hD (HP.out d[j] (List.getElem_mem hlt) (wr.alloc (.cells #[.string d[j].1, .string d[j].2] 60)) (HZ.out.2.2.1.alloc (by have := HZ.out.2.2.2.1; omega) _))
    have HKK := hD (fun (h : p d[j] = false) => HZ.out.1.keep hlt h)
    have HKS := hD (fun (h : p d[j] = true) => HZ.out.1.skip hlt h)
    have hjI : (j : Int) < (d.length : Int) := by omega
    have HM := hD (List.getElem_mem hlt)
    generalize d[j] = x at *
    skip
    clear hRk
    cases hq : p x with
    | true =>
     have HK2 := hD (HKS.out hq)
     rw [hq] at HC
     clear HKS HKK hq
     go_wp2_with fail
     refine HC.out.mono ?_
     rintro e w2 ⟨rfl, hb2⟩
     have HB2 := hD hb2
     clear hb2
     have hw2 : Below (wr.alloc (.cells #[.string x.1, .string x.2] 60)).heap.size (wr.alloc (.cells #[.string x.1, .string x.2] 60)) w2 := HB2.out
     have hz2 := hw2.size
     simp only [World.size_alloc] at hz2
     have hn2 : ∀ g, g < wr.heap.size → w2.heap[g]? = wr.heap[g]? := fun g hg => (hw2.block g (by simp; omega)).trans (Below.heap_alloc _ _ _ hg)
     have H2 := hD (And.intro (HZ.out.2.1.keep (hn2 b hbr)) (And.intro (show Below B w w2 from (HZ.out.2.2.1.alloc (by have := HZ.out.2.2.2.1; omega) _).trans (hw2.mono (by simp; have := HZ.out.2.2.2.1; omega))) (And.intro (show w.heap.size ≤ w2.heap.size by have := HZ.out.2.2.2.1; have := hw2.size; omega) (fun g (hg : g < w.heap.size) (hne : g ≠ b) => (hn2 g (by have := HZ.out.2.2.2.1; omega)).trans (HZ.out.2.2.2.2 g hg hne)))))
     have hb2' : b < w2.heap.size := by have := hw2.size; simp at this; omega
     have u0 := (hw2.cell (p := ⟨wr.heap.size, 0, none⟩) (by simp)).trans y0
     have u1 := (hw2.cell (p := ⟨wr.heap.size, 1, none⟩) (by simp)).trans y1
     go_wp2
     go_roundw
     case rel => exact ⟨i, j + 1, dk, rfl, by go_num, by omega, by omega, HK2.out, H2.out.1, H2.out.2.1, H2.out.2.2.1, H2.out.2.2.2⟩
     case measure => simp [intOf]; omega
    | false =>
     have HK2 := hD (HKK.out hq)
     rw [hq] at HC
     clear HKS HKK hq
     go_wp2_with fail
     refine HC.out.mono ?_
     rintro e w2 ⟨rfl, hb2⟩
     have HB2 := hD hb2
     clear hb2
     have hw2 : Below (wr.alloc (.cells #[.string x.1, .string x.2] 60)).heap.size (wr.alloc (.cells #[.string x.1, .string x.2] 60)) w2 := HB2.out
     have hz2 := hw2.size
     simp only [World.size_alloc] at hz2
     have hn2 : ∀ g, g < wr.heap.size → w2.heap[g]? = wr.heap[g]? := fun g hg => (hw2.block g (by simp; omega)).trans (Below.heap_alloc _ _ _ hg)
     have H2 := hD (And.intro (HZ.out.2.1.keep (hn2 b hbr)) (And.intro (show Below B w w2 from (HZ.out.2.2.1.alloc (by have := HZ.out.2.2.2.1; omega) _).trans (hw2.mono (by simp; have := HZ.out.2.2.2.1; omega))) (And.intro (show w.heap.size ≤ w2.heap.size by have := HZ.out.2.2.2.1; have := hw2.size; omega) (fun g (hg : g < w.heap.size) (hne : g ≠ b) => (hn2 g (by have := HZ.out.2.2.2.1; omega)).trans (HZ.out.2.2.2.2 g hg hne)))))
     have hb2' : b < w2.heap.size := by have := hw2.size; simp at this; omega
     have u0 := (hw2.cell (p := ⟨wr.heap.size, 0, none⟩) (by simp)).trans y0
     have u1 := (hw2.cell (p := ⟨wr.heap.size, 1, none⟩) (by simp)).trans y1
     have hi2 : i < (dk.map encP).length := by rw [List.length_map, HZ.out.1.len]; omega
     have H3 := hD (And.intro (H2.out.1.set hi2 (e := encP x) rfl) (And.intro (below_setCells H2.out.2.1 hB (off + i * 2) (encP x)) (And.intro (show w.heap.size ≤ (w2.setCells b (off + i * 2) (encP x)).heap.size by rw [(setCells_keeps b _ _ _).2.2.2]; exact H2.out.2.2.1) (fun g (hg : g < w.heap.size) (hne : g ≠ b) => (setCells_other w2 b (off + i * 2) (encP x) hne).trans (H2.out.2.2.2 g hg hne)))))
     rw [← List.map_set] at H3
     have v0 := (World.cell?_of_block (a := ⟨b, off + i * 2, none⟩) (hn2 b hbr)).trans z0
     have g0 := (World.frozen?_of_block (a := ⟨b, off + i * 2, none⟩) (hn2 b hbr)).trans f0
     have v1 := (World.cell?_of_block (a := ⟨b, off + i * 2 + 1, none⟩) (hn2 b hbr)).trans z1
     have g1 := (World.frozen?_of_block (a := ⟨b, off + i * 2 + 1, none⟩) (hn2 b hbr)).trans f1
     simp only [World.setCells, encP] at H3
     go_wp2
     go_roundw
     case rel => exact ⟨i + 1, j + 1, dk.set i x, by go_num, by go_num, by omega, by omega, HK2.out, H3.out.1, H3.out.2.1, H3.out.2.2.1, H3.out.2.2.2⟩
     case measure => simp [intOf]; omega
   ·obtain rfl : j = d.length := by omega
    have hRk := HZ.out.2.1
    have hlk := HZ.out.1.len
    have hbr := hRk.row.lt
    have hcl : ∀ ty, (Builtin.clear_ #[27] ty #[.slice (some ⟨b, off + i * 2, none⟩) (d.length - i) (cap - i)]).run Tryz.prog wr = .ok (.tuple #[]) (wr.setCells b (off + i * 2) (Builtin.zeroCells ((.agg #[.string ⟨#[]⟩, .string ⟨#[]⟩]) : Value).cells (d.length - i)).toList) := fun ty => by
     refine run_clear_cells (P := Tryz.prog) wr 27 60 ty (.agg #[.string ⟨#[]⟩, .string ⟨#[]⟩]) Tryz.underlying27 Tryz.zeroValue60 (by simp [Value.cells, Value.oneCell']) (by decide) b (off + i * 2) (d.length - i) (cap - i) (by omega) (fun q hq => ?_) (fun q => hRk.row.frozen _)
     obtain ⟨u, hu⟩ := hRk.row.any (j := off + i * 2 + q) (by have : q < (d.length - i) * 2 := hq; have : d.length * 2 ≤ cap * 2 := Nat.mul_le_mul_right _ hcap; omega)
     rw [hu]; rfl
    have H2 := hD (hRk.behind (i := i) (by rw [List.length_map]; omega) (Builtin.zeroCells ((.agg #[.string ⟨#[]⟩, .string ⟨#[]⟩]) : Value).cells (d.length - i)).toList)
    rw [← List.map_take, HZ.out.1.done] at H2
    have HN := hD HZ.out.1.num
    have H3 := hD (And.intro (below_setCells HZ.out.2.2.1 hB (off + i * 2) (Builtin.zeroCells ((.agg #[.string ⟨#[]⟩, .string ⟨#[]⟩]) : Value).cells (d.length - i)).toList) (fun g (hg : g < w.heap.size) (hne : g ≠ b) => (setCells_other wr b (off + i * 2) (Builtin.zeroCells ((.agg #[.string ⟨#[]⟩, .string ⟨#[]⟩]) : Value).cells (d.length - i)).toList hne).trans (HZ.out.2.2.2.2 g hg hne)))
    clear hRk
    go_wp2
    go_ret
    refine ⟨by rw [HN.out]; rfl, H2.out, H3.out.1, H3.out.2⟩
end Go.Proofs.YtpbaobmegomfpabGreatDoor
namespace Go.Proofs.YtpbaobmegomfpabGreatDoor
open Go.RowKit
set_option maxHeartbeats 400000 in
theorem indexFuncP_nil (A : Option Addr) (c : Nat) (fv : Value) (w : World) : Calls Tryz.prog 149 #[.slice A 0 c, .func (.func 145) #[] #[fv]] w fun e w' => e = .returned (.int .i64 (-1)) ∧ w' = w := by
 go_enter Tryz.func149, Tryz.ntmps149
 go_wp2
 go_loopw [8] (fun i wr => i = .int .i64 0 ∧ wr = w) (fun i _ => 0)
 case atStart => exact ⟨rfl, rfl⟩
 case round =>
  obtain ⟨rfl, rfl⟩ := hrel
  go_wp2
  go_ret
  exact ⟨rfl, rfl⟩
set_option maxHeartbeats 400000 in
theorem deleteFuncP_nil (A : Option Addr) (c : Nat) (fv : Value) (w : World) : Calls Tryz.prog 143 #[.slice A 0 c, .func (.func 145) #[] #[fv]] w fun e w' => e = .returned (.slice A 0 c) ∧ w' = w := by
 have HI := hD (indexFuncP_nil A c fv)
 go_enter Tryz.func143, Tryz.ntmps143
 go_wp2_with fail
 refine (HI.out _).mono ?_
 rintro e w1 ⟨rfl, rfl⟩
 go_wp2
 go_ret
 exact ⟨rfl, rfl⟩
theorem flat_encP (l : PL) : flat l = (l.map encP).flatten := by
 induction l with
 | nil => rfl
 | cons p l ih => rw [List.map_cons, List.flatten_cons, ← ih]; rfl
def ClonePost (w : World) (l : PL) (e : Ending) (w' : World) : Prop := (∃ v', e = .returned v' ∧ ((l = [] ∧ ∃ A c, v' = .slice A 0 c ∧ (A = none → c = 0)) ∨ (0 < l.length ∧ ∃ b cap, v' = .slice (some ⟨b, 0, none⟩) l.length cap ∧ w.heap.size ≤ b ∧ Rw w' 60 2 b 0 cap (l.map encP)))) ∧ Below w.heap.size w w'
set_option maxHeartbeats 400000 in
theorem cloneP_any (v : Value) (l : PL) (w : World) (hl : Lst w w.heap.size v l) : Calls Tryz.prog 144 #[v] w (ClonePost w l) := by
 obtain ⟨A, c, rfl, hc⟩ := hl.form
 cases A with
 | none =>
  have h0 := hl.nil _ _ rfl
  subst h0
  have hl0 : l = [] := List.eq_nil_of_length_eq_zero (by omega)
  subst hl0
  clear hl
  have hnil : ∀ w, (binOp .eql 27 (.slice none 0 0) (.slice none 0 0)).run Tryz.prog w = .ok (.bool true) w := fun w => Lib.run_eql_slice_nil (P := Tryz.prog) w 27 60 none 0 0 0 0 Tryz.underlying27
  go_enter Tryz.func144, Tryz.ntmps144
  go_wp2
  go_ret
  exact ⟨⟨_, rfl, .inl ⟨rfl, none, 0, rfl, fun _ => rfl⟩⟩, Below.refl _ _⟩
 | some a =>
 have hnil : ∀ w, (binOp .eql 27 (.slice (some a) l.length c) (.slice none 0 0)).run Tryz.prog w = .ok (.bool false) w := fun w => Lib.run_eql_slice_nil (P := Tryz.prog) w 27 60 (some a) l.length c 0 0 Tryz.underlying27
 rcases Nat.eq_zero_or_pos l.length with h0 | hpos
 ·have hl0 : l = [] := List.eq_nil_of_length_eq_zero h0
  subst hl0
  clear hl
  simp only [List.length_nil] at hnil
  go_enter Tryz.func144, Tryz.ntmps144
  go_wp2
  go_ret
  exact ⟨⟨_, rfl, .inl ⟨rfl, _, 0, rfl, fun h => by cases h⟩⟩, (Below.refl _ _).alloc (nL _) _⟩
 ·obtain ⟨i0, hi, hz0, hz1, hz2⟩ := info_parts pair_info
  obtain ⟨b, off, c', e, hb, hcs⟩ := hl.cells hpos
  injection e with e e5 e6
  injection e with e
  subst e e6
  clear e5
  have hby := hl.bytes
  have n0 := (Below.refl w.heap.size w).alloc (nL _) (.cells #[] 60)
  obtain ⟨v', w', hrun, hown, hgr⟩ := run_append_arg_grows (P := Tryz.prog) (w.alloc (.cells #[] 60)) 27 27 60 i0 _ 2 32 Tryz.underlying27 hi hz0 hz1 hz2 rfl (by omega) ⟨w.heap.size, 0, none⟩ 0 0 [] (by simp) (fun j u hu => by cases hu) ⟨b, off, none⟩ l.length c (flat l) (by rw [flat_length]) (fun j u hu => by
   rw [Addr.add_lit, n0.cell (p := ⟨b, off + j, none⟩) hb]
   rw [flat_encP] at hu
   have hj : j < l.length * 2 := by
    have := (List.getElem?_eq_some_iff.1 hu).1
    rw [flat_len (encP_each (d := l))] at this
    simpa using this
   have hd : j / 2 < l.length := by omega
   have h2 := flat_get (encP_each (d := l)) (i := j / 2) (by simpa using hd) (j := j % 2) (by omega)
   rw [show j / 2 * 2 + j % 2 = j by omega, hu, List.getElem_map] at h2
   obtain ⟨c0, c1⟩ := hcs (j / 2) hd
   rcases Nat.mod_two_eq_zero_or_one j with hm | hm
   ·rw [hm] at h2
    rw [show off + j = off + j / 2 * 2 by omega, c0, h2]; rfl
   ·rw [hm] at h2
    rw [show off + j = off + j / 2 * 2 + 1 by omega, c1, h2]; rfl) (by omega) (by unfold maxLen; omega) (by omega)
  rw [Nat.zero_add, List.nil_append, flat_encP] at hown
  obtain ⟨g, cap, rfl, hg, hlt, hs⟩ := ownsRow_sl hown hpos
  obtain ⟨b1, o1, c1, e1, e2, hrw⟩ := hs.rw (encP_each (d := l)) (by simp) hpos
  injection e2 with e2 _ e3
  injection e2 with e2
  injection e2 with e2 e4
  subst e2 e3 e4
  have HF := hD (And.intro hrw (And.intro (show w.heap.size ≤ g by have := hg; simp at this; omega) (n0.grown hgr n0.size (fun x hx => by cases hx))))
  clear hl hcs hown hgr hs hrw hb n0 hg hlt e1 hi hz0 hz1 hz2
  go_enter Tryz.func144, Tryz.ntmps144
  go_wp2_with (at_builtin; refine Lib.wpList_append_run _ rfl _ _ _ _ rfl _ _ rfl rfl _ _ hrun ?_)
  go_ret
  exact ⟨⟨_, rfl, .inr ⟨hpos, _, _, rfl, HF.out.2.1, HF.out.1⟩⟩, HF.out.2.2⟩
theorem lst_rw {w : World} {b cap : Nat} {l : PL} (h : Rw w 60 2 b 0 cap (l.map encP)) (hby : l.length * 32 ≤ 140737488351232) (hs : ∀ p ∈ l, p.1.size ≤ 140737488351232 ∧ p.2.size ≤ 140737488351232) : Lst w w.heap.size (.slice (some ⟨b, 0, none⟩) l.length cap) l := by
 have hroom : l.length ≤ cap := by simpa using h.room
 exact ⟨⟨_, _, rfl, hroom⟩, hby, hs, fun hn => ⟨b, 0, cap, rfl, h.row.lt, fun i hi => h.cP hi⟩, fun n c e => by injection e with e; cases e⟩
set_option maxHeartbeats 400000 in
theorem without_any (v v' : Value) (l o : PL) (w : World) (hl : Lst w w.heap.size v l) (ho : Lst w w.heap.size v' o) :
  Calls Tryz.prog 138 #[v, v'] w fun e w' => ∃ u, e = .returned u ∧ Lst w' w'.heap.size u (without l o) ∧ InP (fun b => w.heap.size ≤ b) u (without l o) ∧ Below w.heap.size w w' := by
 have n0 := (Below.refl w.heap.size w).alloc (nL _) (.cells #[v'] 27)
 have HCL := hD (cloneP_any v l _ ((hl.below n0).more n0.size))
 have HN := hD n0
 have X := (RowTo.whole w #[v'] 27).cell (j := 0) (by simp)
 have HX := hD (show (w.alloc (.cells #[v'] 27)).cell? ⟨w.heap.size, 0, none⟩ = some v' from X)
 have HO := hD ho
 have HL := hD hl
 obtain ⟨A', c', rfl, hc'⟩ := ho.form
 obtain ⟨A, c, rfl, hc⟩ := hl.form
 clear hl ho n0 X
 go_enter Tryz.func138, Tryz.ntmps138
 go_wp2_with fail
 refine HCL.out.mono ?_
 rintro e w1 ⟨⟨v1, rfl, hv1⟩, hb1⟩
 have hz1 := hb1.size
 simp only [World.size_alloc] at hz1
 have HB1 := hD (bel_add' HN.out hb1 HN.out.size)
 have HX1 := hD ((hb1.cell (p := ⟨w.heap.size, 0, none⟩) (by simp)).trans HX.out)
 clear HCL hb1
 rcases hv1 with ⟨hl0, A1, c1, rfl, hn1⟩ | ⟨hpos, b, cap, rfl, hb, hrw⟩
 ·have HE := hD (show without l o = [] by rw [hl0]; rfl)
  have HD := hD (deleteFuncP_nil A1 c1 (.pointer (some ⟨w.heap.size, 0, none⟩)))
  clear hl0
  go_wp2_with fail
  refine (HD.out _).mono ?_
  rintro e w2 ⟨rfl, rfl⟩
  go_wp2
  go_ret
  rw [HE.out]
  exact ⟨_, rfl, ⟨⟨_, _, rfl, Nat.zero_le _⟩, by simp, by simp, fun h => absurd h (by simp), fun n c e => by injection e with e1 _ e3; rw [← e3]; exact hn1 e1⟩, InP.nil_ _ _, HB1.out⟩
 ·have hb' : w.heap.size + 1 ≤ b := by simpa using hb
  have hby := HL.out.bytes
  have HD := hD (deleteFuncP (.pointer (some ⟨w.heap.size, 0, none⟩)) (fun q => o.any fun p => pairB p q) w1 b 0 cap (w.heap.size + 1) l hrw (by omega) hb' (fun x hx wc hwc => by
   have h1 : Below w.heap.size w wc := HB1.out.trans (hwc.mono (by omega))
   refine withoutC_any x (.slice A' o.length c') o w.heap.size wc ?_ ?_ ?_
   ·exact (HO.out.below h1).more h1.size
   ·exact (hwc.cell (p := ⟨w.heap.size, 0, none⟩) (by simp)).trans HX1.out
   ·have := hwc.size; omega))
  clear hrw
  go_wp2_with fail
  refine HD.out.mono ?_
  rintro e w2 ⟨rfl, hr2, hb2, _⟩
  have HF := hD (And.intro hr2 hb2)
  clear hr2 hb2 HD
  go_wp2
  go_ret
  have hw : without l o = l.filter fun q => !(o.any fun p => pairB p q) := rfl
  rw [hw]
  refine ⟨_, rfl, lst_rw HF.out.1 ?_ (fun p hp => HL.out.sizes p (List.mem_filter.1 hp).1), fun _ b' off n c e => ?_, HB1.out.trans (HF.out.2.mono (by omega))⟩
  ·have := List.length_filter_le (fun q => !(o.any fun p => pairB p q)) l
   omega
  ·injection e with e
   injection e with e
   injection e with e
   omega
end Go.Proofs.YtpbaobmegomfpabGreatDoor
namespace Go.Proofs.YtpbaobmegomfpabGreatDoor
open Go.RowKit
structure WldP (w : World) (P : Nat → Prop) (r s : Value) (W : Wd) : Prop where
 wld : Wld w w.heap.size r s W
 rows : InP P r W.rows
 ses : 0 < W.ss.length → ∀ b off n c, s = .slice (some ⟨b, off, none⟩) n c → P b ∧ ∀ k j v (hk : k < W.ss.length), j < 4 → w.cell? ⟨b, off + k * 5 + (j + 1), none⟩ = some v → InP P v (W.ss[k].li j)
theorem WldP.mono {w : World} {P Q : Nat → Prop} {r s : Value} {W : Wd} (h : WldP w P r s W) (hpq : ∀ b, P b → Q b) : WldP w Q r s W :=
 ⟨h.wld, h.rows.mono hpq, fun hn b off n c e => ⟨hpq b (h.ses hn b off n c e).1, fun k j v hk hj hv => ((h.ses hn b off n c e).2 k j v hk hj hv).mono hpq⟩⟩
theorem WldP.at {w : World} {P : Nat → Prop} {r s : Value} {W : Wd} (h : WldP w P r s W) (hn : 0 < W.ss.length) : ∃ b off c, s = .slice (some ⟨b, off, none⟩) W.ss.length c ∧ P b ∧ b < w.heap.size ∧
  ∀ i (hi : i < W.ss.length), ∃ v1 v2 v3 v4, Ses w w.heap.size b (off + i * 5) W.ss[i] v1 v2 v3 v4 ∧ InP P v1 W.ss[i].set ∧ InP P v2 W.ss[i].prep ∧ InP P v3 W.ss[i].sav ∧ InP P v4 W.ss[i].wr := by
 obtain ⟨b, off, c, e, hb, hc⟩ := h.wld.sess.cells hn
 obtain ⟨hp, hl⟩ := h.ses hn b off _ c e
 refine ⟨b, off, c, e, hp, hb, fun i hi => ?_⟩
 obtain ⟨v1, v2, v3, v4, q⟩ := hc i hi
 exact ⟨v1, v2, v3, v4, q, hl i 0 _ hi (by omega) q.c1, hl i 1 _ hi (by omega) q.c2, hl i 2 _ hi (by omega) q.c3, hl i 3 _ hi (by omega) q.c4⟩
theorem WldP.mk' {w : World} {P : Nat → Prop} {r s : Value} {W : Wd} (hr : Lst w w.heap.size r W.rows) (hp : InP P r W.rows) (hf : ∃ A c, s = .slice A W.ss.length c ∧ W.ss.length ≤ c) (hby : W.ss.length * 104 ≤ 140737488351232)
  (hs : 0 < W.ss.length → ∃ b off c, s = .slice (some ⟨b, off, none⟩) W.ss.length c ∧ P b ∧ b < w.heap.size ∧
   ∀ i (hi : i < W.ss.length), ∃ v1 v2 v3 v4, Ses w w.heap.size b (off + i * 5) W.ss[i] v1 v2 v3 v4 ∧ InP P v1 W.ss[i].set ∧ InP P v2 W.ss[i].prep ∧ InP P v3 W.ss[i].sav ∧ InP P v4 W.ss[i].wr) : WldP w P r s W := by
 refine ⟨⟨hr, hf, hby, fun hn => ?_⟩, hp, fun hn b off n c e => ?_⟩
 ·obtain ⟨b, off, c, e, _, hb, hc⟩ := hs hn
  exact ⟨b, off, c, e, hb, fun i hi => by obtain ⟨v1, v2, v3, v4, q, _⟩ := hc i hi; exact ⟨v1, v2, v3, v4, q⟩⟩
 ·obtain ⟨b', off', c', e', hP, hb, hc⟩ := hs hn
  have he : b = b' ∧ off = off' := by rw [e] at e'; injection e' with e'; injection e' with e'; injection e' with e1 e2; exact ⟨e1, e2⟩
  obtain ⟨rfl, rfl⟩ := he
  refine ⟨hP, fun k j v hk hj hv => ?_⟩
  obtain ⟨v1, v2, v3, v4, q, p1, p2, p3, p4⟩ := hc k hk
  rcases j4 hj with rfl | rfl | rfl | rfl
  ·rw [q.c1] at hv; injection hv with hv; subst hv; exact p1
  ·rw [q.c2] at hv; injection hv with hv; subst hv; exact p2
  ·rw [q.c3] at hv; injection hv with hv; subst hv; exact p3
  ·rw [q.c4] at hv; injection hv with hv; subst hv; exact p4
theorem WldP.keep {w w' : World} {P : Nat → Prop} {r s : Value} {W : Wd} (h : WldP w P r s W) (hs : w.heap.size ≤ w'.heap.size) (hk : ∀ b, P b → b < w.heap.size → w'.heap[b]? = w.heap[b]?) : WldP w' P r s W := by
 have ll : ∀ {v : Value} {l : PL}, Lst w w.heap.size v l → InP P v l → Lst w' w'.heap.size v l := fun a b => a.keepP (own_lt a b) (fun x hx => hk x hx.1 hx.2) (fun x hx => Nat.lt_of_lt_of_le hx.2 hs)
 refine WldP.mk' (ll h.wld.rows h.rows) h.rows h.wld.sess.form h.wld.sess.bytes fun hn => ?_
 obtain ⟨b, off, c, e, hP, hb, hc⟩ := h.at hn
 have cs : ∀ j, w'.cell? ⟨b, j, none⟩ = w.cell? ⟨b, j, none⟩ := fun j => World.cell?_of_block (hk b hP hb)
 refine ⟨b, off, c, e, hP, Nat.lt_of_lt_of_le hb hs, fun i hi => ?_⟩
 obtain ⟨v1, v2, v3, v4, q, p1, p2, p3, p4⟩ := hc i hi
 exact ⟨v1, v2, v3, v4, ⟨(cs _).trans q.c0, (cs _).trans q.c1, (cs _).trans q.c2, (cs _).trans q.c3, (cs _).trans q.c4, ll q.l1 p1, ll q.l2 p2, ll q.l3 p3, ll q.l4 p4⟩, p1, p2, p3, p4⟩
theorem WldP.below {w w' : World} {P : Nat → Prop} {r s : Value} {W : Wd} (h : WldP w P r s W) (hb : Below w.heap.size w w') : WldP w' P r s W := h.keep hb.size fun b _ hlt => hb.block b hlt
theorem WldP.small {w : World} {P : Nat → Prop} {r s : Value} {W : Wd} (h : WldP w P r s W) : WldP w (fun b => P b ∧ b < w.heap.size) r s W := by
 refine WldP.mk' h.wld.rows (own_lt h.wld.rows h.rows) h.wld.sess.form h.wld.sess.bytes fun hn => ?_
 obtain ⟨b, off, c, e, hP, hb, hc⟩ := h.at hn
 refine ⟨b, off, c, e, ⟨hP, hb⟩, hb, fun i hi => ?_⟩
 obtain ⟨v1, v2, v3, v4, q, p1, p2, p3, p4⟩ := hc i hi
 exact ⟨v1, v2, v3, v4, q, own_lt q.l1 p1, own_lt q.l2 p2, own_lt q.l3 p3, own_lt q.l4 p4⟩
theorem Wld.p {w : World} {r s : Value} {W : Wd} (h : Wld w w.heap.size r s W) : WldP w (fun b => b < w.heap.size) r s W := by
 refine WldP.mk' h.rows h.rows.inP h.sess.form h.sess.bytes fun hn => ?_
 obtain ⟨b, off, c, e, hb, hc⟩ := h.sess.cells hn
 refine ⟨b, off, c, e, hb, hb, fun i hi => ?_⟩
 obtain ⟨v1, v2, v3, v4, q⟩ := hc i hi
 exact ⟨v1, v2, v3, v4, q, q.l1.inP, q.l2.inP, q.l3.inP, q.l4.inP⟩
end Go.Proofs.YtpbaobmegomfpabGreatDoor
namespace Go.Proofs.YtpbaobmegomfpabGreatDoor
open Go.RowKit
structure Alike (P : Mach PE) (H : Mach Wd) : Prop where
 cl : P.cl = H.cl
 busy : P.busy = H.busy
 line : P.line = H.line
 sent : P.sent = H.sent
 deeds : P.deeds = H.deeds
 rows : P.e.w.rows = H.e.rows
 plen : P.e.w.ss.length = P.busy.length
 hlen : H.e.ss.length = 6
 klen : P.e.kept.length = 6
 okP : WorldOk P.e.w
 okH : WorldOk H.e
 hold : ∀ c s, (P.get c).srv = some s → H.e.at c = P.e.w.at s
 bare : ∀ c, c < 6 → (P.get c).srv = none → H.e.at c = ⟨0, (P.e.of c).1, (P.e.of c).2, [], []⟩
 free : ∀ s, s < P.e.w.ss.length → (∀ c, (P.get c).srv ≠ some s) → (P.e.w.at s).st = 0
section
variable {P : Mach PE} {H : Mach Wd} {mode : Int}
theorem Alike.get (h : Alike P H) (c : Nat) : H.get c = P.get c := by unfold Mach.get; rw [h.cl]
theorem set_at {W : Wd} {i : Nat} (h : i < W.ss.length) (rows : PL) (x : Sess) (j : Nat) : (⟨rows, W.ss.set i x⟩ : Wd).at j = if i = j then x else W.at j := by
 unfold Wd.at; simp only; rw [getD_set]; by_cases e : i = j <;> simp [e]; intro hh; omega
theorem sess_at {W : Wd} (h : WorldOk W) {i : Nat} (hi : i < W.ss.length) : SessOk (W.at i) := by rw [at_lt hi]; exact h.sess i hi
theorem Alike.srvlt (h : Alike P H) (hP : MOk mode P) {c s : Nat} (hs : (P.get c).srv = some s) : s < P.e.w.ss.length ∧ c < H.e.ss.length := by
 refine ⟨?_, ?_⟩
 ·rw [h.plen]; exact (List.getElem?_eq_some_iff.1 (hP.srv c s hs)).1
 ·rw [h.hlen]; have := srv_lt hs; rw [hP.n6] at this; exact this
theorem held_at {ss : List Sess} {me : Int} {key : ByteArray} {W : Wd} (hW : W.ss = ss) : heldB ss me key = true ↔ ∃ k, k < ss.length ∧ fndL (W.at k).wr key = true ∧ (k : Int) ≠ me := by
 rw [heldB_iff]
 constructor
 ·rintro ⟨k, hk, h1, h2⟩
  exact ⟨k, hk, by rw [at_lt (by rw [hW]; exact hk)]; simp only [hW]; exact h1, h2⟩
 ·rintro ⟨k, hk, h1, h2⟩
  refine ⟨k, hk, ?_, h2⟩
  rw [at_lt (by rw [hW]; exact hk)] at h1
  simp only [hW] at h1
  exact h1
theorem Alike.like (h : Alike P H) (hP : MOk mode P) {c s : Nat} (hs : (P.get c).srv = some s) : Like P.e.w H.e s c := by
 obtain ⟨h1, h2⟩ := h.srvlt hP hs
 refine ⟨h.okP, h.okH, h1, h2, h.rows, (h.hold c s hs).symm, fun key => ?_⟩
 rw [Bool.eq_iff_iff, held_at (W := P.e.w) rfl, held_at (W := H.e) rfl]
 constructor
 ·rintro ⟨s', hs', hf, hne⟩
  have : ∃ c', (P.get c').srv = some s' := Classical.byContradiction fun hn => by
   have h0 := h.free s' hs' (fun c' hc' => hn ⟨c', hc'⟩)
   rw [(sess_at h.okP hs').tx (by omega)] at hf
   cases hf
  obtain ⟨c', hc'⟩ := this
  refine ⟨c', (h.srvlt hP hc').2, by rw [h.hold c' s' hc']; exact hf, fun e => hne ?_⟩
  have : c' = c := by omega
  subst this
  rw [hs] at hc'; injection hc' with hc'; rw [hc']
 ·rintro ⟨c', hc', hf, hne⟩
  cases hx : (P.get c').srv with
  | none => rw [h.bare c' (by rw [h.hlen] at hc'; exact hc') hx] at hf; cases hf
  | some s' =>
   refine ⟨s', (h.srvlt hP hx).1, by rw [← h.hold c' s' hx]; exact hf, fun e => hne ?_⟩
   have : s' = s := by omega
   subst this
   rw [hP.inj c' c s' hx hs]
theorem Alike.turn (h : Alike P H) {c : Nat} {x : Cl} (hc : c < P.cl.length) (hs : x.srv = (P.get c).srv) : Alike (P.set c x) (H.set c x) := by
 have hg : ∀ d, ((P.set c x).get d).srv = (P.get d).srv := fun d => by
  rw [get_set hc]
  by_cases e : c = d
  ·subst e; rw [if_pos rfl]; exact hs
  ·rw [if_neg e]
 exact ⟨by show P.cl.set c x = H.cl.set c x; rw [h.cl], h.busy, h.line, h.sent, h.deeds, h.rows, h.plen, h.hlen, h.klen, h.okP, h.okH, fun d s hd => h.hold d s (by rw [← hg]; exact hd), fun d hd hn => h.bare d hd (by rw [← hg]; exact hn), fun s hl hn => h.free s hl (fun d hd => hn d (by rw [hg]; exact hd))⟩
theorem Alike.tell (h : Alike P H) (c : Nat) (a : Ans) (st : Int) : Alike (P.tell c a st) (H.tell c a st) := by
 have e : (P.tell c a st).sent = (H.tell c a st).sent := by unfold Mach.tell; simp only; rw [h.sent]
 exact ⟨h.cl, h.busy, h.line, e, h.deeds, h.rows, h.plen, h.hlen, h.klen, h.okP, h.okH, h.hold, h.bare, h.free⟩
theorem Alike.state (h : Alike P H) (hP : MOk mode P) {c : Nat} (hc : c < 6) : poolO.state P.e c (P.get c).srv = houseO.state H.e c (H.get c).srv := by
 show P.e.state (P.get c).srv = (H.e.at c).st
 cases hx : (P.get c).srv with
 | none => rw [h.bare c hc hx]; rfl
 | some s => rw [h.hold c s hx]; rfl
theorem Alike.exec (h : Alike P H) (hP : MOk mode P) {c s : Nat} (hs : (P.get c).srv = some s) {r : Req} (hr : checkE r.k r.key r.val = 0) {P' : Mach PE} {H' : Mach Wd} (e1 : P'.e = (poolO.exec P.e c s r).1) (e2 : H'.e = (houseO.exec H.e c s r).1) (e3 : P'.cl = P.cl) (e4 : H'.cl = H.cl)
  (e5 : P'.busy = P.busy) (e6 : H'.busy = H.busy) (e7 : P'.line = P.line) (e8 : H'.line = H.line) (e9 : P'.sent = H'.sent) (e10 : P'.deeds = H'.deeds) : Alike P' H' ∧ (poolO.exec P.e c s r).2 = (houseO.exec H.e c s r).2 := by
 have hl := h.like hP hs
 obtain ⟨rows, x, a, h1, h2⟩ := hl.doM r.k r.key r.val
 have o1 := doM_ok h.okP hl.hs hr
 have o2 := doM_ok h.okH hl.hc hr
 have x1 : P'.e = ⟨⟨rows, P.e.w.ss.set s x⟩, P.e.kept⟩ := by rw [e1]; show (⟨(doM P.e.w s r.k r.key r.val).1, P.e.kept⟩ : PE) = _; rw [h1]
 have x2 : H'.e = ⟨rows, H.e.ss.set c x⟩ := by rw [e2]; show (doM H.e c r.k r.key r.val).1 = _; rw [h2]
 have hg : ∀ d, P'.get d = P.get d := fun d => by unfold Mach.get; rw [e3]
 refine ⟨⟨by rw [e3, e4, h.cl], by rw [e5, e6, h.busy], by rw [e7, e8, h.line], e9, e10, by rw [x1, x2], by rw [x1, e5]; simp [h.plen], by rw [x2]; simp [h.hlen], by rw [x1]; exact h.klen, ?_, ?_, fun d s' hd => ?_, fun d hd hn => ?_, fun s' hl' hn => ?_⟩, ?_⟩
 ·rw [x1]; rw [h1] at o1; exact o1.1
 ·rw [x2]; rw [h2] at o2; exact o2.1
 ·rw [hg] at hd
  rw [x1, x2, set_at hl.hc, set_at hl.hs]
  by_cases e : c = d
  ·subst e
   rw [if_pos rfl, if_pos (by rw [hs] at hd; injection hd)]
  ·rw [if_neg e, if_neg (fun e' => e (hP.inj c d s hs (by rw [e']; exact hd)))]
   exact h.hold d s' hd
 ·rw [hg] at hn
  rw [x2, set_at hl.hc, if_neg (fun e => by rw [← e, hs] at hn; cases hn)]
  have := h.bare d hd hn
  rw [this]
  show _ = (⟨0, (P'.e.of d).1, (P'.e.of d).2, [], []⟩ : Sess)
  rw [x1]; rfl
 ·rw [x1] at hl' ⊢
  rw [set_at hl.hs, if_neg (fun e => hn c (by rw [hg, hs, e]))]
  exact h.free s' (by simpa using hl') (fun d hd => hn d (by rw [hg]; exact hd))
 ·show ((doM P.e.w s r.k r.key r.val).2, ((doM P.e.w s r.k r.key r.val).1.at s).st) = ((doM H.e c r.k r.key r.val).2, ((doM H.e c r.k r.key r.val).1.at c).st)
  rw [h1, h2, set_at hl.hs, set_at hl.hc, if_pos rfl, if_pos rfl]
theorem Alike.release (h : Alike P H) (hP : MOk mode P) {c s : Nat} (hs : (P.get c).srv = some s) (h0 : (P.e.w.at s).st = 0) : Alike (P.release poolO c s) (H.release houseO c s) := by
 obtain ⟨l1, l2⟩ := h.srvlt hP hs
 have hc' := srv_lt hs
 have hg : ∀ d, (P.release poolO c s).get d = if c = d then { P.get c with srv := none } else P.get d := fun d => get_set (m := P) hc'
 have ho : ∀ d, (P.release poolO c s).e.of d = if c = d then ((P.e.w.at s).set, (P.e.w.at s).prep) else P.e.of d := fun d => by
  show (P.e.kept.set c _).getD d ([], []) = _
  rw [getD_set]
  have : c < P.e.kept.length := by rw [h.klen, ← hP.n6]; exact hc'
  by_cases e : c = d
  ·rw [if_pos e, if_pos ⟨e, this⟩]
  ·rw [if_neg e, if_neg (fun hh => e hh.1)]; rfl
 have hx := sess_at h.okP l1
 refine ⟨?_, ?_, h.line, h.sent, h.deeds, h.rows, ?_, h.hlen, ?_, h.okP, h.okH, fun d s' hd => ?_, fun d hd hn => ?_, fun s' hl hn => ?_⟩
 ·show P.cl.set c _ = H.cl.set c _; rw [h.cl, h.get]
 ·show P.busy.set s false = H.busy.set s false; rw [h.busy]
 ·show P.e.w.ss.length = (P.busy.set s false).length; simp [h.plen]
 ·show (P.e.kept.set c _).length = 6; simp [h.klen]
 ·rw [hg] at hd
  by_cases e : c = d
  ·rw [if_pos e] at hd; cases hd
  ·rw [if_neg e] at hd; exact h.hold d s' hd
 ·rw [hg] at hn
  rw [ho]
  by_cases e : c = d
  ·subst e
   rw [if_pos rfl]
   show H.e.at c = _
   rw [h.hold c s hs]
   have := hx.idle h0
   have := hx.tx (by omega)
   cases hy : P.e.w.at s
   simp_all
  ·rw [if_neg e] at hn ⊢
   exact h.bare d hd hn
 ·by_cases e : s = s'
  ·subst e; exact h0
  ·refine h.free s' hl (fun d hd => hn d ?_)
   rw [hg, if_neg (fun e' => e (by rw [← e', hs] at hd; injection hd))]; exact hd
theorem Alike.proc (h : Alike P H) (hP : MOk mode P) {c : Nat} (hc : c < 6) (hr : readyB mode (P.get c) = true) : Alike (P.proc poolO mode c) (H.proc houseO mode c) := by
 have hc' : c < P.cl.length := by rw [hP.n6]; exact hc
 have hn := proc_line hP hr
 obtain ⟨r, l, hw, hs⟩ := ready_wait hr
 have t1 : Alike (P.set c { P.get c with wait := l }) (H.set c { P.get c with wait := l }) := h.turn hc' rfl
 have m1 : MOk mode (P.set c { P.get c with wait := l }) := hP.turn hc (fun q hq => hP.fine c q (by rw [hw]; exact List.mem_cons_of_mem _ hq)) rfl (fun hl => absurd hl hn)
 unfold Mach.proc
 rw [h.get]
 simp only [hw]
 by_cases hf : refB mode r = true
 ·rw [if_pos hf, if_pos hf]
  have := h.state hP hc
  rw [h.get] at this
  rw [this]
  exact t1.tell _ _ _
 ·rw [if_neg hf, if_neg hf]
  have hsv : (P.get c).srv.isSome = true := by rw [Bool.or_eq_true] at hs; exact hs.resolve_right hf
  obtain ⟨s, hs⟩ := Option.isSome_iff_exists.1 hsv
  have hk : checkE r.k r.key r.val = 0 := by
   rcases hP.fine c r (by rw [hw]; exact List.mem_cons_self) with e | e
   ·exact absurd (by rw [e]; rfl) hf
   ·exact e
  have hs1 : ((P.set c { P.get c with wait := l }).get c).srv = some s := by rw [get_set hc', if_pos rfl]; exact hs
  rw [show (P.get c).srv.getD 0 = s by rw [hs]; rfl]
  generalize hxp : poolO.exec P.e c s r = xp
  generalize hxh : houseO.exec H.e c s r = xh
  have hq := t1.exec m1 hs1 hk (P' := { P.set c { P.get c with wait := l } with e := xp.1, deeds := P.deeds ++ [⟨c, r, xp.2.1, xp.2.2⟩] }) (H' := { H.set c { P.get c with wait := l } with e := xh.1, deeds := P.deeds ++ [⟨c, r, xp.2.1, xp.2.2⟩] })
   (by show xp.1 = (poolO.exec P.e c s r).1; rw [hxp]) (by show xh.1 = (houseO.exec H.e c s r).1; rw [hxh]) rfl rfl rfl rfl rfl rfl t1.sent rfl
  have hx2 : xp.2 = xh.2 := by have := hq.2; rw [← hxp, ← hxh]; exact this
  have t2 := hq.1
  rw [← hx2, ← h.deeds]
  have t3 := t2.tell c xp.2.1 xp.2.2
  have m3 : MOk mode (Mach.tell { P.set c { P.get c with wait := l } with e := xp.1, deeds := P.deeds ++ [⟨c, r, xp.2.1, xp.2.2⟩] } c xp.2.1 xp.2.2) := m1.same rfl rfl rfl (by simp [Mach.tell, Mach.set, hP.s6])
  by_cases hm : mode ≠ 1 ∧ xp.2.2 = 0
  ·rw [if_pos hm, if_pos hm]
   refine t3.release m3 (by show ((P.set c { P.get c with wait := l }).get c).srv = _; exact hs1) ?_
   show (xp.1.w.at s).st = 0
   rw [← hm.2, ← hxp]; rfl
  ·rw [if_neg hm, if_neg hm]; exact t3
theorem Alike.enq (h : Alike P H) : Alike P.enq H.enq := by
 have e : enqL H = enqL P := by funext l c; unfold enqL; rw [h.get]
 have e2 : P.enq.line = H.enq.line := by unfold Mach.enq; simp only; rw [e, h.line]
 exact ⟨h.cl, h.busy, e2, h.sent, h.deeds, h.rows, h.plen, h.hlen, h.klen, h.okP, h.okH, h.hold, h.bare, h.free⟩
theorem Alike.assign (h : Alike P H) (hP : MOk mode P) : (P.assign poolO).1 = (H.assign houseO).1 ∧ Alike (P.assign poolO).2 (H.assign houseO).2 := by
 unfold Mach.assign
 rw [← h.line, ← h.busy]
 cases hl : P.line with
 | nil => exact ⟨rfl, h⟩
 | cons c l =>
  simp only
  by_cases hb : P.busy.idxOf false < P.busy.length
  ·rw [if_pos hb, if_pos hb]
   refine ⟨rfl, ?_⟩
   obtain ⟨hc, hs, hw, hr⟩ := hP.line c (by rw [hl]; exact List.mem_cons_self)
   have hc' : c < P.cl.length := by rw [hP.n6]; exact hc
   have hfree : P.busy[P.busy.idxOf false]? = some false := idx_free hb
   generalize hs0 : P.busy.idxOf false = s at *
   have hns : ∀ d, (P.get d).srv ≠ some s := fun d hd => by rw [hP.srv d s hd] at hfree; cases hfree
   have ls : s < P.e.w.ss.length := by rw [h.plen]; exact hb
   have h0 := h.free s ls hns
   have hbare := h.bare c hc hs
   have okc := sess_at h.okH (i := c) (by rw [h.hlen]; exact hc)
   rw [hbare] at okc
   have hre := restore_ok h.okP ls h0 okc.set okc.prep
   have hg : ∀ (q : Mach PE) d, q.cl = P.cl.set c { P.get c with srv := some s } → q.get d = if c = d then { P.get c with srv := some s } else P.get d := fun q d hq => by unfold Mach.get; rw [hq]; exact get_cl hc'
   have hek : poolO.grant P.e c s = ⟨P.e.w.put s ⟨0, (P.e.of c).1, (P.e.of c).2, [], []⟩, P.e.kept⟩ := by
    show (⟨restoreW P.e.w s (P.e.of c), P.e.kept⟩ : PE) = _
    rw [hre]
   refine ⟨?_, ?_, rfl, h.sent, h.deeds, ?_, ?_, h.hlen, ?_, ?_, h.okH, fun d s' hd => ?_, fun d hd hn => ?_, fun s' hl' hn => ?_⟩
   ·show P.cl.set c _ = H.cl.set c _; rw [h.cl, h.get]
   ·show P.busy.set s true = P.busy.set s true; rfl
   ·show (poolO.grant P.e c s).w.rows = H.e.rows; rw [hek]; exact h.rows
   ·show (poolO.grant P.e c s).w.ss.length = (P.busy.set s true).length; rw [hek, List.length_set]; show (P.e.w.put s _).ss.length = _; rw [wput_len]; exact h.plen
   ·show (poolO.grant P.e c s).kept.length = 6; rw [hek]; exact h.klen
   ·show WorldOk (poolO.grant P.e c s).w
    rw [hek]
    exact wput_ok h.okP ls okc (fun p hp => by cases hp)
   ·rw [hg _ d rfl] at hd
    show H.e.at d = (poolO.grant P.e c s).w.at s'
    rw [hek]
    show H.e.at d = (⟨P.e.w.rows, P.e.w.ss.set s _⟩ : Wd).at s'
    rw [set_at ls]
    by_cases e : c = d
    ·subst e
     rw [if_pos rfl] at hd
     injection hd with hd
     rw [if_pos hd]; exact hbare
    ·rw [if_neg e] at hd
     rw [if_neg (fun e' => hns d (by rw [e']; exact hd))]
     exact h.hold d s' hd
   ·rw [hg _ d rfl] at hn
    by_cases e : c = d
    ·rw [if_pos e] at hn; cases hn
    ·rw [if_neg e] at hn
     show H.e.at d = ⟨0, ((poolO.grant P.e c s).of d).1, ((poolO.grant P.e c s).of d).2, [], []⟩
     rw [hek]
     exact h.bare d hd hn
   ·show ((poolO.grant P.e c s).w.at s').st = 0
    have hl'' : s' < (poolO.grant P.e c s).w.ss.length := hl'
    rw [hek] at hl'' ⊢
    have hl''' : s' < P.e.w.ss.length := by have : s' < (P.e.w.put s _).ss.length := hl''; rw [wput_len] at this; exact this
    show ((⟨P.e.w.rows, P.e.w.ss.set s _⟩ : Wd).at s').st = 0
    rw [set_at ls, if_neg (fun e => hn c (by rw [hg _ c rfl, if_pos rfl, e]))]
    exact h.free s' hl''' (fun d hd => hn d (by rw [hg _ d rfl, if_neg (fun e => by rw [← e, hs] at hd; cases hd)]; exact hd))
  ·rw [if_neg hb, if_neg hb]; exact ⟨rfl, h⟩
theorem Alike.first (h : Alike P H) : H.firstR mode = P.firstR mode := by
 have e : (fun c => readyB mode (H.get c)) = (fun c => readyB mode (P.get c)) := by funext c; rw [h.get]
 unfold Mach.firstR; rw [e]
theorem Alike.step (h : Alike P H) (hP : MOk mode P) : (P.step poolO mode).1 = (H.step houseO mode).1 ∧ Alike (P.step poolO mode).2 (H.step houseO mode).2 := by
 unfold Mach.step
 rw [h.first]
 cases hf : P.firstR mode with
 | some c =>
  obtain ⟨hc, hr⟩ := first_some hf
  exact ⟨rfl, h.proc hP hc hr⟩
 | none => exact h.enq.assign (hP.enq hf)
theorem Alike.mu (h : Alike P H) : H.mu = P.mu := by unfold Mach.mu; rw [h.cl]
theorem Alike.iter (h : Alike P H) (hP : MOk mode P) (n : Nat) : Alike (P.iter poolO mode n) (H.iter houseO mode n) := by
 induction n generalizing P H with
 | zero => exact h
 | succ n ih =>
  have hs := h.step hP
  unfold Mach.iter
  rw [← hs.1]
  cases ht : (P.step poolO mode).1 with
  | true => simp only [if_true]; exact ih hs.2 (hP.step (o := poolO)).1
  | false => simpa using hs.2
theorem Alike.all (h : Alike P H) (hP : MOk mode P) : Alike (P.all poolO mode) (H.all houseO mode) := by
 unfold Mach.all; rw [h.mu]; exact h.iter hP _
theorem zero_ok : SessOk Sess.zero := ⟨Int.le_refl _, (by show (0 : Int) ≤ 2; decide), pairsB_nil _ _, pairsB_nil _ _, pairsB_nil _ _, pairsB_nil _ _, fun _ => rfl, fun _ => rfl⟩
theorem Alike.leave (h : Alike P H) (hP : MOk mode P) {c : Nat} (hc : c < 6) : Alike (P.leave poolO c) (H.leave houseO c) := by
 have hc' : c < P.cl.length := by rw [hP.n6]; exact hc
 have hcH : c < H.e.ss.length := by rw [h.hlen]; exact hc
 have hg : ∀ d, (P.leave poolO c).get d = if c = d then Cl.new else P.get d := fun d => get_set (m := P) hc'
 have eH : ∀ d, (H.leave houseO c).e.at d = if c = d then Sess.zero else H.e.at d := fun d => set_at (W := H.e) hcH _ _ _
 have hk : ∀ (k : List (PL × PL)) d, k = P.e.kept.set c ([], []) → k.getD d ([], []) = if c = d then ([], []) else P.e.of d := fun k d hk => by
  rw [hk, getD_set]
  by_cases e : c = d
  ·rw [if_pos e, if_pos ⟨e, by rw [h.klen]; exact hc⟩]
  ·rw [if_neg e, if_neg (fun hh => e hh.1)]; rfl
 have okH' : WorldOk (H.leave houseO c).e := wput_ok h.okH hcH zero_ok (fun p hp => by cases hp)
 have e1 : (P.leave poolO c).cl = (H.leave houseO c).cl := by show P.cl.set c _ = H.cl.set c _; rw [h.cl]
 have e2 : (P.leave poolO c).busy = (H.leave houseO c).busy := by unfold Mach.leave; simp only; rw [h.get, h.busy]
 have e3 : (P.leave poolO c).line = (H.leave houseO c).line := by unfold Mach.leave; simp only; rw [h.line]
 have hlen : (H.leave houseO c).e.ss.length = 6 := by show (H.e.put c _).ss.length = 6; rw [wput_len]; exact h.hlen
 cases hx : (P.get c).srv with
 | none =>
  have ee : (P.leave poolO c).e = ⟨P.e.w, P.e.kept.set c ([], [])⟩ := by show poolO.leave P.e c (P.get c).srv = _; rw [hx]; rfl
  have eb : (P.leave poolO c).busy = P.busy := by unfold Mach.leave; simp only; rw [hx]
  refine ⟨e1, e2, e3, h.sent, h.deeds, by rw [ee]; exact h.rows, by rw [ee, eb]; exact h.plen, hlen, by rw [ee]; simp [h.klen], by rw [ee]; exact h.okP, okH', fun d s hd => ?_, fun d hd hn => ?_, fun s hl hn => ?_⟩
  ·rw [hg] at hd
   by_cases e : c = d
   ·rw [if_pos e] at hd; cases hd
   ·rw [if_neg e] at hd
    rw [ee, eH, if_neg e]; exact h.hold d s hd
  ·rw [hg] at hn
   rw [eH]
   show _ = (⟨0, ((P.leave poolO c).e.kept.getD d ([], [])).1, ((P.leave poolO c).e.kept.getD d ([], [])).2, [], []⟩ : Sess)
   rw [hk _ d (by rw [ee])]
   by_cases e : c = d
   ·rw [if_pos e, if_pos e]; rfl
   ·rw [if_neg e] at hn ⊢; rw [if_neg e]; exact h.bare d hd hn
  ·rw [ee] at hl ⊢
   refine h.free s hl (fun d hd => hn d ?_)
   rw [hg, if_neg (fun e => by rw [← e, hx] at hd; cases hd)]; exact hd
 | some s =>
  obtain ⟨l1, l2⟩ := h.srvlt hP hx
  have ee : (P.leave poolO c).e = ⟨if (P.e.w.at s).st ≠ 0 then (doM P.e.w s 3 ⟨#[]⟩ ⟨#[]⟩).1 else P.e.w, P.e.kept.set c ([], [])⟩ := by show poolO.leave P.e c (P.get c).srv = _; rw [hx]; rfl
  have eb : (P.leave poolO c).busy = P.busy.set s false := by unfold Mach.leave; simp only; rw [hx]
  have hsx := sess_at h.okP l1
  have hroll : ∃ x : Sess, (if (P.e.w.at s).st ≠ 0 then (doM P.e.w s 3 ⟨#[]⟩ ⟨#[]⟩).1 else P.e.w) = P.e.w.put s x ∧ x.st = 0 ∧ SessOk x ∧ x.wr = [] := by
   by_cases h0 : (P.e.w.at s).st ≠ 0
   ·rw [if_pos h0]
    refine ⟨{ P.e.w.at s with st := 0, set := (P.e.w.at s).sav, sav := [], wr := [] }, ?_, rfl, ⟨Int.le_refl _, (by show (0 : Int) ≤ 2; decide), hsx.sav, hsx.prep, pairsB_nil _ _, pairsB_nil _ _, fun _ => rfl, fun _ => rfl⟩, rfl⟩
    unfold doM didM did1
    simp [h0, ok']
   ·rw [if_neg h0]
    have h0 : (P.e.w.at s).st = 0 := Classical.byContradiction h0
    exact ⟨P.e.w.at s, (put_self l1).symm, h0, hsx, hsx.tx (by omega)⟩
  obtain ⟨x, hxe, hx0, hxo, hxw⟩ := hroll
  rw [hxe] at ee
  have okw : WorldOk (P.e.w.put s x) := wput_ok h.okP l1 hxo (fun p hp => by rw [hxw] at hp; cases hp)
  refine ⟨e1, e2, e3, h.sent, h.deeds, by rw [ee]; exact h.rows, by rw [ee, eb]; show (P.e.w.put s x).ss.length = _; rw [wput_len, List.length_set]; exact h.plen, hlen, by rw [ee]; simp [h.klen], by rw [ee]; exact okw, okH', fun d s' hd => ?_, fun d hd hn => ?_, fun s' hl hn => ?_⟩
  ·rw [hg] at hd
   by_cases e : c = d
   ·rw [if_pos e] at hd; cases hd
   ·rw [if_neg e] at hd
    rw [ee, eH, if_neg e]
    show H.e.at d = (⟨P.e.w.rows, P.e.w.ss.set s x⟩ : Wd).at s'
    rw [set_at l1, if_neg (fun e' => e (hP.inj c d s hx (by rw [e']; exact hd)))]
    exact h.hold d s' hd
  ·rw [hg] at hn
   rw [eH]
   show _ = (⟨0, ((P.leave poolO c).e.kept.getD d ([], [])).1, ((P.leave poolO c).e.kept.getD d ([], [])).2, [], []⟩ : Sess)
   rw [hk _ d (by rw [ee])]
   by_cases e : c = d
   ·rw [if_pos e, if_pos e]; rfl
   ·rw [if_neg e] at hn ⊢; rw [if_neg e]; exact h.bare d hd hn
  ·rw [ee] at hl ⊢
   show ((⟨P.e.w.rows, P.e.w.ss.set s x⟩ : Wd).at s').st = 0
   rw [set_at l1]
   by_cases e : s = s'
   ·rw [if_pos e]; exact hx0
   ·rw [if_neg e]
    refine h.free s' (by have : s' < (P.e.w.put s x).ss.length := hl; rw [wput_len] at this; exact this) (fun d hd => hn d ?_)
    rw [hg, if_neg (fun e' => e (by rw [← e', hx] at hd; injection hd))]; exact hd
theorem Alike.feed (h : Alike P H) (hP : MOk mode P) {c : Nat} (hc : c < 6) (n : Nat) : Alike (P.feed poolO mode n c) (H.feed houseO mode n c) := by
 induction n generalizing P H with
 | zero => exact h
 | succ n ih =>
  have hc' : c < P.cl.length := by rw [hP.n6]; exact hc
  unfold Mach.feed
  rw [h.get]
  cases hp : pull (P.get c).bytes with
  | none => exact h
  | some q =>
   obtain ⟨k, t, j⟩ := q
   simp only
   split
   ·exact (h.all hP).leave hP.all hc
   ·refine ih (h.turn hc' rfl) (hP.turn hc (fine_app (fun q hq => hP.fine c q hq) (reqOf_fine k t)) rfl fun hl => ⟨by simp, ?_⟩)
    obtain ⟨_, _, h3, h4⟩ := hP.line c hl
    exact ready_app h3 h4
theorem Alike.deliver (h : Alike P H) (hP : MOk mode P) {c : Nat} (hc : c < 6) (d : ByteArray) : Alike (P.deliver poolO mode c d) (H.deliver houseO mode c d) := by
 unfold Mach.deliver
 rw [h.get]
 exact (h.turn (x := { P.get c with bytes := (P.get c).bytes ++ d }) (by rw [hP.n6]; exact hc) rfl).feed (hP.bytes hc _) hc _
theorem Alike.act (h : Alike P H) (hP : MOk mode P) {a : Act} (ha : actE a = 0) : Alike (P.act poolO mode a) (H.act houseO mode a) := by
 have hc : a.c.toNat < 6 := by
  unfold actE at ha
  split at ha
  ·cases ha
  split at ha
  ·cases ha
  omega
 unfold Mach.act
 split
 ·exact (h.deliver hP hc _).all (hP.deliver hc _)
 ·exact (h.leave hP hc).all (hP.leave hc)
theorem Alike.run (h : Alike P H) (hP : MOk mode P) {l : List Act} (hl : actsE l = 0) : Alike (P.run poolO mode l) (H.run houseO mode l) := by
 induction l generalizing P H with
 | nil => exact h
 | cons a l ih => exact ih (h.act hP (actsE_cons hl).1) (hP.act (actsE_cons hl).1) (actsE_cons hl).2
end
theorem zeros_at (rows : PL) (n i : Nat) : (⟨rows, List.replicate n Sess.zero⟩ : Wd).at i = Sess.zero := by
 unfold Wd.at; simp only; rw [List.getD_eq_getElem?_getD, List.getElem?_replicate]; split <;> rfl
theorem zeros_ok {n : Nat} (h : n ≤ 8) : WorldOk ⟨[], List.replicate n Sess.zero⟩ := by
 have hz : ∀ i (hi : i < (List.replicate n Sess.zero).length), (List.replicate n Sess.zero)[i] = Sess.zero := fun i hi => by simp
 refine ⟨pairsB_nil _ _, by simpa using h, fun i hi => by rw [hz i hi]; exact zero_ok, fun i hi p hp => ?_, ?_⟩
 ·rw [hz i hi] at hp; cases hp
 ·have : (List.replicate n Sess.zero).flatMap (·.wr) = [] := by
   induction n with
   | zero => rfl
   | succ n ih => rw [List.replicate_succ, List.flatMap_cons, ih (by omega) (fun i hi => by simp)]; rfl
  show (allF [] ((List.replicate n Sess.zero).flatMap (·.wr))).length ≤ 100
  rw [this]; show 0 ≤ 100; omega
theorem start_alike {n : Nat} (h : n ≤ 8) : Alike (Mach.start (poolStart n) n) (Mach.start houseStart n) := by
 have hg : ∀ c, (Mach.start (poolStart n) n).get c = Cl.new := fun c => by
  unfold Mach.get Mach.start
  simp only
  rw [List.getD_eq_getElem?_getD, List.getElem?_replicate]
  split <;> rfl
 refine ⟨rfl, rfl, rfl, rfl, rfl, rfl, by simp [Mach.start, poolStart], by simp [Mach.start, houseStart], by simp [Mach.start, poolStart], zeros_ok h, zeros_ok (by omega), (fun c s hs => by rw [hg] at hs; cases hs), fun c hc _ => ?_, fun s hl _ => ?_⟩
 ·show houseStart.at c = _
  unfold houseStart
  rw [zeros_at]
  have : (Mach.start (poolStart n) n).e.of c = ([], []) := by
   show (List.replicate 6 ([], [])).getD c ([], []) = _
   rw [List.getD_eq_getElem?_getD, List.getElem?_replicate]; split <;> rfl
  rw [this]; rfl
 ·show ((⟨[], List.replicate n Sess.zero⟩ : Wd).at s).st = 0
  rw [zeros_at]; rfl
theorem pool_house {n : Nat} (h : n ≤ 8) (mode : Int) {l : List Act} (hl : actsE l = 0) : Alike ((Mach.start (poolStart n) n).run poolO mode l) ((Mach.start houseStart n).run houseO mode l) :=
 (start_alike h).run (start_ok _ _ _) hl
end Go.Proofs.YtpbaobmegomfpabGreatDoor
namespace Go.Proofs.YtpbaobmegomfpabGreatDoor
open Go.RowKit
structure D where
 w : Wd
 sent : List ByteArray
 deeds : List Deed
def D.tell (d : D) (c : Nat) (a : Ans) (st : Int) : D := { d with sent := d.sent.set c (d.sent.getD c ⟨#[]⟩ ++ ansM a st) }
def D.one (mode : Int) (c : Nat) (d : D) (r : Req) : D :=
 if refB mode r then d.tell c ⟨4, refuse mode r⟩ (d.w.at c).st
 else D.tell ⟨(doM d.w c r.k r.key r.val).1, d.sent, d.deeds ++ [⟨c, r, (doM d.w c r.k r.key r.val).2, ((doM d.w c r.k r.key r.val).1.at c).st⟩]⟩ c (doM d.w c r.k r.key r.val).2 ((doM d.w c r.k r.key r.val).1.at c).st
def Mach.d (m : Mach Wd) : D := ⟨m.e, m.sent, m.deeds⟩
section
variable {m : Mach Wd} {mode : Int} {c : Nat}
theorem proc_d {r : Req} {l : List Req} (hw : (m.get c).wait = r :: l) : (m.proc houseO mode c).d = m.d.one mode c r := by
 unfold Mach.proc D.one
 rw [hw]
 simp only
 by_cases hf : refB mode r = true
 ·rw [if_pos hf, if_pos hf]; rfl
 ·rw [if_neg hf, if_neg hf]
  split <;> rfl
theorem proc_cl (hc : c < m.cl.length) {r : Req} {l : List Req} (hw : (m.get c).wait = r :: l) (d : Nat) : (m.proc houseO mode c).get d = (if c = d then { m.get c with wait := l, srv := if refB mode r = false ∧ mode ≠ 1 ∧ ((m.proc houseO mode c).e.at c).st = 0 then none else (m.get c).srv } else m.get d) := by
 have hg : ∀ (q : Mach Wd) x, q.cl = m.cl.set c x → q.get d = if c = d then x else m.get d := fun q x hq => by unfold Mach.get; rw [hq]; exact get_cl hc
 unfold Mach.proc
 rw [hw]
 simp only
 by_cases hf : refB mode r = true
 ·rw [if_pos hf, hg _ { m.get c with wait := l } rfl, hf]
  by_cases e : c = d
  ·rw [if_pos e, if_pos e]; simp
  ·rw [if_neg e, if_neg e]
 ·rw [if_neg hf]
  have hf' : refB mode r = false := by simpa using hf
  generalize hx : houseO.exec m.e c ((m.get c).srv.getD 0) r = x
  have hst : x.2.2 = (x.1.at c).st := by rw [← hx]; rfl
  by_cases hm : mode ≠ 1 ∧ x.2.2 = 0
  ·rw [if_pos hm]
   have e1 : (Mach.release houseO (Mach.tell { m.set c { m.get c with wait := l } with e := x.1, deeds := m.deeds ++ [⟨c, r, x.2.1, x.2.2⟩] } c x.2.1 x.2.2) c ((m.get c).srv.getD 0)).cl = m.cl.set c { m.get c with wait := l, srv := none } := by
    show (m.cl.set c _).set c _ = _
    rw [List.set_set]
    show m.cl.set c { (m.set c { m.get c with wait := l }).get c with srv := none } = _
    rw [get_set hc, if_pos rfl]
   rw [hg _ _ e1]
   by_cases e : c = d
   ·rw [if_pos e, if_pos e, if_pos ⟨hf', hm.1, by show (x.1.at c).st = 0; rw [← hst]; exact hm.2⟩]
   ·rw [if_neg e, if_neg e]
  ·rw [if_neg hm, hg _ { m.get c with wait := l } rfl]
   by_cases e : c = d
   ·rw [if_pos e, if_pos e, if_neg (fun hh => hm ⟨hh.2.1, by rw [hst]; exact hh.2.2⟩)]
   ·rw [if_neg e, if_neg e]
end
end Go.Proofs.YtpbaobmegomfpabGreatDoor
