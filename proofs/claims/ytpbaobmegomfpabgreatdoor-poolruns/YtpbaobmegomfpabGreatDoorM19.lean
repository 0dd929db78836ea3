/-
  Texts of the proof, one behind the other: BDo.
-/
import Derived.Test.YtpbaobmegomfpabGreatDoorM16
import Derived.Test.YtpbaobmegomfpabGreatDoorM17
import Derived.Test.YtpbaobmegomfpabGreatDoorM18
set_option linter.unusedVariables false
set_option linter.unusedSimpArgs false
set_option maxRecDepth 100000
open List renaming getElem_toArray → gTA, getElem_cons_zero → gCZ, getElem_cons_succ → gCS, setIfInBounds_toArray → sTA, set_cons_zero → sCZ, set_cons_succ → sCS
open Go.Lib renaming hid → jD
open Nat renaming le_refl → nL
namespace Go.Proofs.YtpbaobmegomfpabGreatDoor
open Go.RowKit
def doBad (e : Int) : Value := .tuple #[.agg #[.slice none 0 0, .slice none 0 0], .agg #[.int .i64 0, .string ⟨#[]⟩, .int .i64 0], .int .i64 e]
def doGood (r s : Value) (a : Ans) (st : Int) : Value := .tuple #[.agg #[r, s], .agg #[.int .i64 a.kind, .string a.text, .int .i64 st], .int .i64 0]
def doW0 (w : World) (r s : Value) (k : Int) (key val : ByteArray) : World :=
 (((w.alloc (.cells #[r, s] 39)).alloc (.cells #[.int .i64 k, .string key, .string val] 41)).alloc (.cells #[.slice none 0 0, .slice none 0 0] 39)).alloc (.cells #[.int .i64 0, .string ⟨#[]⟩, .int .i64 0] 46)
structure DoAt (w w1 : World) (r s : Value) (k : Int) (key val : ByteArray) : Prop where
 X : RowTo w1 w.heap.size 39 2 [r, s]
 Y : RowTo w1 (w.heap.size + 1) 41 3 [.int .i64 k, .string key, .string val]
 R : RowTo w1 (w.heap.size + 1 + 1) 39 2 [.slice none 0 0, .slice none 0 0]
 A : RowTo w1 (w.heap.size + 1 + 1 + 1) 46 3 [.int .i64 0, .string ⟨#[]⟩, .int .i64 0]
 bel : Below w.heap.size w w1
 size : w.heap.size + 1 + 1 + 1 + 1 ≤ w1.heap.size
theorem doAt0 (w : World) (r s : Value) (k : Int) (key val : ByteArray) : DoAt w (doW0 w r s k key val) r s k key val := by
 unfold doW0
 refine ⟨(((RowTo.whole w #[r, s] _).alloc _).alloc _).alloc _, ?_, ?_, ?_, ?_, by simp⟩
 ·have := ((RowTo.whole (w.alloc (.cells #[r, s] 39)) #[.int .i64 k, .string key, .string val] 41).alloc (.cells #[.slice none 0 0, .slice none 0 0] 39)).alloc (.cells #[.int .i64 0, .string ⟨#[]⟩, .int .i64 0] 46)
  simpa using this
 ·have := (RowTo.whole ((w.alloc (.cells #[r, s] 39)).alloc (.cells #[.int .i64 k, .string key, .string val] 41)) #[.slice none 0 0, .slice none 0 0] 39).alloc (.cells #[.int .i64 0, .string ⟨#[]⟩, .int .i64 0] 46)
  simpa using this
 ·have := RowTo.whole (((w.alloc (.cells #[r, s] 39)).alloc (.cells #[.int .i64 k, .string key, .string val] 41)).alloc (.cells #[.slice none 0 0, .slice none 0 0] 39)) #[.int .i64 0, .string ⟨#[]⟩, .int .i64 0] 46
  simpa using this
 ·repeat' (first | exact Below.refl _ _ | assumption | with_reducible refine below_drewN ?_ _ | with_reducible refine Below.drew ?_ | with_reducible refine Below.setCell ?_ ?_ _ | with_reducible refine Below.alloc ?_ ?_ _ | (simp; done) | (simp; omega))
theorem DoAt.below {w w1 w2 : World} {r s : Value} {k : Int} {key val : ByteArray} (h : DoAt w w1 r s k key val) (hb : Below w1.heap.size w1 w2) : DoAt w w2 r s k key val :=
 ⟨h.X.below hb h.X.lt, h.Y.below hb h.Y.lt, h.R.below hb h.R.lt, h.A.below hb h.A.lt, bel_add' h.bel hb h.bel.size, Nat.le_trans h.size hb.size⟩
def NoTwo (w : World) (R : Nat) : Prop := ∀ j x y, w.cell? ⟨R, j, none⟩ = some (.string x) → w.cell? ⟨R, j + 1, none⟩ ≠ some (.string y)
theorem Lst.offN {w w' : World} {B R : Nat} {v : Value} {l : PL} (hR : NoTwo w R) (h : Lst w B v l) (hk : ∀ b, b ≠ R → w'.heap[b]? = w.heap[b]?) : Lst w' B v l := by
 refine ⟨h.form, h.bytes, h.sizes, fun hn => ?_, h.nil⟩
 obtain ⟨b, off, c, e, hb, hc⟩ := h.cells hn
 have hne : b ≠ R := by
  rintro rfl
  obtain ⟨h1, h2⟩ := hc 0 hn
  rw [Nat.zero_mul, Nat.add_zero] at h1 h2
  exact hR _ _ _ h1 h2
 exact ⟨b, off, c, e, hb, fun i hi => ⟨(World.cell?_of_block (hk b hne)).trans (hc i hi).1, (World.cell?_of_block (hk b hne)).trans (hc i hi).2⟩⟩
structure EndR (w : World) (base X S : Nat) (r : Value) (W : Wd) : Prop where
 box : RowTo w X 39 2 [r, slc S W.ss.length W.ss.length] ∧ Wld w w.heap.size r (slc S W.ss.length W.ss.length) W ∧ LoV base r
 blk : RowTo w S 115 (W.ss.length * 5) []
 loX : base ≤ X
 loS : base ≤ S
 los : ∀ k j v, k < W.ss.length → j < 4 → w.cell? ⟨S, k * 5 + (j + 1), none⟩ = some v → LoV base v
theorem EndW.r {w : World} {base X S : Nat} {W : Wd} (h : EndW w base X S W) : ∃ r, EndR w base X S r W := by
 obtain ⟨r, hb⟩ := h.box
 exact ⟨r, hb, h.blk, h.loX, h.loS, h.los⟩
theorem EndR.offN {w w' : World} {base X S R : Nat} {r : Value} {W : Wd} (h : EndR w base X S r W) (hX : X ≠ R) (hS : S ≠ R) (hR : NoTwo w R) (hs : w'.heap.size = w.heap.size) (hk : ∀ b, b ≠ R → w'.heap[b]? = w.heap[b]?) : EndR w' base X S r W := by
 obtain ⟨hbox, ⟨hr, hss⟩, hlr⟩ := h.box
 refine ⟨⟨hbox.same (hk X hX), ⟨?_, ?_⟩, hlr⟩, h.blk.same (hk S hS), h.loX, h.loS, fun k j v hk' hj hv => h.los k j v hk' hj ((World.cell?_of_block (hk S hS)).symm.trans hv)⟩
 ·rw [hs]; exact hr.offN hR hk
 ·rw [hs]
  refine ⟨hss.form, hss.bytes, fun hn => ?_⟩
  obtain ⟨b, off, c, e, hb, hc⟩ := hss.cells hn
  refine ⟨b, off, c, e, hb, fun i hi => ?_⟩
  obtain ⟨v1, v2, v3, v4, q⟩ := hc i hi
  have hbS : b = S := by unfold slc at e; injection e with e; injection e with e; injection e with e; exact e.symm
  have cs : ∀ j, w'.cell? ⟨b, j, none⟩ = w.cell? ⟨b, j, none⟩ := fun j => World.cell?_of_block (hk b (by rw [hbS]; exact hS))
  exact ⟨v1, v2, v3, v4, (cs _).trans q.c0, (cs _).trans q.c1, (cs _).trans q.c2, (cs _).trans q.c3, (cs _).trans q.c4, q.l1.offN hR hk, q.l2.offN hR hk, q.l3.offN hR hk, q.l4.offN hR hk⟩
theorem EndR.below {w w' : World} {base X S : Nat} {r : Value} {W : Wd} (h : EndR w base X S r W) (hb : Below w.heap.size w w') : EndR w' base X S r W := by
 obtain ⟨hbox, hw, hlr⟩ := h.box
 exact ⟨⟨hbox.below hb hbox.lt, hw.step hb, hlr⟩, h.blk.below hb h.blk.lt, h.loX, h.loS, fun k j v hk hj hv => h.los k j v hk hj ((hb.cell (p := ⟨S, k * 5 + (j + 1), none⟩) h.blk.lt).symm.trans hv)⟩
theorem noTwo_answer {w : World} {R : Nat} {x y : Int} {s : ByteArray} (h : RowTo w R 46 3 [.int .i64 x, .string s, .int .i64 y]) : NoTwo w R := by
 intro j a b h1 h2
 have r0 := h.cell (j := 0) (by simp)
 have r2 := h.cell (j := 2) (by simp)
 simp only [gCZ, gCS] at r0 r2
 rcases Nat.lt_or_ge j 3 with hj | hj
 ·obtain rfl | rfl | rfl : j = 0 ∨ j = 1 ∨ j = 2 := by omega
  ·rw [r0] at h1; cases h1
  ·rw [r2] at h2; cases h2
  ·rw [r2] at h1; cases h1
 ·rw [h.out_ hj] at h1; cases h1
theorem noTwo_world {w : World} {R t : Nat} {a b : Option Addr} {n m c d : Nat} (h : RowTo w R t 2 [.slice a n c, .slice b m d]) : NoTwo w R := by
 intro j x y h1 h2
 have r0 := h.cell (j := 0) (by simp)
 have r1 := h.cell (j := 1) (by simp)
 simp only [gCZ, gCS] at r0 r1
 rcases Nat.lt_or_ge j 2 with hj | hj
 ·obtain rfl | rfl : j = 0 ∨ j = 1 := by omega
  ·rw [r0] at h1; cases h1
  ·rw [r1] at h1; cases h1
 ·rw [h.out_ hj] at h1; cases h1
theorem EndR.sess {w : World} {base X S : Nat} {r : Value} {W : Wd} (h : EndR w base X S r W) {i : Nat} (hi : i < W.ss.length) : ∃ v1 v2 v3 v4, Ses w w.heap.size S (i * 5) W.ss[i] v1 v2 v3 v4 := by
 obtain ⟨hbox, ⟨hr, hss⟩, hlr⟩ := h.box
 obtain ⟨b, off, c, e, hb, hc⟩ := hss.cells (by omega)
 unfold slc at e
 injection e with e
 injection e with e
 injection e with e1 e2
 subst e1
 subst e2
 have := hc i hi
 rw [Nat.zero_add] at this
 exact this
theorem EndR.noTwo {w : World} {base X S : Nat} {r : Value} {W : Wd} (h : EndR w base X S r W) : NoTwo w S := by
 intro j x y h1 h2
 rcases Nat.lt_or_ge j (W.ss.length * 5) with hj | hj
 ·obtain ⟨v1, v2, v3, v4, q⟩ := h.sess (i := j / 5) (by omega)
  have hm : j % 5 = 0 ∨ j % 5 = 1 ∨ j % 5 = 2 ∨ j % 5 = 3 ∨ j % 5 = 4 := by omega
  rcases hm with hm | hm | hm | hm | hm
  ·have := q.c0; rw [show j / 5 * 5 = j by omega, h1] at this; cases this
  ·have := q.c1; rw [show j / 5 * 5 + 1 = j by omega, h1] at this; obtain ⟨a, c, e, _⟩ := q.l1.form; rw [e] at this; cases this
  ·have := q.c2; rw [show j / 5 * 5 + 2 = j by omega, h1] at this; obtain ⟨a, c, e, _⟩ := q.l2.form; rw [e] at this; cases this
  ·have := q.c3; rw [show j / 5 * 5 + 3 = j by omega, h1] at this; obtain ⟨a, c, e, _⟩ := q.l3.form; rw [e] at this; cases this
  ·have := q.c4; rw [show j / 5 * 5 + 4 = j by omega, h1] at this; obtain ⟨a, c, e, _⟩ := q.l4.form; rw [e] at this; cases this
 ·rw [h.blk.out_ hj] at h1; cases h1
theorem EndR.failed {w : World} {base X S : Nat} {r : Value} {W : Wd} (h : EndR w base X S r W) {i : Nat} (hi : i < W.ss.length) (hne : X ≠ S) :
  EndR ((w.setCell ⟨S, i * 5, none⟩ (.int .i64 2)).setCell ⟨S, i * 5 + 4, none⟩ (.slice none 0 0)) base X S r (W.put i { W.ss[i] with st := 2, wr := [] }) := by
 have hn := h.noTwo
 have hk : ∀ b, b ≠ S → ((w.setCell ⟨S, i * 5, none⟩ (.int .i64 2)).setCell ⟨S, i * 5 + 4, none⟩ (.slice none 0 0)).heap[b]? = w.heap[b]? := fun b hb => by rw [Below.heap_setCell _ _ _ _ hb, Below.heap_setCell _ _ _ _ hb]
 have hs : ((w.setCell ⟨S, i * 5, none⟩ (.int .i64 2)).setCell ⟨S, i * 5 + 4, none⟩ (.slice none 0 0)).heap.size = w.heap.size := by simp [World.setCell]
 have hl : (W.put i { W.ss[i] with st := 2, wr := [] }).ss.length = W.ss.length := by unfold Wd.put; simp
 have hall := fun q (hq : q < W.ss.length) => h.sess hq
 obtain ⟨hbox, ⟨hr, hss⟩, hlr⟩ := h.box
 have c0 : ((w.setCell ⟨S, i * 5, none⟩ (.int .i64 2)).setCell ⟨S, i * 5 + 4, none⟩ (.slice none 0 0)).cell? ⟨S, i * 5, none⟩ = some (.int .i64 2) := by
  rw [cell_off _ (by omega)]; exact cell_put h.blk (by omega) _
 have c4 : ((w.setCell ⟨S, i * 5, none⟩ (.int .i64 2)).setCell ⟨S, i * 5 + 4, none⟩ (.slice none 0 0)).cell? ⟨S, i * 5 + 4, none⟩ = some (.slice none 0 0) := cell_put (h.blk.hit _) (by omega) _
 have co : ∀ j, j ≠ i * 5 → j ≠ i * 5 + 4 → ((w.setCell ⟨S, i * 5, none⟩ (.int .i64 2)).setCell ⟨S, i * 5 + 4, none⟩ (.slice none 0 0)).cell? ⟨S, j, none⟩ = w.cell? ⟨S, j, none⟩ := fun j h1 h2 => by rw [cell_off _ h2, cell_off _ h1]
 refine ⟨⟨by rw [hl]; exact hbox.same (hk X hne), ⟨?_, ?_⟩, hlr⟩, by rw [hl]; exact (h.blk.hit _).hit _, h.loX, h.loS, fun k j v hk' hj hv => ?_⟩
 ·rw [hs]; exact hr.offN hn hk
 ·rw [hs]
  refine ⟨⟨_, _, rfl, nL _⟩, by rw [hl]; exact hss.bytes, fun _ => ⟨S, 0, _, rfl, h.blk.lt, fun q hq => ?_⟩⟩
  rw [hl] at hq
  obtain ⟨v1, v2, v3, v4, z⟩ := hall q hq
  rw [Nat.zero_add]
  by_cases e : i = q
  ·subst e
   have eg : (W.put i { W.ss[i] with st := 2, wr := [] }).ss[i]'(by rw [hl]; exact hi) = { W.ss[i] with st := 2, wr := [] } := by simp [Wd.put]
   rw [eg]
   exact ⟨v1, v2, v3, .slice none 0 0, c0, (co _ (by omega) (by omega)).trans z.c1, (co _ (by omega) (by omega)).trans z.c2, (co _ (by omega) (by omega)).trans z.c3, c4, z.l1.offN hn hk, z.l2.offN hn hk, z.l3.offN hn hk, Lst.none_ _ _⟩
  ·have eg : (W.put i { W.ss[i] with st := 2, wr := [] }).ss[q]'(by rw [hl]; exact hq) = W.ss[q] := by simp [Wd.put, List.getElem_set_ne e]
   rw [eg]
   exact ⟨v1, v2, v3, v4, (co _ (by omega) (by omega)).trans z.c0, (co _ (by omega) (by omega)).trans z.c1, (co _ (by omega) (by omega)).trans z.c2, (co _ (by omega) (by omega)).trans z.c3, (co _ (by omega) (by omega)).trans z.c4, z.l1.offN hn hk, z.l2.offN hn hk, z.l3.offN hn hk, z.l4.offN hn hk⟩
 ·rw [hl] at hk'
  by_cases e : k * 5 + (j + 1) = i * 5 + 4
  ·rw [e, c4] at hv; injection hv with hv; rw [← hv]; exact LoV.non _ _ _
  ·rw [co _ (by omega) e] at hv; exact h.los k j v hk' hj hv
theorem wput_at_ {V : Wd} {i : Nat} {x : Sess} (h : i < V.ss.length) : (V.put i x).at i = x := by unfold Wd.at Wd.put; simp [List.getD_eq_getElem?_getD, List.getElem?_set_self h]
theorem OwnW.ownD {w : World} {base gR S X : Nat} {G : Nat → Nat → Nat} {W : Wd} {xs : List Value} (h : OwnW w base gR S G W) (hx : RowTo w X 39 2 xs) (hX : X < base) (hz : SzW W) :
  OwnD ((w.setCell ⟨X, 0, none⟩ (sl gR W.rows.length)).setCell ⟨X, 1, none⟩ (sl S W.ss.length)) X S gR W.rows.length G (fun i j => ((W.at i).li j).length) W := by
 have loG : ∀ i j, i < W.ss.length → j < 4 → X < G i j := fun i j hi hj => Nat.lt_of_lt_of_le hX (h.sess.lo i j hi hj)
 have hR := h.loR
 have hS := h.loS
 have cw : ∀ j, ((w.setCell ⟨X, 0, none⟩ (sl gR W.rows.length)).setCell ⟨X, 1, none⟩ (sl S W.ss.length)).cell? ⟨S, j, none⟩ = w.cell? ⟨S, j, none⟩ := fun j => by
  rw [World.cell?_setCell_other _ _ _ _ (fun e => by injection e with e; omega), World.cell?_setCell_other _ _ _ _ (fun e => by injection e with e; omega)]
 have hrow : RowTo ((w.setCell ⟨X, 0, none⟩ (sl gR W.rows.length)).setCell ⟨X, 1, none⟩ (sl S W.ss.length)) X 39 2 ([] ++ [sl gR W.rows.length] ++ [sl S W.ss.length]) :=
  (hx.nil.push (by simp) _ rfl).push (by simp) _ (by simp)
 refine ⟨hrow, ⟨(h.rows.other (by show X ≠ gR; omega) _).other (by show X ≠ gR; omega) _, nL _, by have := hz.rows.1; omega⟩, (h.sess.blk.other (by show X ≠ S; omega) _).other (by show X ≠ S; omega) _, fun i hi => (cw _).trans (h.sess.st i hi hi), fun i j hi hj => ?_, fun i j hi hj => ?_, by omega, by omega, h.neS, fun i j hi hj => by have := loG i j hi hj; omega, fun i j hi hj => h.sess.ne i j hi hj, fun i j hi hj => h.neG i j hi hj, fun i j i' j' hi hj hi' hj' e => h.sess.inj i j i' j' hi hj hi' hj' e⟩
 ·rw [cw, h.sess.cs i j hi hi hj, getD_at hi]; rfl
 ·rw [getD_at hi]
  have hg := loG i j hi hj
  exact ⟨((h.sess.ls i j hi hi hj).other (by show X ≠ G i j; omega) _).other (by show X ≠ G i j; omega) _, nL _, by have := (hz.li i j hi hj).1; omega⟩
set_option maxHeartbeats 2000000 in
theorem do_ok (r s : Value) (W : Wd) (i : Nat) (k : Int) (key val : ByteArray) (w : World) (hW : Wld w w.heap.size r s W) (hWo : Words w) (hkz : key.size ≤ maxLen) (hvz : val.size ≤ maxLen) (he : doE W i k key val = 0) :
  Calls Tryz.prog 23 #[.agg #[r, s], .int .i64 i, .agg #[.int .i64 k, .string key, .string val]] w fun e w' => ∃ r' s', e = .returned (doGood r' s' (doM W i k key val).2 ((doM W i k key val).1.at i).st) ∧ Wld w' w'.heap.size r' s' (doM W i k key val).1 ∧ Below w.heap.size w w' := by
 obtain ⟨A, c, rfl, hc⟩ := hW.sess.form
 obtain ⟨D, d, rfl, hd⟩ := hW.rows.form
 have HW := jD hW
 have HWo := jD hWo
 have t : (doE W i k key val != 0) = false := bne_eq_false_iff_eq.2 he
 obtain ⟨hwb, hi, hchk⟩ : worldB W = true ∧ i < W.ss.length ∧ checkE k key val = 0 := by
  unfold doE at he
  split at he
  ·cases he
  ·rename_i h1
   split at he
   ·cases he
   ·rename_i h2
    exact ⟨by simpa using h1, by omega, he⟩
 have hwo := worldB_iff.1 hwb
 have hz := worldOk_sz hwo
 have HZ := jD hz
 have HK := jD hchk
 have HWK := jD hwo
 clear hwb hwo hz hchk
 have H0 := jD (doAt0 w (.slice D W.rows.length d) (.slice A W.ss.length c) k key val)
 clear hW hWo he
 go_enter Tryz.func23, Tryz.ntmps23
 go_wp2_with fail
 refine (checkDo_any _ _ W i k key val _ (HW.out.step H0.out.bel) (HWo.out.below H0.out.bel) hkz hvz).mono ?_
 rintro e w1 ⟨rfl, hb1⟩
 have h1 := H0.out.below hb1
 have x0 := h1.X.cell (j := 0) (by simp)
 have x1 := h1.X.cell (j := 1) (by simp)
 have y0 := h1.Y.cell (j := 0) (by simp)
 have y1 := h1.Y.cell (j := 1) (by simp)
 have y2 := h1.Y.cell (j := 2) (by simp)
 simp only [gCZ, gCS] at x0 x1 y0 y1 y2
 have H1 := jD h1
 clear hb1 h1
 go_wp2_with fail
 refine (copy_any _ _ W _ (HW.out.step H1.out.bel)).mono ?_
 rintro e w2 ⟨gR, S, G, rfl, hown, hb2⟩
 have h2 := H1.out.below hb2
 have hD := hown.ownD h2.X (by have := H1.out.size; omega) HZ.out
 have hlo : LoD w.heap.size w.heap.size S gR G W.ss.length := ⟨nL _, by have := hown.loS; have := H1.out.size; omega, by have := hown.loR; have := H1.out.size; omega, fun i j hi hj => by have := hown.sess.lo i j hi hj; have := H1.out.size; omega⟩
 have HD := jD hD
 have HO := jD hown
 have H2 := jD h2
 have HLO := jD hlo
 obtain ⟨u0, x0⟩ := h2.X.any (j := 0) (by omega)
 obtain ⟨u1, x1⟩ := h2.X.any (j := 1) (by omega)
 have f0 := h2.X.frozen 0
 have f1 := h2.X.frozen 1
 have y0 := h2.Y.cell (j := 0) (by simp)
 have y1 := h2.Y.cell (j := 1) (by simp)
 have y2 := h2.Y.cell (j := 2) (by simp)
 simp only [gCZ, gCS] at y0 y1 y2
 clear hb2 h2 hD hown hlo
 unfold sl at HD ⊢
 go_wp2_with fail
 have hfine := didM_ok HWK.out hi HK.out
 have htx := (didM_ans HWK.out hi k key val).len
 obtain ⟨q, hq⟩ : ∃ q, q = didM W i k key val := ⟨_, rfl⟩
 have HE := jD (execute_any w.heap.size w.heap.size S gR W.rows.length G (fun i j => ((W.at i).li j).length) W i k key val _ HD.out HLO.out HWK.out (by have := H2.out.size; simp [World.setCell]; omega) hi HK.out (HWo.out.below ((H2.out.bel.setCell (nL _) _).setCell (nL _) _)))
 rw [← hq] at HE hfine htx
 refine HE.out.mono ?_
 rintro e w4 hp
 obtain rfl := hp.1
 have hsz : ∀ u v, ((w2.setCell ⟨w.heap.size, 0, none⟩ u).setCell ⟨w.heap.size, 1, none⟩ v).heap.size = w2.heap.size := fun u v => by simp [World.setCell]
 have hrest : ∀ b, w.heap.size < b → b < w.heap.size + 1 + 1 + 1 + 1 → w4.heap[b]? = w2.heap[b]? := fun b h1 h2 => by
  have h3 := H2.out.size
  have h4 := HO.out.loS
  have h5 := HO.out.loR
  have h6 := H1.out.size
  rw [hp.2.2.2 b (by rw [hsz]; omega) (by omega) (by omega) (by omega) (fun i j hi hj => by have := HO.out.sess.lo i j hi hj; omega), Below.heap_setCell _ _ _ _ (by show b ≠ w.heap.size; omega), Below.heap_setCell _ _ _ _ (by show b ≠ w.heap.size; omega)]
 have R4 := H2.out.R.same (hrest _ (by omega) (by omega))
 have A4 := H2.out.A.same (hrest _ (by omega) (by omega))
 obtain ⟨rv, hEnd⟩ := hp.2.1.r
 have hBel : Below w.heap.size w w4 := ((H2.out.bel.setCell (nL _) _).setCell (nL _) _).trans hp.2.2.1
 obtain ⟨hbox, hwl, hlr⟩ := hEnd.box
 have hqi : i < q.1.ss.length := by rw [hfine.2]; exact hi
 obtain ⟨v1, v2, v3, v4, hses⟩ := hEnd.sess hqi
 have hsi := hses.c0
 obtain ⟨rA, rc, rfl, _⟩ := hwl.rows.form
 have z0 := hbox.cell (j := 0) (by simp)
 have z1 := hbox.cell (j := 1) (by simp)
 simp only [gCZ, gCS] at z0 z1
 unfold slc at z1
 have hqi' : (i : Int) < (q.1.ss.length : Int) := by omega
 have hSw := hEnd.blk.lt
 have hXw := hbox.lt
 have fS0 := hEnd.blk.frozen (i * 5)
 have fS4 := hEnd.blk.frozen (i * 5 + 4)
 obtain ⟨u4, uS4⟩ := hEnd.blk.any (j := i * 5 + 4) (by omega)
 have hRw := R4.lt
 have hAw := A4.lt
 have hXS : w.heap.size ≠ S := fun e => by have := HO.out.loS; have := H1.out.size; omega
 have HP := jD hEnd
 have HB := jD hBel
 have HR := jD R4
 have HA := jD A4
 have HF := jD hfine
 have HQ := jD hq
 clear hp hrest R4 A4 hEnd hBel hbox hwl hlr hses hfine hq HE hsz x0 x1 f0 f1 y0 y1 y2
 unfold ansV
 have hRS : w.heap.size + 1 + 1 ≠ S := fun e => by have := HO.out.loS; have := H1.out.size; omega
 have hRS3 : w.heap.size + 1 + 1 + 1 ≠ S := fun e => by have := HO.out.loS; have := H1.out.size; omega
 by_cases hcase : q.2.kind = 4 ∧ q.1.ss[i].st = 1
 ·have c1 : (q.2.kind == 4) = true := beq_iff_eq.2 hcase.1
  have c2 : (q.1.ss[i].st == 1) = true := beq_iff_eq.2 hcase.2
  have HC := jD hcase
  clear hcase
  go_wp2
  have hE5 := (HP.out.failed hqi hXS).below ((Below.refl _ _).alloc (nL _) (.cells #[.int .i64 q.2.kind, .string q.2.text, .int .i64 0] 46))
  have hR5 := ((HR.out.other (p := ⟨S, i * 5, none⟩) (fun e => hRS e.symm) (.int .i64 2)).other (p := ⟨S, i * 5 + 4, none⟩) (fun e => hRS e.symm) (.slice none 0 0)).alloc (.cells #[.int .i64 q.2.kind, .string q.2.text, .int .i64 0] 46)
  have hA5' := ((HA.out.other (p := ⟨S, i * 5, none⟩) (fun e => hRS3 e.symm) (.int .i64 2)).other (p := ⟨S, i * 5 + 4, none⟩) (fun e => hRS3 e.symm) (.slice none 0 0)).alloc (.cells #[.int .i64 q.2.kind, .string q.2.text, .int .i64 0] 46)
  have hB5 := ((HB.out.setCell (p := ⟨S, i * 5, none⟩) HLO.out.s (.int .i64 2)).setCell (p := ⟨S, i * 5 + 4, none⟩) HLO.out.s (.slice none 0 0)).alloc (by simp [World.setCell]; omega) (.cells #[.int .i64 q.2.kind, .string q.2.text, .int .i64 0] 46)
  have hz5 : (((w4.setCell ⟨S, i * 5, none⟩ (.int .i64 2)).setCell ⟨S, i * 5 + 4, none⟩ (.slice none 0 0)).alloc (.cells #[.int .i64 q.2.kind, .string q.2.text, .int .i64 0] 46)).heap.size = w4.heap.size + 1 := by simp [World.setCell]
  have hNew := RowTo.whole ((w4.setCell ⟨S, i * 5, none⟩ (.int .i64 2)).setCell ⟨S, i * 5 + 4, none⟩ (.slice none 0 0)) #[.int .i64 q.2.kind, .string q.2.text, .int .i64 0] 46
  rw [show ((w4.setCell ⟨S, i * 5, none⟩ (.int .i64 2)).setCell ⟨S, i * 5 + 4, none⟩ (.slice none 0 0)).heap.size = w4.heap.size by simp [World.setCell]] at hNew
  have hq5 : i < (q.1.put i { q.1.ss[i] with st := 2, wr := [] }).ss.length := by rw [wput_len]; exact hqi
  have hst5 : (q.1.put i { q.1.ss[i] with st := 2, wr := [] }).ss[i].st = 2 := by simp [Wd.put]
  obtain ⟨u1, u2, u3, u5, hs5⟩ := hE5.sess hq5
  have s0 := hs5.c0
  rw [hst5] at s0
  have zn : ∀ j u, w4.cell? ⟨w.heap.size, j, none⟩ = some u → (((w4.setCell ⟨S, i * 5, none⟩ (.int .i64 2)).setCell ⟨S, i * 5 + 4, none⟩ (.slice none 0 0)).alloc (.cells #[.int .i64 q.2.kind, .string q.2.text, .int .i64 0] 46)).cell? ⟨w.heap.size, j, none⟩ = some u := fun j u h => by rw [World.cell?_alloc_lt _ _ _ (by simp [World.setCell]; omega), World.cell?_setCell_other _ _ _ _ (fun e => by injection e with e; exact hXS e.symm), World.cell?_setCell_other _ _ _ _ (fun e => by injection e with e; exact hXS e.symm)]; exact h
  have z0 := zn 0 _ z0
  have z1 := zn 1 _ z1
  have a0 := hNew.cell (j := 0) (by simp)
  have a1 := hNew.cell (j := 1) (by simp)
  simp only [gCZ, gCS] at a0 a1
  have hX5 : w.heap.size < (((w4.setCell ⟨S, i * 5, none⟩ (.int .i64 2)).setCell ⟨S, i * 5 + 4, none⟩ (.slice none 0 0)).alloc (.cells #[.int .i64 q.2.kind, .string q.2.text, .int .i64 0] 46)).heap.size := by rw [hz5]; omega
  have hA5 : w4.heap.size < (((w4.setCell ⟨S, i * 5, none⟩ (.int .i64 2)).setCell ⟨S, i * 5 + 4, none⟩ (.slice none 0 0)).alloc (.cells #[.int .i64 q.2.kind, .string q.2.text, .int .i64 0] 46)).heap.size := by rw [hz5]; omega
  have hS5 : S < (((w4.setCell ⟨S, i * 5, none⟩ (.int .i64 2)).setCell ⟨S, i * 5 + 4, none⟩ (.slice none 0 0)).alloc (.cells #[.int .i64 q.2.kind, .string q.2.text, .int .i64 0] 46)).heap.size := by rw [hz5]; omega
  have HDM := jD (show doM W i k key val = (q.1.put i { q.1.ss[i] with st := 2, wr := [] }, q.2) by rw [doM, ← HQ.out]; simp only [getD_at hqi]; rw [if_pos HC.out])
  have hXR : w.heap.size ≠ w.heap.size + 1 + 1 := by omega
  have hAR : w4.heap.size ≠ w.heap.size + 1 + 1 := by omega
  have hSR : S ≠ w.heap.size + 1 + 1 := fun e => hRS e.symm
  have hXA : w.heap.size ≠ w.heap.size + 1 + 1 + 1 := by omega
  have hAA : w4.heap.size ≠ w.heap.size + 1 + 1 + 1 := by omega
  have hSA : S ≠ w.heap.size + 1 + 1 + 1 := fun e => hRS3 e.symm
  have HR5 := jD hR5
  have HA5 := jD hA5'
  have HE5 := jD hE5
  have HB5 := jD hB5
  have hRw5 := hR5.lt
  have hAw5 := hA5'.lt
  clear hR5 hA5' hE5 hB5 zn hz5 hNew hs5 hst5 hq5
  generalize ((w4.setCell ⟨S, i * 5, none⟩ (.int .i64 2)).setCell ⟨S, i * 5 + 4, none⟩ (.slice none 0 0)).alloc (.cells #[.int .i64 q.2.kind, .string q.2.text, .int .i64 0] 46) = W5 at *
  have kb := Below.refl W5.heap.size W5
  have HS := jD (show W5.drew.cell? ⟨w.heap.size, 0, none⟩ = some (.slice rA q.1.rows.length rc) ∧ W5.drew.cell? ⟨w.heap.size, 1, none⟩ = some (.slice (some ⟨S, 0, none⟩) q.1.ss.length q.1.ss.length) ∧ W5.drew.cell? ⟨w4.heap.size, 0, none⟩ = some (.int .i64 q.2.kind) ∧ W5.drew.cell? ⟨w4.heap.size, 1, none⟩ = some (.string q.2.text) ∧ W5.drew.cell? ⟨S, i * 5, none⟩ = some (.int .i64 2) from ⟨z0, z1, a0, a1, s0⟩)
  go_region_held3 (fun wx => wx.cell? ⟨w.heap.size, 0, none⟩ = some (.slice rA q.1.rows.length rc) ∧ wx.cell? ⟨w.heap.size, 1, none⟩ = some (.slice (some ⟨S, 0, none⟩) q.1.ss.length q.1.ss.length) ∧ wx.cell? ⟨w4.heap.size, 0, none⟩ = some (.int .i64 q.2.kind) ∧ wx.cell? ⟨w4.heap.size, 1, none⟩ = some (.string q.2.text) ∧ wx.cell? ⟨S, i * 5, none⟩ = some (.int .i64 2))
   (first
    | with_reducible exact ⟨z0, z1, a0, a1, s0⟩
    | with_reducible exact HS.out
    | with_reducible exact ⟨(kb.cell (p := ⟨w.heap.size, 0, none⟩) hX5).trans z0, (kb.cell (p := ⟨w.heap.size, 1, none⟩) hX5).trans z1, (kb.cell (p := ⟨w4.heap.size, 0, none⟩) hA5).trans a0, (kb.cell (p := ⟨w4.heap.size, 1, none⟩) hA5).trans a1, (kb.cell (p := ⟨S, i * 5, none⟩) hS5).trans s0⟩
    | with_reducible exact ⟨cell_set3 (cell_set2 ((kb.cell (p := ⟨w.heap.size, 0, none⟩) hX5).trans z0) hXR) hXA, cell_set3 (cell_set2 ((kb.cell (p := ⟨w.heap.size, 1, none⟩) hX5).trans z1) hXR) hXA, cell_set3 (cell_set2 ((kb.cell (p := ⟨w4.heap.size, 0, none⟩) hA5).trans a0) hAR) hAA, cell_set3 (cell_set2 ((kb.cell (p := ⟨w4.heap.size, 1, none⟩) hA5).trans a1) hAR) hAA, cell_set3 (cell_set2 ((kb.cell (p := ⟨S, i * 5, none⟩) hS5).trans s0) hSR) hSA⟩
    | with_reducible exact ⟨cell_set2 ((kb.cell (p := ⟨w.heap.size, 0, none⟩) hX5).trans z0) hXR, cell_set2 ((kb.cell (p := ⟨w.heap.size, 1, none⟩) hX5).trans z1) hXR, cell_set2 ((kb.cell (p := ⟨w4.heap.size, 0, none⟩) hA5).trans a0) hAR, cell_set2 ((kb.cell (p := ⟨w4.heap.size, 1, none⟩) hA5).trans a1) hAR, cell_set2 ((kb.cell (p := ⟨S, i * 5, none⟩) hS5).trans s0) hSR⟩)
   (first
    | (
     go_at_call 46
     refine (clone_any q.2.text _ (by omega)).mono ?_
     rintro e w6 ⟨rfl, hy⟩
     have kb : Below W5.heap.size W5 w6 := by first | exact hy | exact bel_addN kb hy kb.size | exact bel_add kb hy kb.size
     have R6 := HR5.out.below kb hRw5
     have A6 := HA5.out.below kb hAw5
     have r0 := R6.cell (j := 0) (by simp)
     have r1 := R6.cell (j := 1) (by simp)
     have b0 := A6.cell (j := 0) (by simp)
     have b1 := A6.cell (j := 1) (by simp)
     have b2 := A6.cell (j := 2) (by simp)
     have g0 := R6.frozen 0
     have g1 := R6.frozen 1
     have k0 := A6.frozen 0
     have k1 := A6.frozen 1
     have k2 := A6.frozen 2
     simp only [gCZ, gCS] at r0 r1 b0 b1 b2))
  all_goals go_wp2
  all_goals refine bodyPost_ret (v := doGood (.slice rA q.1.rows.length rc) (.slice (some ⟨S, 0, none⟩) q.1.ss.length q.1.ss.length) q.2 2) (by simp [results, Tryz.results23, go_sem, r0, r1, b0, b1, b2, doGood]) rfl ?_
  all_goals
   have hk1 : ∀ b, b ≠ w.heap.size + 1 + 1 → ((w6.setCell ⟨w.heap.size + 1 + 1, 0, none⟩ (.slice rA q.1.rows.length rc)).setCell ⟨w.heap.size + 1 + 1, 1, none⟩ (.slice (some ⟨S, 0, none⟩) q.1.ss.length q.1.ss.length)).heap[b]? = w6.heap[b]? := fun b hb => by rw [Below.heap_setCell _ _ _ _ hb, Below.heap_setCell _ _ _ _ hb]
   have e1 := (HE5.out.below kb).offN (R := w.heap.size + 1 + 1) (by omega) hSR (noTwo_world R6) (by simp [World.setCell]) hk1
   have A7 := (A6.other (p := ⟨w.heap.size + 1 + 1, 0, none⟩) (by show w.heap.size + 1 + 1 ≠ _; omega) (.slice rA q.1.rows.length rc)).other (p := ⟨w.heap.size + 1 + 1, 1, none⟩) (by show w.heap.size + 1 + 1 ≠ _; omega) (.slice (some ⟨S, 0, none⟩) q.1.ss.length q.1.ss.length)
   have hk2 : ∀ (x y z : Value) b, b ≠ w.heap.size + 1 + 1 + 1 → (((((w6.setCell ⟨w.heap.size + 1 + 1, 0, none⟩ (.slice rA q.1.rows.length rc)).setCell ⟨w.heap.size + 1 + 1, 1, none⟩ (.slice (some ⟨S, 0, none⟩) q.1.ss.length q.1.ss.length)).setCell ⟨w.heap.size + 1 + 1 + 1, 0, none⟩ x).setCell ⟨w.heap.size + 1 + 1 + 1, 1, none⟩ y).setCell ⟨w.heap.size + 1 + 1 + 1, 2, none⟩ z).heap[b]? = ((w6.setCell ⟨w.heap.size + 1 + 1, 0, none⟩ (.slice rA q.1.rows.length rc)).setCell ⟨w.heap.size + 1 + 1, 1, none⟩ (.slice (some ⟨S, 0, none⟩) q.1.ss.length q.1.ss.length)).heap[b]? := fun x y z b hb => by rw [Below.heap_setCell _ _ _ _ hb, Below.heap_setCell _ _ _ _ hb, Below.heap_setCell _ _ _ _ hb]
   have e2 := e1.offN (R := w.heap.size + 1 + 1 + 1) (w' := ((((w6.setCell ⟨w.heap.size + 1 + 1, 0, none⟩ (.slice rA q.1.rows.length rc)).setCell ⟨w.heap.size + 1 + 1, 1, none⟩ (.slice (some ⟨S, 0, none⟩) q.1.ss.length q.1.ss.length)).setCell ⟨w.heap.size + 1 + 1 + 1, 0, none⟩ (.int .i64 q.2.kind)).setCell ⟨w.heap.size + 1 + 1 + 1, 1, none⟩ (.string q.2.text)).setCell ⟨w.heap.size + 1 + 1 + 1, 2, none⟩ (.int .i64 2)) (by omega) (fun e => hRS3 e.symm) (noTwo_answer A7) (by simp [World.setCell]) (hk2 _ _ _)
   have bf := (((((HB5.out.trans (kb.mono (by omega))).setCell (p := ⟨w.heap.size + 1 + 1, 0, none⟩) (by show w.heap.size ≤ w.heap.size + 1 + 1; omega) (.slice rA q.1.rows.length rc)).setCell (p := ⟨w.heap.size + 1 + 1, 1, none⟩) (by show w.heap.size ≤ w.heap.size + 1 + 1; omega) (.slice (some ⟨S, 0, none⟩) q.1.ss.length q.1.ss.length)).setCell (p := ⟨w.heap.size + 1 + 1 + 1, 0, none⟩) (by show w.heap.size ≤ w.heap.size + 1 + 1 + 1; omega) (.int .i64 q.2.kind)).setCell (p := ⟨w.heap.size + 1 + 1 + 1, 1, none⟩) (by show w.heap.size ≤ w.heap.size + 1 + 1 + 1; omega) (.string q.2.text)).setCell (p := ⟨w.heap.size + 1 + 1 + 1, 2, none⟩) (by show w.heap.size ≤ w.heap.size + 1 + 1 + 1; omega) (.int .i64 2)
   rw [HDM.out]
   refine ⟨.slice rA q.1.rows.length rc, .slice (some ⟨S, 0, none⟩) q.1.ss.length q.1.ss.length, (by simp only [wput_at_ hqi]), ?_, bf⟩
   have := e2.box.2.1
   rw [wput_len] at this
   exact this
 ·have HC := jD hcase
  cases c1 : (q.2.kind == 4)
  ·clear hcase
   go_wp2
   have hE5 := HP.out.below ((Below.refl _ _).alloc (nL _) (.cells #[.int .i64 q.2.kind, .string q.2.text, .int .i64 0] 46))
   have hR5 := HR.out.alloc (.cells #[.int .i64 q.2.kind, .string q.2.text, .int .i64 0] 46)
   have hA5' := HA.out.alloc (.cells #[.int .i64 q.2.kind, .string q.2.text, .int .i64 0] 46)
   have hB5 := HB.out.alloc (by omega) (.cells #[.int .i64 q.2.kind, .string q.2.text, .int .i64 0] 46)
   have hz5 : (w4.alloc (.cells #[.int .i64 q.2.kind, .string q.2.text, .int .i64 0] 46)).heap.size = w4.heap.size + 1 := by simp
   have hNew := RowTo.whole w4 #[.int .i64 q.2.kind, .string q.2.text, .int .i64 0] 46
   obtain ⟨u1, u2, u3, u5, hs5⟩ := hE5.sess hqi
   have s0 := hs5.c0
   have zn : ∀ j u, w4.cell? ⟨w.heap.size, j, none⟩ = some u → (w4.alloc (.cells #[.int .i64 q.2.kind, .string q.2.text, .int .i64 0] 46)).cell? ⟨w.heap.size, j, none⟩ = some u := fun j u h => by rw [World.cell?_alloc_lt _ _ _ hXw]; exact h
   have z0 := zn 0 _ z0
   have z1 := zn 1 _ z1
   have a0 := hNew.cell (j := 0) (by simp)
   have a1 := hNew.cell (j := 1) (by simp)
   simp only [gCZ, gCS] at a0 a1
   have hX5 : w.heap.size < (w4.alloc (.cells #[.int .i64 q.2.kind, .string q.2.text, .int .i64 0] 46)).heap.size := by rw [hz5]; omega
   have hA5 : w4.heap.size < (w4.alloc (.cells #[.int .i64 q.2.kind, .string q.2.text, .int .i64 0] 46)).heap.size := by rw [hz5]; omega
   have hS5 : S < (w4.alloc (.cells #[.int .i64 q.2.kind, .string q.2.text, .int .i64 0] 46)).heap.size := by rw [hz5]; omega
   have HDM := jD (show doM W i k key val = q by rw [doM, ← HQ.out]; simp only [getD_at hqi]; rw [if_neg HC.out])
   have hXR : w.heap.size ≠ w.heap.size + 1 + 1 := by omega
   have hAR : w4.heap.size ≠ w.heap.size + 1 + 1 := by omega
   have hSR : S ≠ w.heap.size + 1 + 1 := fun e => hRS e.symm
   have hXA : w.heap.size ≠ w.heap.size + 1 + 1 + 1 := by omega
   have hAA : w4.heap.size ≠ w.heap.size + 1 + 1 + 1 := by omega
   have hSA : S ≠ w.heap.size + 1 + 1 + 1 := fun e => hRS3 e.symm
   have HR5 := jD hR5
   have HA5 := jD hA5'
   have HE5 := jD hE5
   have HB5 := jD hB5
   have hRw5 := hR5.lt
   have hAw5 := hA5'.lt
   clear hR5 hA5' hE5 hB5 zn hz5 hNew hs5
   generalize w4.alloc (.cells #[.int .i64 q.2.kind, .string q.2.text, .int .i64 0] 46) = W5 at *
   have kb := Below.refl W5.heap.size W5
   have HS := jD (show W5.drew.cell? ⟨w.heap.size, 0, none⟩ = some (.slice rA q.1.rows.length rc) ∧ W5.drew.cell? ⟨w.heap.size, 1, none⟩ = some (.slice (some ⟨S, 0, none⟩) q.1.ss.length q.1.ss.length) ∧ W5.drew.cell? ⟨w4.heap.size, 0, none⟩ = some (.int .i64 q.2.kind) ∧ W5.drew.cell? ⟨w4.heap.size, 1, none⟩ = some (.string q.2.text) ∧ W5.drew.cell? ⟨S, i * 5, none⟩ = some (.int .i64 q.1.ss[i].st) from ⟨z0, z1, a0, a1, s0⟩)
   go_region_held3 (fun wx => wx.cell? ⟨w.heap.size, 0, none⟩ = some (.slice rA q.1.rows.length rc) ∧ wx.cell? ⟨w.heap.size, 1, none⟩ = some (.slice (some ⟨S, 0, none⟩) q.1.ss.length q.1.ss.length) ∧ wx.cell? ⟨w4.heap.size, 0, none⟩ = some (.int .i64 q.2.kind) ∧ wx.cell? ⟨w4.heap.size, 1, none⟩ = some (.string q.2.text) ∧ wx.cell? ⟨S, i * 5, none⟩ = some (.int .i64 q.1.ss[i].st))
    (first
     | with_reducible exact ⟨z0, z1, a0, a1, s0⟩
     | with_reducible exact HS.out
     | with_reducible exact ⟨(kb.cell (p := ⟨w.heap.size, 0, none⟩) hX5).trans z0, (kb.cell (p := ⟨w.heap.size, 1, none⟩) hX5).trans z1, (kb.cell (p := ⟨w4.heap.size, 0, none⟩) hA5).trans a0, (kb.cell (p := ⟨w4.heap.size, 1, none⟩) hA5).trans a1, (kb.cell (p := ⟨S, i * 5, none⟩) hS5).trans s0⟩
     | with_reducible exact ⟨cell_set3 (cell_set2 ((kb.cell (p := ⟨w.heap.size, 0, none⟩) hX5).trans z0) hXR) hXA, cell_set3 (cell_set2 ((kb.cell (p := ⟨w.heap.size, 1, none⟩) hX5).trans z1) hXR) hXA, cell_set3 (cell_set2 ((kb.cell (p := ⟨w4.heap.size, 0, none⟩) hA5).trans a0) hAR) hAA, cell_set3 (cell_set2 ((kb.cell (p := ⟨w4.heap.size, 1, none⟩) hA5).trans a1) hAR) hAA, cell_set3 (cell_set2 ((kb.cell (p := ⟨S, i * 5, none⟩) hS5).trans s0) hSR) hSA⟩
     | with_reducible exact ⟨cell_set2 ((kb.cell (p := ⟨w.heap.size, 0, none⟩) hX5).trans z0) hXR, cell_set2 ((kb.cell (p := ⟨w.heap.size, 1, none⟩) hX5).trans z1) hXR, cell_set2 ((kb.cell (p := ⟨w4.heap.size, 0, none⟩) hA5).trans a0) hAR, cell_set2 ((kb.cell (p := ⟨w4.heap.size, 1, none⟩) hA5).trans a1) hAR, cell_set2 ((kb.cell (p := ⟨S, i * 5, none⟩) hS5).trans s0) hSR⟩)
    (first
     | (
      go_at_call 46
      refine (clone_any q.2.text _ (by omega)).mono ?_
      rintro e w6 ⟨rfl, hy⟩
      have kb : Below W5.heap.size W5 w6 := by first | exact hy | exact bel_addN kb hy kb.size | exact bel_add kb hy kb.size
      have R6 := HR5.out.below kb hRw5
      have A6 := HA5.out.below kb hAw5
      have r0 := R6.cell (j := 0) (by simp)
      have r1 := R6.cell (j := 1) (by simp)
      have b0 := A6.cell (j := 0) (by simp)
      have b1 := A6.cell (j := 1) (by simp)
      have b2 := A6.cell (j := 2) (by simp)
      have g0 := R6.frozen 0
      have g1 := R6.frozen 1
      have k0 := A6.frozen 0
      have k1 := A6.frozen 1
      have k2 := A6.frozen 2
      simp only [gCZ, gCS] at r0 r1 b0 b1 b2))
   all_goals go_wp2
   all_goals refine bodyPost_ret (v := doGood (.slice rA q.1.rows.length rc) (.slice (some ⟨S, 0, none⟩) q.1.ss.length q.1.ss.length) q.2 q.1.ss[i].st) (by simp [results, Tryz.results23, go_sem, r0, r1, b0, b1, b2, doGood]) rfl ?_
   all_goals
    have hk1 : ∀ b, b ≠ w.heap.size + 1 + 1 → ((w6.setCell ⟨w.heap.size + 1 + 1, 0, none⟩ (.slice rA q.1.rows.length rc)).setCell ⟨w.heap.size + 1 + 1, 1, none⟩ (.slice (some ⟨S, 0, none⟩) q.1.ss.length q.1.ss.length)).heap[b]? = w6.heap[b]? := fun b hb => by rw [Below.heap_setCell _ _ _ _ hb, Below.heap_setCell _ _ _ _ hb]
    have e1 := (HE5.out.below kb).offN (R := w.heap.size + 1 + 1) (by omega) hSR (noTwo_world R6) (by simp [World.setCell]) hk1
    have A7 := (A6.other (p := ⟨w.heap.size + 1 + 1, 0, none⟩) (by show w.heap.size + 1 + 1 ≠ _; omega) (.slice rA q.1.rows.length rc)).other (p := ⟨w.heap.size + 1 + 1, 1, none⟩) (by show w.heap.size + 1 + 1 ≠ _; omega) (.slice (some ⟨S, 0, none⟩) q.1.ss.length q.1.ss.length)
    have hk2 : ∀ (x y z : Value) b, b ≠ w.heap.size + 1 + 1 + 1 → (((((w6.setCell ⟨w.heap.size + 1 + 1, 0, none⟩ (.slice rA q.1.rows.length rc)).setCell ⟨w.heap.size + 1 + 1, 1, none⟩ (.slice (some ⟨S, 0, none⟩) q.1.ss.length q.1.ss.length)).setCell ⟨w.heap.size + 1 + 1 + 1, 0, none⟩ x).setCell ⟨w.heap.size + 1 + 1 + 1, 1, none⟩ y).setCell ⟨w.heap.size + 1 + 1 + 1, 2, none⟩ z).heap[b]? = ((w6.setCell ⟨w.heap.size + 1 + 1, 0, none⟩ (.slice rA q.1.rows.length rc)).setCell ⟨w.heap.size + 1 + 1, 1, none⟩ (.slice (some ⟨S, 0, none⟩) q.1.ss.length q.1.ss.length)).heap[b]? := fun x y z b hb => by rw [Below.heap_setCell _ _ _ _ hb, Below.heap_setCell _ _ _ _ hb, Below.heap_setCell _ _ _ _ hb]
    have e2 := e1.offN (R := w.heap.size + 1 + 1 + 1) (w' := ((((w6.setCell ⟨w.heap.size + 1 + 1, 0, none⟩ (.slice rA q.1.rows.length rc)).setCell ⟨w.heap.size + 1 + 1, 1, none⟩ (.slice (some ⟨S, 0, none⟩) q.1.ss.length q.1.ss.length)).setCell ⟨w.heap.size + 1 + 1 + 1, 0, none⟩ (.int .i64 q.2.kind)).setCell ⟨w.heap.size + 1 + 1 + 1, 1, none⟩ (.string q.2.text)).setCell ⟨w.heap.size + 1 + 1 + 1, 2, none⟩ (.int .i64 q.1.ss[i].st)) (by omega) (fun e => hRS3 e.symm) (noTwo_answer A7) (by simp [World.setCell]) (hk2 _ _ _)
    have bf := (((((HB5.out.trans (kb.mono (by omega))).setCell (p := ⟨w.heap.size + 1 + 1, 0, none⟩) (by show w.heap.size ≤ w.heap.size + 1 + 1; omega) (.slice rA q.1.rows.length rc)).setCell (p := ⟨w.heap.size + 1 + 1, 1, none⟩) (by show w.heap.size ≤ w.heap.size + 1 + 1; omega) (.slice (some ⟨S, 0, none⟩) q.1.ss.length q.1.ss.length)).setCell (p := ⟨w.heap.size + 1 + 1 + 1, 0, none⟩) (by show w.heap.size ≤ w.heap.size + 1 + 1 + 1; omega) (.int .i64 q.2.kind)).setCell (p := ⟨w.heap.size + 1 + 1 + 1, 1, none⟩) (by show w.heap.size ≤ w.heap.size + 1 + 1 + 1; omega) (.string q.2.text)).setCell (p := ⟨w.heap.size + 1 + 1 + 1, 2, none⟩) (by show w.heap.size ≤ w.heap.size + 1 + 1 + 1; omega) (.int .i64 q.1.ss[i].st)
    rw [HDM.out]
    refine ⟨.slice rA q.1.rows.length rc, .slice (some ⟨S, 0, none⟩) q.1.ss.length q.1.ss.length, (by rw [getD_at hqi]), ?_, bf⟩
    have := e2.box.2.1
    exact this
  ·have c2 : (q.1.ss[i].st == 1) = false := beq_eq_false_iff_ne.2 fun h1 => hcase ⟨beq_iff_eq.1 c1, h1⟩
   clear hcase
   go_wp2
   have hE5 := HP.out.below ((Below.refl _ _).alloc (nL _) (.cells #[.int .i64 q.2.kind, .string q.2.text, .int .i64 0] 46))
   have hR5 := HR.out.alloc (.cells #[.int .i64 q.2.kind, .string q.2.text, .int .i64 0] 46)
   have hA5' := HA.out.alloc (.cells #[.int .i64 q.2.kind, .string q.2.text, .int .i64 0] 46)
   have hB5 := HB.out.alloc (by omega) (.cells #[.int .i64 q.2.kind, .string q.2.text, .int .i64 0] 46)
   have hz5 : (w4.alloc (.cells #[.int .i64 q.2.kind, .string q.2.text, .int .i64 0] 46)).heap.size = w4.heap.size + 1 := by simp
   have hNew := RowTo.whole w4 #[.int .i64 q.2.kind, .string q.2.text, .int .i64 0] 46
   obtain ⟨u1, u2, u3, u5, hs5⟩ := hE5.sess hqi
   have s0 := hs5.c0
   have zn : ∀ j u, w4.cell? ⟨w.heap.size, j, none⟩ = some u → (w4.alloc (.cells #[.int .i64 q.2.kind, .string q.2.text, .int .i64 0] 46)).cell? ⟨w.heap.size, j, none⟩ = some u := fun j u h => by rw [World.cell?_alloc_lt _ _ _ hXw]; exact h
   have z0 := zn 0 _ z0
   have z1 := zn 1 _ z1
   have a0 := hNew.cell (j := 0) (by simp)
   have a1 := hNew.cell (j := 1) (by simp)
   simp only [gCZ, gCS] at a0 a1
   have hX5 : w.heap.size < (w4.alloc (.cells #[.int .i64 q.2.kind, .string q.2.text, .int .i64 0] 46)).heap.size := by rw [hz5]; omega
   have hA5 : w4.heap.size < (w4.alloc (.cells #[.int .i64 q.2.kind, .string q.2.text, .int .i64 0] 46)).heap.size := by rw [hz5]; omega
   have hS5 : S < (w4.alloc (.cells #[.int .i64 q.2.kind, .string q.2.text, .int .i64 0] 46)).heap.size := by rw [hz5]; omega
   have HDM := jD (show doM W i k key val = q by rw [doM, ← HQ.out]; simp only [getD_at hqi]; rw [if_neg HC.out])
   have hXR : w.heap.size ≠ w.heap.size + 1 + 1 := by omega
   have hAR : w4.heap.size ≠ w.heap.size + 1 + 1 := by omega
   have hSR : S ≠ w.heap.size + 1 + 1 := fun e => hRS e.symm
   have hXA : w.heap.size ≠ w.heap.size + 1 + 1 + 1 := by omega
   have hAA : w4.heap.size ≠ w.heap.size + 1 + 1 + 1 := by omega
   have hSA : S ≠ w.heap.size + 1 + 1 + 1 := fun e => hRS3 e.symm
   have HR5 := jD hR5
   have HA5 := jD hA5'
   have HE5 := jD hE5
   have HB5 := jD hB5
   have hRw5 := hR5.lt
   have hAw5 := hA5'.lt
   clear hR5 hA5' hE5 hB5 zn hz5 hNew hs5
   generalize w4.alloc (.cells #[.int .i64 q.2.kind, .string q.2.text, .int .i64 0] 46) = W5 at *
   have kb := Below.refl W5.heap.size W5
   have HS := jD (show W5.drew.cell? ⟨w.heap.size, 0, none⟩ = some (.slice rA q.1.rows.length rc) ∧ W5.drew.cell? ⟨w.heap.size, 1, none⟩ = some (.slice (some ⟨S, 0, none⟩) q.1.ss.length q.1.ss.length) ∧ W5.drew.cell? ⟨w4.heap.size, 0, none⟩ = some (.int .i64 q.2.kind) ∧ W5.drew.cell? ⟨w4.heap.size, 1, none⟩ = some (.string q.2.text) ∧ W5.drew.cell? ⟨S, i * 5, none⟩ = some (.int .i64 q.1.ss[i].st) from ⟨z0, z1, a0, a1, s0⟩)
   go_region_held3 (fun wx => wx.cell? ⟨w.heap.size, 0, none⟩ = some (.slice rA q.1.rows.length rc) ∧ wx.cell? ⟨w.heap.size, 1, none⟩ = some (.slice (some ⟨S, 0, none⟩) q.1.ss.length q.1.ss.length) ∧ wx.cell? ⟨w4.heap.size, 0, none⟩ = some (.int .i64 q.2.kind) ∧ wx.cell? ⟨w4.heap.size, 1, none⟩ = some (.string q.2.text) ∧ wx.cell? ⟨S, i * 5, none⟩ = some (.int .i64 q.1.ss[i].st))
    (first
     | with_reducible exact ⟨z0, z1, a0, a1, s0⟩
     | with_reducible exact HS.out
     | with_reducible exact ⟨(kb.cell (p := ⟨w.heap.size, 0, none⟩) hX5).trans z0, (kb.cell (p := ⟨w.heap.size, 1, none⟩) hX5).trans z1, (kb.cell (p := ⟨w4.heap.size, 0, none⟩) hA5).trans a0, (kb.cell (p := ⟨w4.heap.size, 1, none⟩) hA5).trans a1, (kb.cell (p := ⟨S, i * 5, none⟩) hS5).trans s0⟩
     | with_reducible exact ⟨cell_set3 (cell_set2 ((kb.cell (p := ⟨w.heap.size, 0, none⟩) hX5).trans z0) hXR) hXA, cell_set3 (cell_set2 ((kb.cell (p := ⟨w.heap.size, 1, none⟩) hX5).trans z1) hXR) hXA, cell_set3 (cell_set2 ((kb.cell (p := ⟨w4.heap.size, 0, none⟩) hA5).trans a0) hAR) hAA, cell_set3 (cell_set2 ((kb.cell (p := ⟨w4.heap.size, 1, none⟩) hA5).trans a1) hAR) hAA, cell_set3 (cell_set2 ((kb.cell (p := ⟨S, i * 5, none⟩) hS5).trans s0) hSR) hSA⟩
     | with_reducible exact ⟨cell_set2 ((kb.cell (p := ⟨w.heap.size, 0, none⟩) hX5).trans z0) hXR, cell_set2 ((kb.cell (p := ⟨w.heap.size, 1, none⟩) hX5).trans z1) hXR, cell_set2 ((kb.cell (p := ⟨w4.heap.size, 0, none⟩) hA5).trans a0) hAR, cell_set2 ((kb.cell (p := ⟨w4.heap.size, 1, none⟩) hA5).trans a1) hAR, cell_set2 ((kb.cell (p := ⟨S, i * 5, none⟩) hS5).trans s0) hSR⟩)
    (first
     | (
      go_at_call 46
      refine (clone_any q.2.text _ (by omega)).mono ?_
      rintro e w6 ⟨rfl, hy⟩
      have kb : Below W5.heap.size W5 w6 := by first | exact hy | exact bel_addN kb hy kb.size | exact bel_add kb hy kb.size
      have R6 := HR5.out.below kb hRw5
      have A6 := HA5.out.below kb hAw5
      have r0 := R6.cell (j := 0) (by simp)
      have r1 := R6.cell (j := 1) (by simp)
      have b0 := A6.cell (j := 0) (by simp)
      have b1 := A6.cell (j := 1) (by simp)
      have b2 := A6.cell (j := 2) (by simp)
      have g0 := R6.frozen 0
      have g1 := R6.frozen 1
      have k0 := A6.frozen 0
      have k1 := A6.frozen 1
      have k2 := A6.frozen 2
      simp only [gCZ, gCS] at r0 r1 b0 b1 b2))
   all_goals go_wp2
   all_goals refine bodyPost_ret (v := doGood (.slice rA q.1.rows.length rc) (.slice (some ⟨S, 0, none⟩) q.1.ss.length q.1.ss.length) q.2 q.1.ss[i].st) (by simp [results, Tryz.results23, go_sem, r0, r1, b0, b1, b2, doGood]) rfl ?_
   all_goals
    have hk1 : ∀ b, b ≠ w.heap.size + 1 + 1 → ((w6.setCell ⟨w.heap.size + 1 + 1, 0, none⟩ (.slice rA q.1.rows.length rc)).setCell ⟨w.heap.size + 1 + 1, 1, none⟩ (.slice (some ⟨S, 0, none⟩) q.1.ss.length q.1.ss.length)).heap[b]? = w6.heap[b]? := fun b hb => by rw [Below.heap_setCell _ _ _ _ hb, Below.heap_setCell _ _ _ _ hb]
    have e1 := (HE5.out.below kb).offN (R := w.heap.size + 1 + 1) (by omega) hSR (noTwo_world R6) (by simp [World.setCell]) hk1
    have A7 := (A6.other (p := ⟨w.heap.size + 1 + 1, 0, none⟩) (by show w.heap.size + 1 + 1 ≠ _; omega) (.slice rA q.1.rows.length rc)).other (p := ⟨w.heap.size + 1 + 1, 1, none⟩) (by show w.heap.size + 1 + 1 ≠ _; omega) (.slice (some ⟨S, 0, none⟩) q.1.ss.length q.1.ss.length)
    have hk2 : ∀ (x y z : Value) b, b ≠ w.heap.size + 1 + 1 + 1 → (((((w6.setCell ⟨w.heap.size + 1 + 1, 0, none⟩ (.slice rA q.1.rows.length rc)).setCell ⟨w.heap.size + 1 + 1, 1, none⟩ (.slice (some ⟨S, 0, none⟩) q.1.ss.length q.1.ss.length)).setCell ⟨w.heap.size + 1 + 1 + 1, 0, none⟩ x).setCell ⟨w.heap.size + 1 + 1 + 1, 1, none⟩ y).setCell ⟨w.heap.size + 1 + 1 + 1, 2, none⟩ z).heap[b]? = ((w6.setCell ⟨w.heap.size + 1 + 1, 0, none⟩ (.slice rA q.1.rows.length rc)).setCell ⟨w.heap.size + 1 + 1, 1, none⟩ (.slice (some ⟨S, 0, none⟩) q.1.ss.length q.1.ss.length)).heap[b]? := fun x y z b hb => by rw [Below.heap_setCell _ _ _ _ hb, Below.heap_setCell _ _ _ _ hb, Below.heap_setCell _ _ _ _ hb]
    have e2 := e1.offN (R := w.heap.size + 1 + 1 + 1) (w' := ((((w6.setCell ⟨w.heap.size + 1 + 1, 0, none⟩ (.slice rA q.1.rows.length rc)).setCell ⟨w.heap.size + 1 + 1, 1, none⟩ (.slice (some ⟨S, 0, none⟩) q.1.ss.length q.1.ss.length)).setCell ⟨w.heap.size + 1 + 1 + 1, 0, none⟩ (.int .i64 q.2.kind)).setCell ⟨w.heap.size + 1 + 1 + 1, 1, none⟩ (.string q.2.text)).setCell ⟨w.heap.size + 1 + 1 + 1, 2, none⟩ (.int .i64 q.1.ss[i].st)) (by omega) (fun e => hRS3 e.symm) (noTwo_answer A7) (by simp [World.setCell]) (hk2 _ _ _)
    have bf := (((((HB5.out.trans (kb.mono (by omega))).setCell (p := ⟨w.heap.size + 1 + 1, 0, none⟩) (by show w.heap.size ≤ w.heap.size + 1 + 1; omega) (.slice rA q.1.rows.length rc)).setCell (p := ⟨w.heap.size + 1 + 1, 1, none⟩) (by show w.heap.size ≤ w.heap.size + 1 + 1; omega) (.slice (some ⟨S, 0, none⟩) q.1.ss.length q.1.ss.length)).setCell (p := ⟨w.heap.size + 1 + 1 + 1, 0, none⟩) (by show w.heap.size ≤ w.heap.size + 1 + 1 + 1; omega) (.int .i64 q.2.kind)).setCell (p := ⟨w.heap.size + 1 + 1 + 1, 1, none⟩) (by show w.heap.size ≤ w.heap.size + 1 + 1 + 1; omega) (.string q.2.text)).setCell (p := ⟨w.heap.size + 1 + 1 + 1, 2, none⟩) (by show w.heap.size ≤ w.heap.size + 1 + 1 + 1; omega) (.int .i64 q.1.ss[i].st)
    rw [HDM.out]
    refine ⟨.slice rA q.1.rows.length rc, .slice (some ⟨S, 0, none⟩) q.1.ss.length q.1.ss.length, (by rw [getD_at hqi]), ?_, bf⟩
    have := e2.box.2.1
    exact this
theorem do_any (r s : Value) (W : Wd) (i : Nat) (k : Int) (key val : ByteArray) (w : World) (hW : Wld w w.heap.size r s W) (hWo : Words w) (hok : WorldOk W) (hi : i < W.ss.length) (hc : checkE k key val = 0) :
  Calls Tryz.prog 23 #[.agg #[r, s], .int .i64 i, .agg #[.int .i64 k, .string key, .string val]] w fun e w' => ∃ r' s', e = .returned (doGood r' s' (doM W i k key val).2 ((doM W i k key val).1.at i).st) ∧ Wld w' w'.heap.size r' s' (doM W i k key val).1 ∧ Below w.heap.size w w' := by
 have g := good_of hc
 exact do_ok r s W i k key val w hW hWo (by have := g.key8; unfold maxLen; omega) (by have := g.v60; unfold maxLen; omega) (by
  unfold doE
  rw [if_neg (by rw [worldB_iff.2 hok]; simp), if_neg (by omega)]; exact hc)
end Go.Proofs.YtpbaobmegomfpabGreatDoor
