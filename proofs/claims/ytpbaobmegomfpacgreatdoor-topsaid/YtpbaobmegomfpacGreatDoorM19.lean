/-
  Texts of the proof, one behind the other: BDo, InP, WOff, Math4, PoolM.
-/
import Derived.Test.YtpbaobmegomfpacGreatDoorM16
import Derived.Test.YtpbaobmegomfpacGreatDoorM17
import Derived.Test.YtpbaobmegomfpacGreatDoorM18
import Derived.Test.YtpbaobmegomfpacGreatDoorM2
import Derived.Test.YtpbaobmegomfpacGreatDoorM1
set_option linter.unusedVariables false
set_option linter.unusedSimpArgs false
set_option maxRecDepth 100000
open List renaming getElem_toArray → gTA, getElem_cons_zero → gCZ, getElem_cons_succ → gCS, setIfInBounds_toArray → sTA, set_cons_zero → sCZ, set_cons_succ → sCS
open Nat renaming le_refl → nL
namespace Go.Proofs.YtpbaobmegomfpacGreatDoor
open Go.RowKit
def doBad (e : Int) : Value := .tuple #[.agg #[.slice none 0 0, .slice none 0 0], .agg #[.int .i64 0, .string ⟨#[]⟩, .int .i64 0], .int .i64 e]
def doGood (r s : Value) (a : Ans) (st : Int) : Value := .tuple #[.agg #[r, s], .agg #[.int .i64 a.kind, .string a.text, .int .i64 st], .int .i64 0]
def doW0 (w : World) (r s : Value) (k : Int) (key val : ByteArray) : World :=
 (((w.alloc (.cells #[r, s] 85)).alloc (.cells #[.int .i64 k, .string key, .string val] 36)).alloc (.cells #[.slice none 0 0, .slice none 0 0] 85)).alloc (.cells #[.int .i64 0, .string ⟨#[]⟩, .int .i64 0] 38)
structure DoAt (w w1 : World) (r s : Value) (k : Int) (key val : ByteArray) : Prop where
 X : RowTo w1 w.heap.size 85 2 [r, s]
 Y : RowTo w1 (w.heap.size + 1) 36 3 [.int .i64 k, .string key, .string val]
 R : RowTo w1 (w.heap.size + 1 + 1) 85 2 [.slice none 0 0, .slice none 0 0]
 A : RowTo w1 (w.heap.size + 1 + 1 + 1) 38 3 [.int .i64 0, .string ⟨#[]⟩, .int .i64 0]
 bel : Below w.heap.size w w1
 size : w.heap.size + 1 + 1 + 1 + 1 ≤ w1.heap.size
theorem doAt0 (w : World) (r s : Value) (k : Int) (key val : ByteArray) : DoAt w (doW0 w r s k key val) r s k key val := by
 unfold doW0
 refine ⟨(((RowTo.whole w #[r, s] _).alloc _).alloc _).alloc _, ?_, ?_, ?_, ?_, by simp⟩
 ·have := ((RowTo.whole (w.alloc (.cells #[r, s] 85)) #[.int .i64 k, .string key, .string val] 36).alloc (.cells #[.slice none 0 0, .slice none 0 0] 85)).alloc (.cells #[.int .i64 0, .string ⟨#[]⟩, .int .i64 0] 38)
  simpa using this
 ·have := (RowTo.whole ((w.alloc (.cells #[r, s] 85)).alloc (.cells #[.int .i64 k, .string key, .string val] 36)) #[.slice none 0 0, .slice none 0 0] 85).alloc (.cells #[.int .i64 0, .string ⟨#[]⟩, .int .i64 0] 38)
  simpa using this
 ·have := RowTo.whole (((w.alloc (.cells #[r, s] 85)).alloc (.cells #[.int .i64 k, .string key, .string val] 36)).alloc (.cells #[.slice none 0 0, .slice none 0 0] 85)) #[.int .i64 0, .string ⟨#[]⟩, .int .i64 0] 38
  simpa using this
 ·repeat' (first | exact Below.refl _ _ | assumption | with_reducible refine below_drewN ?_ _ | with_reducible refine Below.drew ?_ | with_reducible refine Below.setCell ?_ ?_ _ | with_reducible refine Below.alloc ?_ ?_ _ | (simp; done) | (simp; omega))
theorem DoAt.below {w w1 w2 : World} {r s : Value} {k : Int} {key val : ByteArray} (h : DoAt w w1 r s k key val) (hb : Below w1.heap.size w1 w2) : DoAt w w2 r s k key val :=
 ⟨h.X.below hb h.X.lt, h.Y.below hb h.Y.lt, h.R.below hb h.R.lt, h.A.below hb h.A.lt, bel_add' h.bel hb h.bel.size, Nat.le_trans h.size hb.size⟩
def NoTwo (w : World) (R : Nat) : Prop := ∀ j x y, w.cell? ⟨R, j, none⟩ = some (.string x) → w.cell? ⟨R, j + 1, none⟩ ≠ some (.string y)
theorem Lst.offN {w w' : World} {B R : Nat} {v : Value} {l : PL} (hR : NoTwo w R) (h : Lst w B v l) (hk : ∀ b, b ≠ R → w'.heap[b]? = w.heap[b]?) : Lst w' B v l := by
 refine ⟨h.form, h.bytes, h.sizes, fun hn => ?_, h.nil⟩
 obtain ⟨b, off, c, e, hb, hc⟩ := h.cells hn
 have hne : b ≠ R := by
  rintro rfl
  obtain ⟨h1, h2⟩ := hc 0 hn
  rw [Nat.zero_mul, Nat.add_zero] at h1 h2
  exact hR _ _ _ h1 h2
 exact ⟨b, off, c, e, hb, fun i hi => ⟨(World.cell?_of_block (hk b hne)).trans (hc i hi).1, (World.cell?_of_block (hk b hne)).trans (hc i hi).2⟩⟩
structure EndR (w : World) (base X S : Nat) (r : Value) (W : Wd) : Prop where
 box : RowTo w X 85 2 [r, slc S W.ss.length W.ss.length] ∧ Wld w w.heap.size r (slc S W.ss.length W.ss.length) W ∧ LoV base r
 blk : RowTo w S 144 (W.ss.length * 5) []
 loX : base ≤ X
 loS : base ≤ S
 los : ∀ k j v, k < W.ss.length → j < 4 → w.cell? ⟨S, k * 5 + (j + 1), none⟩ = some v → LoV base v
theorem EndW.r {w : World} {base X S : Nat} {W : Wd} (h : EndW w base X S W) : ∃ r, EndR w base X S r W := by
 obtain ⟨r, hb⟩ := h.box
 exact ⟨r, hb, h.blk, h.loX, h.loS, h.los⟩
theorem EndR.offN {w w' : World} {base X S R : Nat} {r : Value} {W : Wd} (h : EndR w base X S r W) (hX : X ≠ R) (hS : S ≠ R) (hR : NoTwo w R) (hs : w'.heap.size = w.heap.size) (hk : ∀ b, b ≠ R → w'.heap[b]? = w.heap[b]?) : EndR w' base X S r W := by
 obtain ⟨hbox, ⟨hr, hss⟩, hlr⟩ := h.box
 refine ⟨⟨hbox.same (hk X hX), ⟨?_, ?_⟩, hlr⟩, h.blk.same (hk S hS), h.loX, h.loS, fun k j v hk' hj hv => h.los k j v hk' hj ((World.cell?_of_block (hk S hS)).symm.trans hv)⟩
 ·rw [hs]; exact hr.offN hR hk
 ·rw [hs]
  refine ⟨hss.form, hss.bytes, fun hn => ?_⟩
  obtain ⟨b, off, c, e, hb, hc⟩ := hss.cells hn
  refine ⟨b, off, c, e, hb, fun i hi => ?_⟩
  obtain ⟨v1, v2, v3, v4, q⟩ := hc i hi
  have hbS : b = S := by unfold slc at e; injection e with e; injection e with e; injection e with e; exact e.symm
  have cs : ∀ j, w'.cell? ⟨b, j, none⟩ = w.cell? ⟨b, j, none⟩ := fun j => World.cell?_of_block (hk b (by rw [hbS]; exact hS))
  exact ⟨v1, v2, v3, v4, (cs _).trans q.c0, (cs _).trans q.c1, (cs _).trans q.c2, (cs _).trans q.c3, (cs _).trans q.c4, q.l1.offN hR hk, q.l2.offN hR hk, q.l3.offN hR hk, q.l4.offN hR hk⟩
theorem EndR.below {w w' : World} {base X S : Nat} {r : Value} {W : Wd} (h : EndR w base X S r W) (hb : Below w.heap.size w w') : EndR w' base X S r W := by
 obtain ⟨hbox, hw, hlr⟩ := h.box
 exact ⟨⟨hbox.below hb hbox.lt, hw.step hb, hlr⟩, h.blk.below hb h.blk.lt, h.loX, h.loS, fun k j v hk hj hv => h.los k j v hk hj ((hb.cell (p := ⟨S, k * 5 + (j + 1), none⟩) h.blk.lt).symm.trans hv)⟩
theorem noTwo_answer {w : World} {R : Nat} {x y : Int} {s : ByteArray} (h : RowTo w R 38 3 [.int .i64 x, .string s, .int .i64 y]) : NoTwo w R := by
 intro j a b h1 h2
 have r0 := h.cell (j := 0) (by simp)
 have r2 := h.cell (j := 2) (by simp)
 simp only [gCZ, gCS] at r0 r2
 rcases Nat.lt_or_ge j 3 with hj | hj
 ·obtain rfl | rfl | rfl : j = 0 ∨ j = 1 ∨ j = 2 := by omega
  ·rw [r0] at h1; cases h1
  ·rw [r2] at h2; cases h2
  ·rw [r2] at h1; cases h1
 ·rw [h.out_ hj] at h1; cases h1
theorem noTwo_world {w : World} {R t : Nat} {a b : Option Addr} {n m c d : Nat} (h : RowTo w R t 2 [.slice a n c, .slice b m d]) : NoTwo w R := by
 intro j x y h1 h2
 have r0 := h.cell (j := 0) (by simp)
 have r1 := h.cell (j := 1) (by simp)
 simp only [gCZ, gCS] at r0 r1
 rcases Nat.lt_or_ge j 2 with hj | hj
 ·obtain rfl | rfl : j = 0 ∨ j = 1 := by omega
  ·rw [r0] at h1; cases h1
  ·rw [r1] at h1; cases h1
 ·rw [h.out_ hj] at h1; cases h1
theorem EndR.sess {w : World} {base X S : Nat} {r : Value} {W : Wd} (h : EndR w base X S r W) {i : Nat} (hi : i < W.ss.length) : ∃ v1 v2 v3 v4, Ses w w.heap.size S (i * 5) W.ss[i] v1 v2 v3 v4 := by
 obtain ⟨hbox, ⟨hr, hss⟩, hlr⟩ := h.box
 obtain ⟨b, off, c, e, hb, hc⟩ := hss.cells (by omega)
 unfold slc at e
 injection e with e
 injection e with e
 injection e with e1 e2
 subst e1
 subst e2
 have := hc i hi
 rw [Nat.zero_add] at this
 exact this
theorem EndR.noTwo {w : World} {base X S : Nat} {r : Value} {W : Wd} (h : EndR w base X S r W) : NoTwo w S := by
 intro j x y h1 h2
 rcases Nat.lt_or_ge j (W.ss.length * 5) with hj | hj
 ·obtain ⟨v1, v2, v3, v4, q⟩ := h.sess (i := j / 5) (by omega)
  have hm : j % 5 = 0 ∨ j % 5 = 1 ∨ j % 5 = 2 ∨ j % 5 = 3 ∨ j % 5 = 4 := by omega
  rcases hm with hm | hm | hm | hm | hm
  ·have := q.c0; rw [show j / 5 * 5 = j by omega, h1] at this; cases this
  ·have := q.c1; rw [show j / 5 * 5 + 1 = j by omega, h1] at this; obtain ⟨a, c, e, _⟩ := q.l1.form; rw [e] at this; cases this
  ·have := q.c2; rw [show j / 5 * 5 + 2 = j by omega, h1] at this; obtain ⟨a, c, e, _⟩ := q.l2.form; rw [e] at this; cases this
  ·have := q.c3; rw [show j / 5 * 5 + 3 = j by omega, h1] at this; obtain ⟨a, c, e, _⟩ := q.l3.form; rw [e] at this; cases this
  ·have := q.c4; rw [show j / 5 * 5 + 4 = j by omega, h1] at this; obtain ⟨a, c, e, _⟩ := q.l4.form; rw [e] at this; cases this
 ·rw [h.blk.out_ hj] at h1; cases h1
theorem EndR.failed {w : World} {base X S : Nat} {r : Value} {W : Wd} (h : EndR w base X S r W) {i : Nat} (hi : i < W.ss.length) (hne : X ≠ S) :
  EndR ((w.setCell ⟨S, i * 5, none⟩ (.int .i64 2)).setCell ⟨S, i * 5 + 4, none⟩ (.slice none 0 0)) base X S r (W.put i { W.ss[i] with st := 2, wr := [] }) := by
 have hn := h.noTwo
 have hk : ∀ b, b ≠ S → ((w.setCell ⟨S, i * 5, none⟩ (.int .i64 2)).setCell ⟨S, i * 5 + 4, none⟩ (.slice none 0 0)).heap[b]? = w.heap[b]? := fun b hb => by rw [Below.heap_setCell _ _ _ _ hb, Below.heap_setCell _ _ _ _ hb]
 have hs : ((w.setCell ⟨S, i * 5, none⟩ (.int .i64 2)).setCell ⟨S, i * 5 + 4, none⟩ (.slice none 0 0)).heap.size = w.heap.size := by simp [World.setCell]
 have hl : (W.put i { W.ss[i] with st := 2, wr := [] }).ss.length = W.ss.length := by unfold Wd.put; simp
 have hall := fun q (hq : q < W.ss.length) => h.sess hq
 obtain ⟨hbox, ⟨hr, hss⟩, hlr⟩ := h.box
 have c0 : ((w.setCell ⟨S, i * 5, none⟩ (.int .i64 2)).setCell ⟨S, i * 5 + 4, none⟩ (.slice none 0 0)).cell? ⟨S, i * 5, none⟩ = some (.int .i64 2) := by
  rw [cell_off _ (by omega)]; exact cell_put h.blk (by omega) _
 have c4 : ((w.setCell ⟨S, i * 5, none⟩ (.int .i64 2)).setCell ⟨S, i * 5 + 4, none⟩ (.slice none 0 0)).cell? ⟨S, i * 5 + 4, none⟩ = some (.slice none 0 0) := cell_put (h.blk.hit _) (by omega) _
 have co : ∀ j, j ≠ i * 5 → j ≠ i * 5 + 4 → ((w.setCell ⟨S, i * 5, none⟩ (.int .i64 2)).setCell ⟨S, i * 5 + 4, none⟩ (.slice none 0 0)).cell? ⟨S, j, none⟩ = w.cell? ⟨S, j, none⟩ := fun j h1 h2 => by rw [cell_off _ h2, cell_off _ h1]
 refine ⟨⟨by rw [hl]; exact hbox.same (hk X hne), ⟨?_, ?_⟩, hlr⟩, by rw [hl]; exact (h.blk.hit _).hit _, h.loX, h.loS, fun k j v hk' hj hv => ?_⟩
 ·rw [hs]; exact hr.offN hn hk
 ·rw [hs]
  refine ⟨⟨_, _, rfl, nL _⟩, by rw [hl]; exact hss.bytes, fun _ => ⟨S, 0, _, rfl, h.blk.lt, fun q hq => ?_⟩⟩
  rw [hl] at hq
  obtain ⟨v1, v2, v3, v4, z⟩ := hall q hq
  rw [Nat.zero_add]
  by_cases e : i = q
  ·subst e
   have eg : (W.put i { W.ss[i] with st := 2, wr := [] }).ss[i]'(by rw [hl]; exact hi) = { W.ss[i] with st := 2, wr := [] } := by simp [Wd.put]
   rw [eg]
   exact ⟨v1, v2, v3, .slice none 0 0, c0, (co _ (by omega) (by omega)).trans z.c1, (co _ (by omega) (by omega)).trans z.c2, (co _ (by omega) (by omega)).trans z.c3, c4, z.l1.offN hn hk, z.l2.offN hn hk, z.l3.offN hn hk, Lst.none_ _ _⟩
  ·have eg : (W.put i { W.ss[i] with st := 2, wr := [] }).ss[q]'(by rw [hl]; exact hq) = W.ss[q] := by simp [Wd.put, List.getElem_set_ne e]
   rw [eg]
   exact ⟨v1, v2, v3, v4, (co _ (by omega) (by omega)).trans z.c0, (co _ (by omega) (by omega)).trans z.c1, (co _ (by omega) (by omega)).trans z.c2, (co _ (by omega) (by omega)).trans z.c3, (co _ (by omega) (by omega)).trans z.c4, z.l1.offN hn hk, z.l2.offN hn hk, z.l3.offN hn hk, z.l4.offN hn hk⟩
 ·rw [hl] at hk'
  by_cases e : k * 5 + (j + 1) = i * 5 + 4
  ·rw [e, c4] at hv; injection hv with hv; rw [← hv]; exact LoV.non _ _ _
  ·rw [co _ (by omega) e] at hv; exact h.los k j v hk' hj hv
theorem wput_at_ {V : Wd} {i : Nat} {x : Sess} (h : i < V.ss.length) : (V.put i x).at i = x := by unfold Wd.at Wd.put; simp [List.getD_eq_getElem?_getD, List.getElem?_set_self h]
theorem OwnW.ownD {w : World} {base gR S X : Nat} {G : Nat → Nat → Nat} {W : Wd} {xs : List Value} (h : OwnW w base gR S G W) (hx : RowTo w X 85 2 xs) (hX : X < base) (hz : SzW W) :
  OwnD ((w.setCell ⟨X, 0, none⟩ (sl gR W.rows.length)).setCell ⟨X, 1, none⟩ (sl S W.ss.length)) X S gR W.rows.length G (fun i j => ((W.at i).li j).length) W := by
 have loG : ∀ i j, i < W.ss.length → j < 4 → X < G i j := fun i j hi hj => Nat.lt_of_lt_of_le hX (h.sess.lo i j hi hj)
 have hR := h.loR
 have hS := h.loS
 have cw : ∀ j, ((w.setCell ⟨X, 0, none⟩ (sl gR W.rows.length)).setCell ⟨X, 1, none⟩ (sl S W.ss.length)).cell? ⟨S, j, none⟩ = w.cell? ⟨S, j, none⟩ := fun j => by
  rw [World.cell?_setCell_other _ _ _ _ (fun e => by injection e with e; omega), World.cell?_setCell_other _ _ _ _ (fun e => by injection e with e; omega)]
 have hrow : RowTo ((w.setCell ⟨X, 0, none⟩ (sl gR W.rows.length)).setCell ⟨X, 1, none⟩ (sl S W.ss.length)) X 85 2 ([] ++ [sl gR W.rows.length] ++ [sl S W.ss.length]) :=
  (hx.nil.push (by simp) _ rfl).push (by simp) _ (by simp)
 refine ⟨hrow, ⟨(h.rows.other (by show X ≠ gR; omega) _).other (by show X ≠ gR; omega) _, nL _, by have := hz.rows.1; omega⟩, (h.sess.blk.other (by show X ≠ S; omega) _).other (by show X ≠ S; omega) _, fun i hi => (cw _).trans (h.sess.st i hi hi), fun i j hi hj => ?_, fun i j hi hj => ?_, by omega, by omega, h.neS, fun i j hi hj => by have := loG i j hi hj; omega, fun i j hi hj => h.sess.ne i j hi hj, fun i j hi hj => h.neG i j hi hj, fun i j i' j' hi hj hi' hj' e => h.sess.inj i j i' j' hi hj hi' hj' e⟩
 ·rw [cw, h.sess.cs i j hi hi hj, getD_at hi]; rfl
 ·rw [getD_at hi]
  have hg := loG i j hi hj
  exact ⟨((h.sess.ls i j hi hi hj).other (by show X ≠ G i j; omega) _).other (by show X ≠ G i j; omega) _, nL _, by have := (hz.li i j hi hj).1; omega⟩
def InP (P : Nat → Prop) (v : Value) (l : PL) : Prop := 0 < l.length → ∀ b off n c, v = .slice (some ⟨b, off, none⟩) n c → P b
theorem Lst.keepP {w w' : World} {B B' : Nat} {v : Value} {l : PL} {P : Nat → Prop} (h : Lst w B v l) (hp : InP P v l) (hk : ∀ b, P b → w'.heap[b]? = w.heap[b]?) (hB : ∀ b, P b → b < B') : Lst w' B' v l := by
 refine ⟨h.form, h.bytes, h.sizes, fun hn => ?_, h.nil⟩
 obtain ⟨b, off, c, e, hb, hc⟩ := h.cells hn
 have hP := hp hn b off _ c e
 exact ⟨b, off, c, e, hB b hP, fun i hi => ⟨(World.cell?_of_block (hk b hP)).trans (hc i hi).1, (World.cell?_of_block (hk b hP)).trans (hc i hi).2⟩⟩
theorem InP.mono {P Q : Nat → Prop} {v : Value} {l : PL} (h : InP P v l) (hpq : ∀ b, P b → Q b) : InP Q v l := fun hn b off n c e => hpq b (h hn b off n c e)
theorem Lst.inP {w : World} {B : Nat} {v : Value} {l : PL} (h : Lst w B v l) : InP (· < B) v l := fun hn b off n c e => by
 obtain ⟨b', off', c', e', hb, _⟩ := h.cells hn
 rw [e'] at e
 injection e with e
 injection e with e
 injection e with e
 rw [← e]; exact hb
theorem InP.and {P Q : Nat → Prop} {v : Value} {l : PL} (h : InP P v l) (h2 : InP Q v l) : InP (fun b => P b ∧ Q b) v l := fun hn b off n c e => ⟨h hn b off n c e, h2 hn b off n c e⟩
theorem InP.nil_ (P : Nat → Prop) (v : Value) : InP P v [] := fun h => absurd h (by simp)
theorem own_lt {w : World} {B : Nat} {v : Value} {l : PL} {P : Nat → Prop} (h : Lst w B v l) (hp : InP P v l) : InP (fun b => P b ∧ b < B) v l := hp.and h.inP
def NoSes (w : World) (R : Nat) : Prop := ∀ o st A n c, w.cell? ⟨R, o, none⟩ = some (.int .i64 st) → w.cell? ⟨R, o + 1, none⟩ ≠ some (.slice A n c)
theorem noSes_answer {w : World} {R : Nat} {x y : Int} {s : ByteArray} (h : RowTo w R 38 3 [.int .i64 x, .string s, .int .i64 y]) : NoSes w R := by
 intro o st A n c h1 h2
 have r1 := h.cell (j := 1) (by simp)
 have r2 := h.cell (j := 2) (by simp)
 simp only [gCZ, gCS] at r1 r2
 rcases Nat.lt_or_ge (o + 1) 3 with hj | hj
 ·obtain rfl | rfl : o = 0 ∨ o = 1 := by omega
  ·rw [r1] at h2; cases h2
  ·rw [r2] at h2; cases h2
 ·rw [h.out_ hj] at h2; cases h2
theorem noSes_world {w : World} {R t : Nat} {a b : Option Addr} {n m c d : Nat} (h : RowTo w R t 2 [.slice a n c, .slice b m d]) : NoSes w R := by
 intro o st A n' c' h1 h2
 have r0 := h.cell (j := 0) (by simp)
 have r1 := h.cell (j := 1) (by simp)
 simp only [gCZ, gCS] at r0 r1
 rcases Nat.lt_or_ge o 2 with hj | hj
 ·obtain rfl | rfl : o = 0 ∨ o = 1 := by omega
  ·rw [r0] at h1; cases h1
  ·rw [r1] at h1; cases h1
 ·rw [h.out_ hj] at h1; cases h1
theorem Sss.off {w w' : World} {B R : Nat} {v : Value} {ss : List Sess} (h : Sss w B v ss) (h2 : NoTwo w R) (hs : NoSes w R) (hk : ∀ b, b ≠ R → w'.heap[b]? = w.heap[b]?) : Sss w' B v ss := by
 refine ⟨h.form, h.bytes, fun hn => ?_⟩
 obtain ⟨b, off, c, e, hb, hc⟩ := h.cells hn
 have hne : b ≠ R := by
  rintro rfl
  obtain ⟨v1, v2, v3, v4, q⟩ := hc 0 hn
  obtain ⟨A, c', hv, _⟩ := q.l1.form
  have := q.c1
  rw [hv] at this
  exact hs _ _ _ _ _ q.c0 this
 refine ⟨b, off, c, e, hb, fun i hi => ?_⟩
 obtain ⟨v1, v2, v3, v4, q⟩ := hc i hi
 have cs : ∀ j, w'.cell? ⟨b, j, none⟩ = w.cell? ⟨b, j, none⟩ := fun j => World.cell?_of_block (hk b hne)
 exact ⟨v1, v2, v3, v4, (cs _).trans q.c0, (cs _).trans q.c1, (cs _).trans q.c2, (cs _).trans q.c3, (cs _).trans q.c4, q.l1.offN h2 hk, q.l2.offN h2 hk, q.l3.offN h2 hk, q.l4.offN h2 hk⟩
theorem Wld.off {w w' : World} {B R : Nat} {r s : Value} {W : Wd} (h : Wld w B r s W) (h2 : NoTwo w R) (hs : NoSes w R) (hk : ∀ b, b ≠ R → w'.heap[b]? = w.heap[b]?) : Wld w' B r s W := ⟨h.rows.offN h2 hk, h.sess.off h2 hs hk⟩
theorem Wld.set2 {w : World} {R t : Nat} {a b : Option Addr} {n m c d : Nat} {r s : Value} {W : Wd} (h : Wld w w.heap.size r s W) (hR : RowTo w R t 2 [.slice a n c, .slice b m d]) (x y : Value) : Wld ((w.setCell ⟨R, 0, none⟩ x).setCell ⟨R, 1, none⟩ y) ((w.setCell ⟨R, 0, none⟩ x).setCell ⟨R, 1, none⟩ y).heap.size r s W := by
 have : ((w.setCell ⟨R, 0, none⟩ x).setCell ⟨R, 1, none⟩ y).heap.size = w.heap.size := by simp [World.setCell]
 rw [this]
 exact h.off (noTwo_world hR) (noSes_world hR) fun b hb => by rw [Below.heap_setCell _ _ _ _ hb, Below.heap_setCell _ _ _ _ hb]
theorem Wld.set3 {w : World} {R : Nat} {x y : Int} {z : ByteArray} {r s : Value} {W : Wd} (h : Wld w w.heap.size r s W) (hR : RowTo w R 38 3 [.int .i64 x, .string z, .int .i64 y]) (a b c : Value) : Wld (((w.setCell ⟨R, 0, none⟩ a).setCell ⟨R, 1, none⟩ b).setCell ⟨R, 2, none⟩ c) (((w.setCell ⟨R, 0, none⟩ a).setCell ⟨R, 1, none⟩ b).setCell ⟨R, 2, none⟩ c).heap.size r s W := by
 have : (((w.setCell ⟨R, 0, none⟩ a).setCell ⟨R, 1, none⟩ b).setCell ⟨R, 2, none⟩ c).heap.size = w.heap.size := by simp [World.setCell]
 rw [this]
 exact h.off (noTwo_answer hR) (noSes_answer hR) fun b hb => by rw [Below.heap_setCell _ _ _ _ hb, Below.heap_setCell _ _ _ _ hb, Below.heap_setCell _ _ _ _ hb]
theorem RowTo.set2 {w : World} {R t : Nat} {a b : Value} (h : RowTo w R t 2 [a, b]) (x y : Value) : RowTo ((w.setCell ⟨R, 0, none⟩ x).setCell ⟨R, 1, none⟩ y) R t 2 [x, y] := (h.put (j := 0) (by simp) x).put (j := 1) (by simp) y
theorem RowTo.set3 {w : World} {R t : Nat} {a b c : Value} (h : RowTo w R t 3 [a, b, c]) (x y z : Value) : RowTo (((w.setCell ⟨R, 0, none⟩ x).setCell ⟨R, 1, none⟩ y).setCell ⟨R, 2, none⟩ z) R t 3 [x, y, z] := ((h.put (j := 0) (by simp) x).put (j := 1) (by simp) y).put (j := 2) (by simp) z
theorem RowTo.oth2 {w : World} {R g t n : Nat} {xs : List Value} (h : RowTo w g t n xs) (hne : R ≠ g) (x y : Value) : RowTo ((w.setCell ⟨R, 0, none⟩ x).setCell ⟨R, 1, none⟩ y) g t n xs := (h.other (p := ⟨R, 0, none⟩) hne x).other (p := ⟨R, 1, none⟩) hne y
theorem RowTo.oth3 {w : World} {R g t n : Nat} {xs : List Value} (h : RowTo w g t n xs) (hne : R ≠ g) (x y z : Value) : RowTo (((w.setCell ⟨R, 0, none⟩ x).setCell ⟨R, 1, none⟩ y).setCell ⟨R, 2, none⟩ z) g t n xs := ((h.other (p := ⟨R, 0, none⟩) hne x).other (p := ⟨R, 1, none⟩) hne y).other (p := ⟨R, 2, none⟩) hne z
theorem bel_set2 {B R : Nat} {a w : World} (h : Below B a w) (hR : B ≤ R) (x y : Value) : Below B a ((w.setCell ⟨R, 0, none⟩ x).setCell ⟨R, 1, none⟩ y) := (h.setCell (p := ⟨R, 0, none⟩) hR x).setCell (p := ⟨R, 1, none⟩) hR y
theorem bel_set3 {B R : Nat} {a w : World} (h : Below B a w) (hR : B ≤ R) (x y z : Value) : Below B a (((w.setCell ⟨R, 0, none⟩ x).setCell ⟨R, 1, none⟩ y).setCell ⟨R, 2, none⟩ z) := ((h.setCell (p := ⟨R, 0, none⟩) hR x).setCell (p := ⟨R, 1, none⟩) hR y).setCell (p := ⟨R, 2, none⟩) hR z
theorem cells2 {w : World} {g t n : Nat} {a b : Value} (h : RowTo w g t n [a, b]) : w.cell? ⟨g, 0, none⟩ = some a ∧ w.cell? ⟨g, 1, none⟩ = some b := ⟨h.cell (j := 0) (by simp), h.cell (j := 1) (by simp)⟩
theorem cells3 {w : World} {g t n : Nat} {a b c : Value} (h : RowTo w g t n [a, b, c]) : w.cell? ⟨g, 0, none⟩ = some a ∧ w.cell? ⟨g, 1, none⟩ = some b ∧ w.cell? ⟨g, 2, none⟩ = some c := ⟨h.cell (j := 0) (by simp), h.cell (j := 1) (by simp), h.cell (j := 2) (by simp)⟩
def leadL : Nat → List UInt8
 | 1 => [111, 107]
 | 2 => [61]
 | 3 => [110, 111, 110, 101]
 | 4 => [33]
 | _ => []
def leadAt (k : Nat) : ByteArray := ⟨(leadL k).toArray⟩
def markAt : Nat → ByteArray
 | 0 => ⟨#[73]⟩
 | 1 => ⟨#[84]⟩
 | _ => ⟨#[70]⟩
def tellT (k st : Nat) (x : ByteArray) : ByteArray := (markAt st ++ leadAt k) ++ x
theorem app_empty {a x : ByteArray} (h : x.toList.isEmpty = true) : a ++ x = a := by
 rw [Lib.toList_data, List.isEmpty_iff] at h
 apply ba_ext
 rw [ByteArray.data_append, Array.toList_append, h, List.append_nil]
structure Req where
 k : Int
 key : ByteArray
 val : ByteArray
def Req.none_ : Req := ⟨0, ⟨#[]⟩, ⟨#[]⟩⟩
def Req.fine (r : Req) : Prop := r = Req.none_ ∨ checkE r.k r.key r.val = 0
structure Deed where
 c : Nat
 r : Req
 a : Ans
 st : Int
structure Cl where
 bytes : ByteArray
 wait : List Req
 srv : Option Nat
def Cl.new : Cl := ⟨⟨#[]⟩, [], none⟩
structure Ops (E : Type) where
 exec : E → Nat → Nat → Req → E × Ans × Int
 state : E → Nat → Option Nat → Int
 grant : E → Nat → Nat → E
 free : E → Nat → Nat → E
 leave : E → Nat → Option Nat → E
structure Mach (E : Type) where
 e : E
 cl : List Cl
 busy : List Bool
 line : List Nat
 sent : List ByteArray
 deeds : List Deed
def tUnder : ByteArray := ⟨#[110, 111, 116, 32, 117, 110, 100, 101, 114, 115, 116, 111, 111, 100]⟩
def tMode : ByteArray := ⟨#[110, 111, 116, 32, 105, 110, 32, 116, 104, 105, 115, 32, 109, 111, 100, 101]⟩
def refuse (mode : Int) (r : Req) : ByteArray := if r.k = 0 then tUnder else if r.k = 1 ∧ mode = 3 then tMode else ⟨#[]⟩
def refB (mode : Int) (r : Req) : Bool := decide (r.k = 0 ∨ (r.k = 1 ∧ mode = 3))
def readyB (mode : Int) (x : Cl) : Bool := match x.wait with
 | [] => false
 | r :: _ => x.srv.isSome || refB mode r
section
variable {E : Type} (o : Ops E) (mode : Int)
def Mach.get (m : Mach E) (c : Nat) : Cl := m.cl.getD c Cl.new
def Mach.set (m : Mach E) (c : Nat) (x : Cl) : Mach E := { m with cl := m.cl.set c x }
def ansM (a : Ans) (st : Int) : ByteArray := msg 82 (tellT a.kind.toNat st.toNat a.text)
def Mach.tell (m : Mach E) (c : Nat) (a : Ans) (st : Int) : Mach E := { m with sent := m.sent.set c (m.sent.getD c ⟨#[]⟩ ++ ansM a st) }
def Mach.release (m : Mach E) (c s : Nat) : Mach E := { m with e := o.free m.e c s, busy := m.busy.set s false, cl := m.cl.set c { m.get c with srv := none } }
def Mach.proc (m : Mach E) (c : Nat) : Mach E := match (m.get c).wait with
 | [] => m
 | r :: rest =>
  if refB mode r then (m.set c { m.get c with wait := rest }).tell c ⟨4, refuse mode r⟩ (o.state m.e c (m.get c).srv)
  else
   let x := o.exec m.e c ((m.get c).srv.getD 0) r
   let m2 := Mach.tell { m.set c { m.get c with wait := rest } with e := x.1, deeds := m.deeds ++ [⟨c, r, x.2.1, x.2.2⟩] } c x.2.1 x.2.2
   if mode ≠ 1 ∧ x.2.2 = 0 then m2.release o c ((m.get c).srv.getD 0) else m2
def enqL (m : Mach E) (l : List Nat) (c : Nat) : List Nat := if (m.get c).wait ≠ [] ∧ ¬ c ∈ l then l ++ [c] else l
def Mach.enq (m : Mach E) : Mach E := { m with line := (List.range 6).foldl (enqL m) m.line }
def Mach.assign (m : Mach E) : Bool × Mach E := match m.line with
 | [] => (false, m)
 | c :: l => if m.busy.idxOf false < m.busy.length then (true, { m with line := l, busy := m.busy.set (m.busy.idxOf false) true, cl := m.cl.set c { m.get c with srv := some (m.busy.idxOf false) }, e := o.grant m.e c (m.busy.idxOf false) }) else (false, m)
def Mach.firstR (m : Mach E) : Option Nat := (List.range 6).find? (fun c => readyB mode (m.get c))
def Mach.step (m : Mach E) : Bool × Mach E := match m.firstR mode with
 | some c => (true, m.proc o mode c)
 | none => m.enq.assign o
def Mach.iter : Nat → Mach E → Mach E
 | 0, m => m
 | n + 1, m => if (m.step o mode).1 then Mach.iter n (m.step o mode).2 else (m.step o mode).2
def waits (l : List Cl) : Nat := (l.map fun x => x.wait.length).sum
def bare (l : List Cl) : Nat := l.countP fun x => x.srv.isNone
def Mach.mu (m : Mach E) : Nat := 2 * waits m.cl + bare m.cl
def Mach.all (m : Mach E) : Mach E := m.iter o mode (m.mu + 1)
def Mach.leave (m : Mach E) (c : Nat) : Mach E :=
 { m with e := o.leave m.e c (m.get c).srv, busy := match (m.get c).srv with
   | some s => m.busy.set s false
   | none => m.busy, line := m.line.filter (fun n => n != c), cl := m.cl.set c Cl.new }
def pull (b : ByteArray) : Option (UInt8 × ByteArray × Nat) := if h : 2 ≤ b.size then (if 2 + b[1].toNat ≤ b.size then some (b[0], b.extract 2 (2 + b[1].toNat), 2 + b[1].toNat) else none) else none
def reqOf (k : UInt8) (t : ByteArray) : Req := if k = 81 ∧ readE t = 0 then ⟨kindN (cutA t), cutA (cutB t), cutB (cutB t)⟩ else Req.none_
def Mach.feed : Nat → Mach E → Nat → Mach E
 | 0, m, _ => m
 | n + 1, m, c => match pull (m.get c).bytes with
  | none => m
  | some (k, t, j) => if k = 88 then (m.all o mode).leave o c else Mach.feed n (m.set c { m.get c with bytes := (m.get c).bytes.extract j (m.get c).bytes.size, wait := (m.get c).wait ++ [reqOf k t] }) c
def Mach.deliver (m : Mach E) (c : Nat) (data : ByteArray) : Mach E := (m.set c { m.get c with bytes := (m.get c).bytes ++ data }).feed o mode ((m.get c).bytes.size + data.size + 1) c
structure Act where
 kind : Int
 c : Int
 data : ByteArray
def Mach.act (m : Mach E) (a : Act) : Mach E := (if a.kind = 1 then m.deliver o mode a.c.toNat a.data else m.leave o a.c.toNat).all o mode
def Mach.run (m : Mach E) (l : List Act) : Mach E := l.foldl (fun m a => m.act o mode a) m
def Mach.start (e : E) (n : Nat) : Mach E := ⟨e, List.replicate 6 Cl.new, List.replicate n false, [], List.replicate 6 ⟨#[]⟩, []⟩
end
def setupE (mode servers : Int) : Int := if mode < 1 ∨ 3 < mode then 3 else if servers < 1 ∨ 4 < servers then 2 else 0
def actE (a : Act) : Int := if ¬ (a.kind = 1 ∨ a.kind = 2) then 3 else if a.c < 0 ∨ 6 ≤ a.c then 2 else if 1000 < a.data.size then 1 else 0
def actsE : List Act → Int
 | [] => 0
 | a :: l => if actE a ≠ 0 then actE a else actsE l
def runE (mode servers : Int) (l : List Act) : Int := if setupE mode servers ≠ 0 then setupE mode servers else if 300 < l.length then 1 else actsE l
structure PE where
 w : Wd
 kept : List (PL × PL)
def PE.of (e : PE) (c : Nat) : PL × PL := e.kept.getD c ([], [])
def pairB (p q : ByteArray × ByteArray) : Bool := eqB p.1 q.1 && eqB p.2 q.2
def without (l o : PL) : PL := l.filter fun q => !o.any fun p => pairB p q
def doW (w : Wd) (s : Nat) (k : Int) (l : PL) : Wd := l.foldl (fun w q => (doM w s k q.1 q.2).1) w
def restoreW (w : Wd) (s : Nat) (p : PL × PL) : Wd :=
 let w1 := if (without (w.at s).set p.1).length > 0 ∨ (without (w.at s).prep p.2).length > 0 then (doM w s 4 ⟨#[]⟩ ⟨#[]⟩).1 else w
 doW (doW w1 s 9 (without p.1 (w1.at s).set)) s 11 (without p.2 (w1.at s).prep)
def PE.free (e : PE) (c s : Nat) : PE := ⟨e.w, e.kept.set c ((e.w.at s).set, (e.w.at s).prep)⟩
def PE.state (e : PE) (srv : Option Nat) : Int := match srv with
 | none => 0
 | some s => (e.w.at s).st
def poolO : Ops PE where
 exec e c s r := let x := doM e.w s r.k r.key r.val; (⟨x.1, e.kept⟩, x.2, (x.1.at s).st)
 state e _ srv := e.state srv
 grant e c s := ⟨restoreW e.w s (e.of c), e.kept⟩
 free e c s := e.free c s
 leave e c srv := match srv with
  | none => ⟨e.w, e.kept.set c ([], [])⟩
  | some s => ⟨if (e.w.at s).st ≠ 0 then (doM e.w s 3 ⟨#[]⟩ ⟨#[]⟩).1 else e.w, e.kept.set c ([], [])⟩
def Sess.zero : Sess := ⟨0, [], [], [], []⟩
def houseO : Ops Wd where
 exec e c _ r := let x := doM e c r.k r.key r.val; (x.1, x.2, (x.1.at c).st)
 state e c _ := (e.at c).st
 grant e _ _ := e
 free e _ _ := e
 leave e c _ := e.put c Sess.zero
def poolStart (n : Nat) : PE := ⟨⟨[], List.replicate n Sess.zero⟩, List.replicate 6 ([], [])⟩
def houseStart : Wd := ⟨[], List.replicate 6 Sess.zero⟩
end Go.Proofs.YtpbaobmegomfpacGreatDoor
