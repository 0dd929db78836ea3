/-
  Texts of the proof, one behind the other: WUndoneGone, PrepM, WPrepsRun.
-/
import Derived.Test.YtpbaobmegomfpabDoorM6
import Derived.Test.YtpbaobmegomfpabDoorM5
import Derived.Test.YtpbaobmegomfpabDoorM3
/-
  The walk of the law UndoneGone.
-/
namespace Go.Proofs.YtpbaobmegomfpabDoor
open Go.RowKit
set_option linter.unusedVariables false
set_option linter.unusedSimpArgs false
set_option maxRecDepth 100000

theorem undoneGone.laidFacts {W : World} (h : laidMetH Tryd.prog Rows.undoneGoneRow.laid W) : Words W := words_of h (by simp [Rows.undoneGoneRow, Rows.laid_tillerman_say_words, List.range, List.range.loop, wordL])
theorem sl_one {w : World} {g t : Nat} {k : Int} {key val : ByteArray} (h : RowTo w g t 3 [.int .i64 k, .string key, .string val]) : SLst w w.heap.size (.slice (some ⟨g, 0, none⟩) 1 1) [(k, key, val)] := by
  obtain ⟨c0, c1, c2⟩ := cells3 h
  refine ⟨⟨_, 1, rfl, by simp⟩, by simp, fun _ => ⟨g, 0, 1, rfl, h.lt, fun i hi => ?_⟩⟩
  obtain rfl : i = 0 := by simp at hi; exact hi
  exact ⟨c0, c1, c2⟩
/-- one statement said -/
theorem said_one {W : Wd} {i : Nat} {k : Int} {key val : ByteArray} {R : Wd × Ans} {st : Int} (hR : doR W i ⟨k, key, val⟩ = R) (hst : (R.1.at i).st = st) (hok : WorldOk W) (hi : i < W.ss.length) (hr : Req.ok ⟨k, key, val⟩) (r s : Value) (g t : Nat) (wc : World) (hW : Wld wc wc.heap.size r s W) (hg : RowTo wc g t 3 [.int .i64 k, .string key, .string val]) (hWo : Words wc) :
    Calls Tryd.prog 18 #[.agg #[r, s], .int .i64 i, .slice (some ⟨g, 0, none⟩) 1 1] wc fun e w' => ∃ D d A c, e = .returned (.tuple #[.agg #[.slice D R.1.rows.length d, .slice A R.1.ss.length c], .agg #[.int .i64 R.2.kind, .string R.2.text, .int .i64 st], .bool true]) ∧
      Wld w' w'.heap.size (.slice D R.1.rows.length d) (.slice A R.1.ss.length c) R.1 ∧ Below wc.heap.size wc w' := by
  subst hR hst
  refine (said_any r s W i _ [(k, key, val)] wc hW (sl_one hg) hWo hok hi (fun t ht => by simp at ht; subst ht; exact hr)).mono ?_
  rintro e w' ⟨r', s', rfl, hw, hb⟩
  obtain ⟨A, c, rfl, _⟩ := hw.sess.form
  obtain ⟨D, d, rfl, _⟩ := hw.rows.form
  exact ⟨D, d, A, c, rfl, hw, hb⟩

/-- a world's variable and a new answer are written to -/
theorem stored3 {w0 w : World} {B R S t : Nat} {a b : Option Addr} {n m c d : Nat} {x y : Value} {p q : Int} {z : ByteArray} {W : Wd} (hX : RowTo w R t 2 [.slice a n c, .slice b m d]) (hS : RowTo w S 30 3 [.int .i64 p, .string z, .int .i64 q]) (hne : R ≠ S) (hW : Wld w w.heap.size x y W) (hB : Below B w0 w) (hR : B ≤ R) (hS' : B ≤ S) (u1 u2 u3 : Value) :
    RowTo (((((w.setCell ⟨R, 0, none⟩ x).setCell ⟨R, 1, none⟩ y).setCell ⟨S, 0, none⟩ u1).setCell ⟨S, 1, none⟩ u2).setCell ⟨S, 2, none⟩ u3) R t 2 [x, y] ∧
    Wld (((((w.setCell ⟨R, 0, none⟩ x).setCell ⟨R, 1, none⟩ y).setCell ⟨S, 0, none⟩ u1).setCell ⟨S, 1, none⟩ u2).setCell ⟨S, 2, none⟩ u3) (((((w.setCell ⟨R, 0, none⟩ x).setCell ⟨R, 1, none⟩ y).setCell ⟨S, 0, none⟩ u1).setCell ⟨S, 1, none⟩ u2).setCell ⟨S, 2, none⟩ u3).heap.size x y W ∧
    Below B w0 (((((w.setCell ⟨R, 0, none⟩ x).setCell ⟨R, 1, none⟩ y).setCell ⟨S, 0, none⟩ u1).setCell ⟨S, 1, none⟩ u2).setCell ⟨S, 2, none⟩ u3) :=
  ⟨(hX.set2 _ _).oth3 (Ne.symm hne) _ _ _, (hW.set2 hX _ _).set3 (hS.oth2 hne _ _) _ _ _, bel_set3 (bel_set2 hB hR _ _) hS' _ _ _⟩
/-- a store over an integer that is no session's state -/
theorem Lst.setInt {w : World} {B : Nat} {v : Value} {l : PL} {p : Addr} {k : Int} (h : Lst w B v l) (hp : w.cell? p = some (.int .i64 k)) (u : Value) : Lst (w.setCell p u) B v l := by
  refine ⟨h.form, h.bytes, h.sizes, fun hn => ?_, h.nil⟩
  obtain ⟨b, off, c, e, hb, hc⟩ := h.cells hn
  have oth : ∀ (q : Addr) (s : ByteArray), w.cell? q = some (.string s) → (w.setCell p u).cell? q = some (.string s) := fun q s hq => by
    rw [World.cell?_setCell_other _ _ _ _ (fun e => by rw [← e, hp] at hq; cases hq)]; exact hq
  exact ⟨b, off, c, e, hb, fun i hi => ⟨oth _ _ (hc i hi).1, oth _ _ (hc i hi).2⟩⟩
theorem Wld.setInt {w : World} {B : Nat} {r s : Value} {W : Wd} {b o : Nat} {k : Int} {x : ByteArray} (h : Wld w B r s W) (hp : w.cell? ⟨b, o, none⟩ = some (.int .i64 k)) (hq : w.cell? ⟨b, o + 1, none⟩ = some (.string x)) (u : Value) : Wld (w.setCell ⟨b, o, none⟩ u) B r s W := by
  refine ⟨h.rows.setInt hp u, h.sess.form, h.sess.bytes, fun hn => ?_⟩
  obtain ⟨g, off, c, e, hb, hc⟩ := h.sess.cells hn
  refine ⟨g, off, c, e, hb, fun i hi => ?_⟩
  obtain ⟨v1, v2, v3, v4, q⟩ := hc i hi
  have oth : ∀ (a : Addr) (v : Value) (l : PL), Lst w B v l → w.cell? a = some v → (w.setCell ⟨b, o, none⟩ u).cell? a = some v := fun a v l hl ha => by
    obtain ⟨A, c', rfl, _⟩ := hl.form
    rw [World.cell?_setCell_other _ _ _ _ (fun e => by rw [← e, hp] at ha; cases ha)]; exact ha
  refine ⟨v1, v2, v3, v4, ?_, oth _ _ _ q.l1 q.c1, oth _ _ _ q.l2 q.c2, oth _ _ _ q.l3 q.c3, oth _ _ _ q.l4 q.c4, q.l1.setInt hp u, q.l2.setInt hp u, q.l3.setInt hp u, q.l4.setInt hp u⟩
  rw [World.cell?_setCell_other _ _ _ _ (fun e => by
    injection e with e1 e2
    have h1 := q.c1
    rw [← e1, ← e2, hq] at h1
    obtain ⟨A, c', hv, _⟩ := q.l1.form
    rw [hv] at h1
    cases h1)]
  exact q.c0
/-- the law's blocks at a round's head -/
structure UndAt (w wr : World) (bw bv : Nat) (st : Int) (r s r2 s2 : Value) (W V : Wd) : Prop where
  a : RowTo wr bw 25 2 [r, s]
  b : RowTo wr bv 25 2 [r2, s2]
  x : RowTo wr (bv + 1) 30 3 [.int .i64 1, .string ⟨#[]⟩, .int .i64 st]
  wa : Wld wr wr.heap.size r s W
  wb : Wld wr wr.heap.size r2 s2 V
  bel : Below w.heap.size w wr
  lo : w.heap.size ≤ bw
  ne : bw < bv
theorem UndAt.below {w wr w' : World} {bw bv : Nat} {st : Int} {r s r2 s2 : Value} {W V : Wd} (h : UndAt w wr bw bv st r s r2 s2 W V) (hb : Below wr.heap.size wr w') : UndAt w w' bw bv st r s r2 s2 W V :=
  ⟨h.a.below hb h.a.lt, h.b.below hb h.b.lt, h.x.below hb h.x.lt, h.wa.step hb, h.wb.step hb, bel_add' h.bel hb h.bel.size, h.lo, h.ne⟩
theorem UndAt.next {w wr w' : World} {bw bv : Nat} {st : Int} {r s r3 s3 : Value} {D A : Option Addr} {n d k c : Nat} {W V U : Wd} (h : UndAt w wr bw bv st r s (.slice D n d) (.slice A k c) W V) (hb : Below wr.heap.size wr w') (hw : Wld w' w'.heap.size r3 s3 U) : UndAt w ((w'.setCell ⟨bv, 0, none⟩ r3).setCell ⟨bv, 1, none⟩ s3) bw bv st r s r3 s3 W U := by
  have hne := h.ne
  have hlo := h.lo
  have hb' := h.b.below hb h.b.lt
  exact ⟨(h.a.below hb h.a.lt).oth2 (by omega) _ _, hb'.set2 _ _, (h.x.below hb h.x.lt).oth2 (by omega) _ _, (h.wa.step hb).set2 hb' _ _, hw.set2 hb' _ _, bel_set2 (bel_add' h.bel hb h.bel.size) (by omega) _ _, h.lo, h.ne⟩
theorem UndAt.ans {w wr : World} {bw bv S : Nat} {st p q : Int} {z : ByteArray} {r s r2 s2 : Value} {W V : Wd} (h : UndAt w wr bw bv st r s r2 s2 W V) (hS : RowTo wr S 30 3 [.int .i64 p, .string z, .int .i64 q]) (hlt : bv + 1 < S) (u1 u2 u3 : Value) : UndAt w (((wr.setCell ⟨S, 0, none⟩ u1).setCell ⟨S, 1, none⟩ u2).setCell ⟨S, 2, none⟩ u3) bw bv st r s r2 s2 W V := by
  have hne := h.ne
  have hlo := h.lo
  exact ⟨h.a.oth3 (by omega) _ _ _, h.b.oth3 (by omega) _ _ _, h.x.oth3 (by omega) _ _ _, h.wa.set3 hS _ _ _, h.wb.set3 hS _ _ _, bel_set3 h.bel (by omega) _ _ _, h.lo, h.ne⟩
theorem UndAt.kind {w wr : World} {bw bv S : Nat} {st p : Int} {y z : ByteArray} {r s r2 s2 : Value} {W V : Wd} (h : UndAt w wr bw bv st r s r2 s2 W V) (hS : RowTo wr S 27 3 [.int .i64 p, .string y, .string z]) (hlt : bv + 1 < S) (u : Value) : UndAt w (wr.setCell ⟨S, 0, none⟩ u) bw bv st r s r2 s2 W V := by
  have hne := h.ne
  have hlo := h.lo
  obtain ⟨c0, c1, c2⟩ := cells3 hS
  have e : (wr.setCell ⟨S, 0, none⟩ u).heap.size = wr.heap.size := by simp [World.setCell]
  refine ⟨h.a.other (by show S ≠ bw; omega) _, h.b.other (by show S ≠ bv; omega) _, h.x.other (by show S ≠ bv + 1; omega) _, ?_, ?_, h.bel.setCell (by show w.heap.size ≤ S; omega) _, h.lo, h.ne⟩
  · rw [e]; exact h.wa.setInt c0 c1 u
  · rw [e]; exact h.wb.setInt c0 c1 u

set_option maxHeartbeats 4000000 in
theorem walk_UndoneGone (v : Value) (l : List Raw) (v2 : Value) (m : List Raw) (f : Bool) (w : World) (hl : RLst w w.heap.size v l) (hm : RLst w w.heap.size v2 m) (hWo : Words w) :
    Calls Tryd.prog 6 #[v, v2, .bool f] w fun e w' => e = .returned (.bool true) ∧ Below w.heap.size w w' := by
  obtain ⟨E, e, rfl, he⟩ := hm.form
  have hby := hm.bytes
  have HL := Lib.hid hl
  have HM := Lib.hid hm
  have HWo := Lib.hid hWo
  have hok := play_ok (n := 1) (by omega) (l := l.take 30) (W := zeroW 1) (zeros_ok (by omega)) (by simp [zeroW])
  have HPL := Lib.hid (fun wc (h1 : RLst wc wc.heap.size v l) h2 => played_any v l 1 30 wc h1 h2 (by omega) (by omega) (by omega))
  generalize playM 1 (zeroW 1) (l.take 30) = W0 at *
  have h0 : 0 < W0.ss.length := by rw [hok.2]; omega
  have k1 := doR_ok hok.1 h0 (r := ⟨3, ⟨#[]⟩, ⟨#[]⟩⟩) (small_ok (n := 3) (by decide) (by decide))
  have s1 := roll_idle hok.1 h0
  obtain ⟨R1, HR1⟩ : ∃ R, Hid (doR W0 0 ⟨3, ⟨#[]⟩, ⟨#[]⟩⟩ = R) := ⟨_, Lib.hid rfl⟩
  rw [HR1.out] at k1 s1
  have HS1 := Lib.hid (said_one (t := 27) HR1.out s1 hok.1 h0 (small_ok (n := 3) (by decide) (by decide)))
  obtain ⟨W1, A1⟩ := R1
  simp only [] at k1 s1
  have l1 : W1.ss.length = 1 := k1.2.trans hok.2
  have h1 : 0 < W1.ss.length := by rw [l1]; omega
  have k2 := begin_in k1.1 h1 s1
  obtain ⟨R2, HR2⟩ : ∃ R, Hid (doR W1 0 ⟨1, ⟨#[]⟩, ⟨#[]⟩⟩ = R) := ⟨_, Lib.hid rfl⟩
  rw [HR2.out] at k2
  obtain ⟨st2, HT2⟩ : ∃ st, Hid ((R2.1.at 0).st = st) := ⟨_, Lib.hid rfl⟩
  have HS2 := Lib.hid (said_one (t := 27) HR2.out HT2.out k1.1 h1 (small_ok (n := 1) (by decide) (by decide)))
  obtain ⟨V0, A2⟩ := R2
  simp only [] at k2
  obtain ⟨k2, rfl⟩ := k2
  have HIN := Lib.hid k2
  have HL1 := Lib.hid l1
  clear hl hm hWo hok h0 k1 s1 HR1 HR2 l1 h1 k2 HT2
  go_enter Tryd.func6, Tryd.ntmps6
  go_wp2_with fail
  refine (HPL.out _ HL.out HWo.out).mono ?_
  rintro e w1 ⟨r, s, o, rfl, hw1, hb1⟩
  obtain ⟨D1, d1, rfl, _⟩ := hw1.sess.form
  obtain ⟨C1, c1, rfl, _⟩ := hw1.rows.form
  have hz1 := hb1.size
  have n1 := ((Below.refl w1.heap.size w1).alloc (Nat.le_refl _) (.cells #[.slice C1 W0.rows.length c1, .slice D1 W0.ss.length d1] 25)).alloc (by simp) (.cells #[.int .i64 3, .string ⟨#[]⟩, .string ⟨#[]⟩] 27)
  have X1 := (RowTo.whole w1 #[.slice C1 W0.rows.length c1, .slice D1 W0.ss.length d1] 25).alloc (.cells #[.int .i64 3, .string ⟨#[]⟩, .string ⟨#[]⟩] 27)
  have Y1 := RowTo.whole (w1.alloc (.cells #[.slice C1 W0.rows.length c1, .slice D1 W0.ss.length d1] 25)) #[.int .i64 3, .string ⟨#[]⟩, .string ⟨#[]⟩] 27
  simp only [World.size_alloc] at Y1
  have HB1 := Lib.hid (bel_add' hb1 n1 hb1.size)
  have HW1 := Lib.hid (hw1.step n1)
  have HX1 := Lib.hid X1
  have HY1 := Lib.hid Y1
  clear hw1 hb1 n1 X1 Y1
  go_wp2_with fail
  refine (HS1.out _ _ _ _ HW1.out HY1.out (HWo.out.below HB1.out)).mono ?_
  rintro e w2 ⟨D2, d2, A2, c2, rfl, hw2, hb2⟩
  have hz2 := hb2.size
  simp only [World.size_alloc] at hz2
  have X2 := HX1.out.below hb2 HX1.out.lt
  have HB2 := Lib.hid (bel_add' HB1.out hb2 HB1.out.size)
  have HX2 := Lib.hid X2
  have HW2 := Lib.hid hw2
  have X2a := X2.alloc (.cells #[.int .i64 0, .string ⟨#[]⟩, .int .i64 0] 30)
  have Z2 := (RowTo.whole w2 #[.int .i64 0, .string ⟨#[]⟩, .int .i64 0] 30).oth2 (R := w1.heap.size) (by omega) (.slice D2 W1.rows.length d2) (.slice A2 W1.ss.length c2)
  obtain ⟨a0, a1⟩ := cells2 X2a
  obtain ⟨b0, b1, b2⟩ := cells3 Z2
  have f0 := X2a.frozen 0
  have f1 := X2a.frozen 1
  have g0 := Z2.frozen 0
  have g1 := Z2.frozen 1
  have g2 := Z2.frozen 2
  have HZ := Lib.hid (stored3 X2a (RowTo.whole w2 #[.int .i64 0, .string ⟨#[]⟩, .int .i64 0] 30) (by omega) (hw2.step ((Below.refl _ _).alloc (Nat.le_refl _) _)) ((bel_add' HB1.out hb2 HB1.out.size).alloc (by omega) (.cells #[.int .i64 0, .string ⟨#[]⟩, .int .i64 0] 30)) (by omega) (by omega) (.int .i64 A1.kind) (.string A1.text) (.int .i64 0))
  clear hw2 hb2 X2 X2a Z2 HX1 HY1 HW1 HB1 HS1 HPL HB2 HX2 HW2
  go_wp2_with fail
  clear a0 a1 b0 b1 b2 f0 f1 g0 g1 g2
  obtain ⟨wU, HU⟩ : ∃ u, Hid ((((((w2.alloc (.cells #[.int .i64 0, .string ⟨#[]⟩, .int .i64 0] 30)).setCell ⟨w1.heap.size, 0, none⟩ (.slice D2 W1.rows.length d2)).setCell ⟨w1.heap.size, 1, none⟩ (.slice A2 W1.ss.length c2)).setCell ⟨w2.heap.size, 0, none⟩ (.int .i64 A1.kind)).setCell ⟨w2.heap.size, 1, none⟩ (.string A1.text)).setCell ⟨w2.heap.size, 2, none⟩ (.int .i64 0) = u) := ⟨_, Lib.hid rfl⟩
  rw [HU.out] at HZ ⊢
  have hzu : wU.heap.size = w2.heap.size + 1 := by rw [← HU.out]; simp [World.setCell]
  clear HU
  obtain ⟨hX, hW, hB⟩ := HZ.out
  have n3 := (Below.refl wU.heap.size wU).alloc (Nat.le_refl _) (.cells #[.int .i64 1, .string ⟨#[]⟩, .string ⟨#[]⟩] 27)
  have Y3 := RowTo.whole wU #[.int .i64 1, .string ⟨#[]⟩, .string ⟨#[]⟩] 27
  have hB3 := bel_add' hB n3 hB.size
  rw [hzu] at Y3
  refine (HS2.out _ _ _ _ (hW.step n3) Y3 (HWo.out.below hB3)).mono ?_
  rintro e w3 ⟨D3, d3, A3, c3, rfl, hw3, hb3⟩
  have hz3 := hb3.size
  simp only [World.size_alloc] at hz3
  have hB4 := bel_add' hB3 hb3 hB3.size
  have n4 := ((Below.refl w3.heap.size w3).alloc (Nat.le_refl _) (.cells #[.slice D3 V0.rows.length d3, .slice A3 V0.ss.length c3] 25)).alloc (by simp) (.cells #[.int .i64 1, .string ⟨#[]⟩, .int .i64 st2] 30)
  have X3 := hX.below n3 hX.lt
  have X4 := X3.below hb3 X3.lt
  have hwU := (hW.step n3).step hb3
  have Y4 := RowTo.whole (w3.alloc (.cells #[.slice D3 V0.rows.length d3, .slice A3 V0.ss.length c3] 25)) #[.int .i64 1, .string ⟨#[]⟩, .int .i64 st2] 30
  rw [World.size_alloc] at Y4
  have HAT := Lib.hid (show UndAt w ((w3.alloc (.cells #[.slice D3 V0.rows.length d3, .slice A3 V0.ss.length c3] 25)).alloc (.cells #[.int .i64 1, .string ⟨#[]⟩, .int .i64 st2] 30)) w1.heap.size w3.heap.size st2 (.slice D2 W1.rows.length d2) (.slice A2 W1.ss.length c2) (.slice D3 V0.rows.length d3) (.slice A3 V0.ss.length c3) W1 V0 from
    ⟨X4.below n4 X4.lt, (RowTo.whole w3 #[.slice D3 V0.rows.length d3, .slice A3 V0.ss.length c3] 25).alloc _, Y4, hwU.step n4, hw3.step n4, bel_add' hB4 n4 hB4.size, by omega, by omega⟩)
  clear hX hW hB HZ n3 Y3 hB3 hw3 hb3 hB4 n4 X3 X4 hwU Y4 HS2
  unfold ok'
  go_wp2
  go_loopw [11, 15] (fun o j wr => o = .bool true ∧ ∃ k : Nat, k ≤ m.length ∧ k ≤ 12 ∧ j = .int .i64 k ∧ Hid (∃ V r s, UndAt w wr w1.heap.size w3.heap.size st2 (.slice D2 W1.rows.length d2) (.slice A2 W1.ss.length c2) r s W1 V ∧ InIt W1 V 0)) (fun _ j _ => m.length - (intOf j).toNat)
  case atStart => exact ⟨rfl, 0, by omega, by omega, rfl, _, _, _, HAT.out, HIN.out⟩
  case round =>
    obtain ⟨rfl, k, hk, hk12, rfl, hR⟩ := hrel
    clear HAT HIN
    obtain ⟨V, r, s, hA, hI⟩ := hR.out
    obtain ⟨A, c, rfl, hc⟩ := hA.wb.sess.form
    obtain ⟨D, d, rfl, hd⟩ := hA.wb.rows.form
    have hlen : V.ss.length = 1 := hI.len.trans HL1.out
    have h0 : 0 < V.ss.length := by omega
    have HLV := Lib.hid hlen
    clear hlen
    have h1 : 0 < W1.ss.length := by rw [HL1.out]; omega
    have HA := Lib.hid hA
    have hbl := hA.bel.size
    have hlb := hA.b.lt
    have hlo := hA.lo
    have hne := hA.ne
    by_cases hlt : k < m.length ∧ k < 12
    · obtain ⟨hlt, hlt12⟩ := hlt
      have hwf := HM.out.wf m[k] (List.getElem_mem hlt)
      obtain ⟨b, off, rfl, hb, l0, l1, l2, l3⟩ := HM.out.pt hlt
      generalize m[k] = x at *
      have bl := hA.bel
      have d0 := (bl.cell (p := ⟨b, off + k * 4, none⟩) hb).trans l0
      have d1' := (bl.cell (p := ⟨b, off + k * 4 + 1, none⟩) hb).trans l1
      have d2' := (bl.cell (p := ⟨b, off + k * 4 + 2, none⟩) hb).trans l2
      have d3' := (bl.cell (p := ⟨b, off + k * 4 + 3, none⟩) hb).trans l3
      have hbw : b < wr.heap.size := Nat.lt_of_lt_of_le hb bl.size
      obtain ⟨wf1, wf2, wf3, wf4⟩ := hwf
      have HT := Lib.hid (fun wc => stmt_any x.kd x.a x.b x.c wc wf1 wf2 wf3 wf4)
      have hG := reqR_ok x
      obtain ⟨q, hq⟩ : ∃ q, reqR x = q := ⟨_, rfl⟩
      have HT2 : Hid (∀ wc : World, Calls Tryd.prog 15 #[.agg #[.int .i64 x.kd, .int .i64 x.a, .int .i64 x.b, .int .i64 x.c]] wc fun e w' => e = .returned (.agg #[.int .i64 q.k, .string q.key, .string q.val]) ∧ Below wc.heap.size wc w') := Lib.hid fun wc => by rw [← hq]; exact HT.out wc
      rw [hq] at hG
      obtain ⟨R, HR⟩ : ∃ R, Hid (doR V 0 q = R) := ⟨_, Lib.hid rfl⟩
      obtain ⟨st, HST⟩ : ∃ st, Hid ((R.1.at 0).st = st) := ⟨_, Lib.hid rfl⟩
      have HS := Lib.hid (said_one (t := 27) (k := q.k) (key := q.key) (val := q.val) HR.out HST.out hI.ok h0 hG)
      have HSTEP := Lib.hid (fun h2 h3 => HR.out ▸ hI.step h1 hG h2 h3)
      have HII := Lib.hid hI
      clear hA hI bl l0 l1 l2 l3 wf1 wf2 wf3 wf4 HT hG hq HR HST hR h0 h1
      go_wp2_with fail
      refine (HT2.out _).mono ?_
      rintro e w4 ⟨rfl, hb4⟩
      have hz4 := hb4.size
      have n4 := (Below.refl w4.heap.size w4).alloc (Nat.le_refl _) (.cells #[.int .i64 q.k, .string q.key, .string q.val] 27)
      have HB4 := Lib.hid (bel_add' hb4 n4 hb4.size)
      clear d0 d1' d2' d3' hb4 n4 HT2
      by_cases h2 : q.k = 2
      · have t1 : (q.k == 2) = true := by simp [h2]
        clear HSTEP h2 HS
        as_aux_lemma =>
          go_wp2
          go_roundw
          case rel => exact ⟨rfl, k + 1, by omega, by omega, by go_num, V, _, _, HA.out.below HB4.out, HII.out⟩
          case measure => simp [intOf]; omega
      · have t1 : (q.k == 2) = false := by simp [h2]
        by_cases h3 : q.k = 3
        · have t2 : (q.k == 3) = true := by simp [h3]
          clear HSTEP h2 h3 HS
          as_aux_lemma =>
            go_wp2
            go_roundw
            case rel => exact ⟨rfl, k + 1, by omega, by omega, by go_num, V, _, _, HA.out.below HB4.out, HII.out⟩
            case measure => simp [intOf]; omega
        · have t2 : (q.k == 3) = false := by simp [h3]
          have HI2 := Lib.hid (HSTEP.out h2 h3)
          have Y4 := RowTo.whole w4 #[.int .i64 q.k, .string q.key, .string q.val] 27
          obtain ⟨p0, p1, p2⟩ := cells3 Y4
          have n5 := (Below.refl (w4.alloc (.cells #[.int .i64 q.k, .string q.key, .string q.val] 27)).heap.size (w4.alloc (.cells #[.int .i64 q.k, .string q.key, .string q.val] 27))).alloc (Nat.le_refl _) (.cells #[.int .i64 q.k, .string q.key, .string q.val] 27)
          have Y5 := RowTo.whole (w4.alloc (.cells #[.int .i64 q.k, .string q.key, .string q.val] 27)) #[.int .i64 q.k, .string q.key, .string q.val] 27
          rw [World.size_alloc] at Y5
          have HB5 := Lib.hid (bel_add' HB4.out n5 HB4.out.size)
          obtain ⟨y0, y1⟩ := cells2 (HA.out.b.below HB4.out HA.out.b.lt)
          clear HSTEP h2 h3 HII n5 Y4
          go_wp2_with fail
          refine (HS.out _ _ _ _ (HA.out.wb.step HB5.out) Y5 (HWo.out.below (bel_add' HA.out.bel HB5.out HA.out.bel.size))).mono ?_
          rintro e w5 ⟨D5, d5, A5, c5, rfl, hw5, hb5⟩
          have hz5 := hb5.size
          simp only [World.size_alloc] at hz5
          have n6 := ((Below.refl w5.heap.size w5).alloc (Nat.le_refl _) (.cells #[.slice D5 R.1.rows.length d5, .slice A5 R.1.ss.length c5] 25)).alloc (by simp) (.cells #[.int .i64 R.2.kind, .string R.2.text, .int .i64 st] 30)
          have hB6 := bel_add' (bel_add' HB5.out hb5 HB5.out.size) n6 (bel_add' HB5.out hb5 HB5.out.size).size
          have X6 := HA.out.b.below hB6 HA.out.b.lt
          obtain ⟨y0', y1'⟩ := cells2 X6
          have f0 := X6.frozen 0
          have f1 := X6.frozen 1
          have HN := Lib.hid (HA.out.next hB6 (hw5.step n6))
          clear y0 y1 p0 p1 p2 Y5 hw5 hb5 n6 hB6 X6 HS
          as_aux_lemma =>
            go_wp2
            go_roundw
            case rel => exact ⟨rfl, k + 1, by omega, by omega, by go_num, _, _, _, HN.out, HI2.out⟩
            case measure => simp [intOf]; omega
    · obtain ⟨y0, y1⟩ := cells2 (hA.b.alloc (.cells #[.int .i64 3, .string ⟨#[]⟩, .string ⟨#[]⟩] 27))
      have S0 := RowTo.whole wr #[.int .i64 3, .string ⟨#[]⟩, .string ⟨#[]⟩] 27
      cases f with
      | false =>
        have hu := hI.undone h1 (k := 3) (Or.inl rfl)
        obtain ⟨R, HR⟩ : ∃ R, Hid (doR V 0 ⟨3, ⟨#[]⟩, ⟨#[]⟩⟩ = R) := ⟨_, Lib.hid rfl⟩
        rw [HR.out] at hu
        have HS := Lib.hid (said_one (t := 27) HR.out hu.2.1 hI.ok h0 (small_ok (n := 3) (by decide) (by decide)))
        obtain ⟨U, B⟩ := R
        simp only [] at hu
        obtain ⟨rfl, _, hur, hus, hul⟩ := hu
        have HUR := Lib.hid hur
        have HUS := Lib.hid hus
        have HUL := Lib.hid (hul.trans HL1.out)
        have n5 := ((Below.refl wr.heap.size wr).alloc (Nat.le_refl _) (.cells #[.int .i64 3, .string ⟨#[]⟩, .string ⟨#[]⟩] 27)).alloc (by simp) (.cells #[.int .i64 3, .string ⟨#[]⟩, .string ⟨#[]⟩] 27)
        have Y5 := RowTo.whole (wr.alloc (.cells #[.int .i64 3, .string ⟨#[]⟩, .string ⟨#[]⟩] 27)) #[.int .i64 3, .string ⟨#[]⟩, .string ⟨#[]⟩] 27
        rw [World.size_alloc] at Y5
        have HB5 := Lib.hid n5
        have HY5 := Lib.hid Y5
        obtain ⟨p0, p1, p2⟩ := cells3 S0
        clear hA hI hur hus hul n5 Y5 S0 hR h0 h1 HR
        obtain hx | ⟨hx, hx'⟩ : (¬ k < m.length) ∨ (k < m.length ∧ ¬ k < 12) := by omega
        · clear hlt
          go_wp2_with fail
          refine (HS.out _ _ _ _ (HA.out.wb.step HB5.out) HY5.out (HWo.out.below (bel_add' HA.out.bel HB5.out HA.out.bel.size))).mono ?_
          rintro e w5 ⟨D5, d5, A5, c5, rfl, hw5, hb5⟩
          have hz5 := hb5.size
          simp only [World.size_alloc] at hz5
          have n6 := (Below.refl w5.heap.size w5).alloc (Nat.le_refl _) (.cells #[.int .i64 0, .string ⟨#[]⟩, .int .i64 0] 30)
          have hB6 := bel_add' (bel_add' HB5.out hb5 HB5.out.size) n6 (bel_add' HB5.out hb5 HB5.out.size).size
          have X6 := HA.out.b.below hB6 HA.out.b.lt
          have Z6 := (RowTo.whole w5 #[.int .i64 0, .string ⟨#[]⟩, .int .i64 0] 30).oth2 (R := w3.heap.size) (by omega) (.slice D5 U.rows.length d5) (.slice A5 U.ss.length c5)
          have HN := Lib.hid (And.intro ((HA.out.next hB6 (hw5.step n6)).ans Z6 (by omega) (.int .i64 1) (.string ⟨#[]⟩) (.int .i64 0)) (Z6.set3 (.int .i64 1) (.string ⟨#[]⟩) (.int .i64 0)))
          obtain ⟨y0', y1'⟩ := cells2 X6
          obtain ⟨b0, b1, b2⟩ := cells3 Z6
          have f0 := X6.frozen 0
          have f1 := X6.frozen 1
          have g0 := Z6.frozen 0
          have g1 := Z6.frozen 1
          have g2 := Z6.frozen 2
          clear y0 y1 p0 p1 p2 hw5 hb5 n6 hB6 X6 Z6 HS HY5
          unfold ok'
          go_wp2_with fail
          clear y0' y1' b0 b1 b2 f0 f1 g0 g1 g2 HA HB5 HWo HM HL HLV hd hc
          obtain ⟨wF, HF⟩ : ∃ u, Hid ((((((w5.alloc (.cells #[.int .i64 0, .string ⟨#[]⟩, .int .i64 0] 30)).setCell ⟨w3.heap.size, 0, none⟩ (.slice D5 U.rows.length d5)).setCell ⟨w3.heap.size, 1, none⟩ (.slice A5 U.ss.length c5)).setCell ⟨w5.heap.size, 0, none⟩ (.int .i64 1)).setCell ⟨w5.heap.size, 1, none⟩ (.string ⟨#[]⟩)).setCell ⟨w5.heap.size, 2, none⟩ (.int .i64 0) = u) := ⟨_, Lib.hid rfl⟩
          rw [HF.out] at HN ⊢
          clear HF
          obtain ⟨N1, N2⟩ := HN.out
          obtain ⟨x0, x1, x2⟩ := cells3 N1.x
          obtain ⟨z0, z1, z2⟩ := cells3 N2
          obtain ⟨a0, a1⟩ := cells2 N1.a
          obtain ⟨b0, b1⟩ := cells2 N1.b
          have hU1 := HUL.out
          have hW1 := HL1.out
          have hU0 : 0 < U.ss.length := by omega
          have hW0 : 0 < W1.ss.length := by omega
          obtain ⟨gB, oB, u1, u2, u3, u4, rfl, hgB, sB⟩ := N1.wb.sess.pt hU0
          obtain ⟨gA, oA, v1, v2, v3, v4, rfl, hgA, sA⟩ := N1.wa.sess.pt hW0
          have hst : U.ss[0].set = W1.ss[0].set := by have h := HUS.out; rw [at_lt hU0, at_lt hW0] at h; exact h
          have q1 := sB.c1
          have q2 := sA.c1
          simp only [Nat.zero_mul, Nat.add_zero] at q1 q2
          have L1 := sB.l1
          have L2 := sA.l1
          rw [hst] at L1
          have R1 := N1.wb.rows
          have R2 := N1.wa.rows
          rw [HUR.out] at R1 b0
          rw [hU1] at b1
          rw [hW1] at a1
          have HL1' := Lib.hid L1
          have HL2' := Lib.hid L2
          have HR1 := Lib.hid R1
          have HR2 := Lib.hid R2
          have HBF := Lib.hid N1.bel
          have la := N1.a.lt
          have lb := N1.b.lt
          have lx := N1.x.lt
          have lz := N2.lt
          clear HN N1 N2 sA sB L1 L2 R1 R2 hst
          generalize W1.ss[0].set = setW at *
          generalize W1.rows = rowsW at *
          clear hU1 hW1 hU0 hW0 HUL HUR HUS HL1
          as_aux_lemma =>
            go_quiet (first | exact Calls.quiet_of (equalP_same _ _ _ _ _ (HR1.out.drewN _) (HR2.out.drewN _)) | exact Calls.quiet_of (equalP_same _ _ _ _ _ (HL1'.out.drewN _) (HL2'.out.drewN _)))
            go_wp2
            go_ret
            exact ⟨rfl, below_drewN HBF.out _⟩
        · clear hlt
          go_wp2_with fail
          refine (HS.out _ _ _ _ (HA.out.wb.step HB5.out) HY5.out (HWo.out.below (bel_add' HA.out.bel HB5.out HA.out.bel.size))).mono ?_
          rintro e w5 ⟨D5, d5, A5, c5, rfl, hw5, hb5⟩
          have hz5 := hb5.size
          simp only [World.size_alloc] at hz5
          have n6 := (Below.refl w5.heap.size w5).alloc (Nat.le_refl _) (.cells #[.int .i64 0, .string ⟨#[]⟩, .int .i64 0] 30)
          have hB6 := bel_add' (bel_add' HB5.out hb5 HB5.out.size) n6 (bel_add' HB5.out hb5 HB5.out.size).size
          have X6 := HA.out.b.below hB6 HA.out.b.lt
          have Z6 := (RowTo.whole w5 #[.int .i64 0, .string ⟨#[]⟩, .int .i64 0] 30).oth2 (R := w3.heap.size) (by omega) (.slice D5 U.rows.length d5) (.slice A5 U.ss.length c5)
          have HN := Lib.hid (And.intro ((HA.out.next hB6 (hw5.step n6)).ans Z6 (by omega) (.int .i64 1) (.string ⟨#[]⟩) (.int .i64 0)) (Z6.set3 (.int .i64 1) (.string ⟨#[]⟩) (.int .i64 0)))
          obtain ⟨y0', y1'⟩ := cells2 X6
          obtain ⟨b0, b1, b2⟩ := cells3 Z6
          have f0 := X6.frozen 0
          have f1 := X6.frozen 1
          have g0 := Z6.frozen 0
          have g1 := Z6.frozen 1
          have g2 := Z6.frozen 2
          clear y0 y1 p0 p1 p2 hw5 hb5 n6 hB6 X6 Z6 HS HY5
          unfold ok'
          go_wp2_with fail
          clear y0' y1' b0 b1 b2 f0 f1 g0 g1 g2 HA HB5 HWo HM HL HLV hd hc
          obtain ⟨wF, HF⟩ : ∃ u, Hid ((((((w5.alloc (.cells #[.int .i64 0, .string ⟨#[]⟩, .int .i64 0] 30)).setCell ⟨w3.heap.size, 0, none⟩ (.slice D5 U.rows.length d5)).setCell ⟨w3.heap.size, 1, none⟩ (.slice A5 U.ss.length c5)).setCell ⟨w5.heap.size, 0, none⟩ (.int .i64 1)).setCell ⟨w5.heap.size, 1, none⟩ (.string ⟨#[]⟩)).setCell ⟨w5.heap.size, 2, none⟩ (.int .i64 0) = u) := ⟨_, Lib.hid rfl⟩
          rw [HF.out] at HN ⊢
          clear HF
          obtain ⟨N1, N2⟩ := HN.out
          obtain ⟨x0, x1, x2⟩ := cells3 N1.x
          obtain ⟨z0, z1, z2⟩ := cells3 N2
          obtain ⟨a0, a1⟩ := cells2 N1.a
          obtain ⟨b0, b1⟩ := cells2 N1.b
          have hU1 := HUL.out
          have hW1 := HL1.out
          have hU0 : 0 < U.ss.length := by omega
          have hW0 : 0 < W1.ss.length := by omega
          obtain ⟨gB, oB, u1, u2, u3, u4, rfl, hgB, sB⟩ := N1.wb.sess.pt hU0
          obtain ⟨gA, oA, v1, v2, v3, v4, rfl, hgA, sA⟩ := N1.wa.sess.pt hW0
          have hst : U.ss[0].set = W1.ss[0].set := by have h := HUS.out; rw [at_lt hU0, at_lt hW0] at h; exact h
          have q1 := sB.c1
          have q2 := sA.c1
          simp only [Nat.zero_mul, Nat.add_zero] at q1 q2
          have L1 := sB.l1
          have L2 := sA.l1
          rw [hst] at L1
          have R1 := N1.wb.rows
          have R2 := N1.wa.rows
          rw [HUR.out] at R1 b0
          rw [hU1] at b1
          rw [hW1] at a1
          have HL1' := Lib.hid L1
          have HL2' := Lib.hid L2
          have HR1 := Lib.hid R1
          have HR2 := Lib.hid R2
          have HBF := Lib.hid N1.bel
          have la := N1.a.lt
          have lb := N1.b.lt
          have lx := N1.x.lt
          have lz := N2.lt
          clear HN N1 N2 sA sB L1 L2 R1 R2 hst
          generalize W1.ss[0].set = setW at *
          generalize W1.rows = rowsW at *
          clear hU1 hW1 hU0 hW0 HUL HUR HUS HL1
          as_aux_lemma =>
            go_quiet (first | exact Calls.quiet_of (equalP_same _ _ _ _ _ (HR1.out.drewN _) (HR2.out.drewN _)) | exact Calls.quiet_of (equalP_same _ _ _ _ _ (HL1'.out.drewN _) (HL2'.out.drewN _)))
            go_wp2
            go_ret
            exact ⟨rfl, below_drewN HBF.out _⟩
      | true =>
        have hf := fail_two hI h1
        obtain ⟨R0, HR0⟩ : ∃ R, Hid (doR V 0 ⟨5, ⟨#[]⟩, ⟨#[]⟩⟩ = R) := ⟨_, Lib.hid rfl⟩
        rw [HR0.out] at hf
        have HSF := Lib.hid (said_one (t := 27) HR0.out hf.2 hI.ok h0 (small_ok (n := 5) (by decide) (by decide)))
        obtain ⟨V2, B2⟩ := R0
        simp only [] at hf
        have h02 : 0 < V2.ss.length := by rw [hf.1.len]; exact h1
        have hu := hf.1.undone h1 (k := 2) (Or.inr ⟨rfl, hf.2⟩)
        obtain ⟨R, HR⟩ : ∃ R, Hid (doR V2 0 ⟨2, ⟨#[]⟩, ⟨#[]⟩⟩ = R) := ⟨_, Lib.hid rfl⟩
        rw [HR.out] at hu
        have HS := Lib.hid (said_one (t := 27) HR.out hu.2.1 hf.1.ok h02 (small_ok (n := 2) (by decide) (by decide)))
        obtain ⟨U, B⟩ := R
        simp only [] at hu
        obtain ⟨rfl, _, hur, hus, hul⟩ := hu
        have HUR := Lib.hid hur
        have HUS := Lib.hid hus
        have HUL := Lib.hid (hul.trans HL1.out)
        have n5 := ((Below.refl wr.heap.size wr).alloc (Nat.le_refl _) (.cells #[.int .i64 3, .string ⟨#[]⟩, .string ⟨#[]⟩] 27)).alloc (by simp) (.cells #[.int .i64 5, .string ⟨#[]⟩, .string ⟨#[]⟩] 27)
        have Y5 := RowTo.whole (wr.alloc (.cells #[.int .i64 3, .string ⟨#[]⟩, .string ⟨#[]⟩] 27)) #[.int .i64 5, .string ⟨#[]⟩, .string ⟨#[]⟩] 27
        rw [World.size_alloc] at Y5
        have HB5 := Lib.hid n5
        have HY5 := Lib.hid Y5
        have HS0 := Lib.hid (S0.alloc (.cells #[.int .i64 5, .string ⟨#[]⟩, .string ⟨#[]⟩] 27))
        clear hA hI hur hus hul n5 Y5 S0 hR h0 h1 HR hf h02 HR0
        obtain hx | ⟨hx, hx'⟩ : (¬ k < m.length) ∨ (k < m.length ∧ ¬ k < 12) := by omega
        · clear hlt
          go_wp2_with fail
          refine (HSF.out _ _ _ _ (HA.out.wb.step HB5.out) HY5.out (HWo.out.below (bel_add' HA.out.bel HB5.out HA.out.bel.size))).mono ?_
          rintro e w5 ⟨D5, d5, A5, c5, rfl, hw5, hb5⟩
          have hz5 := hb5.size
          simp only [World.size_alloc] at hz5
          have hlx := HA.out.x.lt
          have hB6 := bel_add' HB5.out hb5 HB5.out.size
          have X6 := HA.out.b.below hB6 HA.out.b.lt
          obtain ⟨y0', y1'⟩ := cells2 X6
          have f0 := X6.frozen 0
          have f1 := X6.frozen 1
          have hn6 := HA.out.next hB6 hw5
          have S6 := (HS0.out.below hb5 HS0.out.lt).oth2 (R := w3.heap.size) (by omega) (.slice D5 V2.rows.length d5) (.slice A5 V2.ss.length c5)
          obtain ⟨p0, p1, p2⟩ := cells3 S6
          have g0 := S6.frozen 0
          have hn7 := hn6.kind S6 (by omega) (.int .i64 2)
          have S7 := S6.put (j := 0) (by simp) (.int .i64 2)
          simp only [List.set_cons_zero] at S7
          have HN7 := Lib.hid (And.intro hn7 S7)
          clear y0 y1 hw5 hb5 hB6 X6 hn6 S6 hn7 S7 HSF HY5 HS0
          go_wp2_with fail
          clear y0' y1' p0 p1 p2 f0 f1 g0
          obtain ⟨wG, HG⟩ : ∃ u, Hid (((w5.setCell ⟨w3.heap.size, 0, none⟩ (.slice D5 V2.rows.length d5)).setCell ⟨w3.heap.size, 1, none⟩ (.slice A5 V2.ss.length c5)).setCell ⟨wr.heap.size, 0, none⟩ (.int .i64 2) = u) := ⟨_, Lib.hid rfl⟩
          rw [HG.out] at HN7 ⊢
          have hzg : wG.heap.size = w5.heap.size := by rw [← HG.out]; simp [World.setCell]
          clear HG
          have n8 := (Below.refl wG.heap.size wG).alloc (Nat.le_refl _) (.cells #[.int .i64 2, .string ⟨#[]⟩, .string ⟨#[]⟩] 27)
          have Y8 := RowTo.whole wG #[.int .i64 2, .string ⟨#[]⟩, .string ⟨#[]⟩] 27
          rw [hzg] at Y8
          refine (HS.out _ _ _ _ (HN7.out.1.wb.step n8) Y8 (HWo.out.below (bel_add' HN7.out.1.bel n8 HN7.out.1.bel.size))).mono ?_
          rintro e w6 ⟨D6, d6, A6, c6, rfl, hw6, hb6⟩
          have hz6 := hb6.size
          simp only [World.size_alloc] at hz6
          have n9 := (Below.refl w6.heap.size w6).alloc (Nat.le_refl _) (.cells #[.int .i64 0, .string ⟨#[]⟩, .int .i64 0] 30)
          have hB9 := bel_add' (bel_add' n8 hb6 n8.size) n9 (bel_add' n8 hb6 n8.size).size
          have X9 := HN7.out.1.b.below hB9 HN7.out.1.b.lt
          have Z9 := (RowTo.whole w6 #[.int .i64 0, .string ⟨#[]⟩, .int .i64 0] 30).oth2 (R := w3.heap.size) (by omega) (.slice D6 U.rows.length d6) (.slice A6 U.ss.length c6)
          have HN := Lib.hid (And.intro ((HN7.out.1.next hB9 (hw6.step n9)).ans Z9 (by omega) (.int .i64 1) (.string ⟨#[]⟩) (.int .i64 0)) (Z9.set3 (.int .i64 1) (.string ⟨#[]⟩) (.int .i64 0)))
          obtain ⟨y0', y1'⟩ := cells2 X9
          obtain ⟨b0, b1, b2⟩ := cells3 Z9
          have f0 := X9.frozen 0
          have f1 := X9.frozen 1
          have g0 := Z9.frozen 0
          have g1 := Z9.frozen 1
          have g2 := Z9.frozen 2
          clear hw6 hb6 n8 n9 hB9 X9 Z9 Y8 HS HN7
          unfold ok'
          go_wp2_with fail
          clear y0' y1' b0 b1 b2 f0 f1 g0 g1 g2 HA HB5 HWo HM HL HLV hd hc
          obtain ⟨wF, HF⟩ : ∃ u, Hid ((((((w6.alloc (.cells #[.int .i64 0, .string ⟨#[]⟩, .int .i64 0] 30)).setCell ⟨w3.heap.size, 0, none⟩ (.slice D6 U.rows.length d6)).setCell ⟨w3.heap.size, 1, none⟩ (.slice A6 U.ss.length c6)).setCell ⟨w6.heap.size, 0, none⟩ (.int .i64 1)).setCell ⟨w6.heap.size, 1, none⟩ (.string ⟨#[]⟩)).setCell ⟨w6.heap.size, 2, none⟩ (.int .i64 0) = u) := ⟨_, Lib.hid rfl⟩
          rw [HF.out] at HN ⊢
          clear HF
          obtain ⟨N1, N2⟩ := HN.out
          obtain ⟨x0, x1, x2⟩ := cells3 N1.x
          obtain ⟨z0, z1, z2⟩ := cells3 N2
          obtain ⟨a0, a1⟩ := cells2 N1.a
          obtain ⟨b0, b1⟩ := cells2 N1.b
          have hU1 := HUL.out
          have hW1 := HL1.out
          have hU0 : 0 < U.ss.length := by omega
          have hW0 : 0 < W1.ss.length := by omega
          obtain ⟨gB, oB, u1, u2, u3, u4, rfl, hgB, sB⟩ := N1.wb.sess.pt hU0
          obtain ⟨gA, oA, v1, v2, v3, v4, rfl, hgA, sA⟩ := N1.wa.sess.pt hW0
          have hst : U.ss[0].set = W1.ss[0].set := by have h := HUS.out; rw [at_lt hU0, at_lt hW0] at h; exact h
          have q1 := sB.c1
          have q2 := sA.c1
          simp only [Nat.zero_mul, Nat.add_zero] at q1 q2
          have L1 := sB.l1
          have L2 := sA.l1
          rw [hst] at L1
          have R1 := N1.wb.rows
          have R2 := N1.wa.rows
          rw [HUR.out] at R1 b0
          rw [hU1] at b1
          rw [hW1] at a1
          have HL1' := Lib.hid L1
          have HL2' := Lib.hid L2
          have HR1 := Lib.hid R1
          have HR2 := Lib.hid R2
          have HBF := Lib.hid N1.bel
          have la := N1.a.lt
          have lb := N1.b.lt
          have lx := N1.x.lt
          have lz := N2.lt
          clear HN N1 N2 sA sB L1 L2 R1 R2 hst
          generalize W1.ss[0].set = setW at *
          generalize W1.rows = rowsW at *
          clear hU1 hW1 hU0 hW0 HUL HUR HUS HL1
          as_aux_lemma =>
            go_quiet (first | exact Calls.quiet_of (equalP_same _ _ _ _ _ (HR1.out.drewN _) (HR2.out.drewN _)) | exact Calls.quiet_of (equalP_same _ _ _ _ _ (HL1'.out.drewN _) (HL2'.out.drewN _)))
            go_wp2
            go_ret
            exact ⟨rfl, below_drewN HBF.out _⟩
        · clear hlt
          go_wp2_with fail
          refine (HSF.out _ _ _ _ (HA.out.wb.step HB5.out) HY5.out (HWo.out.below (bel_add' HA.out.bel HB5.out HA.out.bel.size))).mono ?_
          rintro e w5 ⟨D5, d5, A5, c5, rfl, hw5, hb5⟩
          have hz5 := hb5.size
          simp only [World.size_alloc] at hz5
          have hlx := HA.out.x.lt
          have hB6 := bel_add' HB5.out hb5 HB5.out.size
          have X6 := HA.out.b.below hB6 HA.out.b.lt
          obtain ⟨y0', y1'⟩ := cells2 X6
          have f0 := X6.frozen 0
          have f1 := X6.frozen 1
          have hn6 := HA.out.next hB6 hw5
          have S6 := (HS0.out.below hb5 HS0.out.lt).oth2 (R := w3.heap.size) (by omega) (.slice D5 V2.rows.length d5) (.slice A5 V2.ss.length c5)
          obtain ⟨p0, p1, p2⟩ := cells3 S6
          have g0 := S6.frozen 0
          have hn7 := hn6.kind S6 (by omega) (.int .i64 2)
          have S7 := S6.put (j := 0) (by simp) (.int .i64 2)
          simp only [List.set_cons_zero] at S7
          have HN7 := Lib.hid (And.intro hn7 S7)
          clear y0 y1 hw5 hb5 hB6 X6 hn6 S6 hn7 S7 HSF HY5 HS0
          go_wp2_with fail
          clear y0' y1' p0 p1 p2 f0 f1 g0
          obtain ⟨wG, HG⟩ : ∃ u, Hid (((w5.setCell ⟨w3.heap.size, 0, none⟩ (.slice D5 V2.rows.length d5)).setCell ⟨w3.heap.size, 1, none⟩ (.slice A5 V2.ss.length c5)).setCell ⟨wr.heap.size, 0, none⟩ (.int .i64 2) = u) := ⟨_, Lib.hid rfl⟩
          rw [HG.out] at HN7 ⊢
          have hzg : wG.heap.size = w5.heap.size := by rw [← HG.out]; simp [World.setCell]
          clear HG
          have n8 := (Below.refl wG.heap.size wG).alloc (Nat.le_refl _) (.cells #[.int .i64 2, .string ⟨#[]⟩, .string ⟨#[]⟩] 27)
          have Y8 := RowTo.whole wG #[.int .i64 2, .string ⟨#[]⟩, .string ⟨#[]⟩] 27
          rw [hzg] at Y8
          refine (HS.out _ _ _ _ (HN7.out.1.wb.step n8) Y8 (HWo.out.below (bel_add' HN7.out.1.bel n8 HN7.out.1.bel.size))).mono ?_
          rintro e w6 ⟨D6, d6, A6, c6, rfl, hw6, hb6⟩
          have hz6 := hb6.size
          simp only [World.size_alloc] at hz6
          have n9 := (Below.refl w6.heap.size w6).alloc (Nat.le_refl _) (.cells #[.int .i64 0, .string ⟨#[]⟩, .int .i64 0] 30)
          have hB9 := bel_add' (bel_add' n8 hb6 n8.size) n9 (bel_add' n8 hb6 n8.size).size
          have X9 := HN7.out.1.b.below hB9 HN7.out.1.b.lt
          have Z9 := (RowTo.whole w6 #[.int .i64 0, .string ⟨#[]⟩, .int .i64 0] 30).oth2 (R := w3.heap.size) (by omega) (.slice D6 U.rows.length d6) (.slice A6 U.ss.length c6)
          have HN := Lib.hid (And.intro ((HN7.out.1.next hB9 (hw6.step n9)).ans Z9 (by omega) (.int .i64 1) (.string ⟨#[]⟩) (.int .i64 0)) (Z9.set3 (.int .i64 1) (.string ⟨#[]⟩) (.int .i64 0)))
          obtain ⟨y0', y1'⟩ := cells2 X9
          obtain ⟨b0, b1, b2⟩ := cells3 Z9
          have f0 := X9.frozen 0
          have f1 := X9.frozen 1
          have g0 := Z9.frozen 0
          have g1 := Z9.frozen 1
          have g2 := Z9.frozen 2
          clear hw6 hb6 n8 n9 hB9 X9 Z9 Y8 HS HN7
          unfold ok'
          go_wp2_with fail
          clear y0' y1' b0 b1 b2 f0 f1 g0 g1 g2 HA HB5 HWo HM HL HLV hd hc
          obtain ⟨wF, HF⟩ : ∃ u, Hid ((((((w6.alloc (.cells #[.int .i64 0, .string ⟨#[]⟩, .int .i64 0] 30)).setCell ⟨w3.heap.size, 0, none⟩ (.slice D6 U.rows.length d6)).setCell ⟨w3.heap.size, 1, none⟩ (.slice A6 U.ss.length c6)).setCell ⟨w6.heap.size, 0, none⟩ (.int .i64 1)).setCell ⟨w6.heap.size, 1, none⟩ (.string ⟨#[]⟩)).setCell ⟨w6.heap.size, 2, none⟩ (.int .i64 0) = u) := ⟨_, Lib.hid rfl⟩
          rw [HF.out] at HN ⊢
          clear HF
          obtain ⟨N1, N2⟩ := HN.out
          obtain ⟨x0, x1, x2⟩ := cells3 N1.x
          obtain ⟨z0, z1, z2⟩ := cells3 N2
          obtain ⟨a0, a1⟩ := cells2 N1.a
          obtain ⟨b0, b1⟩ := cells2 N1.b
          have hU1 := HUL.out
          have hW1 := HL1.out
          have hU0 : 0 < U.ss.length := by omega
          have hW0 : 0 < W1.ss.length := by omega
          obtain ⟨gB, oB, u1, u2, u3, u4, rfl, hgB, sB⟩ := N1.wb.sess.pt hU0
          obtain ⟨gA, oA, v1, v2, v3, v4, rfl, hgA, sA⟩ := N1.wa.sess.pt hW0
          have hst : U.ss[0].set = W1.ss[0].set := by have h := HUS.out; rw [at_lt hU0, at_lt hW0] at h; exact h
          have q1 := sB.c1
          have q2 := sA.c1
          simp only [Nat.zero_mul, Nat.add_zero] at q1 q2
          have L1 := sB.l1
          have L2 := sA.l1
          rw [hst] at L1
          have R1 := N1.wb.rows
          have R2 := N1.wa.rows
          rw [HUR.out] at R1 b0
          rw [hU1] at b1
          rw [hW1] at a1
          have HL1' := Lib.hid L1
          have HL2' := Lib.hid L2
          have HR1 := Lib.hid R1
          have HR2 := Lib.hid R2
          have HBF := Lib.hid N1.bel
          have la := N1.a.lt
          have lb := N1.b.lt
          have lx := N1.x.lt
          have lz := N2.lt
          clear HN N1 N2 sA sB L1 L2 R1 R2 hst
          generalize W1.ss[0].set = setW at *
          generalize W1.rows = rowsW at *
          clear hU1 hW1 hU0 hW0 HUL HUR HUS HL1
          as_aux_lemma =>
            go_quiet (first | exact Calls.quiet_of (equalP_same _ _ _ _ _ (HR1.out.drewN _) (HR2.out.drewN _)) | exact Calls.quiet_of (equalP_same _ _ _ _ _ (HL1'.out.drewN _) (HL2'.out.drewN _)))
            go_wp2
            go_ret
            exact ⟨rfl, below_drewN HBF.out _⟩
end Go.Proofs.YtpbaobmegomfpabDoor

/-
  Plain mathematics: what PrepsRun plays.
-/
namespace Go.Proofs.YtpbaobmegomfpabDoor
open Go.RowKit
set_option linter.unusedVariables false

def ownK : ByteArray := ⟨#[111, 119, 110]⟩
def prT : Nat → ByteArray
  | 0 => ⟨#[103, 101, 116, 32, 97]⟩
  | 1 => ⟨#[114, 101, 97, 100, 32, 114, 111, 119]⟩
  | 2 => ⟨#[112, 117, 116, 32, 114, 111, 119, 32, 118, 57]⟩
  | _ => ⟨#[112, 117, 116, 32, 122, 122, 122, 32, 120]⟩
theorem prT_read : ∀ i, i < 4 → readE (prT i) = 0 := by decide +kernel
theorem prT_kind : ∀ i, i < 4 → kindN (cutA (prT i)) ≠ 8 := by decide +kernel
theorem prT_prep : ∀ i, i < 4 → checkE 11 ownK (prT i) = 0 := by decide +kernel
theorem prT_ok : ∀ i, i < 4 → checkE (kindN (cutA (prT i))) (cutA (cutB (prT i))) (cutB (cutB (prT i))) = 0 := by decide +kernel
theorem prT_get : ∀ (x : Nat) (h : x < [Value.string ⟨#[103, 101, 116, 32, 97]⟩, .string ⟨#[114, 101, 97, 100, 32, 114, 111, 119]⟩, .string ⟨#[112, 117, 116, 32, 114, 111, 119, 32, 118, 57]⟩, .string ⟨#[112, 117, 116, 32, 122, 122, 122, 32, 120]⟩].length),
    [Value.string ⟨#[103, 101, 116, 32, 97]⟩, .string ⟨#[114, 101, 97, 100, 32, 114, 111, 119]⟩, .string ⟨#[112, 117, 116, 32, 114, 111, 119, 32, 118, 57]⟩, .string ⟨#[112, 117, 116, 32, 122, 122, 122, 32, 120]⟩][x] = .string (prT x)
  | 0, _ => rfl
  | 1, _ => rfl
  | 2, _ => rfl
  | 3, _ => rfl
def prL (t : ByteArray) : List Req := [⟨3, ⟨#[]⟩, ⟨#[]⟩⟩, ⟨4, ⟨#[]⟩, ⟨#[]⟩⟩, ⟨11, ownK, t⟩]
theorem prL_ok {t : ByteArray} (h : checkE 11 ownK t = 0) : ∀ r ∈ prL t, r.ok := by
  intro r hr
  simp only [prL, List.mem_cons, List.not_mem_nil, or_false] at hr
  rcases hr with rfl | rfl | rfl
  · exact small_ok (n := 3) (by decide) (by decide)
  · exact small_ok (n := 4) (by decide) (by decide)
  · exact h
theorem pr_after {W : Wd} (h : WorldOk W) (hi : 0 < W.ss.length) (t : ByteArray) : ((saidM 0 W (prL t)).at 0).st = 0 ∧ ((saidM 0 W (prL t)).at 0).prep = [(ownK, t)] := by
  have h1 := doR_ok h hi (r := ⟨3, ⟨#[]⟩, ⟨#[]⟩⟩) (small_ok (n := 3) (by decide) (by decide))
  have h0 := roll_idle h hi
  show ((doR (doR (doR W 0 ⟨3, ⟨#[]⟩, ⟨#[]⟩⟩).1 0 ⟨4, ⟨#[]⟩, ⟨#[]⟩⟩).1 0 ⟨11, ownK, t⟩).1.at 0).st = 0 ∧ _
  show _ ∧ ((doR (doR (doR W 0 ⟨3, ⟨#[]⟩, ⟨#[]⟩⟩).1 0 ⟨4, ⟨#[]⟩, ⟨#[]⟩⟩).1 0 ⟨11, ownK, t⟩).1.at 0).prep = _
  generalize (doR W 0 ⟨3, ⟨#[]⟩, ⟨#[]⟩⟩).1 = V at *
  have hV : 0 < V.ss.length := by rw [h1.2]; exact hi
  have e : doR V 0 ⟨4, ⟨#[]⟩, ⟨#[]⟩⟩ = (V.put 0 ⟨(V.at 0).st, [], [], (V.at 0).sav, (V.at 0).wr⟩, ok') := by
    unfold doR doM didM did1
    simp [h0, ok']
  rw [e]
  simp only
  have hU : 0 < (V.put 0 ⟨(V.at 0).st, [], [], (V.at 0).sav, (V.at 0).wr⟩).ss.length := by rw [wput_len]; exact hV
  have ha : (V.put 0 ⟨(V.at 0).st, [], [], (V.at 0).sav, (V.at 0).wr⟩).at 0 = ⟨(V.at 0).st, [], [], (V.at 0).sav, (V.at 0).wr⟩ := wput_at hV _
  generalize V.put 0 ⟨(V.at 0).st, [], [], (V.at 0).sav, (V.at 0).wr⟩ = V2 at *
  have a0 : (V2.at 0).st = 0 := by rw [ha]; exact h0
  have a1 : (V2.at 0).prep = [] := by rw [ha]
  have e2 : doR V2 0 ⟨11, ownK, t⟩ = (V2.put 0 ⟨(V2.at 0).st, (V2.at 0).set, [(ownK, t)], (V2.at 0).sav, (V2.at 0).wr⟩, ok') := by
    unfold doR doM didM did1
    simp [a0, a1, ok', plusL, plusGo]
  rw [e2]
  simp only
  rw [wput_at hU]
  exact ⟨a0, rfl⟩
/-- the two do the same -/
theorem pr_same {W : Wd} (h : WorldOk W) (hi : 0 < W.ss.length) {i : Nat} (h4 : i < 4) : doR (saidM 0 W (prL (prT i))) 0 ⟨8, ownK, ⟨#[]⟩⟩ = doR (saidM 0 W (prL (prT i))) 0 ⟨kindN (cutA (prT i)), cutA (cutB (prT i)), cutB (cutB (prT i))⟩ := by
  obtain ⟨h1, h2⟩ := pr_after h hi (prT i)
  refine exec_same (t := prT i) ?_ (by rw [h1]; decide) rfl (by have := prT_kind i h4; show ((kindN (cutA (prT i)) : Nat) : Int) ≠ 8; omega)
  rw [h2]
  simp [atL, eqB_self]
theorem exec_ok : checkE 8 ownK ⟨#[]⟩ = 0 := by decide +kernel
end Go.Proofs.YtpbaobmegomfpabDoor

/-
  The walk of the law PrepsRun.
-/
namespace Go.Proofs.YtpbaobmegomfpabDoor
open Go.RowKit
set_option linter.unusedVariables false
set_option linter.unusedSimpArgs false
set_option maxRecDepth 100000

theorem prepsRun.laidFacts {W : World} (h : laidMetH Tryd.prog Rows.prepsRunRow.laid W) : Words W := words_of h (by simp [Rows.prepsRunRow, Rows.laid_tillerman_say_words, List.range, List.range.loop, wordL])
theorem sl_three {w : World} {g t : Nat} {k1 k2 k3 : Int} {a1 b1 a2 b2 a3 b3 : ByteArray} (h : RowTo w g t 9 [.int .i64 k1, .string a1, .string b1, .int .i64 k2, .string a2, .string b2, .int .i64 k3, .string a3, .string b3]) : SLst w w.heap.size (.slice (some ⟨g, 0, none⟩) 3 3) [(k1, a1, b1), (k2, a2, b2), (k3, a3, b3)] := by
  refine ⟨⟨_, 3, rfl, by simp⟩, by simp, fun _ => ⟨g, 0, 3, rfl, h.lt, fun i hi => ?_⟩⟩
  have hi3 : i < 3 := by simpa using hi
  obtain rfl | rfl | rfl : i = 0 ∨ i = 1 ∨ i = 2 := by omega
  · exact ⟨h.cell (j := 0) (by simp), h.cell (j := 1) (by simp), h.cell (j := 2) (by simp)⟩
  · exact ⟨h.cell (j := 3) (by simp), h.cell (j := 4) (by simp), h.cell (j := 5) (by simp)⟩
  · exact ⟨h.cell (j := 6) (by simp), h.cell (j := 7) (by simp), h.cell (j := 8) (by simp)⟩
set_option maxHeartbeats 1000000 in
theorem walk_PrepsRun (v : Value) (l : List Raw) (n : Int) (w : World) (hl : RLst w w.heap.size v l) (hn : (Lit.int .i64 n).wf = true) (hWo : Words w) :
    Calls Tryd.prog 8 #[v, .int .i64 n] w fun e w' => e = .returned (.bool true) ∧ Below w.heap.size w w' := by
  have HL := Lib.hid hl
  have HWo := Lib.hid hWo
  have hnb := i64_bd hn
  have hok := play_ok (n := 2) (by omega) (l := l.take 30) (W := zeroW 2) (zeros_ok (by omega)) (by simp [zeroW])
  have HPL := Lib.hid (fun wc (h1 : RLst wc wc.heap.size v l) h2 => played_any v l 2 30 wc h1 h2 (by omega) (by omega) (by omega))
  have hpk := pickI_bd n (m := 4) (by omega)
  obtain ⟨i, hi⟩ : ∃ i : Nat, pickI n 4 = i := ⟨(pickI n 4).toNat, by omega⟩
  have hi4 : i < 4 := by omega
  have HP := Lib.hid (fun wc => picked_any n 4 wc hnb.1 hnb.2 (by omega) (by omega))
  rw [hi] at HP
  generalize playM 2 (zeroW 2) (l.take 30) = W0 at *
  have h0 : 0 < W0.ss.length := by rw [hok.2]; omega
  have HRD := Lib.hid (fun wc (h : Words wc) => read_ok (prT i) wc h (prT_read i hi4))
  have HSM := Lib.hid (pr_same hok.1 h0 hi4)
  have hok1 := said_ok (i := 0) hok.1 h0 (prL_ok (prT_prep i hi4))
  have HS1 := Lib.hid (fun (r s v : Value) (wc : World) (h1 : Wld wc wc.heap.size r s W0) (h2 : SLst wc wc.heap.size v [(3, ⟨#[]⟩, ⟨#[]⟩), (4, ⟨#[]⟩, ⟨#[]⟩), (11, ownK, prT i)]) (h3 : Words wc) => said_any r s W0 0 v _ wc h1 h2 h3 hok.1 h0 (fun t ht => prL_ok (prT_prep i hi4) (toR t) (List.mem_map_of_mem (f := toR) ht)))
  have hko := prT_ok i hi4
  obtain ⟨W1, HQ1⟩ : ∃ W, Hid (saidM 0 W0 (prL (prT i)) = W) := ⟨_, Lib.hid rfl⟩
  rw [HQ1.out] at HSM hok1
  have HS1' : Hid (∀ (r s v : Value) (wc : World), Wld wc wc.heap.size r s W0 → SLst wc wc.heap.size v [(3, ⟨#[]⟩, ⟨#[]⟩), (4, ⟨#[]⟩, ⟨#[]⟩), (11, ownK, prT i)] → Words wc →
      Calls Tryd.prog 18 #[.agg #[r, s], .int .i64 0, v] wc fun e w' => ∃ D d A c k t st, e = .returned (.tuple #[.agg #[.slice D W1.rows.length d, .slice A W1.ss.length c], .agg #[.int .i64 k, .string t, .int .i64 st], .bool true]) ∧ Wld w' w'.heap.size (.slice D W1.rows.length d) (.slice A W1.ss.length c) W1 ∧ Below wc.heap.size wc w') := Lib.hid fun r s v wc h1 h2 h3 => by
    refine (HS1.out r s v wc h1 h2 h3).mono ?_
    rintro e w' ⟨r', s', rfl, hw, hb⟩
    have hw' : Wld w' w'.heap.size r' s' W1 := HQ1.out ▸ hw
    obtain ⟨A, c, rfl, _⟩ := hw'.sess.form
    obtain ⟨D, d, rfl, _⟩ := hw'.rows.form
    exact ⟨D, d, A, c, _, _, _, rfl, hw', hb⟩
  have h1 : 0 < W1.ss.length := by rw [hok1.2]; exact h0
  obtain ⟨q, HQ⟩ : ∃ q : Req, Hid ((⟨kindN (cutA (prT i)), cutA (cutB (prT i)), cutB (cutB (prT i))⟩ : Req) = q) := ⟨_, Lib.hid rfl⟩
  have hqo : q.ok := by rw [← HQ.out]; exact hko
  have HRD2 : Hid (∀ (wc : World), Words wc → Calls Tryd.prog 20 #[.string (prT i)] wc fun e w' => e = .returned (.tuple #[.agg #[.int .i64 q.k, .string q.key, .string q.val], .int .i64 0]) ∧ Below wc.heap.size wc w') := Lib.hid fun wc h => by rw [← HQ.out]; exact HRD.out wc h
  rw [HQ.out] at HSM
  obtain ⟨R, HR⟩ : ∃ R, Hid (doR W1 0 q = R) := ⟨_, Lib.hid rfl⟩
  obtain ⟨st, HST⟩ : ∃ st, Hid ((R.1.at 0).st = st) := ⟨_, Lib.hid rfl⟩
  have HS2 := Lib.hid (said_one (t := 27) (k := q.k) (key := q.key) (val := q.val) HR.out HST.out hok1.1 h1 hqo)
  have HS3 := Lib.hid (said_one (t := 27) (k := 8) (key := ownK) (val := ⟨#[]⟩) (HSM.out.trans HR.out) HST.out hok1.1 h1 exec_ok)
  have HRL := Lib.hid (show R.1.ss.length = 2 from by rw [← HR.out, (doR_ok hok1.1 h1 hqo).2, hok1.2, hok.2])
  generalize ht : prT i = t at *
  have HTG := Lib.hid ht
  clear hl hWo hn hnb hpk hi hok h0 hok1 h1 hqo hko HRD HS1 HSM HQ HR HST HQ1 ht
  go_enter Tryd.func8, Tryd.ntmps8
  go_wp2_with fail
  refine (HPL.out _ HL.out HWo.out).mono ?_
  rintro e w1 ⟨r, s, o, rfl, hw1, hb1⟩
  obtain ⟨D1, d1, rfl, _⟩ := hw1.sess.form
  obtain ⟨C1, c1, rfl, _⟩ := hw1.rows.form
  have hz1 := hb1.size
  have n1 := (Below.refl w1.heap.size w1).alloc (Nat.le_refl _) (.cells #[.slice C1 W0.rows.length c1, .slice D1 W0.ss.length d1] 25)
  have HX1 := Lib.hid (RowTo.whole w1 #[.slice C1 W0.rows.length c1, .slice D1 W0.ss.length d1] 25)
  have HB1 := Lib.hid (bel_add' hb1 n1 hb1.size)
  have HW1 := Lib.hid (hw1.step n1)
  clear hw1 hb1 n1 HPL
  go_wp2_with fail
  refine (HP.out _).mono ?_
  rintro e w' ⟨rfl, rfl⟩
  go_wp2_with fail
  rw [prT_get, HTG.out]
  have n2 := (Below.refl (w1.alloc (.cells #[.slice C1 W0.rows.length c1, .slice D1 W0.ss.length d1] 25)).heap.size (w1.alloc (.cells #[.slice C1 W0.rows.length c1, .slice D1 W0.ss.length d1] 25))).alloc (Nat.le_refl _) (.cells #[.string ⟨#[103, 101, 116, 32, 97]⟩, .string ⟨#[114, 101, 97, 100, 32, 114, 111, 119]⟩, .string ⟨#[112, 117, 116, 32, 114, 111, 119, 32, 118, 57]⟩, .string ⟨#[112, 117, 116, 32, 122, 122, 122, 32, 120]⟩] 9)
  refine (HRD2.out _ (HWo.out.below (bel_add' HB1.out n2 HB1.out.size))).mono ?_
  rintro e w2 ⟨rfl, hb2⟩
  have hz2 := hb2.size
  simp only [World.size_alloc] at hz2
  have HB2 := Lib.hid (bel_add' n2 hb2 n2.size)
  clear n2 hb2 HRD2
  have HX2 := Lib.hid ((HX1.out.below HB2.out HX1.out.lt).alloc (.cells #[.int .i64 q.k, .string q.key, .string q.val] 27))
  obtain ⟨a0, a1⟩ := cells2 HX2.out
  go_wp2_with fail
  clear a0 a1
  have nq := ((Below.refl w2.heap.size w2).alloc (Nat.le_refl _) (.cells #[.int .i64 q.k, .string q.key, .string q.val] 27)).alloc (by simp) (.cells #[.int .i64 3, .string ⟨#[]⟩, .string ⟨#[]⟩, .int .i64 4, .string ⟨#[]⟩, .string ⟨#[]⟩, .int .i64 11, .string ⟨#[111, 119, 110]⟩, .string t] 27)
  have hBB := bel_add' (bel_add' HB1.out HB2.out HB1.out.size) nq (bel_add' HB1.out HB2.out HB1.out.size).size
  have Y3 := RowTo.whole (w2.alloc (.cells #[.int .i64 q.k, .string q.key, .string q.val] 27)) #[.int .i64 3, .string ⟨#[]⟩, .string ⟨#[]⟩, .int .i64 4, .string ⟨#[]⟩, .string ⟨#[]⟩, .int .i64 11, .string ⟨#[111, 119, 110]⟩, .string t] 27
  rw [World.size_alloc] at Y3
  have HX3 := Lib.hid (HX2.out.alloc (.cells #[.int .i64 3, .string ⟨#[]⟩, .string ⟨#[]⟩, .int .i64 4, .string ⟨#[]⟩, .string ⟨#[]⟩, .int .i64 11, .string ⟨#[111, 119, 110]⟩, .string t] 27))
  have HQ3 := Lib.hid ((RowTo.whole w2 #[.int .i64 q.k, .string q.key, .string q.val] 27).alloc (.cells #[.int .i64 3, .string ⟨#[]⟩, .string ⟨#[]⟩, .int .i64 4, .string ⟨#[]⟩, .string ⟨#[]⟩, .int .i64 11, .string ⟨#[111, 119, 110]⟩, .string t] 27))
  have hsl : SLst ((w2.alloc (.cells #[.int .i64 q.k, .string q.key, .string q.val] 27)).alloc (.cells #[.int .i64 3, .string ⟨#[]⟩, .string ⟨#[]⟩, .int .i64 4, .string ⟨#[]⟩, .string ⟨#[]⟩, .int .i64 11, .string ⟨#[111, 119, 110]⟩, .string t] 27)) ((w2.alloc (.cells #[.int .i64 q.k, .string q.key, .string q.val] 27)).alloc (.cells #[.int .i64 3, .string ⟨#[]⟩, .string ⟨#[]⟩, .int .i64 4, .string ⟨#[]⟩, .string ⟨#[]⟩, .int .i64 11, .string ⟨#[111, 119, 110]⟩, .string t] 27)).heap.size (.slice (some ⟨w2.heap.size + 1, 0, none⟩) 3 3) [(3, ⟨#[]⟩, ⟨#[]⟩), (4, ⟨#[]⟩, ⟨#[]⟩), (11, ownK, t)] := sl_three Y3
  have hww := (HW1.out.step HB2.out).step nq
  have hcl := HS1'.out _ _ _ _ hww hsl (HWo.out.below hBB)
  refine hcl.mono ?_
  rintro e w3 ⟨D3, d3, A3, c3, k3, t3, st3, rfl, hw3, hb3⟩
  have hz3 := hb3.size
  simp only [World.size_alloc] at hz3
  have X3 := (HX3.out.below hb3 HX3.out.lt).alloc (.cells #[.int .i64 0, .string ⟨#[]⟩, .int .i64 0] 30)
  have Q3 := (HQ3.out.below hb3 HQ3.out.lt).alloc (.cells #[.int .i64 0, .string ⟨#[]⟩, .int .i64 0] 30)
  have Z3 := (RowTo.whole w3 #[.int .i64 0, .string ⟨#[]⟩, .int .i64 0] 30).oth2 (R := w1.heap.size) (by omega) (.slice D3 W1.rows.length d3) (.slice A3 W1.ss.length c3)
  obtain ⟨a0, a1⟩ := cells2 X3
  obtain ⟨b0, b1, b2⟩ := cells3 Z3
  have f0 := X3.frozen 0
  have f1 := X3.frozen 1
  have g0 := Z3.frozen 0
  have g1 := Z3.frozen 1
  have g2 := Z3.frozen 2
  have hs3 := stored3 X3 (RowTo.whole w3 #[.int .i64 0, .string ⟨#[]⟩, .int .i64 0] 30) (by omega) (hw3.step ((Below.refl _ _).alloc (Nat.le_refl _) _)) ((bel_add' hBB hb3 hBB.size).alloc (by omega) (.cells #[.int .i64 0, .string ⟨#[]⟩, .int .i64 0] 30)) (by omega) (by omega) (.int .i64 k3) (.string t3) (.int .i64 st3)
  have HZ := Lib.hid (And.intro hs3 ((Q3.oth2 (R := w1.heap.size) (by omega) (.slice D3 W1.rows.length d3) (.slice A3 W1.ss.length c3)).oth3 (R := w3.heap.size) (by omega) (.int .i64 k3) (.string t3) (.int .i64 st3)))
  obtain ⟨x0, x1, x2⟩ := cells3 HZ.out.2
  obtain ⟨y0, y1⟩ := cells2 HZ.out.1.1
  have hwo1 : w2.heap.size ≠ w1.heap.size := by omega
  have hwo2 : w2.heap.size ≠ w3.heap.size := by omega
  have hwo3 : w1.heap.size ≠ w3.heap.size := by omega
  clear hw3 hb3 X3 Q3 Z3 hs3 hcl hsl hww hBB nq Y3 HX3 HQ3 HX2 HX1 HB1 HB2 HW1 HS1'
  go_wp2_with fail
  clear a0 a1 b0 b1 b2 f0 f1 g0 g1 g2 x0 x1 x2 y0 y1 hwo1 hwo2 hwo3
  obtain ⟨wU, HU⟩ : ∃ u, Hid ((((((w3.alloc (.cells #[.int .i64 0, .string ⟨#[]⟩, .int .i64 0] 30)).setCell ⟨w1.heap.size, 0, none⟩ (.slice D3 W1.rows.length d3)).setCell ⟨w1.heap.size, 1, none⟩ (.slice A3 W1.ss.length c3)).setCell ⟨w3.heap.size, 0, none⟩ (.int .i64 k3)).setCell ⟨w3.heap.size, 1, none⟩ (.string t3)).setCell ⟨w3.heap.size, 2, none⟩ (.int .i64 st3) = u) := ⟨_, Lib.hid rfl⟩
  rw [HU.out] at HZ ⊢
  have hzu : wU.heap.size = w3.heap.size + 1 := by rw [← HU.out]; simp [World.setCell]
  clear HU
  obtain ⟨⟨hX, hW, hB⟩, hQ⟩ := HZ.out
  have n4 := (Below.refl wU.heap.size wU).alloc (Nat.le_refl _) (.cells #[.int .i64 q.k, .string q.key, .string q.val] 27)
  have Y4 := RowTo.whole wU #[.int .i64 q.k, .string q.key, .string q.val] 27
  rw [hzu] at Y4
  have hB4 := bel_add' hB n4 hB.size
  refine (HS2.out _ _ _ _ (hW.step n4) Y4 (HWo.out.below hB4)).mono ?_
  rintro e w4 ⟨D4, d4, A4, c4, rfl, hw4, hb4⟩
  have hz4 := hb4.size
  simp only [World.size_alloc] at hz4
  have nv := ((Below.refl w4.heap.size w4).alloc (Nat.le_refl _) (.cells #[.slice D4 R.1.rows.length d4, .slice A4 R.1.ss.length c4] 25)).alloc (by simp) (.cells #[.int .i64 R.2.kind, .string R.2.text, .int .i64 st] 30)
  have hU4 := bel_add' (bel_add' n4 hb4 n4.size) nv (bel_add' n4 hb4 n4.size).size
  have HX4 := Lib.hid (hX.below hU4 hX.lt)
  have HW4 := Lib.hid (hW.step hU4)
  have HV4 := Lib.hid (hw4.step nv)
  have HB4 := Lib.hid (bel_add' hB hU4 hB.size)
  have HR4 := Lib.hid ((RowTo.whole w4 #[.slice D4 R.1.rows.length d4, .slice A4 R.1.ss.length c4] 25).alloc (.cells #[.int .i64 R.2.kind, .string R.2.text, .int .i64 st] 30))
  have HA4 := Lib.hid (RowTo.whole (w4.alloc (.cells #[.slice D4 R.1.rows.length d4, .slice A4 R.1.ss.length c4] 25)) #[.int .i64 R.2.kind, .string R.2.text, .int .i64 st] 30)
  simp only [World.size_alloc] at HA4
  obtain ⟨y0, y1⟩ := cells2 HX4.out
  clear HZ hX hW hB hQ n4 Y4 hB4 hw4 hb4 nv hU4 HS2
  go_wp2_with fail
  clear y0 y1
  have n5 := (Below.refl ((w4.alloc (.cells #[.slice D4 R.1.rows.length d4, .slice A4 R.1.ss.length c4] 25)).alloc (.cells #[.int .i64 R.2.kind, .string R.2.text, .int .i64 st] 30)).heap.size ((w4.alloc (.cells #[.slice D4 R.1.rows.length d4, .slice A4 R.1.ss.length c4] 25)).alloc (.cells #[.int .i64 R.2.kind, .string R.2.text, .int .i64 st] 30))).alloc (Nat.le_refl _) (.cells #[.int .i64 8, .string ⟨#[111, 119, 110]⟩, .string ⟨#[]⟩] 27)
  have Y5 := RowTo.whole ((w4.alloc (.cells #[.slice D4 R.1.rows.length d4, .slice A4 R.1.ss.length c4] 25)).alloc (.cells #[.int .i64 R.2.kind, .string R.2.text, .int .i64 st] 30)) #[.int .i64 8, .string ⟨#[111, 119, 110]⟩, .string ⟨#[]⟩] 27
  simp only [World.size_alloc] at Y5
  have hcl := HS3.out _ _ _ _ (HW4.out.step n5) Y5 (HWo.out.below (bel_add' HB4.out n5 HB4.out.size))
  refine hcl.mono ?_
  rintro e w5 ⟨D5, d5, A5, c5, rfl, hw5, hb5⟩
  have hz5 := hb5.size
  simp only [World.size_alloc] at hz5
  have nu := ((Below.refl w5.heap.size w5).alloc (Nat.le_refl _) (.cells #[.slice D5 R.1.rows.length d5, .slice A5 R.1.ss.length c5] 25)).alloc (by simp) (.cells #[.int .i64 R.2.kind, .string R.2.text, .int .i64 st] 30)
  have hU5 := bel_add' (bel_add' n5 hb5 n5.size) nu (bel_add' n5 hb5 n5.size).size
  have R4 := HR4.out.below hU5 HR4.out.lt
  have A4' := HA4.out.below hU5 HA4.out.lt
  have V4 := HV4.out.step hU5
  have V5 := hw5.step nu
  have R5 := (RowTo.whole w5 #[.slice D5 R.1.rows.length d5, .slice A5 R.1.ss.length c5] 25).alloc (.cells #[.int .i64 R.2.kind, .string R.2.text, .int .i64 st] 30)
  have A5' := RowTo.whole (w5.alloc (.cells #[.slice D5 R.1.rows.length d5, .slice A5 R.1.ss.length c5] 25)) #[.int .i64 R.2.kind, .string R.2.text, .int .i64 st] 30
  simp only [World.size_alloc] at A5'
  have HB5 := Lib.hid (bel_add' HB4.out hU5 HB4.out.size)
  obtain ⟨p0, p1⟩ := cells2 R4
  obtain ⟨q0, q1⟩ := cells2 R5
  obtain ⟨a0, a1, a2⟩ := cells3 A4'
  obtain ⟨b0, b1, b2⟩ := cells3 A5'
  have hR2 := HRL.out
  have hR0 : 0 < R.1.ss.length := by omega
  obtain ⟨gB, oB, u1, u2, u3, u4, rfl, hgB, sB⟩ := V5.sess.pt hR0
  obtain ⟨gA, oA, v1, v2, v3, v4, rfl, hgA, sA⟩ := V4.sess.pt hR0
  have s4 := sB.c4
  have r4 := sA.c4
  simp only [Nat.zero_mul, Nat.add_zero] at s4 r4
  have HL1 := Lib.hid sB.l4
  have HL2 := Lib.hid sA.l4
  have HR1 := Lib.hid V5.rows
  have HR2 := Lib.hid V4.rows
  have t1 : (R.2.kind == R.2.kind) = true := by simp
  have t2 : (st == st) = true := by simp
  clear hcl hw5 hb5 n5 nu hU5 R4 A4' R5 A5' V4 V5 sA sB Y5 HX4 HW4 HV4 HB4 HR4 HA4 HWo HL HTG HP
  generalize R.1.ss[0].wr = wrR at *
  clear hR0
  generalize R.1.rows = rowsR at *
  generalize R.1.ss.length = nn at *
  subst hR2
  clear HRL
  go_wp2_with fail
  generalize (w5.alloc (.cells #[.slice D5 rowsR.length d5, .slice (some ⟨gB, oB, none⟩) 2 c5] 25)).alloc (.cells #[.int .i64 R.2.kind, .string R.2.text, .int .i64 st] 30) = wF at *
  have la : w4.heap.size < wF.heap.size := World.block_lt_of_cell? wF _ p0
  have lb : w4.heap.size + 1 < wF.heap.size := World.block_lt_of_cell? wF _ a0
  have lc : w5.heap.size < wF.heap.size := World.block_lt_of_cell? wF _ q0
  have ld : w5.heap.size + 1 < wF.heap.size := World.block_lt_of_cell? wF _ b0
  clear hz1 hz2 hz3 hz4 hz5 hzu
  as_aux_lemma =>
    go_quiet (first | exact Calls.quiet_of (equalP_same _ _ _ _ _ (HR1.out.drewN _) (HR2.out.drewN _)) | exact Calls.quiet_of (equalP_same _ _ _ _ _ (HL1.out.drewN _) (HL2.out.drewN _)))
    go_wp2
    go_ret
    exact ⟨rfl, below_drewN HB5.out _⟩
end Go.Proofs.YtpbaobmegomfpabDoor

