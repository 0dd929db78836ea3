/-
  Texts of the proof, one behind the other: RefE.
-/
import Derived.Test.YtpbaobmegomfpabGreatDoorTPoolRuns6
set_option linter.unusedVariables false
set_option linter.unusedSimpArgs false
set_option maxRecDepth 100000
open List renaming getElem_toArray → gTA, getElem_cons_zero → gCZ, getElem_cons_succ → gCS, setIfInBounds_toArray → sTA, set_cons_zero → sCZ, set_cons_succ → sCS
open Go.Lib renaming hid → jD
open Nat renaming le_refl → nL
namespace Go.Proofs.YtpbaobmegomfpabGreatDoor
open Go.RowKit
section
variable {Q : Nat → Prop} {w w7 : World} {S cap n : Nat} {rv r : Value} {W W' : Wd}
theorem fin_w (hR : RowTo w7 (w.heap.size + 1 + 1) 39 2 [.slice none 0 0, .slice none 0 0]) (hA : RowTo w7 (w.heap.size + 1 + 1 + 1) 46 3 [.int .i64 0, .string ⟨#[]⟩, .int .i64 0]) (hr : RefP Q w7 S cap rv W') (ho : OnlyT S w w7) (hSw : S < w.heap.size) (x1 x2 x3 x4 x5 : Value) :
  RefP Q (((((w7.setCell ⟨w.heap.size + 1 + 1, 0, none⟩ x1).setCell ⟨w.heap.size + 1 + 1, 1, none⟩ x2).setCell ⟨w.heap.size + 1 + 1 + 1, 0, none⟩ x3).setCell ⟨w.heap.size + 1 + 1 + 1, 1, none⟩ x4).setCell ⟨w.heap.size + 1 + 1 + 1, 2, none⟩ x5) S cap rv W' ∧ OnlyT S w (((((w7.setCell ⟨w.heap.size + 1 + 1, 0, none⟩ x1).setCell ⟨w.heap.size + 1 + 1, 1, none⟩ x2).setCell ⟨w.heap.size + 1 + 1 + 1, 0, none⟩ x3).setCell ⟨w.heap.size + 1 + 1 + 1, 1, none⟩ x4).setCell ⟨w.heap.size + 1 + 1 + 1, 2, none⟩ x5) := by
 obtain ⟨r', e, h1, h2⟩ := fin_z (n := 0) (R := (W', ⟨0, ⟨#[]⟩⟩)) hR hA hr ho hSw x1 x2 x3 x4 x5
 have e' : rv = r' := by simpa [slc, ansV] using e
 subst e'
 exact ⟨h1, h2⟩
theorem RefP.failed (h : RefP Q w S cap r W) (hQ : ∀ b, Q b → b ≠ S) {i : Nat} (hi : i < W.ss.length) :
  RefP Q ((w.setCell ⟨S, i * 5, none⟩ (.int .i64 2)).setCell ⟨S, i * 5 + 4, none⟩ (.slice none 0 0)) S cap r (W.put i { W.ss[i] with st := 2, wr := [] }) := by
 have hlen := h.len
 have hk : ∀ b, b ≠ S → ((w.setCell ⟨S, i * 5, none⟩ (.int .i64 2)).setCell ⟨S, i * 5 + 4, none⟩ (.slice none 0 0)).heap[b]? = w.heap[b]? := fun b hb => by rw [Below.heap_setCell _ _ _ _ hb, Below.heap_setCell _ _ _ _ hb]
 have hs : ((w.setCell ⟨S, i * 5, none⟩ (.int .i64 2)).setCell ⟨S, i * 5 + 4, none⟩ (.slice none 0 0)).heap.size = w.heap.size := by simp [World.setCell]
 have co : ∀ j, j ≠ i * 5 → j ≠ i * 5 + 4 → ((w.setCell ⟨S, i * 5, none⟩ (.int .i64 2)).setCell ⟨S, i * 5 + 4, none⟩ (.slice none 0 0)).cell? ⟨S, j, none⟩ = w.cell? ⟨S, j, none⟩ := fun j h1 h2 => by rw [cell_off _ h2, cell_off _ h1]
 have ll : ∀ {v : Value} {l : PL}, Lst w w.heap.size v l → InP Q v l → Lst ((w.setCell ⟨S, i * 5, none⟩ (.int .i64 2)).setCell ⟨S, i * 5 + 4, none⟩ (.slice none 0 0)) ((w.setCell ⟨S, i * 5, none⟩ (.int .i64 2)).setCell ⟨S, i * 5 + 4, none⟩ (.slice none 0 0)).heap.size v l := fun a b => a.keepP (own_lt a b) (fun x hx => hk x (hQ x hx.1)) (fun x hx => by rw [hs]; exact hx.2)
 have hl : (W.put i { W.ss[i] with st := 2, wr := [] }).ss.length = W.ss.length := List.length_set
 refine ⟨ll h.rows h.rin, h.rin, (h.blk.hit _).hit _, by rw [hl]; exact h.len, by rw [hl]; exact h.bytes, fun k hk' => ?_⟩
 rw [hl] at hk'
 obtain ⟨v1, v2, v3, v4, q⟩ := h.ses k hk'
 by_cases e : i = k
 ·subst e
  have es : (W.put i { W.ss[i] with st := 2, wr := [] }).ss[i]'(by rw [hl]; exact hk') = { W.ss[i] with st := 2, wr := [] } := by simp [Wd.put]
  rw [es]
  refine ⟨v1, v2, v3, .slice none 0 0, ⟨?_, (co _ (by omega) (by omega)).trans q.core.c1, (co _ (by omega) (by omega)).trans q.core.c2, (co _ (by omega) (by omega)).trans q.core.c3, cell_put (h.blk.hit _) (by omega) _, ll q.core.l1 q.p1, ll q.core.l2 q.p2, ll q.core.l3 q.p3, Lst.none_ _ _⟩, q.p1, q.p2, q.p3, InP.nil_ _ _⟩
  rw [cell_off _ (by omega)]; exact cell_put h.blk (by omega) _
 ·have es : (W.put i { W.ss[i] with st := 2, wr := [] }).ss[k]'(by rw [hl]; exact hk') = W.ss[k] := by simp [Wd.put, e]
  rw [es]
  exact ⟨v1, v2, v3, v4, ⟨(co _ (by omega) (by omega)).trans q.core.c0, (co _ (by omega) (by omega)).trans q.core.c1, (co _ (by omega) (by omega)).trans q.core.c2, (co _ (by omega) (by omega)).trans q.core.c3, (co _ (by omega) (by omega)).trans q.core.c4, ll q.core.l1 q.p1, ll q.core.l2 q.p2, ll q.core.l3 q.p3, ll q.core.l4 q.p4⟩, q.p1, q.p2, q.p3, q.p4⟩
theorem OnlyT.hit (h : OnlyT S w w7) (j : Nat) (v : Value) : OnlyT S w (w7.setCell ⟨S, j, none⟩ v) := ⟨h.1.set j v, h.2.1, h.2.2.1, h.2.2.2⟩
end
def DidsZ (Q : Nat → Prop) (w : World) (S cap n : Nat) (R : Wd × Ans) (st : Int) (e : Ending) (w' : World) : Prop :=
 ∃ r', e = .returned (.tuple #[.agg #[r', slc S n cap], .agg #[.int .i64 R.2.kind, .string R.2.text, .int .i64 st]]) ∧ RefP Q w' S cap r' R.1 ∧ OnlyT S w w'
structure AtD (Q : Nat → Prop) (w w9 : World) (S cap n o : Nat) (rv : Value) (W' : Wd) (k : Int) (t : ByteArray) (st : Int) : Prop where
 R : RowTo w9 (w.heap.size + 1 + 1) 39 2 [.slice none 0 0, .slice none 0 0]
 A : RowTo w9 (w.heap.size + 1 + 1 + 1) 46 3 [.int .i64 0, .string ⟨#[]⟩, .int .i64 0]
 O : RowTo w9 o 39 2 [rv, slc S n cap]
 P : RowTo w9 (o + 1) 46 3 [.int .i64 k, .string t, .int .i64 st]
 ref : RefP Q w9 S cap rv W'
 only : OnlyT S w w9
 Sw : S < w.heap.size
 lo : w.heap.size + 1 + 1 + 1 + 1 ≤ o
theorem atD_new {Q : Nat → Prop} {w w2 : World} {S cap n : Nat} {rv : Value} {W' : Wd} (k : Int) (t : ByteArray) (st : Int) (hR : RowTo w2 (w.heap.size + 1 + 1) 39 2 [.slice none 0 0, .slice none 0 0]) (hA : RowTo w2 (w.heap.size + 1 + 1 + 1) 46 3 [.int .i64 0, .string ⟨#[]⟩, .int .i64 0]) (hr : RefP Q w2 S cap rv W') (ho : OnlyT S w w2) (hSw : S < w.heap.size) (hlo : w.heap.size + 1 + 1 + 1 + 1 ≤ w2.heap.size) :
  AtD Q w ((w2.alloc (.cells #[rv, slc S n cap] 39)).alloc (.cells #[.int .i64 k, .string t, .int .i64 st] 46)) S cap n w2.heap.size rv W' k t st := by
 have b := ((Below.refl w2.heap.size w2).alloc (nL _) (.cells #[rv, slc S n cap] 39)).alloc (by simp) (.cells #[.int .i64 k, .string t, .int .i64 st] 46)
 have p := RowTo.whole (w2.alloc (.cells #[rv, slc S n cap] 39)) #[.int .i64 k, .string t, .int .i64 st] 46
 rw [World.size_alloc] at p
 exact ⟨hR.below b hR.lt, hA.below b hA.lt, (RowTo.whole w2 #[rv, slc S n cap] _).alloc _, p, hr.below b, ho.trans (.of b), hSw, hlo⟩
set_option maxHeartbeats 8000000 in
theorem didsz_any {Q : Nat → Prop} (S cap : Nat) (r : Value) (W : Wd) (i : Nat) (k : Int) (key val : ByteArray) (w : World) (h : RefP Q w S cap r W) (hw : WorldOk W) (hQ : ∀ b, Q b → b ≠ S) (hN : ∀ b, w.heap.size ≤ b → Q b) (hi : i < W.ss.length) (hg : checkE k key val = 0) :
  Calls Tryz.prog 81 #[.agg #[r, slc S W.ss.length cap], .int .i64 i, .agg #[.int .i64 k, .string key, .string val]] w (DidsZ Q w S cap W.ss.length (doM W i k key val) ((doM W i k key val).1.at i).st) := by
 obtain ⟨D, d, rfl, hd⟩ := h.rows.form
 have H0 := jD (doAt0 w (.slice D W.rows.length d) (.slice (some ⟨S, 0, none⟩) W.ss.length cap) k key val)
 have hSw := h.blk.lt
 have hii : (i : Int) < (W.ss.length : Int) := by omega
 have hfine := didM_ok hw hi hg
 obtain ⟨R, HR⟩ : ∃ R, Hid (didM W i k key val = R) := ⟨_, jD rfl⟩
 have HC := jD (didz_any (Q := Q) S cap _ W i k key val _ (h.below H0.out.bel) hw hQ (fun b hb => hN b (Nat.le_trans H0.out.bel.size hb)) hi hg)
 unfold doW0 at HC
 unfold slc at HC
 rw [HR.out] at HC hfine
 have HQ := jD hQ
 have HDO := jD (show doM W i k key val = if R.2.kind = 4 ∧ (R.1.at i).st = 1 then (R.1.put i { R.1.at i with st := 2, wr := [] }, R.2) else R by unfold doM; rw [HR.out])
 clear h hw hQ hN HR
 unfold slc
 go_enter Tryz.func81, Tryz.ntmps81
 go_wp2_with fail
 refine HC.out.mono ?_
 rintro e w1 ⟨r8, rfl, hr8, hon8⟩
 have h0 := H0.out
 unfold doW0 at h0
 have R8 := h0.R.same (hon8.1.2 _ h0.R.lt (by omega))
 have A8 := h0.A.same (hon8.1.2 _ h0.A.lt (by omega))
 have hz8 : w.heap.size + 1 + 1 + 1 + 1 ≤ w1.heap.size := by have := hon8.1.1; simp only [World.size_alloc] at this; omega
 have HON := jD ((OnlyT.of (S := S) h0.bel).trans hon8)
 obtain ⟨D8, d8, rfl, _⟩ := hr8.rows.form
 obtain ⟨m8, hm8⟩ : ∃ m8, R.1.rows.length = m8 := ⟨_, rfl⟩
 rw [hm8] at hr8 ⊢
 clear hm8
 have hqi : i < R.1.ss.length := by rw [hfine.2]; exact hi
 obtain ⟨v1, v2, v3, v4, hs⟩ := hr8.ses i hqi
 have s0 := hs.core.c0
 have hS1 := hr8.blk.lt
 have hlen8 := hr8.len
 have f0 := hr8.blk.frozen (i * 5)
 have f4 := hr8.blk.frozen (i * 5 + 4)
 obtain ⟨u4, s4⟩ := hr8.blk.any (j := i * 5 + 4) (by omega)
 have H8 := jD hr8
 have HRA := jD (And.intro R8 A8)
 have HL := jD hfine.2
 have ea := jD (at_lt hqi)
 rw [ea.out] at HDO
 clear hr8 hon8 h0 R8 A8 hs hfine HC H0
 unfold slc ansV
 by_cases hcase : R.2.kind = 4 ∧ R.1.ss[i].st = 1
 case' pos =>
  have c1 : (R.2.kind == 4) = true := beq_iff_eq.2 hcase.1
  have c2 : (R.1.ss[i].st == 1) = true := beq_iff_eq.2 hcase.2
  have HE := jD (atD_new (n := W.ss.length) R.2.kind R.2.text 2 ((HRA.out.1.other (p := ⟨S, i * 5, none⟩) (by show S ≠ _; omega) (.int .i64 2)).other (p := ⟨S, i * 5 + 4, none⟩) (by show S ≠ _; omega) (.slice none 0 0)) ((HRA.out.2.other (p := ⟨S, i * 5, none⟩) (by show S ≠ _; omega) (.int .i64 2)).other (p := ⟨S, i * 5 + 4, none⟩) (by show S ≠ _; omega) (.slice none 0 0)) (H8.out.failed HQ.out hqi) ((HON.out.hit _ _).hit _ _) hSw (by rw [size_set, size_set]; exact hz8))
  have HD := jD (show doM W i k key val = (R.1.put i { R.1.ss[i] with st := 2, wr := [] }, R.2) ∧ ((R.1.put i { R.1.ss[i] with st := 2, wr := [] }).at i).st = 2 from ⟨by rw [HDO.out, if_pos hcase], by rw [wput_at hqi]⟩)
  clear hcase HDO
  go_wp2
  obtain ⟨W9, HW9⟩ : ∃ u, Hid ((((w1.setCell ⟨S, i * 5, none⟩ (.int .i64 2)).setCell ⟨S, i * 5 + 4, none⟩ (.slice none 0 0)).alloc (.cells #[.slice D8 m8 d8, slc S W.ss.length cap] 39)).alloc (.cells #[.int .i64 R.2.kind, .string R.2.text, .int .i64 2] 46) = u) := ⟨_, jD rfl⟩
  rw [HW9.out] at HE
  unfold slc at HW9
  rw [HW9.out]
  have hzo : ((w1.setCell ⟨S, i * 5, none⟩ (.int .i64 2)).setCell ⟨S, i * 5 + 4, none⟩ (.slice none 0 0)).heap.size = w1.heap.size := by rw [size_set, size_set]
  rw [hzo] at HE
  obtain ⟨W8, h8⟩ : ∃ W8, Hid (R.1.put i { R.1.ss[i] with st := 2, wr := [] } = W8) := ⟨_, jD rfl⟩
  rw [h8.out] at HE HD
  obtain ⟨st, hst⟩ : ∃ st : Int, Hid (st = 2) := ⟨2, jD rfl⟩
  rw [← hst.out] at HE HD
 case' neg =>
  have HE := jD (atD_new (n := W.ss.length) R.2.kind R.2.text R.1.ss[i].st HRA.out.1 HRA.out.2 H8.out HON.out hSw hz8)
  have HD := jD (show doM W i k key val = (R.1, R.2) ∧ (R.1.at i).st = R.1.ss[i].st from ⟨by rw [HDO.out, if_neg hcase], by rw [ea.out]⟩)
  clear HDO
  by_cases c4 : R.2.kind = 4
  case' pos =>
   have c1 : (R.2.kind == 4) = true := beq_iff_eq.2 c4
   have c2 : (R.1.ss[i].st == 1) = false := beq_eq_false_iff_ne.2 fun h1 => hcase ⟨c4, h1⟩
  case' neg => have c1 : (R.2.kind == 4) = false := beq_eq_false_iff_ne.2 c4
  all_goals
   clear hcase c4
   go_wp2
   obtain ⟨W9, HW9⟩ : ∃ u, Hid ((w1.alloc (.cells #[.slice D8 m8 d8, slc S W.ss.length cap] 39)).alloc (.cells #[.int .i64 R.2.kind, .string R.2.text, .int .i64 R.1.ss[i].st] 46) = u) := ⟨_, jD rfl⟩
   rw [HW9.out] at HE
   unfold slc at HW9
   rw [HW9.out]
   obtain ⟨st, hst⟩ : ∃ st : Int, Hid (st = R.1.ss[i].st) := ⟨_, jD rfl⟩
   rw [← hst.out] at HE HD
   obtain ⟨W8, h8⟩ : ∃ W8, Hid (R.1 = W8) := ⟨_, jD rfl⟩
   rw [h8.out] at HE HD
 all_goals
  clear s0 s4 f0 f4 c1
  obtain ⟨x0, x1⟩ := cells2 HE.out.O
  obtain ⟨o0, o1, o2⟩ := cells3 HE.out.P
  obtain ⟨r0, r1⟩ := cells2 HE.out.R
  obtain ⟨b0, b1, b2⟩ := cells3 HE.out.A
  obtain ⟨g0, g1, _⟩ := frozen5 HE.out.R 0
  obtain ⟨k0, k1, k2, _⟩ := frozen5 HE.out.A 0
  simp only [Nat.zero_add] at g1 k1 k2
  skip
  have HF := jD (fin_w HE.out.R HE.out.A HE.out.ref HE.out.only hSw)
  have eX : w.heap.size + 1 + 1 ≠ w1.heap.size := by omega
  have eO : w.heap.size + 1 + 1 ≠ w1.heap.size + 1 := by omega
  refine wp_region_z 3 (fun wx => wx.cell? ⟨w1.heap.size, 0, none⟩ = some (.slice D8 m8 d8) ∧ wx.cell? ⟨w1.heap.size, 1, none⟩ = some (.slice (some ⟨S, 0, none⟩) W.ss.length cap) ∧ wx.cell? ⟨w1.heap.size + 1, 0, none⟩ = some (.int .i64 R.2.kind) ∧ wx.cell? ⟨w1.heap.size + 1, 1, none⟩ = some (.string R.2.text) ∧ wx.cell? ⟨w1.heap.size + 1, 2, none⟩ = some (.int .i64 st)) (by kernel_rfl) (show W9.drew.cell? ⟨w1.heap.size, 0, none⟩ = some (.slice D8 m8 d8) ∧ W9.drew.cell? ⟨w1.heap.size, 1, none⟩ = some (.slice (some ⟨S, 0, none⟩) W.ss.length cap) ∧ W9.drew.cell? ⟨w1.heap.size + 1, 0, none⟩ = some (.int .i64 R.2.kind) ∧ W9.drew.cell? ⟨w1.heap.size + 1, 1, none⟩ = some (.string R.2.text) ∧ W9.drew.cell? ⟨w1.heap.size + 1, 2, none⟩ = some (.int .i64 st) from ⟨x0, x1, o0, o1, o2⟩) (fun hS => ?_)
  refine wpAnyZ_take (i := 0) (v := ?_) rfl (by kernel_rfl) (by kernel_rfl) (by kernel_rfl) (by kernel_rfl) (fun _ _ _ h => h) (Or.inl ⟨by rfl, ?_⟩) hS ?_
  rotate_left
  ·(intro w hSw; (try dsimp only at hSw); (try simp only [gTA, gCZ, gCS]); go_simp; try with_reducible rfl)
  (try simp only [gTA, gCZ, gCS, Act.put, sTA, sCZ, sCS])
  refine wpAnyZ_take (i := 1) (v := ?_) rfl (by kernel_rfl) (by kernel_rfl) (by kernel_rfl) (by kernel_rfl) (fun _ _ _ h => h) (Or.inl ⟨by rfl, ?_⟩) hS ?_
  rotate_left
  ·(intro w hSw; (try dsimp only at hSw); (try simp only [gTA, gCZ, gCS]); go_simp; try with_reducible rfl)
  (try simp only [gTA, gCZ, gCS, Act.put, sTA, sCZ, sCS])
  refine wpAnyZ_one (i := 2) rfl rfl (by kernel_rfl) (fun K hK => ?_)
  (try simp only [gTA, gCZ, gCS])
  go_simp
  have hS2 := (show ((W9.drew.setCell ⟨w.heap.size + 1 + 1, 0, none⟩ (.slice D8 m8 d8)).setCell ⟨w.heap.size + 1 + 1, 1, none⟩ (.slice (some ⟨S, 0, none⟩) W.ss.length cap)).cell? ⟨w1.heap.size, 0, none⟩ = some (.slice D8 m8 d8) ∧ ((W9.drew.setCell ⟨w.heap.size + 1 + 1, 0, none⟩ (.slice D8 m8 d8)).setCell ⟨w.heap.size + 1 + 1, 1, none⟩ (.slice (some ⟨S, 0, none⟩) W.ss.length cap)).cell? ⟨w1.heap.size, 1, none⟩ = some (.slice (some ⟨S, 0, none⟩) W.ss.length cap) ∧ ((W9.drew.setCell ⟨w.heap.size + 1 + 1, 0, none⟩ (.slice D8 m8 d8)).setCell ⟨w.heap.size + 1 + 1, 1, none⟩ (.slice (some ⟨S, 0, none⟩) W.ss.length cap)).cell? ⟨w1.heap.size + 1, 0, none⟩ = some (.int .i64 R.2.kind) ∧ ((W9.drew.setCell ⟨w.heap.size + 1 + 1, 0, none⟩ (.slice D8 m8 d8)).setCell ⟨w.heap.size + 1 + 1, 1, none⟩ (.slice (some ⟨S, 0, none⟩) W.ss.length cap)).cell? ⟨w1.heap.size + 1, 1, none⟩ = some (.string R.2.text) ∧ ((W9.drew.setCell ⟨w.heap.size + 1 + 1, 0, none⟩ (.slice D8 m8 d8)).setCell ⟨w.heap.size + 1 + 1, 1, none⟩ (.slice (some ⟨S, 0, none⟩) W.ss.length cap)).cell? ⟨w1.heap.size + 1, 2, none⟩ = some (.int .i64 st) from ⟨cell_sty (p := ⟨w.heap.size + 1 + 1, 1, none⟩) eX (cell_sty (p := ⟨w.heap.size + 1 + 1, 0, none⟩) eX x0), cell_sty (p := ⟨w.heap.size + 1 + 1, 1, none⟩) eX (cell_sty (p := ⟨w.heap.size + 1 + 1, 0, none⟩) eX x1), cell_sty (p := ⟨w.heap.size + 1 + 1, 1, none⟩) eO (cell_sty (p := ⟨w.heap.size + 1 + 1, 0, none⟩) eO o0), cell_sty (p := ⟨w.heap.size + 1 + 1, 1, none⟩) eO (cell_sty (p := ⟨w.heap.size + 1 + 1, 0, none⟩) eO o1), cell_sty (p := ⟨w.heap.size + 1 + 1, 1, none⟩) eO (cell_sty (p := ⟨w.heap.size + 1 + 1, 0, none⟩) eO o2)⟩)
  refine hK.out _ _ hS2 ?_
  clear hK K hS
  have hS := hS2
  clear hS2
  (try simp only [gTA, gCZ, gCS, Act.put, sTA, sCZ, sCS])
  refine wpAnyZ_last rfl rfl (by kernel_rfl) (by kernel_rfl) (fun K hK => ?_)
  (try simp only [gTA, gCZ, gCS])
  go_simp
  refine hK.out _ _ ?_
  clear hK K
  (try simp only [gTA, gCZ, gCS, Act.put, sTA, sCZ, sCS])
  go_wp2
  refine bodyPost_ret (v := .tuple #[.agg #[.slice D8 m8 d8, .slice (some ⟨S, 0, none⟩) W.ss.length cap], .agg #[.int .i64 R.2.kind, .string R.2.text, .int .i64 st]]) (by simp [results, Tryz.results81, go_sem, r0, r1, b0, b1, b2]) rfl ?_
  rw [HD.out.1, HD.out.2]
  have hf := HF.out (.slice D8 m8 d8) (.slice (some ⟨S, 0, none⟩) W.ss.length cap) (.int .i64 R.2.kind) (.string R.2.text) (.int .i64 st)
  exact ⟨_, rfl, hf.1.below ((Below.refl _ _).drew), hf.2.trans (.of ((Below.refl _ _).drew))⟩
end Go.Proofs.YtpbaobmegomfpabGreatDoor
