/-
  Texts of the proof, one behind the other: PWo, WldP0, PoolM4.
-/
import Derived.Test.YtpbaobmegomfpacGreatDoorM21
import Derived.ArgAppend
import Derived.Lib.SliceRun
import Derived.Test.YtpbaobmegomfpacGreatDoorM2
import Derived.Test.YtpbaobmegomfpacGreatDoorM19
import Derived.Test.YtpbaobmegomfpacGreatDoorM20
set_option linter.unusedVariables false
set_option linter.unusedSimpArgs false
set_option maxRecDepth 100000
open List renaming getElem_toArray → gTA, getElem_cons_zero → gCZ, getElem_cons_succ → gCS, setIfInBounds_toArray → sTA, set_cons_zero → sCZ, set_cons_succ → sCS
open Go.Lib renaming hid → jD
open Nat renaming le_refl → nL
namespace Go.Proofs.YtpbaobmegomfpacGreatDoor
open Go.RowKit
set_option maxHeartbeats 400000 in
theorem indexFuncP_nil (A : Option Addr) (c : Nat) (fv : Value) (w : World) : Calls Tryz.prog 147 #[.slice A 0 c, .func (.func 142) #[] #[fv]] w fun e w' => e = .returned (.int .i64 (-1)) ∧ w' = w := by
 go_enter Tryz.func147, Tryz.ntmps147
 go_wp2
 go_loopw [8] (fun i wr => i = .int .i64 0 ∧ wr = w) (fun i _ => 0)
 case atStart => exact ⟨rfl, rfl⟩
 case round =>
  obtain ⟨rfl, rfl⟩ := hrel
  go_wp2
  go_ret
  exact ⟨rfl, rfl⟩
set_option maxHeartbeats 400000 in
theorem deleteFuncP_nil (A : Option Addr) (c : Nat) (fv : Value) (w : World) : Calls Tryz.prog 140 #[.slice A 0 c, .func (.func 142) #[] #[fv]] w fun e w' => e = .returned (.slice A 0 c) ∧ w' = w := by
 have HI := jD (indexFuncP_nil A c fv)
 go_enter Tryz.func140, Tryz.ntmps140
 go_wp2_with fail
 refine (HI.out _).mono ?_
 rintro e w1 ⟨rfl, rfl⟩
 go_wp2
 go_ret
 exact ⟨rfl, rfl⟩
theorem flat_encP (l : PL) : flat l = (l.map encP).flatten := by
 induction l with
 | nil => rfl
 | cons p l ih => rw [List.map_cons, List.flatten_cons, ← ih]; rfl
def ClonePost (w : World) (l : PL) (e : Ending) (w' : World) : Prop := (∃ v', e = .returned v' ∧ ((l = [] ∧ ∃ A c, v' = .slice A 0 c ∧ (A = none → c = 0)) ∨ (0 < l.length ∧ ∃ b cap, v' = .slice (some ⟨b, 0, none⟩) l.length cap ∧ w.heap.size ≤ b ∧ Rw w' 56 2 b 0 cap (l.map encP)))) ∧ Below w.heap.size w w'
set_option maxHeartbeats 400000 in
theorem cloneP_any (v : Value) (l : PL) (w : World) (hl : Lst w w.heap.size v l) : Calls Tryz.prog 141 #[v] w (ClonePost w l) := by
 obtain ⟨A, c, rfl, hc⟩ := hl.form
 cases A with
 | none =>
  have h0 := hl.nil _ _ rfl
  subst h0
  have hl0 : l = [] := List.eq_nil_of_length_eq_zero (by omega)
  subst hl0
  clear hl
  have hnil : ∀ w, (binOp .eql 25 (.slice none 0 0) (.slice none 0 0)).run Tryz.prog w = .ok (.bool true) w := fun w => Lib.run_eql_slice_nil (P := Tryz.prog) w 25 56 none 0 0 0 0 Tryz.underlying25
  go_enter Tryz.func141, Tryz.ntmps141
  go_wp2
  go_ret
  exact ⟨⟨_, rfl, .inl ⟨rfl, none, 0, rfl, fun _ => rfl⟩⟩, Below.refl _ _⟩
 | some a =>
 have hnil : ∀ w, (binOp .eql 25 (.slice (some a) l.length c) (.slice none 0 0)).run Tryz.prog w = .ok (.bool false) w := fun w => Lib.run_eql_slice_nil (P := Tryz.prog) w 25 56 (some a) l.length c 0 0 Tryz.underlying25
 rcases Nat.eq_zero_or_pos l.length with h0 | hpos
 ·have hl0 : l = [] := List.eq_nil_of_length_eq_zero h0
  subst hl0
  clear hl
  simp only [List.length_nil] at hnil
  go_enter Tryz.func141, Tryz.ntmps141
  go_wp2
  go_ret
  exact ⟨⟨_, rfl, .inl ⟨rfl, _, 0, rfl, fun h => by cases h⟩⟩, (Below.refl _ _).alloc (nL _) _⟩
 ·obtain ⟨i0, hi, hz0, hz1, hz2⟩ := info_parts pair_info
  obtain ⟨b, off, c', e, hb, hcs⟩ := hl.cells hpos
  injection e with e e5 e6
  injection e with e
  subst e e6
  clear e5
  have hby := hl.bytes
  have n0 := (Below.refl w.heap.size w).alloc (nL _) (.cells #[] 56)
  obtain ⟨v', w', hrun, hown, hgr⟩ := run_append_arg_grows (P := Tryz.prog) (w.alloc (.cells #[] 56)) 25 25 56 i0 _ 2 32 Tryz.underlying25 hi hz0 hz1 hz2 rfl (by omega) ⟨w.heap.size, 0, none⟩ 0 0 [] (by simp) (fun j u hu => by cases hu) ⟨b, off, none⟩ l.length c (flat l) (by rw [flat_length]) (fun j u hu => by
   rw [Addr.add_lit, n0.cell (p := ⟨b, off + j, none⟩) hb]
   rw [flat_encP] at hu
   have hj : j < l.length * 2 := by
    have := (List.getElem?_eq_some_iff.1 hu).1
    rw [flat_len (encP_each (d := l))] at this
    simpa using this
   have hd : j / 2 < l.length := by omega
   have h2 := flat_get (encP_each (d := l)) (i := j / 2) (by simpa using hd) (j := j % 2) (by omega)
   rw [show j / 2 * 2 + j % 2 = j by omega, hu, List.getElem_map] at h2
   obtain ⟨c0, c1⟩ := hcs (j / 2) hd
   rcases Nat.mod_two_eq_zero_or_one j with hm | hm
   ·rw [hm] at h2
    rw [show off + j = off + j / 2 * 2 by omega, c0, h2]; rfl
   ·rw [hm] at h2
    rw [show off + j = off + j / 2 * 2 + 1 by omega, c1, h2]; rfl) (by omega) (by unfold maxLen; omega) (by omega)
  rw [Nat.zero_add, List.nil_append, flat_encP] at hown
  obtain ⟨g, cap, rfl, hg, hlt, hs⟩ := ownsRow_sl hown hpos
  obtain ⟨b1, o1, c1, e1, e2, hrw⟩ := hs.rw (encP_each (d := l)) (by simp) hpos
  injection e2 with e2 _ e3
  injection e2 with e2
  injection e2 with e2 e4
  subst e2 e3 e4
  have HF := jD (And.intro hrw (And.intro (show w.heap.size ≤ g by have := hg; simp at this; omega) (n0.grown hgr n0.size (fun x hx => by cases hx))))
  clear hl hcs hown hgr hs hrw hb n0 hg hlt e1 hi hz0 hz1 hz2
  go_enter Tryz.func141, Tryz.ntmps141
  go_wp2_with (at_builtin; refine Lib.wpList_append_run _ rfl _ _ _ _ rfl _ _ rfl rfl _ _ hrun ?_)
  go_ret
  exact ⟨⟨_, rfl, .inr ⟨hpos, _, _, rfl, HF.out.2.1, HF.out.1⟩⟩, HF.out.2.2⟩
theorem lst_rw {w : World} {b cap : Nat} {l : PL} (h : Rw w 56 2 b 0 cap (l.map encP)) (hby : l.length * 32 ≤ 140737488351232) (hs : ∀ p ∈ l, p.1.size ≤ 140737488351232 ∧ p.2.size ≤ 140737488351232) : Lst w w.heap.size (.slice (some ⟨b, 0, none⟩) l.length cap) l := by
 have hroom : l.length ≤ cap := by simpa using h.room
 exact ⟨⟨_, _, rfl, hroom⟩, hby, hs, fun hn => ⟨b, 0, cap, rfl, h.row.lt, fun i hi => h.cP hi⟩, fun n c e => by injection e with e; cases e⟩
set_option maxHeartbeats 400000 in
theorem without_any (v v' : Value) (l o : PL) (w : World) (hl : Lst w w.heap.size v l) (ho : Lst w w.heap.size v' o) :
  Calls Tryz.prog 127 #[v, v'] w fun e w' => ∃ u, e = .returned u ∧ Lst w' w'.heap.size u (without l o) ∧ InP (fun b => w.heap.size ≤ b) u (without l o) ∧ Below w.heap.size w w' := by
 have n0 := (Below.refl w.heap.size w).alloc (nL _) (.cells #[v'] 25)
 have HCL := jD (cloneP_any v l _ ((hl.below n0).more n0.size))
 have HN := jD n0
 have X := (RowTo.whole w #[v'] 25).cell (j := 0) (by simp)
 have HX := jD (show (w.alloc (.cells #[v'] 25)).cell? ⟨w.heap.size, 0, none⟩ = some v' from X)
 have HO := jD ho
 have HL := jD hl
 obtain ⟨A', c', rfl, hc'⟩ := ho.form
 obtain ⟨A, c, rfl, hc⟩ := hl.form
 clear hl ho n0 X
 go_enter Tryz.func127, Tryz.ntmps127
 go_wp2_with fail
 refine HCL.out.mono ?_
 rintro e w1 ⟨⟨v1, rfl, hv1⟩, hb1⟩
 have hz1 := hb1.size
 simp only [World.size_alloc] at hz1
 have HB1 := jD (bel_add' HN.out hb1 HN.out.size)
 have HX1 := jD ((hb1.cell (p := ⟨w.heap.size, 0, none⟩) (by simp)).trans HX.out)
 clear HCL hb1
 rcases hv1 with ⟨hl0, A1, c1, rfl, hn1⟩ | ⟨hpos, b, cap, rfl, hb, hrw⟩
 ·have HE := jD (show without l o = [] by rw [hl0]; rfl)
  have HD := jD (deleteFuncP_nil A1 c1 (.pointer (some ⟨w.heap.size, 0, none⟩)))
  clear hl0
  go_wp2_with fail
  refine (HD.out _).mono ?_
  rintro e w2 ⟨rfl, rfl⟩
  go_wp2
  go_ret
  rw [HE.out]
  exact ⟨_, rfl, ⟨⟨_, _, rfl, Nat.zero_le _⟩, by simp, by simp, fun h => absurd h (by simp), fun n c e => by injection e with e1 _ e3; rw [← e3]; exact hn1 e1⟩, InP.nil_ _ _, HB1.out⟩
 ·have hb' : w.heap.size + 1 ≤ b := by simpa using hb
  have hby := HL.out.bytes
  have HD := jD (deleteFuncP (.pointer (some ⟨w.heap.size, 0, none⟩)) (fun q => o.any fun p => pairB p q) w1 b 0 cap (w.heap.size + 1) l hrw (by omega) hb' (fun x hx wc hwc => by
   have h1 : Below w.heap.size w wc := HB1.out.trans (hwc.mono (by omega))
   refine withoutC_any x (.slice A' o.length c') o w.heap.size wc ?_ ?_ ?_
   ·exact (HO.out.below h1).more h1.size
   ·exact (hwc.cell (p := ⟨w.heap.size, 0, none⟩) (by simp)).trans HX1.out
   ·have := hwc.size; omega))
  clear hrw
  go_wp2_with fail
  refine HD.out.mono ?_
  rintro e w2 ⟨rfl, hr2, hb2, _⟩
  have HF := jD (And.intro hr2 hb2)
  clear hr2 hb2 HD
  go_wp2
  go_ret
  have hw : without l o = l.filter fun q => !(o.any fun p => pairB p q) := rfl
  rw [hw]
  refine ⟨_, rfl, lst_rw HF.out.1 ?_ (fun p hp => HL.out.sizes p (List.mem_filter.1 hp).1), fun _ b' off n c e => ?_, HB1.out.trans (HF.out.2.mono (by omega))⟩
  ·have := List.length_filter_le (fun q => !(o.any fun p => pairB p q)) l
   omega
  ·injection e with e
   injection e with e
   injection e with e
   omega
structure WldP (w : World) (P : Nat → Prop) (r s : Value) (W : Wd) : Prop where
 wld : Wld w w.heap.size r s W
 rows : InP P r W.rows
 ses : 0 < W.ss.length → ∀ b off n c, s = .slice (some ⟨b, off, none⟩) n c → P b ∧ ∀ k j v (hk : k < W.ss.length), j < 4 → w.cell? ⟨b, off + k * 5 + (j + 1), none⟩ = some v → InP P v (W.ss[k].li j)
theorem WldP.mono {w : World} {P Q : Nat → Prop} {r s : Value} {W : Wd} (h : WldP w P r s W) (hpq : ∀ b, P b → Q b) : WldP w Q r s W :=
 ⟨h.wld, h.rows.mono hpq, fun hn b off n c e => ⟨hpq b (h.ses hn b off n c e).1, fun k j v hk hj hv => ((h.ses hn b off n c e).2 k j v hk hj hv).mono hpq⟩⟩
theorem WldP.at {w : World} {P : Nat → Prop} {r s : Value} {W : Wd} (h : WldP w P r s W) (hn : 0 < W.ss.length) : ∃ b off c, s = .slice (some ⟨b, off, none⟩) W.ss.length c ∧ P b ∧ b < w.heap.size ∧
  ∀ i (hi : i < W.ss.length), ∃ v1 v2 v3 v4, Ses w w.heap.size b (off + i * 5) W.ss[i] v1 v2 v3 v4 ∧ InP P v1 W.ss[i].set ∧ InP P v2 W.ss[i].prep ∧ InP P v3 W.ss[i].sav ∧ InP P v4 W.ss[i].wr := by
 obtain ⟨b, off, c, e, hb, hc⟩ := h.wld.sess.cells hn
 obtain ⟨hp, hl⟩ := h.ses hn b off _ c e
 refine ⟨b, off, c, e, hp, hb, fun i hi => ?_⟩
 obtain ⟨v1, v2, v3, v4, q⟩ := hc i hi
 exact ⟨v1, v2, v3, v4, q, hl i 0 _ hi (by omega) q.c1, hl i 1 _ hi (by omega) q.c2, hl i 2 _ hi (by omega) q.c3, hl i 3 _ hi (by omega) q.c4⟩
theorem WldP.mk' {w : World} {P : Nat → Prop} {r s : Value} {W : Wd} (hr : Lst w w.heap.size r W.rows) (hp : InP P r W.rows) (hf : ∃ A c, s = .slice A W.ss.length c ∧ W.ss.length ≤ c) (hby : W.ss.length * 104 ≤ 140737488351232)
  (hs : 0 < W.ss.length → ∃ b off c, s = .slice (some ⟨b, off, none⟩) W.ss.length c ∧ P b ∧ b < w.heap.size ∧
   ∀ i (hi : i < W.ss.length), ∃ v1 v2 v3 v4, Ses w w.heap.size b (off + i * 5) W.ss[i] v1 v2 v3 v4 ∧ InP P v1 W.ss[i].set ∧ InP P v2 W.ss[i].prep ∧ InP P v3 W.ss[i].sav ∧ InP P v4 W.ss[i].wr) : WldP w P r s W := by
 refine ⟨⟨hr, hf, hby, fun hn => ?_⟩, hp, fun hn b off n c e => ?_⟩
 ·obtain ⟨b, off, c, e, _, hb, hc⟩ := hs hn
  exact ⟨b, off, c, e, hb, fun i hi => by obtain ⟨v1, v2, v3, v4, q, _⟩ := hc i hi; exact ⟨v1, v2, v3, v4, q⟩⟩
 ·obtain ⟨b', off', c', e', hP, hb, hc⟩ := hs hn
  have he : b = b' ∧ off = off' := by rw [e] at e'; injection e' with e'; injection e' with e'; injection e' with e1 e2; exact ⟨e1, e2⟩
  obtain ⟨rfl, rfl⟩ := he
  refine ⟨hP, fun k j v hk hj hv => ?_⟩
  obtain ⟨v1, v2, v3, v4, q, p1, p2, p3, p4⟩ := hc k hk
  rcases j4 hj with rfl | rfl | rfl | rfl
  ·rw [q.c1] at hv; injection hv with hv; subst hv; exact p1
  ·rw [q.c2] at hv; injection hv with hv; subst hv; exact p2
  ·rw [q.c3] at hv; injection hv with hv; subst hv; exact p3
  ·rw [q.c4] at hv; injection hv with hv; subst hv; exact p4
theorem WldP.keep {w w' : World} {P : Nat → Prop} {r s : Value} {W : Wd} (h : WldP w P r s W) (hs : w.heap.size ≤ w'.heap.size) (hk : ∀ b, P b → b < w.heap.size → w'.heap[b]? = w.heap[b]?) : WldP w' P r s W := by
 have ll : ∀ {v : Value} {l : PL}, Lst w w.heap.size v l → InP P v l → Lst w' w'.heap.size v l := fun a b => a.keepP (own_lt a b) (fun x hx => hk x hx.1 hx.2) (fun x hx => Nat.lt_of_lt_of_le hx.2 hs)
 refine WldP.mk' (ll h.wld.rows h.rows) h.rows h.wld.sess.form h.wld.sess.bytes fun hn => ?_
 obtain ⟨b, off, c, e, hP, hb, hc⟩ := h.at hn
 have cs : ∀ j, w'.cell? ⟨b, j, none⟩ = w.cell? ⟨b, j, none⟩ := fun j => World.cell?_of_block (hk b hP hb)
 refine ⟨b, off, c, e, hP, Nat.lt_of_lt_of_le hb hs, fun i hi => ?_⟩
 obtain ⟨v1, v2, v3, v4, q, p1, p2, p3, p4⟩ := hc i hi
 exact ⟨v1, v2, v3, v4, ⟨(cs _).trans q.c0, (cs _).trans q.c1, (cs _).trans q.c2, (cs _).trans q.c3, (cs _).trans q.c4, ll q.l1 p1, ll q.l2 p2, ll q.l3 p3, ll q.l4 p4⟩, p1, p2, p3, p4⟩
theorem WldP.below {w w' : World} {P : Nat → Prop} {r s : Value} {W : Wd} (h : WldP w P r s W) (hb : Below w.heap.size w w') : WldP w' P r s W := h.keep hb.size fun b _ hlt => hb.block b hlt
theorem WldP.small {w : World} {P : Nat → Prop} {r s : Value} {W : Wd} (h : WldP w P r s W) : WldP w (fun b => P b ∧ b < w.heap.size) r s W := by
 refine WldP.mk' h.wld.rows (own_lt h.wld.rows h.rows) h.wld.sess.form h.wld.sess.bytes fun hn => ?_
 obtain ⟨b, off, c, e, hP, hb, hc⟩ := h.at hn
 refine ⟨b, off, c, e, ⟨hP, hb⟩, hb, fun i hi => ?_⟩
 obtain ⟨v1, v2, v3, v4, q, p1, p2, p3, p4⟩ := hc i hi
 exact ⟨v1, v2, v3, v4, q, own_lt q.l1 p1, own_lt q.l2 p2, own_lt q.l3 p3, own_lt q.l4 p4⟩
theorem Wld.p {w : World} {r s : Value} {W : Wd} (h : Wld w w.heap.size r s W) : WldP w (fun b => b < w.heap.size) r s W := by
 refine WldP.mk' h.rows h.rows.inP h.sess.form h.sess.bytes fun hn => ?_
 obtain ⟨b, off, c, e, hb, hc⟩ := h.sess.cells hn
 refine ⟨b, off, c, e, hb, hb, fun i hi => ?_⟩
 obtain ⟨v1, v2, v3, v4, q⟩ := hc i hi
 exact ⟨v1, v2, v3, v4, q, q.l1.inP, q.l2.inP, q.l3.inP, q.l4.inP⟩
structure Alike (P : Mach PE) (H : Mach Wd) : Prop where
 cl : P.cl = H.cl
 busy : P.busy = H.busy
 line : P.line = H.line
 sent : P.sent = H.sent
 deeds : P.deeds = H.deeds
 rows : P.e.w.rows = H.e.rows
 plen : P.e.w.ss.length = P.busy.length
 hlen : H.e.ss.length = 6
 klen : P.e.kept.length = 6
 okP : WorldOk P.e.w
 okH : WorldOk H.e
 hold : ∀ c s, (P.get c).srv = some s → H.e.at c = P.e.w.at s
 bare : ∀ c, c < 6 → (P.get c).srv = none → H.e.at c = ⟨0, (P.e.of c).1, (P.e.of c).2, [], []⟩
 free : ∀ s, s < P.e.w.ss.length → (∀ c, (P.get c).srv ≠ some s) → (P.e.w.at s).st = 0
section
variable {P : Mach PE} {H : Mach Wd} {mode : Int}
theorem Alike.get (h : Alike P H) (c : Nat) : H.get c = P.get c := by unfold Mach.get; rw [h.cl]
theorem set_at {W : Wd} {i : Nat} (h : i < W.ss.length) (rows : PL) (x : Sess) (j : Nat) : (⟨rows, W.ss.set i x⟩ : Wd).at j = if i = j then x else W.at j := by
 unfold Wd.at; simp only; rw [getD_set]; by_cases e : i = j <;> simp [e]; intro hh; omega
theorem sess_at {W : Wd} (h : WorldOk W) {i : Nat} (hi : i < W.ss.length) : SessOk (W.at i) := by rw [at_lt hi]; exact h.sess i hi
theorem Alike.srvlt (h : Alike P H) (hP : MOk mode P) {c s : Nat} (hs : (P.get c).srv = some s) : s < P.e.w.ss.length ∧ c < H.e.ss.length := by
 refine ⟨?_, ?_⟩
 ·rw [h.plen]; exact (List.getElem?_eq_some_iff.1 (hP.srv c s hs)).1
 ·rw [h.hlen]; have := srv_lt hs; rw [hP.n6] at this; exact this
theorem held_at {ss : List Sess} {me : Int} {key : ByteArray} {W : Wd} (hW : W.ss = ss) : heldB ss me key = true ↔ ∃ k, k < ss.length ∧ fndL (W.at k).wr key = true ∧ (k : Int) ≠ me := by
 rw [heldB_iff]
 constructor
 ·rintro ⟨k, hk, h1, h2⟩
  exact ⟨k, hk, by rw [at_lt (by rw [hW]; exact hk)]; simp only [hW]; exact h1, h2⟩
 ·rintro ⟨k, hk, h1, h2⟩
  refine ⟨k, hk, ?_, h2⟩
  rw [at_lt (by rw [hW]; exact hk)] at h1
  simp only [hW] at h1
  exact h1
theorem Alike.like (h : Alike P H) (hP : MOk mode P) {c s : Nat} (hs : (P.get c).srv = some s) : Like P.e.w H.e s c := by
 obtain ⟨h1, h2⟩ := h.srvlt hP hs
 refine ⟨h.okP, h.okH, h1, h2, h.rows, (h.hold c s hs).symm, fun key => ?_⟩
 rw [Bool.eq_iff_iff, held_at (W := P.e.w) rfl, held_at (W := H.e) rfl]
 constructor
 ·rintro ⟨s', hs', hf, hne⟩
  have : ∃ c', (P.get c').srv = some s' := Classical.byContradiction fun hn => by
   have h0 := h.free s' hs' (fun c' hc' => hn ⟨c', hc'⟩)
   rw [(sess_at h.okP hs').tx (by omega)] at hf
   cases hf
  obtain ⟨c', hc'⟩ := this
  refine ⟨c', (h.srvlt hP hc').2, by rw [h.hold c' s' hc']; exact hf, fun e => hne ?_⟩
  have : c' = c := by omega
  subst this
  rw [hs] at hc'; injection hc' with hc'; rw [hc']
 ·rintro ⟨c', hc', hf, hne⟩
  cases hx : (P.get c').srv with
  | none => rw [h.bare c' (by rw [h.hlen] at hc'; exact hc') hx] at hf; cases hf
  | some s' =>
   refine ⟨s', (h.srvlt hP hx).1, by rw [← h.hold c' s' hx]; exact hf, fun e => hne ?_⟩
   have : s' = s := by omega
   subst this
   rw [hP.inj c' c s' hx hs]
theorem Alike.turn (h : Alike P H) {c : Nat} {x : Cl} (hc : c < P.cl.length) (hs : x.srv = (P.get c).srv) : Alike (P.set c x) (H.set c x) := by
 have hg : ∀ d, ((P.set c x).get d).srv = (P.get d).srv := fun d => by
  rw [get_set hc]
  by_cases e : c = d
  ·subst e; rw [if_pos rfl]; exact hs
  ·rw [if_neg e]
 exact ⟨by show P.cl.set c x = H.cl.set c x; rw [h.cl], h.busy, h.line, h.sent, h.deeds, h.rows, h.plen, h.hlen, h.klen, h.okP, h.okH, fun d s hd => h.hold d s (by rw [← hg]; exact hd), fun d hd hn => h.bare d hd (by rw [← hg]; exact hn), fun s hl hn => h.free s hl (fun d hd => hn d (by rw [hg]; exact hd))⟩
theorem Alike.tell (h : Alike P H) (c : Nat) (a : Ans) (st : Int) : Alike (P.tell c a st) (H.tell c a st) := by
 have e : (P.tell c a st).sent = (H.tell c a st).sent := by unfold Mach.tell; simp only; rw [h.sent]
 exact ⟨h.cl, h.busy, h.line, e, h.deeds, h.rows, h.plen, h.hlen, h.klen, h.okP, h.okH, h.hold, h.bare, h.free⟩
theorem Alike.state (h : Alike P H) (hP : MOk mode P) {c : Nat} (hc : c < 6) : poolO.state P.e c (P.get c).srv = houseO.state H.e c (H.get c).srv := by
 show P.e.state (P.get c).srv = (H.e.at c).st
 cases hx : (P.get c).srv with
 | none => rw [h.bare c hc hx]; rfl
 | some s => rw [h.hold c s hx]; rfl
theorem Alike.exec (h : Alike P H) (hP : MOk mode P) {c s : Nat} (hs : (P.get c).srv = some s) {r : Req} (hr : checkE r.k r.key r.val = 0) {P' : Mach PE} {H' : Mach Wd} (e1 : P'.e = (poolO.exec P.e c s r).1) (e2 : H'.e = (houseO.exec H.e c s r).1) (e3 : P'.cl = P.cl) (e4 : H'.cl = H.cl)
  (e5 : P'.busy = P.busy) (e6 : H'.busy = H.busy) (e7 : P'.line = P.line) (e8 : H'.line = H.line) (e9 : P'.sent = H'.sent) (e10 : P'.deeds = H'.deeds) : Alike P' H' ∧ (poolO.exec P.e c s r).2 = (houseO.exec H.e c s r).2 := by
 have hl := h.like hP hs
 obtain ⟨rows, x, a, h1, h2⟩ := hl.doM r.k r.key r.val
 have o1 := doM_ok h.okP hl.hs hr
 have o2 := doM_ok h.okH hl.hc hr
 have x1 : P'.e = ⟨⟨rows, P.e.w.ss.set s x⟩, P.e.kept⟩ := by rw [e1]; show (⟨(doM P.e.w s r.k r.key r.val).1, P.e.kept⟩ : PE) = _; rw [h1]
 have x2 : H'.e = ⟨rows, H.e.ss.set c x⟩ := by rw [e2]; show (doM H.e c r.k r.key r.val).1 = _; rw [h2]
 have hg : ∀ d, P'.get d = P.get d := fun d => by unfold Mach.get; rw [e3]
 refine ⟨⟨by rw [e3, e4, h.cl], by rw [e5, e6, h.busy], by rw [e7, e8, h.line], e9, e10, by rw [x1, x2], by rw [x1, e5]; simp [h.plen], by rw [x2]; simp [h.hlen], by rw [x1]; exact h.klen, ?_, ?_, fun d s' hd => ?_, fun d hd hn => ?_, fun s' hl' hn => ?_⟩, ?_⟩
 ·rw [x1]; rw [h1] at o1; exact o1.1
 ·rw [x2]; rw [h2] at o2; exact o2.1
 ·rw [hg] at hd
  rw [x1, x2, set_at hl.hc, set_at hl.hs]
  by_cases e : c = d
  ·subst e
   rw [if_pos rfl, if_pos (by rw [hs] at hd; injection hd)]
  ·rw [if_neg e, if_neg (fun e' => e (hP.inj c d s hs (by rw [e']; exact hd)))]
   exact h.hold d s' hd
 ·rw [hg] at hn
  rw [x2, set_at hl.hc, if_neg (fun e => by rw [← e, hs] at hn; cases hn)]
  have := h.bare d hd hn
  rw [this]
  show _ = (⟨0, (P'.e.of d).1, (P'.e.of d).2, [], []⟩ : Sess)
  rw [x1]; rfl
 ·rw [x1] at hl' ⊢
  rw [set_at hl.hs, if_neg (fun e => hn c (by rw [hg, hs, e]))]
  exact h.free s' (by simpa using hl') (fun d hd => hn d (by rw [hg]; exact hd))
 ·show ((doM P.e.w s r.k r.key r.val).2, ((doM P.e.w s r.k r.key r.val).1.at s).st) = ((doM H.e c r.k r.key r.val).2, ((doM H.e c r.k r.key r.val).1.at c).st)
  rw [h1, h2, set_at hl.hs, set_at hl.hc, if_pos rfl, if_pos rfl]
theorem Alike.release (h : Alike P H) (hP : MOk mode P) {c s : Nat} (hs : (P.get c).srv = some s) (h0 : (P.e.w.at s).st = 0) : Alike (P.release poolO c s) (H.release houseO c s) := by
 obtain ⟨l1, l2⟩ := h.srvlt hP hs
 have hc' := srv_lt hs
 have hg : ∀ d, (P.release poolO c s).get d = if c = d then { P.get c with srv := none } else P.get d := fun d => get_set (m := P) hc'
 have ho : ∀ d, (P.release poolO c s).e.of d = if c = d then ((P.e.w.at s).set, (P.e.w.at s).prep) else P.e.of d := fun d => by
  show (P.e.kept.set c _).getD d ([], []) = _
  rw [getD_set]
  have : c < P.e.kept.length := by rw [h.klen, ← hP.n6]; exact hc'
  by_cases e : c = d
  ·rw [if_pos e, if_pos ⟨e, this⟩]
  ·rw [if_neg e, if_neg (fun hh => e hh.1)]; rfl
 have hx := sess_at h.okP l1
 refine ⟨?_, ?_, h.line, h.sent, h.deeds, h.rows, ?_, h.hlen, ?_, h.okP, h.okH, fun d s' hd => ?_, fun d hd hn => ?_, fun s' hl hn => ?_⟩
 ·show P.cl.set c _ = H.cl.set c _; rw [h.cl, h.get]
 ·show P.busy.set s false = H.busy.set s false; rw [h.busy]
 ·show P.e.w.ss.length = (P.busy.set s false).length; simp [h.plen]
 ·show (P.e.kept.set c _).length = 6; simp [h.klen]
 ·rw [hg] at hd
  by_cases e : c = d
  ·rw [if_pos e] at hd; cases hd
  ·rw [if_neg e] at hd; exact h.hold d s' hd
 ·rw [hg] at hn
  rw [ho]
  by_cases e : c = d
  ·subst e
   rw [if_pos rfl]
   show H.e.at c = _
   rw [h.hold c s hs]
   have := hx.idle h0
   have := hx.tx (by omega)
   cases hy : P.e.w.at s
   simp_all
  ·rw [if_neg e] at hn ⊢
   exact h.bare d hd hn
 ·by_cases e : s = s'
  ·subst e; exact h0
  ·refine h.free s' hl (fun d hd => hn d ?_)
   rw [hg, if_neg (fun e' => e (by rw [← e', hs] at hd; injection hd))]; exact hd
theorem Alike.proc (h : Alike P H) (hP : MOk mode P) {c : Nat} (hc : c < 6) (hr : readyB mode (P.get c) = true) : Alike (P.proc poolO mode c) (H.proc houseO mode c) := by
 have hc' : c < P.cl.length := by rw [hP.n6]; exact hc
 have hn := proc_line hP hr
 obtain ⟨r, l, hw, hs⟩ := ready_wait hr
 have t1 : Alike (P.set c { P.get c with wait := l }) (H.set c { P.get c with wait := l }) := h.turn hc' rfl
 have m1 : MOk mode (P.set c { P.get c with wait := l }) := hP.turn hc (fun q hq => hP.fine c q (by rw [hw]; exact List.mem_cons_of_mem _ hq)) rfl (fun hl => absurd hl hn)
 unfold Mach.proc
 rw [h.get]
 simp only [hw]
 by_cases hf : refB mode r = true
 ·rw [if_pos hf, if_pos hf]
  have := h.state hP hc
  rw [h.get] at this
  rw [this]
  exact t1.tell _ _ _
 ·rw [if_neg hf, if_neg hf]
  have hsv : (P.get c).srv.isSome = true := by rw [Bool.or_eq_true] at hs; exact hs.resolve_right hf
  obtain ⟨s, hs⟩ := Option.isSome_iff_exists.1 hsv
  have hk : checkE r.k r.key r.val = 0 := by
   rcases hP.fine c r (by rw [hw]; exact List.mem_cons_self) with e | e
   ·exact absurd (by rw [e]; rfl) hf
   ·exact e
  have hs1 : ((P.set c { P.get c with wait := l }).get c).srv = some s := by rw [get_set hc', if_pos rfl]; exact hs
  rw [show (P.get c).srv.getD 0 = s by rw [hs]; rfl]
  generalize hxp : poolO.exec P.e c s r = xp
  generalize hxh : houseO.exec H.e c s r = xh
  have hq := t1.exec m1 hs1 hk (P' := { P.set c { P.get c with wait := l } with e := xp.1, deeds := P.deeds ++ [⟨c, r, xp.2.1, xp.2.2⟩] }) (H' := { H.set c { P.get c with wait := l } with e := xh.1, deeds := P.deeds ++ [⟨c, r, xp.2.1, xp.2.2⟩] })
   (by show xp.1 = (poolO.exec P.e c s r).1; rw [hxp]) (by show xh.1 = (houseO.exec H.e c s r).1; rw [hxh]) rfl rfl rfl rfl rfl rfl t1.sent rfl
  have hx2 : xp.2 = xh.2 := by have := hq.2; rw [← hxp, ← hxh]; exact this
  have t2 := hq.1
  rw [← hx2, ← h.deeds]
  have t3 := t2.tell c xp.2.1 xp.2.2
  have m3 : MOk mode (Mach.tell { P.set c { P.get c with wait := l } with e := xp.1, deeds := P.deeds ++ [⟨c, r, xp.2.1, xp.2.2⟩] } c xp.2.1 xp.2.2) := m1.same rfl rfl rfl (by simp [Mach.tell, Mach.set, hP.s6])
  by_cases hm : mode ≠ 1 ∧ xp.2.2 = 0
  ·rw [if_pos hm, if_pos hm]
   refine t3.release m3 (by show ((P.set c { P.get c with wait := l }).get c).srv = _; exact hs1) ?_
   show (xp.1.w.at s).st = 0
   rw [← hm.2, ← hxp]; rfl
  ·rw [if_neg hm, if_neg hm]; exact t3
theorem Alike.enq (h : Alike P H) : Alike P.enq H.enq := by
 have e : enqL H = enqL P := by funext l c; unfold enqL; rw [h.get]
 have e2 : P.enq.line = H.enq.line := by unfold Mach.enq; simp only; rw [e, h.line]
 exact ⟨h.cl, h.busy, e2, h.sent, h.deeds, h.rows, h.plen, h.hlen, h.klen, h.okP, h.okH, h.hold, h.bare, h.free⟩
theorem Alike.assign (h : Alike P H) (hP : MOk mode P) : (P.assign poolO).1 = (H.assign houseO).1 ∧ Alike (P.assign poolO).2 (H.assign houseO).2 := by
 unfold Mach.assign
 rw [← h.line, ← h.busy]
 cases hl : P.line with
 | nil => exact ⟨rfl, h⟩
 | cons c l =>
  simp only
  by_cases hb : P.busy.idxOf false < P.busy.length
  ·rw [if_pos hb, if_pos hb]
   refine ⟨rfl, ?_⟩
   obtain ⟨hc, hs, hw, hr⟩ := hP.line c (by rw [hl]; exact List.mem_cons_self)
   have hc' : c < P.cl.length := by rw [hP.n6]; exact hc
   have hfree : P.busy[P.busy.idxOf false]? = some false := idx_free hb
   generalize hs0 : P.busy.idxOf false = s at *
   have hns : ∀ d, (P.get d).srv ≠ some s := fun d hd => by rw [hP.srv d s hd] at hfree; cases hfree
   have ls : s < P.e.w.ss.length := by rw [h.plen]; exact hb
   have h0 := h.free s ls hns
   have hbare := h.bare c hc hs
   have okc := sess_at h.okH (i := c) (by rw [h.hlen]; exact hc)
   rw [hbare] at okc
   have hre := restore_ok h.okP ls h0 okc.set okc.prep
   have hg : ∀ (q : Mach PE) d, q.cl = P.cl.set c { P.get c with srv := some s } → q.get d = if c = d then { P.get c with srv := some s } else P.get d := fun q d hq => by unfold Mach.get; rw [hq]; exact get_cl hc'
   have hek : poolO.grant P.e c s = ⟨P.e.w.put s ⟨0, (P.e.of c).1, (P.e.of c).2, [], []⟩, P.e.kept⟩ := by
    show (⟨restoreW P.e.w s (P.e.of c), P.e.kept⟩ : PE) = _
    rw [hre]
   refine ⟨?_, ?_, rfl, h.sent, h.deeds, ?_, ?_, h.hlen, ?_, ?_, h.okH, fun d s' hd => ?_, fun d hd hn => ?_, fun s' hl' hn => ?_⟩
   ·show P.cl.set c _ = H.cl.set c _; rw [h.cl, h.get]
   ·show P.busy.set s true = P.busy.set s true; rfl
   ·show (poolO.grant P.e c s).w.rows = H.e.rows; rw [hek]; exact h.rows
   ·show (poolO.grant P.e c s).w.ss.length = (P.busy.set s true).length; rw [hek, List.length_set]; show (P.e.w.put s _).ss.length = _; rw [wput_len]; exact h.plen
   ·show (poolO.grant P.e c s).kept.length = 6; rw [hek]; exact h.klen
   ·show WorldOk (poolO.grant P.e c s).w
    rw [hek]
    exact wput_ok h.okP ls okc (fun p hp => by cases hp)
   ·rw [hg _ d rfl] at hd
    show H.e.at d = (poolO.grant P.e c s).w.at s'
    rw [hek]
    show H.e.at d = (⟨P.e.w.rows, P.e.w.ss.set s _⟩ : Wd).at s'
    rw [set_at ls]
    by_cases e : c = d
    ·subst e
     rw [if_pos rfl] at hd
     injection hd with hd
     rw [if_pos hd]; exact hbare
    ·rw [if_neg e] at hd
     rw [if_neg (fun e' => hns d (by rw [e']; exact hd))]
     exact h.hold d s' hd
   ·rw [hg _ d rfl] at hn
    by_cases e : c = d
    ·rw [if_pos e] at hn; cases hn
    ·rw [if_neg e] at hn
     show H.e.at d = ⟨0, ((poolO.grant P.e c s).of d).1, ((poolO.grant P.e c s).of d).2, [], []⟩
     rw [hek]
     exact h.bare d hd hn
   ·show ((poolO.grant P.e c s).w.at s').st = 0
    have hl'' : s' < (poolO.grant P.e c s).w.ss.length := hl'
    rw [hek] at hl'' ⊢
    have hl''' : s' < P.e.w.ss.length := by have : s' < (P.e.w.put s _).ss.length := hl''; rw [wput_len] at this; exact this
    show ((⟨P.e.w.rows, P.e.w.ss.set s _⟩ : Wd).at s').st = 0
    rw [set_at ls, if_neg (fun e => hn c (by rw [hg _ c rfl, if_pos rfl, e]))]
    exact h.free s' hl''' (fun d hd => hn d (by rw [hg _ d rfl, if_neg (fun e => by rw [← e, hs] at hd; cases hd)]; exact hd))
  ·rw [if_neg hb, if_neg hb]; exact ⟨rfl, h⟩
theorem Alike.first (h : Alike P H) : H.firstR mode = P.firstR mode := by
 have e : (fun c => readyB mode (H.get c)) = (fun c => readyB mode (P.get c)) := by funext c; rw [h.get]
 unfold Mach.firstR; rw [e]
theorem Alike.step (h : Alike P H) (hP : MOk mode P) : (P.step poolO mode).1 = (H.step houseO mode).1 ∧ Alike (P.step poolO mode).2 (H.step houseO mode).2 := by
 unfold Mach.step
 rw [h.first]
 cases hf : P.firstR mode with
 | some c =>
  obtain ⟨hc, hr⟩ := first_some hf
  exact ⟨rfl, h.proc hP hc hr⟩
 | none => exact h.enq.assign (hP.enq hf)
theorem Alike.mu (h : Alike P H) : H.mu = P.mu := by unfold Mach.mu; rw [h.cl]
theorem Alike.iter (h : Alike P H) (hP : MOk mode P) (n : Nat) : Alike (P.iter poolO mode n) (H.iter houseO mode n) := by
 induction n generalizing P H with
 | zero => exact h
 | succ n ih =>
  have hs := h.step hP
  unfold Mach.iter
  rw [← hs.1]
  cases ht : (P.step poolO mode).1 with
  | true => simp only [if_true]; exact ih hs.2 (hP.step (o := poolO)).1
  | false => simpa using hs.2
theorem Alike.all (h : Alike P H) (hP : MOk mode P) : Alike (P.all poolO mode) (H.all houseO mode) := by
 unfold Mach.all; rw [h.mu]; exact h.iter hP _
theorem zero_ok : SessOk Sess.zero := ⟨Int.le_refl _, (by show (0 : Int) ≤ 2; decide), pairsB_nil _ _, pairsB_nil _ _, pairsB_nil _ _, pairsB_nil _ _, fun _ => rfl, fun _ => rfl⟩
theorem Alike.leave (h : Alike P H) (hP : MOk mode P) {c : Nat} (hc : c < 6) : Alike (P.leave poolO c) (H.leave houseO c) := by
 have hc' : c < P.cl.length := by rw [hP.n6]; exact hc
 have hcH : c < H.e.ss.length := by rw [h.hlen]; exact hc
 have hg : ∀ d, (P.leave poolO c).get d = if c = d then Cl.new else P.get d := fun d => get_set (m := P) hc'
 have eH : ∀ d, (H.leave houseO c).e.at d = if c = d then Sess.zero else H.e.at d := fun d => set_at (W := H.e) hcH _ _ _
 have hk : ∀ (k : List (PL × PL)) d, k = P.e.kept.set c ([], []) → k.getD d ([], []) = if c = d then ([], []) else P.e.of d := fun k d hk => by
  rw [hk, getD_set]
  by_cases e : c = d
  ·rw [if_pos e, if_pos ⟨e, by rw [h.klen]; exact hc⟩]
  ·rw [if_neg e, if_neg (fun hh => e hh.1)]; rfl
 have okH' : WorldOk (H.leave houseO c).e := wput_ok h.okH hcH zero_ok (fun p hp => by cases hp)
 have e1 : (P.leave poolO c).cl = (H.leave houseO c).cl := by show P.cl.set c _ = H.cl.set c _; rw [h.cl]
 have e2 : (P.leave poolO c).busy = (H.leave houseO c).busy := by unfold Mach.leave; simp only; rw [h.get, h.busy]
 have e3 : (P.leave poolO c).line = (H.leave houseO c).line := by unfold Mach.leave; simp only; rw [h.line]
 have hlen : (H.leave houseO c).e.ss.length = 6 := by show (H.e.put c _).ss.length = 6; rw [wput_len]; exact h.hlen
 cases hx : (P.get c).srv with
 | none =>
  have ee : (P.leave poolO c).e = ⟨P.e.w, P.e.kept.set c ([], [])⟩ := by show poolO.leave P.e c (P.get c).srv = _; rw [hx]; rfl
  have eb : (P.leave poolO c).busy = P.busy := by unfold Mach.leave; simp only; rw [hx]
  refine ⟨e1, e2, e3, h.sent, h.deeds, by rw [ee]; exact h.rows, by rw [ee, eb]; exact h.plen, hlen, by rw [ee]; simp [h.klen], by rw [ee]; exact h.okP, okH', fun d s hd => ?_, fun d hd hn => ?_, fun s hl hn => ?_⟩
  ·rw [hg] at hd
   by_cases e : c = d
   ·rw [if_pos e] at hd; cases hd
   ·rw [if_neg e] at hd
    rw [ee, eH, if_neg e]; exact h.hold d s hd
  ·rw [hg] at hn
   rw [eH]
   show _ = (⟨0, ((P.leave poolO c).e.kept.getD d ([], [])).1, ((P.leave poolO c).e.kept.getD d ([], [])).2, [], []⟩ : Sess)
   rw [hk _ d (by rw [ee])]
   by_cases e : c = d
   ·rw [if_pos e, if_pos e]; rfl
   ·rw [if_neg e] at hn ⊢; rw [if_neg e]; exact h.bare d hd hn
  ·rw [ee] at hl ⊢
   refine h.free s hl (fun d hd => hn d ?_)
   rw [hg, if_neg (fun e => by rw [← e, hx] at hd; cases hd)]; exact hd
 | some s =>
  obtain ⟨l1, l2⟩ := h.srvlt hP hx
  have ee : (P.leave poolO c).e = ⟨if (P.e.w.at s).st ≠ 0 then (doM P.e.w s 3 ⟨#[]⟩ ⟨#[]⟩).1 else P.e.w, P.e.kept.set c ([], [])⟩ := by show poolO.leave P.e c (P.get c).srv = _; rw [hx]; rfl
  have eb : (P.leave poolO c).busy = P.busy.set s false := by unfold Mach.leave; simp only; rw [hx]
  have hsx := sess_at h.okP l1
  have hroll : ∃ x : Sess, (if (P.e.w.at s).st ≠ 0 then (doM P.e.w s 3 ⟨#[]⟩ ⟨#[]⟩).1 else P.e.w) = P.e.w.put s x ∧ x.st = 0 ∧ SessOk x ∧ x.wr = [] := by
   by_cases h0 : (P.e.w.at s).st ≠ 0
   ·rw [if_pos h0]
    refine ⟨{ P.e.w.at s with st := 0, set := (P.e.w.at s).sav, sav := [], wr := [] }, ?_, rfl, ⟨Int.le_refl _, (by show (0 : Int) ≤ 2; decide), hsx.sav, hsx.prep, pairsB_nil _ _, pairsB_nil _ _, fun _ => rfl, fun _ => rfl⟩, rfl⟩
    unfold doM didM did1
    simp [h0, ok']
   ·rw [if_neg h0]
    have h0 : (P.e.w.at s).st = 0 := Classical.byContradiction h0
    exact ⟨P.e.w.at s, (put_self l1).symm, h0, hsx, hsx.tx (by omega)⟩
  obtain ⟨x, hxe, hx0, hxo, hxw⟩ := hroll
  rw [hxe] at ee
  have okw : WorldOk (P.e.w.put s x) := wput_ok h.okP l1 hxo (fun p hp => by rw [hxw] at hp; cases hp)
  refine ⟨e1, e2, e3, h.sent, h.deeds, by rw [ee]; exact h.rows, by rw [ee, eb]; show (P.e.w.put s x).ss.length = _; rw [wput_len, List.length_set]; exact h.plen, hlen, by rw [ee]; simp [h.klen], by rw [ee]; exact okw, okH', fun d s' hd => ?_, fun d hd hn => ?_, fun s' hl hn => ?_⟩
  ·rw [hg] at hd
   by_cases e : c = d
   ·rw [if_pos e] at hd; cases hd
   ·rw [if_neg e] at hd
    rw [ee, eH, if_neg e]
    show H.e.at d = (⟨P.e.w.rows, P.e.w.ss.set s x⟩ : Wd).at s'
    rw [set_at l1, if_neg (fun e' => e (hP.inj c d s hx (by rw [e']; exact hd)))]
    exact h.hold d s' hd
  ·rw [hg] at hn
   rw [eH]
   show _ = (⟨0, ((P.leave poolO c).e.kept.getD d ([], [])).1, ((P.leave poolO c).e.kept.getD d ([], [])).2, [], []⟩ : Sess)
   rw [hk _ d (by rw [ee])]
   by_cases e : c = d
   ·rw [if_pos e, if_pos e]; rfl
   ·rw [if_neg e] at hn ⊢; rw [if_neg e]; exact h.bare d hd hn
  ·rw [ee] at hl ⊢
   show ((⟨P.e.w.rows, P.e.w.ss.set s x⟩ : Wd).at s').st = 0
   rw [set_at l1]
   by_cases e : s = s'
   ·rw [if_pos e]; exact hx0
   ·rw [if_neg e]
    refine h.free s' (by have : s' < (P.e.w.put s x).ss.length := hl; rw [wput_len] at this; exact this) (fun d hd => hn d ?_)
    rw [hg, if_neg (fun e' => e (by rw [← e', hx] at hd; injection hd))]; exact hd
theorem Alike.feed (h : Alike P H) (hP : MOk mode P) {c : Nat} (hc : c < 6) (n : Nat) : Alike (P.feed poolO mode n c) (H.feed houseO mode n c) := by
 induction n generalizing P H with
 | zero => exact h
 | succ n ih =>
  have hc' : c < P.cl.length := by rw [hP.n6]; exact hc
  unfold Mach.feed
  rw [h.get]
  cases hp : pull (P.get c).bytes with
  | none => exact h
  | some q =>
   obtain ⟨k, t, j⟩ := q
   simp only
   split
   ·exact (h.all hP).leave hP.all hc
   ·refine ih (h.turn hc' rfl) (hP.turn hc (fine_app (fun q hq => hP.fine c q hq) (reqOf_fine k t)) rfl fun hl => ⟨by simp, ?_⟩)
    obtain ⟨_, _, h3, h4⟩ := hP.line c hl
    exact ready_app h3 h4
theorem Alike.deliver (h : Alike P H) (hP : MOk mode P) {c : Nat} (hc : c < 6) (d : ByteArray) : Alike (P.deliver poolO mode c d) (H.deliver houseO mode c d) := by
 unfold Mach.deliver
 rw [h.get]
 exact (h.turn (x := { P.get c with bytes := (P.get c).bytes ++ d }) (by rw [hP.n6]; exact hc) rfl).feed (hP.bytes hc _) hc _
theorem Alike.act (h : Alike P H) (hP : MOk mode P) {a : Act} (ha : actE a = 0) : Alike (P.act poolO mode a) (H.act houseO mode a) := by
 have hc : a.c.toNat < 6 := by
  unfold actE at ha
  split at ha
  ·cases ha
  split at ha
  ·cases ha
  omega
 unfold Mach.act
 split
 ·exact (h.deliver hP hc _).all (hP.deliver hc _)
 ·exact (h.leave hP hc).all (hP.leave hc)
theorem Alike.run (h : Alike P H) (hP : MOk mode P) {l : List Act} (hl : actsE l = 0) : Alike (P.run poolO mode l) (H.run houseO mode l) := by
 induction l generalizing P H with
 | nil => exact h
 | cons a l ih => exact ih (h.act hP (actsE_cons hl).1) (hP.act (actsE_cons hl).1) (actsE_cons hl).2
end
theorem zeros_at (rows : PL) (n i : Nat) : (⟨rows, List.replicate n Sess.zero⟩ : Wd).at i = Sess.zero := by
 unfold Wd.at; simp only; rw [List.getD_eq_getElem?_getD, List.getElem?_replicate]; split <;> rfl
theorem zeros_ok {n : Nat} (h : n ≤ 8) : WorldOk ⟨[], List.replicate n Sess.zero⟩ := by
 have hz : ∀ i (hi : i < (List.replicate n Sess.zero).length), (List.replicate n Sess.zero)[i] = Sess.zero := fun i hi => by simp
 refine ⟨pairsB_nil _ _, by simpa using h, fun i hi => by rw [hz i hi]; exact zero_ok, fun i hi p hp => ?_, ?_⟩
 ·rw [hz i hi] at hp; cases hp
 ·have : (List.replicate n Sess.zero).flatMap (·.wr) = [] := by
   induction n with
   | zero => rfl
   | succ n ih => rw [List.replicate_succ, List.flatMap_cons, ih (by omega) (fun i hi => by simp)]; rfl
  show (allF [] ((List.replicate n Sess.zero).flatMap (·.wr))).length ≤ 100
  rw [this]; show 0 ≤ 100; omega
theorem start_alike {n : Nat} (h : n ≤ 8) : Alike (Mach.start (poolStart n) n) (Mach.start houseStart n) := by
 have hg : ∀ c, (Mach.start (poolStart n) n).get c = Cl.new := fun c => by
  unfold Mach.get Mach.start
  simp only
  rw [List.getD_eq_getElem?_getD, List.getElem?_replicate]
  split <;> rfl
 refine ⟨rfl, rfl, rfl, rfl, rfl, rfl, by simp [Mach.start, poolStart], by simp [Mach.start, houseStart], by simp [Mach.start, poolStart], zeros_ok h, zeros_ok (by omega), (fun c s hs => by rw [hg] at hs; cases hs), fun c hc _ => ?_, fun s hl _ => ?_⟩
 ·show houseStart.at c = _
  unfold houseStart
  rw [zeros_at]
  have : (Mach.start (poolStart n) n).e.of c = ([], []) := by
   show (List.replicate 6 ([], [])).getD c ([], []) = _
   rw [List.getD_eq_getElem?_getD, List.getElem?_replicate]; split <;> rfl
  rw [this]; rfl
 ·show ((⟨[], List.replicate n Sess.zero⟩ : Wd).at s).st = 0
  rw [zeros_at]; rfl
theorem pool_house {n : Nat} (h : n ≤ 8) (mode : Int) {l : List Act} (hl : actsE l = 0) : Alike ((Mach.start (poolStart n) n).run poolO mode l) ((Mach.start houseStart n).run houseO mode l) :=
 (start_alike h).run (start_ok _ _ _) hl
end Go.Proofs.YtpbaobmegomfpacGreatDoor
