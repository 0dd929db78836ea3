/-
  Texts of the proof, one behind the other: PIdx, SlM, RwM, DelP.
-/
import Derived.Test.YtpbaobmegomfpacGreatDoorM19
import Derived.Test.YtpbaobmegomfpacGreatDoorM20
import Derived.Test.YtpbaobmegomfpacGreatDoorRows
import Derived.WalkKit
import Derived.WalkSpells
import Derived.Lib.Hide
import Derived.Deep.QuietTactic
import Derived.BigQuiet
import Derived.IntWalk
import Derived.WalkSmall
import Derived.Test.YtpbaobmegomfpacGreatDoorM2
import Derived.ArgAppend
import Derived.Deep.Upon
import Derived.Laws.IdiomCopy
import Derived.Tactics
import Derived.WalkLawsBesides
set_option linter.unusedVariables false
set_option linter.unusedSimpArgs false
set_option maxRecDepth 100000
open List renaming getElem_toArray → gTA, getElem_cons_zero → gCZ, getElem_cons_succ → gCS, setIfInBounds_toArray → sTA, set_cons_zero → sCZ, set_cons_succ → sCS
open Go.Lib renaming hid → jD
open Nat renaming le_refl → nL
namespace Go.Proofs.YtpbaobmegomfpacGreatDoor
open Go.RowKit
set_option maxHeartbeats 400000 in
theorem indexP_any (v : Value) (l : PL) (q1 q2 : ByteArray) (w : World) (hl : Lst w w.heap.size v l) :
  Calls Tryz.prog 148 #[v, .agg #[.string q1, .string q2]] w fun e w' => ∃ i : Int, e = .returned (.int .i64 i) ∧ decide (0 ≤ i) = l.any (fun p => pairB p (q1, q2)) ∧ Below w.heap.size w w' := by
 obtain ⟨A, c, rfl, hc⟩ := hl.form
 have hby := hl.bytes
 have n0 := (Below.refl w.heap.size w).alloc (nL _) (.cells #[.string q1, .string q2] 56)
 have HL := jD (hl.below n0)
 have HN := jD n0
 have X := RowTo.whole w #[.string q1, .string q2] 56
 obtain ⟨x0, x1⟩ := cells2 X
 clear hl n0 X
 go_enter Tryz.func148, Tryz.ntmps148
 go_wp2
 generalize hwA : w.alloc (.cells #[.string q1, .string q2] 56) = wA at *
 have hsz : wA.heap.size = w.heap.size + 1 := by rw [← hwA]; simp
 clear hwA
 go_loopw [8] (fun i wr => ∃ k : Nat, k ≤ l.length ∧ i = .int .i64 k ∧ Hid ((l.take k).any (fun p => pairB p (q1, q2)) = false) ∧ ∃ n, wr = wA.drewN n) (fun i _ => l.length - (intOf i).toNat)
 case atStart => exact ⟨0, by omega, rfl, rfl, 0, rfl⟩
 case round =>
  obtain ⟨k, hk, rfl, HZ, n, rfl⟩ := hrel
  by_cases hlt : k < l.length
  ·obtain ⟨b, off, rfl, hb, c0, c1⟩ := HL.out.pt hlt
   have hs1 : (l.take (k + 1)).any (fun p => pairB p (q1, q2)) = pairB l[k] (q1, q2) := by
    rw [List.take_succ_eq_append_getElem hlt, List.any_append, HZ.out]; simp
   have HS1 := jD hs1
   have HAN := jD (fun (h : pairB l[k] (q1, q2) = true) => show l.any (fun p => pairB p (q1, q2)) = true from List.any_eq_true.2 ⟨l[k], List.getElem_mem hlt, h⟩)
   generalize l[k] = y at *
   obtain ⟨y1, y2⟩ := y
   clear hs1
   cases hq : pairB (y1, y2) (q1, q2) with
   | true =>
    have he : y1 = q1 ∧ y2 = q2 := by have := pairB_iff.1 hq; injection this with a b; exact ⟨a, b⟩
    have HT := jD (HAN.out hq)
    obtain ⟨rfl, rfl⟩ := he
    clear hq HAN HS1
    go_wp2
    go_quiet (fail)
    go_wp2
    go_ret
    refine ⟨_, rfl, ?_, ?_⟩
    ·rw [HT.out]; simp
    ·exact below_drewN (below_drewN HN.out _) _
   | false =>
    have ht : (q1.toList == y1.toList) = false ∨ (q1 = y1 ∧ (q2.toList == y2.toList) = false) := by
     by_cases h1 : q1 = y1
     ·refine .inr ⟨h1, eqB_false.2 fun h2 => ?_⟩
      rw [pairB_iff.2 (by rw [h1, h2])] at hq; cases hq
     ·exact .inl (eqB_false.2 h1)
    rw [hq] at HS1
    clear hq HAN
    rcases ht with t1 | ⟨rfl, t2⟩
    all_goals
     go_wp2
     go_quiet (fail)
     go_wp2
     go_roundw
     case rel => exact ⟨k + 1, by omega, by go_num, HS1.out, n + nq, rfl⟩
     case measure => simp [intOf]; omega
  ·obtain rfl : k = l.length := by omega
   rw [List.take_length] at HZ
   go_wp2
   go_ret
   refine ⟨_, rfl, ?_, ?_⟩
   ·rw [HZ.out]; decide
   ·exact below_drewN HN.out _
set_option maxHeartbeats 400000 in
theorem containsP_any (v : Value) (l : PL) (q1 q2 : ByteArray) (w : World) (hl : Lst w w.heap.size v l) :
  Calls Tryz.prog 143 #[v, .agg #[.string q1, .string q2]] w fun e w' => e = .returned (.bool (l.any fun p => pairB p (q1, q2))) ∧ Below w.heap.size w w' := by
 have n0 := (Below.refl w.heap.size w).alloc (nL _) (.cells #[.string q1, .string q2] 56)
 have HN := jD n0
 have X := RowTo.whole w #[.string q1, .string q2] 56
 obtain ⟨x0, x1⟩ := cells2 X
 have HI := jD (indexP_any v l q1 q2 _ ((hl.below n0).more n0.size))
 obtain ⟨A, c, rfl, hc⟩ := hl.form
 clear hl n0 X
 go_enter Tryz.func143, Tryz.ntmps143
 go_wp2_with fail
 refine HI.out.mono ?_
 rintro e w1 ⟨i, rfl, hi, hb⟩
 have HI2 := jD hi
 have HB := jD (bel_add' HN.out hb HN.out.size)
 clear hi hb
 go_wp2
 go_ret
 exact ⟨by rw [← HI2.out]; rfl, HB.out⟩
theorem withoutC_any (q : ByteArray × ByteArray) (v : Value) (l : PL) (bx : Nat) (w : World) (hl : Lst w w.heap.size v l) (hx : w.cell? ⟨bx, 0, none⟩ = some v) (hxl : bx < w.heap.size) :
  Calls Tryz.prog 142 #[.agg #[.string q.1, .string q.2], .pointer (some ⟨bx, 0, none⟩)] w fun e w' => e = .returned (.bool (l.any fun p => pairB p q)) ∧ Below w.heap.size w w' := by
 have n0 := (Below.refl w.heap.size w).alloc (nL _) (.cells #[.string q.1, .string q.2] 56)
 have HN := jD n0
 have X := RowTo.whole w #[.string q.1, .string q.2] 56
 obtain ⟨x0, x1⟩ := cells2 X
 have HI := jD (containsP_any v l q.1 q.2 _ ((hl.below n0).more n0.size))
 obtain ⟨A, c, rfl, hc⟩ := hl.form
 clear hl n0 X
 go_enter Tryz.func142, Tryz.ntmps142
 go_wp2_with fail
 refine HI.out.mono ?_
 rintro e w1 ⟨rfl, hb⟩
 have HB := jD (bel_add' HN.out hb HN.out.size)
 clear hb
 go_wp2
 go_ret
 exact ⟨rfl, HB.out⟩
structure Sl (w : World) (t size : Nat) (v : Value) (g : Option Nat) (n : Nat) (xs : List Value) : Prop where
 len : xs.length = n * size
 form : (g = none ∧ v = .slice none 0 0 ∧ n = 0) ∨ ∃ b off cap tot, g = some b ∧ v = .slice (some ⟨b, off, none⟩) n cap ∧ n ≤ cap ∧ RowTo w b t tot [] ∧ (cap = 0 ∨ off + cap * size = tot) ∧ ∀ j (h : j < xs.length), w.cell? ⟨b, off + j, none⟩ = some xs[j]
section
variable {w w' : World} {t size n : Nat} {v : Value} {g : Option Nat} {xs : List Value}
theorem Sl.nil_ (w : World) (t size : Nat) : Sl w t size (.slice none 0 0) none 0 [] := ⟨by simp, .inl ⟨rfl, rfl, rfl⟩⟩
theorem Sl.lt (h : Sl w t size v g n xs) {b : Nat} (hb : g = some b) : b < w.heap.size := by
 rcases h.form with ⟨h1, _⟩ | ⟨b', off, cap, tot, h1, _, _, hr, _⟩
 ·rw [h1] at hb; cases hb
 ·rw [h1] at hb; injection hb with hb; subst hb; exact hr.lt
theorem Sl.keep (h : Sl w t size v g n xs) (hk : ∀ b, g = some b → w'.heap[b]? = w.heap[b]?) : Sl w' t size v g n xs := by
 refine ⟨h.len, h.form.imp id ?_⟩
 rintro ⟨b, off, cap, tot, h1, h2, h3, hr, h4, h5⟩
 exact ⟨b, off, cap, tot, h1, h2, h3, hr.same (hk b h1), h4, fun j hj => (World.cell?_of_block (hk b h1)).trans (h5 j hj)⟩
theorem Sl.below (h : Sl w t size v g n xs) (hb : Below w.heap.size w w') : Sl w' t size v g n xs := h.keep fun b hg => hb.block b (h.lt hg)
theorem Sl.at (h : Sl w t size v g n xs) (hn : 0 < n) : ∃ b off cap, g = some b ∧ v = .slice (some ⟨b, off, none⟩) n cap ∧ n ≤ cap ∧ ∀ j (h : j < xs.length), w.cell? ⟨b, off + j, none⟩ = some xs[j] := by
 rcases h.form with ⟨_, _, h0⟩ | ⟨b, off, cap, tot, h1, h2, h3, _, _, h5⟩
 ·omega
 ·exact ⟨b, off, cap, h1, h2, h3, h5⟩
theorem Sl.shape (h : Sl w t size v g n xs) : ∃ A c, v = .slice A n c ∧ n ≤ c := by
 rcases h.form with ⟨_, h1, h0⟩ | ⟨b, off, cap, tot, h1, h2, h3, _, _, h5⟩
 ·exact ⟨none, 0, by rw [h1, h0], by omega⟩
 ·exact ⟨_, cap, h2, h3⟩
def cutv (b off size n cap : Nat) : Value := if cap = 1 then .slice (some ⟨b, off, none⟩) n 0 else .slice (some ⟨b, off + size, none⟩) n (cap - 1)
theorem Sl.cut {b off cap : Nat} (h : Sl w t size (.slice (some ⟨b, off, none⟩) (n + 1) cap) g (n + 1) xs) : Sl w t size (cutv b off size n cap) g n (xs.drop size) := by
 refine ⟨by rw [List.length_drop, h.len, Nat.add_mul]; omega, .inr ?_⟩
 rcases h.form with ⟨_, h1, h0⟩ | ⟨b', off', cap', tot, h1, h2, h3, hr, h4, h5⟩
 ·cases h1
 ·injection h2 with e1 _ e3
  injection e1 with e1
  injection e1 with e1 e2
  subst e1 e2 e3
  have h4 := h4.resolve_left (by omega)
  unfold cutv
  by_cases hc1 : cap = 1
  ·rw [if_pos hc1]
   obtain rfl : n = 0 := by omega
   refine ⟨b, off, 0, tot, h1, rfl, by omega, hr, .inl rfl, fun j hj => ?_⟩
   rw [List.length_drop, h.len] at hj
   omega
  rw [if_neg hc1]
  refine ⟨b, off + size, cap - 1, tot, h1, rfl, by omega, hr, .inr ?_, fun j hj => ?_⟩
  ·obtain ⟨k, rfl⟩ : ∃ k, cap = k + 1 := ⟨cap - 1, by omega⟩
   rw [Nat.add_sub_cancel]
   rw [Nat.add_mul] at h4
   omega
  ·rw [List.length_drop] at hj
   have := h5 (size + j) (by omega)
   rw [← Nat.add_assoc] at this
   rw [this]
   simp
theorem ownsRow_sl {base : Nat} (h : w.ownsRow base t size v n xs) (hn : 0 < n) : ∃ b cap, v = .slice (some ⟨b, 0, none⟩) n cap ∧ base ≤ b ∧ b < w.heap.size ∧ Sl w t size v (some b) n xs := by
 obtain ⟨hl, ⟨_, h0⟩ | ⟨b, cap, cur, rfl, hb, hh, hc, hm, hz, hx⟩⟩ := h
 ·omega
 ·have hr : RowTo w b t (cap * size) xs := ⟨cur, hh, hz, by rw [hl]; exact hx⟩
  exact ⟨b, cap, rfl, hb, hr.lt, hl, .inr ⟨b, 0, cap, cap * size, rfl, rfl, hc, hr.nil, .inr (by omega), fun j hj => by rw [Nat.zero_add]; exact hr.cell hj⟩⟩
theorem sl_setCells {b o : Nat} {vs : List Value} (h : RowTo w b t n []) : RowTo (w.setCells b o vs) b t n [] := by
 induction vs generalizing o w with
 | nil => exact h
 | cons x vs ih => exact ih (h.hit _)
theorem setCells_keeps (b : Nat) : ∀ (vs : List Value) (o : Nat) (w : World), (w.setCells b o vs).os = w.os ∧ (w.setCells b o vs).tape = w.tape ∧ (w.setCells b o vs).output = w.output ∧ (w.setCells b o vs).heap.size = w.heap.size
 | [], o, w => ⟨rfl, rfl, rfl, rfl⟩
 | v :: r, o, w => by
  have h := setCells_keeps b r (o + 1) (w.setCell ⟨b, o, none⟩ v)
  rw [World.setCells]
  refine ⟨h.1, h.2.1, h.2.2.1, h.2.2.2.trans (by simp [World.setCell])⟩
theorem Sl.append {P : Program} (h : Sl w t size v g n xs) (ts ty : TypeId) (i : TypeInfo) (z : Value) (bytes : Nat) (ht : P.underlying ts = some (.slice t)) (hi : P.info? t = some i) (hz : i.zero = some z)
  (hsize : i.size = size) (hby : i.bytes = bytes) (hzs : z.cells.size = size) (hsz : 0 < size) (ad : Addr) (c : Nat) (news : List Value) (hl : news.length = size) (hnews : ∀ j u, news[j]? = some u → w.cell? (ad.add j) = some u) (h1 : ∀ u ∈ news, u.oneCell' = true)
  (h63 : n + 1 ≤ maxLen) (hbytes : (n + 1) * bytes ≤ 140737488355328) :
  ∃ b off cap w', (Builtin.append_ #[ts, ts] ty #[v, .slice (some ad) 1 c]).run P w = .ok (.slice (some ⟨b, off, none⟩) (n + 1) cap) w' ∧ Sl w' t size (.slice (some ⟨b, off, none⟩) (n + 1) cap) (some b) (n + 1) (xs ++ news) ∧
   w.grownBy w' g ∧ (g = some b ∨ (w.heap.size ≤ b ∧ b < w'.heap.size)) := by
 have hl1 : news.length = 1 * i.size := by rw [hl, hsize, Nat.one_mul]
 rcases h.form with ⟨rfl, rfl, rfl⟩ | ⟨b, off, cap, tot, rfl, rfl, hc, hr, hfit, hcell⟩
 ·have hx : xs = [] := List.eq_nil_of_length_eq_zero (by simpa using h.len)
  subst hx
  obtain ⟨v', w', hrun, hown, hgr, _⟩ := run_append_own (P := P) w w.heap.size ts ty t i z size bytes ht hi hz hsize hby hzs hsz _ 0 [] (World.ownsRow_nil w w.heap.size t size) ad 1 c news (by rw [hl, Nat.one_mul]) hnews h1 h63 hbytes (nL _)
  obtain ⟨b, cap, rfl, hb, hlt, hs⟩ := ownsRow_sl hown (by omega)
  exact ⟨b, 0, cap, w', hrun, hs, hgr, .inr ⟨hb, hlt⟩⟩
 ·by_cases hroom : n + 1 ≤ cap
  ·have hfit0 := hfit
   have hfit := hfit.resolve_left (by omega)
   have hmul : (n + 1) * size ≤ cap * size := Nat.mul_le_mul_right _ hroom
   rw [Nat.add_mul, Nat.one_mul] at hmul
   have hin : ∀ j, j < news.length → off + n * i.size + j < tot := fun j hj => by rw [hsize]; omega
   have hrun := run_append_room_cells (P := P) w ts ty t i ht hi b off n cap ad 1 c news hl1 hnews h1 hroom (fun j hj => by obtain ⟨u, hu⟩ := hr.any (hin j hj); rw [hu]; rfl) (fun j hj => hr.frozen _)
   rw [hsize] at hrun
   refine ⟨b, off, cap, _, hrun, ⟨?_, .inr ⟨b, off, cap, tot, rfl, rfl, hroom, sl_setCells hr, hfit0, fun j hj => ?_⟩⟩, ⟨?_, ?_, ?_, ?_, fun k hk hne => ?_⟩, .inl rfl⟩
   ·rw [List.length_append, h.len, hl, Nat.add_mul, Nat.one_mul]
   ·have hlen := h.len
    by_cases hj' : j < xs.length
    ·rw [World.cell?_setCells_out b _ _ _ _ (fun _ _ => Or.inl (by show off + j < off + n * size; omega)), hcell j hj', List.getElem_append_left hj']
    ·have hj2 : j - xs.length < news.length := by rw [List.length_append] at hj; omega
     have := World.cell?_setCells_in b news (off + n * size) w (fun k hk => by obtain ⟨u, hu⟩ := hr.any (j := off + n * size + k) (by rw [hsize] at hin; exact hin k hk); rw [hu]; rfl) (j - xs.length) hj2
     rw [show off + n * size + (j - xs.length) = off + j by omega] at this
     rw [this, List.getElem_append_right (by omega)]
   ·exact (setCells_keeps b news _ w).1
   ·exact (setCells_keeps b news _ w).2.1
   ·exact (setCells_keeps b news _ w).2.2.1
   ·exact Nat.le_of_eq (setCells_keeps b news _ w).2.2.2.symm
   ·exact World.heap_setCells_other w b _ news hk (fun e => hne (by rw [e]))
  ·obtain ⟨v', w', hrun, hown, hgr⟩ := run_append_arg_grows (P := P) w ts ty t i z size bytes ht hi hz hsize hby hzs hsz ⟨b, off, none⟩ n cap xs h.len (fun j u hu => by
    have hj := (List.getElem?_eq_some_iff.1 hu).1
    rw [Addr.add_lit, hcell j hj]
    rw [List.getElem?_eq_getElem hj] at hu
    exact hu) ad 1 c news (by rw [hl, Nat.one_mul]) hnews (by omega) h63 hbytes
   obtain ⟨b', cap', rfl, hb, hlt, hs⟩ := ownsRow_sl hown (by omega)
   exact ⟨b', 0, cap', w', hrun, hs, ⟨hgr.os, hgr.tape, hgr.output, hgr.size, fun k hk _ => hgr.block k hk (by simp)⟩, .inr ⟨hb, hlt⟩⟩
end
structure Rw (w : World) (t size b off cap : Nat) (d : List (List Value)) : Prop where
 each : ∀ e ∈ d, e.length = size
 room : d.length ≤ cap
 row : RowTo w b t (off + cap * size) []
 cell : ∀ i (h : i < d.length) j, j < size → w.cell? ⟨b, off + i * size + j, none⟩ = d[i][j]?
section
variable {w w' : World} {t size b off cap : Nat} {d : List (List Value)}
theorem Rw.keep (h : Rw w t size b off cap d) (hk : w'.heap[b]? = w.heap[b]?) : Rw w' t size b off cap d :=
 ⟨h.each, h.room, h.row.same hk, fun i hi j hj => (World.cell?_of_block hk).trans (h.cell i hi j hj)⟩
theorem Rw.below (h : Rw w t size b off cap d) {B : Nat} (hb : Below B w w') (hB : b < B) : Rw w' t size b off cap d := h.keep (hb.block b hB)
theorem Rw.cut (h : Rw w t size b off cap d) (n : Nat) : Rw w t size b off cap (d.take n) :=
 ⟨fun e he => h.each e (List.mem_of_mem_take he), Nat.le_trans (by rw [List.length_take]; omega) h.room, h.row, fun i hi j hj => by
  have hi' : i < d.length := by rw [List.length_take] at hi; omega
  rw [h.cell i hi' j hj, List.getElem_take]⟩
theorem at_in {i n size j : Nat} (hi : i < n) (hj : j < size) : i * size + j < n * size := by
 have : (i + 1) * size ≤ n * size := Nat.mul_le_mul_right _ hi
 rw [Nat.add_mul, Nat.one_mul] at this
 omega
theorem Rw.set (h : Rw w t size b off cap d) {i : Nat} (hi : i < d.length) {e : List Value} (he : e.length = size) : Rw (w.setCells b (off + i * size) e) t size b off cap (d.set i e) := by
 have hroom := h.room
 refine ⟨fun x hx => ?_, by rw [List.length_set]; exact hroom, sl_setCells h.row, fun k hk j hj => ?_⟩
 ·rcases List.mem_or_eq_of_mem_set hx with hx | hx
  ·exact h.each x hx
  ·rw [hx]; exact he
 ·rw [List.length_set] at hk
  by_cases e' : k = i
  ·subst e'
   rw [World.cell?_setCells_in b e (off + k * size) w (fun q hq => ?_) j (by omega), List.getElem_set_self, List.getElem?_eq_getElem]
   obtain ⟨u, hu⟩ := h.row.any (j := off + k * size + q) (by have := at_in (i := k) (n := cap) (size := size) (j := q) (by omega) (by omega); omega)
   rw [hu]; rfl
  ·rw [World.cell?_setCells_out b e _ w _ (fun _ _ => ?_), h.cell k hk j hj, List.getElem_set_ne (Ne.symm e')]
   show off + k * size + j < off + i * size ∨ off + i * size + e.length ≤ off + k * size + j
   rcases Nat.lt_or_ge k i with hlt | hge
   ·have := at_in hlt hj; omega
   ·have : (i + 1) * size ≤ k * size := Nat.mul_le_mul_right _ (by omega)
    rw [Nat.add_mul, Nat.one_mul] at this
    omega
theorem Rw.behind (h : Rw w t size b off cap d) {i : Nat} (hi : i ≤ d.length) (vs : List Value) : Rw (w.setCells b (off + i * size) vs) t size b off cap (d.take i) :=
 ⟨fun e he => h.each e (List.mem_of_mem_take he), Nat.le_trans (by rw [List.length_take]; omega) h.room, sl_setCells h.row, fun k hk j hj => by
  have hk' : k < i := by rw [List.length_take] at hk; omega
  rw [World.cell?_setCells_out b vs _ w _ (fun _ _ => .inl (by show off + k * size + j < off + i * size; have := at_in hk' hj; omega)), h.cell k (by omega) j hj, List.getElem_take]⟩
theorem setCells_other (w : World) (b o : Nat) (vs : List Value) {g : Nat} (hg : g ≠ b) : (w.setCells b o vs).heap[g]? = w.heap[g]? := by
 induction vs generalizing w o with
 | nil => rfl
 | cons v r ih => rw [World.setCells, ih]; exact Below.heap_setCell _ _ _ _ hg
theorem below_setCells {B : Nat} {w0 : World} (h : Below B w0 w) (hB : B ≤ b) (o : Nat) (vs : List Value) : Below B w0 (w.setCells b o vs) := by
 have k := setCells_keeps b vs o w
 exact ⟨k.1.trans h.os, k.2.1.trans h.tape, k.2.2.1.trans h.output, by rw [k.2.2.2]; exact h.size, fun g hg => (setCells_other w b o vs (by omega)).trans (h.block g hg)⟩
theorem run_clear_cells {P : Program} (w : World) (t e ty : TypeId) (z : Value) (ht : P.underlying t = some (.slice e)) (hv : ∀ w, (zeroValue e).run P w = .ok z w) (h1 : ∀ v ∈ z.cells.toList, v.oneCell' = true) (hz : 0 < z.cells.size) (b o n c : Nat) (hn : 0 < n)
  (hc : ∀ j, j < n * z.cells.size → (w.cell? ⟨b, o + j, none⟩).isSome = true) (hf : ∀ j, w.frozen? ⟨b, o + j, none⟩ = false) :
  (Builtin.clear_ #[t] ty #[.slice (some ⟨b, o, none⟩) n c]).run P w = .ok (.tuple #[]) (w.setCells b o (Builtin.zeroCells z.cells n).toList) := by
 have hl : (Builtin.zeroCells z.cells n).toList.length = n * z.cells.size := by simp [Builtin.zeroCells]
 have hst := run_storeCells_cells (P := P) b o (Builtin.zeroCells z.cells n).toList 0 w (by rw [hl]; simpa using hc) (fun j _ => by simpa using hf j) (by
  intro v hv'
  unfold Builtin.zeroCells at hv'
  simp only [Array.toList_map, List.mem_map] at hv'
  obtain ⟨i, _, rfl⟩ := hv'
  refine h1 _ ?_
  have hlt : i % z.cells.size < z.cells.size := Nat.mod_lt _ hz
  rw [getElem!_pos z.cells _ hlt]
  exact Array.getElem_mem_toList hlt)
 simp only [Nat.add_zero] at hst
 obtain ⟨m, rfl⟩ : ∃ m, n = m + 1 := ⟨n - 1, by omega⟩
 simp [Builtin.clear_, run_underlying ht, hv, hst]
end
theorem flat_get : ∀ {d : List (List Value)} {size : Nat}, (∀ e ∈ d, e.length = size) → ∀ {i : Nat} (hi : i < d.length) {j : Nat}, j < size → d.flatten[i * size + j]? = d[i][j]?
 | e :: d, size, he, 0, hi, j, hj => by
  rw [List.flatten_cons, List.getElem?_append_left (by rw [he e List.mem_cons_self]; omega)]
  simp
 | e :: d, size, he, i + 1, hi, j, hj => by
  have h1 := he e List.mem_cons_self
  rw [List.flatten_cons, List.getElem?_append_right (by rw [h1, Nat.add_mul]; omega), h1, show (i + 1) * size + j - size = i * size + j by rw [Nat.add_mul]; omega]
  exact flat_get (fun e' he' => he e' (List.mem_cons_of_mem _ he')) (by simpa using hi) hj
theorem Sl.rw {w : World} {t size n : Nat} {v : Value} {g : Option Nat} {d : List (List Value)} (h : Sl w t size v g n d.flatten) (he : ∀ e ∈ d, e.length = size) (hd : d.length = n) (hn : 0 < n) : ∃ b off cap, g = some b ∧ v = .slice (some ⟨b, off, none⟩) n cap ∧ Rw w t size b off cap d := by
 rcases h.form with ⟨_, _, h0⟩ | ⟨b, off, cap, tot, h1, h2, h3, h4, h5, h6⟩
 ·omega
 ·have h5 := h5.resolve_left (by omega)
  refine ⟨b, off, cap, h1, h2, he, by omega, by rw [h5]; exact h4, fun i hi j hj => ?_⟩
  have hl : i * size + j < d.flatten.length := by rw [h.len, ← hd]; exact at_in hi hj
  rw [Nat.add_assoc, h6 _ hl, ← List.getElem?_eq_getElem hl]
  exact flat_get he hi hj
theorem flat_len : ∀ {d : List (List Value)} {size : Nat}, (∀ e ∈ d, e.length = size) → d.flatten.length = d.length * size
 | [], _, _ => by simp
 | e :: d, size, he => by rw [List.flatten_cons, List.length_append, he e List.mem_cons_self, flat_len (fun e' he' => he e' (List.mem_cons_of_mem _ he')), List.length_cons, Nat.add_mul]; omega
theorem Rw.sl {w : World} {t size b off cap : Nat} {d : List (List Value)} (h : Rw w t size b off cap d) (hs : 0 < size) : Sl w t size (.slice (some ⟨b, off, none⟩) d.length cap) (some b) d.length d.flatten := by
 refine ⟨flat_len h.each, .inr ⟨b, off, cap, _, rfl, rfl, h.room, h.row, .inr rfl, fun q hq => ?_⟩⟩
 rw [flat_len h.each] at hq
 have hi : q / size < d.length := (Nat.div_lt_iff_lt_mul hs).2 hq
 have hj : q % size < size := Nat.mod_lt _ hs
 have e : q = q / size * size + q % size := by rw [Nat.mul_comm]; exact (Nat.div_add_mod q size).symm
 have h1 := h.cell _ hi _ hj
 rw [← flat_get h.each hi hj, Nat.add_assoc, ← e] at h1
 rw [h1, List.getElem?_eq_getElem]
section
variable {α : Type}
structure KeepI (p : α → Bool) (d : List α) (i j : Nat) (dk : List α) : Prop where
 len : dk.length = d.length
 ij : i < j
 jn : j ≤ d.length
 low : dk.take i = (d.take j).filter fun x => !p x
 high : dk.drop j = d.drop j
theorem KeepI.start {p : α → Bool} {d : List α} {k : Nat} (hk : k < d.length) (h1 : p d[k] = true) (h0 : ∀ x ∈ d.take k, p x = false) : KeepI p d k (k + 1) d := by
 refine ⟨rfl, by omega, by omega, ?_, rfl⟩
 rw [List.take_succ_eq_append_getElem hk, List.filter_append, List.filter_eq_self.2 (fun x hx => by rw [h0 x hx]; rfl)]
 simp [h1]
theorem KeepI.at {p : α → Bool} {d dk : List α} {i j : Nat} (h : KeepI p d i j dk) (hj : j < d.length) : dk[j]'(by rw [h.len]; exact hj) = d[j] := by
 have h1 := congrArg (fun l => l[0]?) h.high
 simp only [List.getElem?_drop, Nat.add_zero] at h1
 rw [List.getElem?_eq_getElem (by rw [h.len]; exact hj), List.getElem?_eq_getElem hj] at h1
 injection h1
theorem KeepI.keep {p : α → Bool} {d dk : List α} {i j : Nat} (h : KeepI p d i j dk) (hj : j < d.length) (hp : p d[j] = false) : KeepI p d (i + 1) (j + 1) (dk.set i d[j]) := by
 have hl := h.len
 have hij := h.ij
 refine ⟨by rw [List.length_set]; exact hl, by omega, by omega, ?_, ?_⟩
 ·rw [List.take_succ_eq_append_getElem (by rw [List.length_set]; omega), List.getElem_set_self, List.take_set_of_le (nL _), h.low, List.take_succ_eq_append_getElem hj, List.filter_append]
  simp [hp]
 ·rw [List.drop_set_of_lt (by omega), ← List.drop_drop, ← List.drop_drop, h.high]
theorem KeepI.skip {p : α → Bool} {d dk : List α} {i j : Nat} (h : KeepI p d i j dk) (hj : j < d.length) (hp : p d[j] = true) : KeepI p d i (j + 1) dk := by
 refine ⟨h.len, by have := h.ij; omega, by omega, ?_, ?_⟩
 ·rw [h.low, List.take_succ_eq_append_getElem hj, List.filter_append]
  simp [hp]
 ·rw [← List.drop_drop, ← List.drop_drop, h.high]
theorem KeepI.done {p : α → Bool} {d dk : List α} {i : Nat} (h : KeepI p d i d.length dk) : dk.take i = d.filter fun x => !p x := by rw [h.low, List.take_length]
theorem KeepI.num {p : α → Bool} {d dk : List α} {i : Nat} (h : KeepI p d i d.length dk) : (d.filter fun x => !p x).length = i := by
 rw [← h.done, List.length_take, h.len]; have := h.ij; omega
end
def encP (x : ByteArray × ByteArray) : List Value := [.string x.1, .string x.2]
section
variable {w : World} {b off cap : Nat} {d : List (ByteArray × ByteArray)}
theorem encP_each : ∀ e ∈ d.map encP, e.length = 2 := fun e he => by
 obtain ⟨x, _, rfl⟩ := List.mem_map.1 he
 rfl
theorem Rw.cP (h : Rw w 56 2 b off cap (d.map encP)) {i : Nat} (hi : i < d.length) : w.cell? ⟨b, off + i * 2, none⟩ = some (.string d[i].1) ∧ w.cell? ⟨b, off + i * 2 + 1, none⟩ = some (.string d[i].2) := by
 have hi' : i < (d.map encP).length := by simpa using hi
 have h0 := h.cell i hi' 0 (by omega)
 have h1 := h.cell i hi' 1 (by omega)
 rw [List.getElem_map] at h0
 rw [List.getElem_map] at h1
 exact ⟨by simpa [encP] using h0, by simpa [encP] using h1⟩
end
set_option maxHeartbeats 400000 in
theorem indexFuncP (lbv : Value) (p : ByteArray × ByteArray → Bool) (w : World) (b off cap B : Nat) (d : List (ByteArray × ByteArray)) (hR : Rw w 56 2 b off cap (d.map encP)) (hby : d.length ≤ 1000000000000000) (hB : B ≤ b)
  (hp : ∀ x ∈ d, ∀ wc, Below B w wc → Calls Tryz.prog 142 #[.agg #[.string x.1, .string x.2], lbv] wc fun e w' => e = .returned (.bool (p x)) ∧ Below wc.heap.size wc w') :
  Calls Tryz.prog 147 #[.slice (some ⟨b, off, none⟩) d.length cap, .func (.func 142) #[] #[lbv]] w fun e w' => (∃ i : Int, e = .returned (.int .i64 i) ∧ ((i = -1 ∧ ∀ x ∈ d, p x = false) ∨ ∃ k, ∃ hk : k < d.length, i = k ∧ p d[k] = true ∧ ∀ x ∈ d.take k, p x = false)) ∧ Below w.heap.size w w' := by
 have hbl := hR.row.lt
 have HR := jD hR
 have HP := jD hp
 have hcap : d.length ≤ cap := by simpa using hR.room
 clear hR hp
 go_enter Tryz.func147, Tryz.ntmps147
 go_wp2
 go_loopw [8] (fun i wr => ∃ k : Nat, k ≤ d.length ∧ i = .int .i64 k ∧ Hid ((∀ x ∈ d.take k, p x = false) ∧ Below w.heap.size w wr)) (fun i _ => d.length - (intOf i).toNat)
 case atStart => exact ⟨0, by omega, rfl, (fun x hx => by simp at hx), Below.refl _ _⟩
 case round =>
  obtain ⟨k, hk, rfl, HZ⟩ := hrel
  by_cases hlt : k < d.length
  ·have hRk := HR.out.below HZ.out.2 hbl
   obtain ⟨a0, a1⟩ := hRk.cP hlt
   have hblr : b < wr.heap.size := Nat.lt_of_lt_of_le hbl HZ.out.2.size
   have HC := jD (HP.out d[k] (List.getElem_mem hlt) wr (HZ.out.2.mono (by omega)))
   have HT := jD (fun (h : p d[k] = true) => (show ∃ k', ∃ hk : k' < d.length, (k : Int) = k' ∧ p d[k'] = true ∧ ∀ x ∈ d.take k', p x = false from ⟨k, hlt, rfl, h, HZ.out.1⟩))
   have HF := jD (fun (h : p d[k] = false) => (show ∀ x ∈ d.take (k + 1), p x = false from fun x hx => by
    rw [List.take_succ_eq_append_getElem hlt] at hx
    rcases List.mem_append.1 hx with hx | hx
    ·exact HZ.out.1 x hx
    ·rw [List.mem_singleton.1 hx]; exact h))
   have HZ2 := jD HZ.out.2
   generalize d[k] = x at *
   clear HZ hRk
   cases hq : p x with
   | true =>
    have HT2 := jD (HT.out hq)
    rw [hq] at HC
    clear HT HF hq
    go_wp2_with fail
    refine HC.out.mono ?_
    rintro e w2 ⟨rfl, hb2⟩
    have HB2 := jD (HZ2.out.trans (hb2.mono HZ2.out.size))
    clear hb2
    go_wp2
    go_ret
    exact ⟨⟨k, rfl, .inr HT2.out⟩, HB2.out⟩
   | false =>
    have HF2 := jD (HF.out hq)
    rw [hq] at HC
    clear HT HF hq
    go_wp2_with fail
    refine HC.out.mono ?_
    rintro e w2 ⟨rfl, hb2⟩
    have HB2 := jD (HZ2.out.trans (hb2.mono HZ2.out.size))
    clear hb2
    go_wp2
    go_roundw
    case rel => exact ⟨k + 1, by omega, by go_num, HF2.out, HB2.out⟩
    case measure => simp [intOf]; omega
  ·obtain rfl : k = d.length := by omega
   rw [List.take_length] at HZ
   go_wp2
   go_ret
   exact ⟨⟨-1, rfl, .inl ⟨rfl, HZ.out.1⟩⟩, HZ.out.2⟩
set_option maxHeartbeats 1000000 in
theorem deleteFuncP (lbv : Value) (p : ByteArray × ByteArray → Bool) (w : World) (b off cap B : Nat) (d : List (ByteArray × ByteArray)) (hR : Rw w 56 2 b off cap (d.map encP)) (hby : d.length ≤ 1000000000000000) (hB : B ≤ b)
  (hp : ∀ x ∈ d, ∀ wc, Below B w wc → Calls Tryz.prog 142 #[.agg #[.string x.1, .string x.2], lbv] wc fun e w' => e = .returned (.bool (p x)) ∧ Below wc.heap.size wc w') :
  Calls Tryz.prog 140 #[.slice (some ⟨b, off, none⟩) d.length cap, .func (.func 142) #[] #[lbv]] w fun e w' => e = .returned (.slice (some ⟨b, off, none⟩) (d.filter fun x => !p x).length cap) ∧ Rw w' 56 2 b off cap ((d.filter fun x => !p x).map encP) ∧ Below B w w' ∧ ∀ g, g < w.heap.size → g ≠ b → w'.heap[g]? = w.heap[g]? := by
 have hbl := hR.row.lt
 have HI := jD (indexFuncP lbv p w b off cap B d hR hby hB hp)
 have HR := jD hR
 have HP := jD hp
 have hcap : d.length ≤ cap := by simpa using hR.room
 clear hR hp
 go_enter Tryz.func140, Tryz.ntmps140
 go_wp2_with fail
 refine HI.out.mono ?_
 rintro e w1 ⟨⟨i, rfl, hi⟩, hb1⟩
 have HB1 := jD hb1
 clear HI hb1
 rcases hi with ⟨rfl, hall⟩ | ⟨k, hk, rfl, h1, h0⟩
 ·have HA := jD (show (d.filter fun x => !p x) = d from List.filter_eq_self.2 fun x hx => by rw [hall x hx]; rfl)
  clear hall
  go_wp2
  go_ret
  rw [HA.out]
  exact ⟨rfl, HR.out.below HB1.out hbl, HB1.out.mono (by omega), fun g hg _ => HB1.out.block g hg⟩
 ·have HK := jD (KeepI.start hk h1 h0)
  have hne : ((k : Int) == -1) = false := beq_eq_false_iff_ne.2 (by omega)
  clear h1 h0
  go_wp2_with fail
  go_loopw [5, 6, 7] (fun s5 s6 s7 wr => ∃ (i j : Nat) (dk : List (ByteArray × ByteArray)), s5 = .int .i64 i ∧ s6 = .int .i64 j ∧ i < j ∧ j ≤ d.length ∧ Hid (KeepI p d i j dk ∧ Rw wr 56 2 b off cap (dk.map encP) ∧ Below B w wr ∧ (w.heap.size ≤ wr.heap.size) ∧ ∀ g, g < w.heap.size → g ≠ b → wr.heap[g]? = w.heap[g]?)) (fun _ s6 _ _ => d.length - (intOf s6).toNat)
  case atStart => exact ⟨k, k + 1, d, rfl, by go_num, by omega, by omega, HK.out, HR.out.below HB1.out hbl, HB1.out.mono (by omega), HB1.out.size, fun g hg _ => HB1.out.block g hg⟩
  case round =>
   obtain ⟨i, j, dk, rfl, rfl, hij, hjn, HZ⟩ := hrel
   clear HK HB1
   by_cases hlt : j < d.length
   ·have hRk := HZ.out.2.1
    have hlk := HZ.out.1.len
    have c0 := hRk.cP (i := j) (by omega)
    have z0 := hRk.cP (i := i) (by omega)
    rw [HZ.out.1.at hlt] at c0
    obtain ⟨a0, a1⟩ := c0
    obtain ⟨z0, z1⟩ := z0
    have f0 := hRk.row.frozen (off + i * 2)
    have f1 := hRk.row.frozen (off + i * 2 + 1)
    have hbr := hRk.row.lt
    have y0 := (RowTo.whole wr #[.string d[j].1, .string d[j].2] 56).cell (j := 0) (by simp)
    have y1 := (RowTo.whole wr #[.string d[j].1, .string d[j].2] 56).cell (j := 1) (by simp)
    have HC := jD (HP.out d[j] (List.getElem_mem hlt) (wr.alloc (.cells #[.string d[j].1, .string d[j].2] 56)) (HZ.out.2.2.1.alloc (by have := HZ.out.2.2.2.1; omega) _))
    have HKK := jD (fun (h : p d[j] = false) => HZ.out.1.keep hlt h)
    have HKS := jD (fun (h : p d[j] = true) => HZ.out.1.skip hlt h)
    have hjI : (j : Int) < (d.length : Int) := by omega
    have HM := jD (List.getElem_mem hlt)
    generalize d[j] = x at *
    skip
    clear hRk
    cases hq : p x with
    | true =>
     have HK2 := jD (HKS.out hq)
     rw [hq] at HC
     clear HKS HKK hq
     go_wp2_with fail
     refine HC.out.mono ?_
     rintro e w2 ⟨rfl, hb2⟩
     have HB2 := jD hb2
     clear hb2
     have hw2 : Below (wr.alloc (.cells #[.string x.1, .string x.2] 56)).heap.size (wr.alloc (.cells #[.string x.1, .string x.2] 56)) w2 := HB2.out
     have hz2 := hw2.size
     simp only [World.size_alloc] at hz2
     have hn2 : ∀ g, g < wr.heap.size → w2.heap[g]? = wr.heap[g]? := fun g hg => (hw2.block g (by simp; omega)).trans (Below.heap_alloc _ _ _ hg)
     have H2 := jD (And.intro (HZ.out.2.1.keep (hn2 b hbr)) (And.intro (show Below B w w2 from (HZ.out.2.2.1.alloc (by have := HZ.out.2.2.2.1; omega) _).trans (hw2.mono (by simp; have := HZ.out.2.2.2.1; omega))) (And.intro (show w.heap.size ≤ w2.heap.size by have := HZ.out.2.2.2.1; have := hw2.size; omega) (fun g (hg : g < w.heap.size) (hne : g ≠ b) => (hn2 g (by have := HZ.out.2.2.2.1; omega)).trans (HZ.out.2.2.2.2 g hg hne)))))
     have hb2' : b < w2.heap.size := by have := hw2.size; simp at this; omega
     have u0 := (hw2.cell (p := ⟨wr.heap.size, 0, none⟩) (by simp)).trans y0
     have u1 := (hw2.cell (p := ⟨wr.heap.size, 1, none⟩) (by simp)).trans y1
     go_wp2
     go_roundw
     case rel => exact ⟨i, j + 1, dk, rfl, by go_num, by omega, by omega, HK2.out, H2.out.1, H2.out.2.1, H2.out.2.2.1, H2.out.2.2.2⟩
     case measure => simp [intOf]; omega
    | false =>
     have HK2 := jD (HKK.out hq)
     rw [hq] at HC
     clear HKS HKK hq
     go_wp2_with fail
     refine HC.out.mono ?_
     rintro e w2 ⟨rfl, hb2⟩
     have HB2 := jD hb2
     clear hb2
     have hw2 : Below (wr.alloc (.cells #[.string x.1, .string x.2] 56)).heap.size (wr.alloc (.cells #[.string x.1, .string x.2] 56)) w2 := HB2.out
     have hz2 := hw2.size
     simp only [World.size_alloc] at hz2
     have hn2 : ∀ g, g < wr.heap.size → w2.heap[g]? = wr.heap[g]? := fun g hg => (hw2.block g (by simp; omega)).trans (Below.heap_alloc _ _ _ hg)
     have H2 := jD (And.intro (HZ.out.2.1.keep (hn2 b hbr)) (And.intro (show Below B w w2 from (HZ.out.2.2.1.alloc (by have := HZ.out.2.2.2.1; omega) _).trans (hw2.mono (by simp; have := HZ.out.2.2.2.1; omega))) (And.intro (show w.heap.size ≤ w2.heap.size by have := HZ.out.2.2.2.1; have := hw2.size; omega) (fun g (hg : g < w.heap.size) (hne : g ≠ b) => (hn2 g (by have := HZ.out.2.2.2.1; omega)).trans (HZ.out.2.2.2.2 g hg hne)))))
     have hb2' : b < w2.heap.size := by have := hw2.size; simp at this; omega
     have u0 := (hw2.cell (p := ⟨wr.heap.size, 0, none⟩) (by simp)).trans y0
     have u1 := (hw2.cell (p := ⟨wr.heap.size, 1, none⟩) (by simp)).trans y1
     have hi2 : i < (dk.map encP).length := by rw [List.length_map, HZ.out.1.len]; omega
     have H3 := jD (And.intro (H2.out.1.set hi2 (e := encP x) rfl) (And.intro (below_setCells H2.out.2.1 hB (off + i * 2) (encP x)) (And.intro (show w.heap.size ≤ (w2.setCells b (off + i * 2) (encP x)).heap.size by rw [(setCells_keeps b _ _ _).2.2.2]; exact H2.out.2.2.1) (fun g (hg : g < w.heap.size) (hne : g ≠ b) => (setCells_other w2 b (off + i * 2) (encP x) hne).trans (H2.out.2.2.2 g hg hne)))))
     rw [← List.map_set] at H3
     have v0 := (World.cell?_of_block (a := ⟨b, off + i * 2, none⟩) (hn2 b hbr)).trans z0
     have g0 := (World.frozen?_of_block (a := ⟨b, off + i * 2, none⟩) (hn2 b hbr)).trans f0
     have v1 := (World.cell?_of_block (a := ⟨b, off + i * 2 + 1, none⟩) (hn2 b hbr)).trans z1
     have g1 := (World.frozen?_of_block (a := ⟨b, off + i * 2 + 1, none⟩) (hn2 b hbr)).trans f1
     simp only [World.setCells, encP] at H3
     go_wp2
     go_roundw
     case rel => exact ⟨i + 1, j + 1, dk.set i x, by go_num, by go_num, by omega, by omega, HK2.out, H3.out.1, H3.out.2.1, H3.out.2.2.1, H3.out.2.2.2⟩
     case measure => simp [intOf]; omega
   ·obtain rfl : j = d.length := by omega
    have hRk := HZ.out.2.1
    have hlk := HZ.out.1.len
    have hbr := hRk.row.lt
    have hcl : ∀ ty, (Builtin.clear_ #[25] ty #[.slice (some ⟨b, off + i * 2, none⟩) (d.length - i) (cap - i)]).run Tryz.prog wr = .ok (.tuple #[]) (wr.setCells b (off + i * 2) (Builtin.zeroCells ((.agg #[.string ⟨#[]⟩, .string ⟨#[]⟩]) : Value).cells (d.length - i)).toList) := fun ty => by
     refine run_clear_cells (P := Tryz.prog) wr 25 56 ty (.agg #[.string ⟨#[]⟩, .string ⟨#[]⟩]) Tryz.underlying25 Tryz.zeroValue56 (by simp [Value.cells, Value.oneCell']) (by decide) b (off + i * 2) (d.length - i) (cap - i) (by omega) (fun q hq => ?_) (fun q => hRk.row.frozen _)
     obtain ⟨u, hu⟩ := hRk.row.any (j := off + i * 2 + q) (by have : q < (d.length - i) * 2 := hq; have : d.length * 2 ≤ cap * 2 := Nat.mul_le_mul_right _ hcap; omega)
     rw [hu]; rfl
    have H2 := jD (hRk.behind (i := i) (by rw [List.length_map]; omega) (Builtin.zeroCells ((.agg #[.string ⟨#[]⟩, .string ⟨#[]⟩]) : Value).cells (d.length - i)).toList)
    rw [← List.map_take, HZ.out.1.done] at H2
    have HN := jD HZ.out.1.num
    have H3 := jD (And.intro (below_setCells HZ.out.2.2.1 hB (off + i * 2) (Builtin.zeroCells ((.agg #[.string ⟨#[]⟩, .string ⟨#[]⟩]) : Value).cells (d.length - i)).toList) (fun g (hg : g < w.heap.size) (hne : g ≠ b) => (setCells_other wr b (off + i * 2) (Builtin.zeroCells ((.agg #[.string ⟨#[]⟩, .string ⟨#[]⟩]) : Value).cells (d.length - i)).toList hne).trans (HZ.out.2.2.2.2 g hg hne)))
    clear hRk
    go_wp2
    go_ret
    refine ⟨by rw [HN.out]; rfl, H2.out, H3.out.1, H3.out.2⟩
end Go.Proofs.YtpbaobmegomfpacGreatDoor
