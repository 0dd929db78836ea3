/-
  Texts of the proof, one behind the other: TopHd, EqP, EqSD, SlN, PickW, CloneA, Repeat, PrefA, TwiceM, AppA, FreeR.
-/
import Derived.Test.YtpbaobmegomfpacGreatDoorM41
import Derived.Test.YtpbaobmegomfpacGreatDoorM43
import Derived.Test.YtpbaobmegomfpacGreatDoorM24
import Derived.Test.YtpbaobmegomfpacGreatDoorM2
import Derived.Test.YtpbaobmegomfpacGreatDoorRows
import Derived.Deep.QuietTactic
import Derived.BigQuiet
import Derived.IntWalk
import Derived.WalkSmall
import Derived.Test.YtpbaobmegomfpacGreatDoorM38
import Derived.Test.YtpbaobmegomfpacGreatDoorM21
import Derived.Test.YtpbaobmegomfpacGreatDoorM27
import Derived.Test.YtpbaobmegomfpacGreatDoorM42
import Derived.Test.YtpbaobmegomfpacGreatDoorM22
import Derived.Shelf.Strings.Repeat
import Derived.Test.YtpbaobmegomfpacGreatDoorProg
import Derived.Test.YtpbaobmegomfpacGreatDoorM35
import Derived.Deep.Upon
import Derived.Test.YtpbaobmegomfpacGreatDoorM1
import Derived.Below
set_option linter.unusedVariables false
set_option linter.unusedSimpArgs false
set_option maxRecDepth 100000
open List renaming getElem_toArray → gTA, getElem_cons_zero → gCZ, getElem_cons_succ → gCS, setIfInBounds_toArray → sTA, set_cons_zero → sCZ, set_cons_succ → sCS
open Go.Lib renaming hid → jD
open Nat renaming le_refl → nL
namespace Go.Proofs.YtpbaobmegomfpacGreatDoor
open Go.RowKit
structure OutAt (w wr : World) (B bO : Nat) (v1 v2 v3 : Value) (snt : List ByteArray) (ds : List Deed) (rows : PL) : Prop where
 o : RowTo wr bO 27 3 [v1, v2, v3]
 s : TLst wr B v1 snt
 d : DLst wr B v2 ds
 r : Lst wr B v3 rows
 bb : B ≤ wr.heap.size
 bel : Below w.heap.size w wr
theorem OutAt.below {w wr w' : World} {B bO : Nat} {v1 v2 v3 : Value} {snt : List ByteArray} {ds : List Deed} {rows : PL} (h : OutAt w wr B bO v1 v2 v3 snt ds rows) (hb : Below wr.heap.size wr w') : OutAt w w' B bO v1 v2 v3 snt ds rows := by
 have hbb := h.bb
 exact ⟨h.o.below hb h.o.lt, h.s.keep (nL _) (fun p hp => hb.cell (Nat.lt_of_lt_of_le hp hbb)), h.d.keep (nL _) (fun p hp => hb.cell (Nat.lt_of_lt_of_le hp hbb)), h.r.below (hb.mono hbb), Nat.le_trans hbb hb.size, bel_add' h.bel hb h.bel.size⟩
theorem OutAt.new {w w3 : World} {v1 v2 v3 : Value} {snt : List ByteArray} {ds : List Deed} {rows : PL} (h : OutV w3 v1 v2 v3 snt ds rows) (hb : Below w.heap.size w w3) : OutAt w (w3.alloc (.cells #[v1, v2, v3] 27)) w3.heap.size w3.heap.size v1 v2 v3 snt ds rows := by
 have n := (Below.refl w3.heap.size w3).alloc (nL _) (.cells #[v1, v2, v3] 27)
 exact ⟨RowTo.whole w3 #[v1, v2, v3] _, h.s.keep (nL _) (fun p hp => n.cell hp), h.d.keep (nL _) (fun p hp => n.cell hp), h.r.below n, n.size, bel_add' hb n hb.size⟩
theorem DLst.take {w : World} {B n c : Nat} {A : Option Addr} {l : List Deed} (h : DLst w B (.slice A n c) l) (hn : n = l.length) {k : Nat} (hk : k ≤ l.length) : DLst w B (.slice A k c) (l.take k) := by
 have hl : (l.take k).length = k := by rw [List.length_take]; omega
 obtain ⟨A', c', e, hc⟩ := h.form
 injection e with e1 e2 e3
 refine ⟨⟨A, c, by rw [hl], by omega⟩, by rw [hl]; have := h.small; omega, fun hp => ?_⟩
 rw [hl] at hp
 obtain ⟨b, off, c'', e, hb, hcell⟩ := h.cells (by omega)
 injection e with e1 e2 e3
 subst e1 e3
 refine ⟨b, off, c, by rw [hl], hb, fun i hi j u hu => hcell i (by omega) j u ?_⟩
 rw [List.getElem_take] at hu
 exact hu
set_option maxHeartbeats 400000 in
theorem equalP_same (v v' : Value) (l : PL) (w : World) (B : Nat) (hl : Lst w B v l) (hl' : Lst w B v' l) :
  Calls Tryz.prog 25 #[v, v'] w fun e w' => e = .returned (.bool true) ∧ ∃ n, w' = w.drewN n := by
 obtain ⟨A, c, rfl, hc⟩ := hl.form
 obtain ⟨A', c', rfl, hc'⟩ := hl'.form
 have hby := hl.bytes
 have HL := jD hl
 have HL' := jD hl'
 have hne : ((l.length : Int) != (l.length : Int)) = false := by simp
 clear hl hl'
 go_enter Tryz.func25, Tryz.ntmps25
 go_wp2
 go_loopw [13] (fun i wr => ∃ k : Nat, k ≤ l.length ∧ i = .int .i64 k ∧ ∃ n, wr = w.drewN n) (fun i _ => l.length - (intOf i).toNat)
 case atStart => exact ⟨0, by omega, rfl, 0, rfl⟩
 case round =>
  obtain ⟨k, hk, rfl, n, rfl⟩ := hrel
  by_cases hlt : k < l.length
  ·obtain ⟨b, off, rfl, hb, c0, c1⟩ := HL.out.pt hlt
   obtain ⟨b', off', rfl, hb', c0', c1'⟩ := HL'.out.pt hlt
   go_wp2
   go_quiet (fail)
   go_wp2
   go_roundw
   case rel => exact ⟨k + 1, by omega, by go_num, n + nq, rfl⟩
   case measure => simp [intOf]; omega
  ·go_wp2
   go_ret
   exact ⟨rfl, _, rfl⟩
set_option maxHeartbeats 400000 in
theorem equalS_same (v v' : Value) (l : List ByteArray) (w : World) (B : Nat) (hl : TLst w B v l) (hl' : TLst w B v' l) :
  Calls Tryz.prog 37 #[v, v'] w fun e w' => e = .returned (.bool true) ∧ ∃ n, w' = w.drewN n := by
 obtain ⟨A, c, rfl, hc⟩ := hl.form
 obtain ⟨A', c', rfl, hc'⟩ := hl'.form
 have hby := hl.small
 have HL := jD hl
 have HL' := jD hl'
 have hne : ((l.length : Int) != (l.length : Int)) = false := by simp
 clear hl hl'
 go_enter Tryz.func37, Tryz.ntmps37
 go_wp2
 go_loopw [13] (fun i wr => ∃ k : Nat, k ≤ l.length ∧ i = .int .i64 k ∧ ∃ n, wr = w.drewN n) (fun i _ => l.length - (intOf i).toNat)
 case atStart => exact ⟨0, by omega, rfl, 0, rfl⟩
 case round =>
  obtain ⟨k, hk, rfl, n, rfl⟩ := hrel
  by_cases hlt : k < l.length
  ·obtain ⟨b, off, rfl, hb, c0⟩ := HL.out.pt hlt
   obtain ⟨b', off', rfl, hb', c0'⟩ := HL'.out.pt hlt
   go_wp2
   go_quiet (fail)
   go_wp2
   go_roundw
   case rel => exact ⟨k + 1, by omega, by go_num, n + nq, rfl⟩
   case measure => simp [intOf]; omega
  ·go_wp2
   go_ret
   exact ⟨rfl, _, rfl⟩
set_option maxHeartbeats 400000 in
theorem equalD_same (v v' : Value) (l : List Deed) (w : World) (B : Nat) (hl : DLst w B v l) (hl' : DLst w B v' l) :
  Calls Tryz.prog 28 #[v, v'] w fun e w' => e = .returned (.bool true) ∧ ∃ n, w' = w.drewN n := by
 obtain ⟨A, c, rfl, hc⟩ := hl.form
 obtain ⟨A', c', rfl, hc'⟩ := hl'.form
 have hby := hl.small
 have HL := jD hl
 have HL' := jD hl'
 have hne : ((l.length : Int) != (l.length : Int)) = false := by simp
 clear hl hl'
 go_enter Tryz.func28, Tryz.ntmps28
 go_wp2
 go_loopw [13] (fun i wr => ∃ k : Nat, k ≤ l.length ∧ i = .int .i64 k ∧ ∃ n, wr = w.drewN n) (fun i _ => l.length - (intOf i).toNat)
 case atStart => exact ⟨0, by omega, rfl, 0, rfl⟩
 case round =>
  obtain ⟨k, hk, rfl, n, rfl⟩ := hrel
  by_cases hlt : k < l.length
  ·obtain ⟨b, off, rfl, hb, c0, c1, c2, c3, c4, c5, c6⟩ := HL.out.pt hlt
   obtain ⟨b', off', rfl, hb', e0, e1, e2, e3, e4, e5, e6⟩ := HL'.out.pt hlt
   go_wp2
   go_quiet (fail)
   go_wp2
   go_roundw
   case rel => exact ⟨k + 1, by omega, by go_num, n + nq, rfl⟩
   case measure => simp [intOf]; omega
  ·go_wp2
   go_ret
   exact ⟨rfl, _, rfl⟩
set_option maxHeartbeats 1000000 in
theorem same_any (v1 v2 v3 u1 u2 u3 : Value) (sent : List ByteArray) (deeds : List Deed) (rows : PL) (w : World) (h : OutV w v1 v2 v3 sent deeds rows) (h' : OutV w u1 u2 u3 sent deeds rows) :
  Calls Tryz.prog 19 #[.agg #[v1, v2, v3], .agg #[u1, u2, u3]] w fun e w' => e = .returned (.bool true) ∧ Below w.heap.size w w' := by
 obtain ⟨A1, c1, rfl, _⟩ := h.s.form
 obtain ⟨A2, c2, rfl, _⟩ := h.d.form
 obtain ⟨A3, c3, rfl, _⟩ := h.r.form
 obtain ⟨E1, e1, rfl, _⟩ := h'.s.form
 obtain ⟨E2, e2, rfl, _⟩ := h'.d.form
 obtain ⟨E3, e3, rfl, _⟩ := h'.r.form
 have nn := ((Below.refl w.heap.size w).alloc (nL _) (.cells #[.slice A1 sent.length c1, .slice A2 deeds.length c2, .slice A3 rows.length c3] 27)).alloc (by simp) (.cells #[.slice E1 sent.length e1, .slice E2 deeds.length e2, .slice E3 rows.length e3] 27)
 have HN := jD nn
 have H1 := jD (h.step nn)
 have H2 := jD (h'.step nn)
 clear h h' nn
 go_enter Tryz.func19, Tryz.ntmps19
 go_wp2_with fail
 refine (equalS_same _ _ sent _ _ H1.out.s H2.out.s).mono ?_
 rintro e w1 ⟨rfl, n1, rfl⟩
 go_wp2_with fail
 refine (equalD_same _ _ deeds _ _ (H1.out.step (below_drewN (Below.refl _ _) n1)).d (H2.out.step (below_drewN (Below.refl _ _) n1)).d).mono ?_
 rintro e w1 ⟨rfl, n2, rfl⟩
 go_wp2_with fail
 refine (equalP_same _ _ rows _ _ (H1.out.step (below_drewN (Below.refl _ _) _)).r (H2.out.step (below_drewN (Below.refl _ _) _)).r).mono ?_
 rintro e w1 ⟨rfl, n3, rfl⟩
 go_wp2
 go_ret
 exact ⟨rfl, below_drewN HN.out _⟩
section
variable {w w' : World} {t size n : Nat} {v : Value} {g : Option Nat} {xs : List Value}
theorem Sl.appendN {P : Program} (k : Nat) (hk : 0 < k) (h : Sl w t size v g n xs) (ts ty : TypeId) (i : TypeInfo) (z : Value) (bytes : Nat) (ht : P.underlying ts = some (.slice t)) (hi : P.info? t = some i) (hz : i.zero = some z)
  (hsize : i.size = size) (hby : i.bytes = bytes) (hzs : z.cells.size = size) (hsz : 0 < size) (ad : Addr) (c : Nat) (news : List Value) (hl : news.length = k * size) (hnews : ∀ j u, news[j]? = some u → w.cell? (ad.add j) = some u) (h1 : ∀ u ∈ news, u.oneCell' = true)
  (h63 : n + k ≤ maxLen) (hbytes : (n + k) * bytes ≤ 140737488355328) :
  ∃ b off cap w', (Builtin.append_ #[ts, ts] ty #[v, .slice (some ad) k c]).run P w = .ok (.slice (some ⟨b, off, none⟩) (n + k) cap) w' ∧ Sl w' t size (.slice (some ⟨b, off, none⟩) (n + k) cap) (some b) (n + k) (xs ++ news) ∧
   w.grownBy w' g ∧ (g = some b ∨ (w.heap.size ≤ b ∧ b < w'.heap.size)) := by
 have hl1 : news.length = k * i.size := by rw [hl, hsize]
 rcases h.form with ⟨rfl, rfl, rfl⟩ | ⟨b, off, cap, tot, rfl, rfl, hc, hr, hfit, hcell⟩
 ·have hx : xs = [] := List.eq_nil_of_length_eq_zero (by simpa using h.len)
  subst hx
  obtain ⟨v', w', hrun, hown, hgr, _⟩ := run_append_own (P := P) w w.heap.size ts ty t i z size bytes ht hi hz hsize hby hzs hsz _ 0 [] (World.ownsRow_nil w w.heap.size t size) ad k c news hl hnews h1 h63 hbytes (nL _)
  obtain ⟨b, cap, rfl, hb, hlt, hs⟩ := ownsRow_sl hown (by omega)
  exact ⟨b, 0, cap, w', hrun, hs, hgr, .inr ⟨hb, hlt⟩⟩
 ·by_cases hroom : n + k ≤ cap
  ·have hfit0 := hfit
   have hfit := hfit.resolve_left (by omega)
   have hmul : (n + k) * size ≤ cap * size := Nat.mul_le_mul_right _ hroom
   rw [Nat.add_mul] at hmul
   have hin : ∀ j, j < news.length → off + n * i.size + j < tot := fun j hj => by rw [hsize]; omega
   have hrun := run_append_room_cells (P := P) w ts ty t i ht hi b off n cap ad k c news hl1 hnews h1 hroom (fun j hj => by obtain ⟨u, hu⟩ := hr.any (hin j hj); rw [hu]; rfl) (fun j hj => hr.frozen _)
   rw [hsize] at hrun
   refine ⟨b, off, cap, _, hrun, ⟨?_, .inr ⟨b, off, cap, tot, rfl, rfl, hroom, sl_setCells hr, hfit0, fun j hj => ?_⟩⟩, ⟨?_, ?_, ?_, ?_, fun k hk hne => ?_⟩, .inl rfl⟩
   ·rw [List.length_append, h.len, hl, Nat.add_mul]
   ·have hlen := h.len
    by_cases hj' : j < xs.length
    ·rw [World.cell?_setCells_out b _ _ _ _ (fun _ _ => Or.inl (by show off + j < off + n * size; omega)), hcell j hj', List.getElem_append_left hj']
    ·have hj2 : j - xs.length < news.length := by rw [List.length_append] at hj; omega
     have := World.cell?_setCells_in b news (off + n * size) w (fun k hk => by obtain ⟨u, hu⟩ := hr.any (j := off + n * size + k) (by rw [hsize] at hin; exact hin k hk); rw [hu]; rfl) (j - xs.length) hj2
     rw [show off + n * size + (j - xs.length) = off + j by omega] at this
     rw [this, List.getElem_append_right (by omega)]
   ·exact (setCells_keeps b news _ w).1
   ·exact (setCells_keeps b news _ w).2.1
   ·exact (setCells_keeps b news _ w).2.2.1
   ·exact Nat.le_of_eq (setCells_keeps b news _ w).2.2.2.symm
   ·exact World.heap_setCells_other w b _ news hk (fun e => hne (by rw [e]))
  ·obtain ⟨v', w', hrun, hown, hgr⟩ := run_append_arg_grows (P := P) w ts ty t i z size bytes ht hi hz hsize hby hzs hsz ⟨b, off, none⟩ n cap xs h.len (fun j u hu => by
    have hj := (List.getElem?_eq_some_iff.1 hu).1
    rw [Addr.add_lit, hcell j hj]
    rw [List.getElem?_eq_getElem hj] at hu
    exact hu) ad k c news hl hnews (by omega) h63 hbytes
   obtain ⟨b', cap', rfl, hb, hlt, hs⟩ := ownsRow_sl hown (by omega)
   exact ⟨b', 0, cap', w', hrun, hs, ⟨hgr.os, hgr.tape, hgr.output, hgr.size, fun k hk _ => hgr.block k hk (by simp)⟩, .inr ⟨hb, hlt⟩⟩
end
set_option maxHeartbeats 800000 in
theorem cloneA_any (v : Value) (g : Option Nat) (l : List Act) (w : World) (hl : Sl w 45 3 v g l.length (l.map actV).flatten) (h63 : l.length ≤ 1000000) :
  Calls Tryz.prog 26 #[v] w fun e w' => ∃ out, e = .returned out ∧ ActsAt w w' out l := by
 rcases hl.form with ⟨rfl, rfl, h0⟩ | ⟨b, off, cap, tot, rfl, rfl, hc, hr, hfit, hcell⟩
 ·have hl0 : l = [] := List.eq_nil_of_length_eq_zero h0
  subst hl0
  clear hl
  have hnil : ∀ w, (binOp .eql 33 (.slice none 0 0) (.slice none 0 0)).run Tryz.prog w = .ok (.bool true) w := fun w => Lib.run_eql_slice_nil (P := Tryz.prog) w 33 45 none 0 0 0 0 Tryz.underlying33
  go_enter Tryz.func26, Tryz.ntmps26
  go_wp2
  go_ret
  exact ⟨_, rfl, ⟨⟨none, Sl.nil_ _ _ _, fun b hb => by cases hb⟩, Below.refl _ _⟩⟩
 have hnil : ∀ w, (binOp .eql 33 (.slice (some ⟨b, off, none⟩) l.length cap) (.slice none 0 0)).run Tryz.prog w = .ok (.bool false) w := fun w => Lib.run_eql_slice_nil (P := Tryz.prog) w 33 45 (some ⟨b, off, none⟩) l.length cap 0 0 Tryz.underlying33
 have n0 := (Below.refl w.heap.size w).alloc (nL _) (.cells #[] 45)
 have hem : Sl (w.alloc (.cells #[] 45)) 45 3 (.slice (some ⟨w.heap.size, 0, none⟩) 0 0) (some w.heap.size) 0 [] :=
  ⟨rfl, .inr ⟨_, 0, 0, 0, rfl, rfl, nL _, RowTo.new w #[] _, .inl rfl, fun j h => by cases h⟩⟩
 rcases Nat.eq_zero_or_pos l.length with h0 | hpos
 ·have hl0 : l = [] := List.eq_nil_of_length_eq_zero h0
  subst hl0
  simp only [List.length_nil] at hnil
  have HF := jD (And.intro hem n0)
  clear hl hr hfit hcell h63 h0 hem n0
  go_enter Tryz.func26, Tryz.ntmps26
  go_wp2
  go_ret
  exact ⟨_, rfl, ⟨⟨_, HF.out.1, fun b hb => by injection hb with hb; subst hb; exact nL _⟩, HF.out.2⟩⟩
 ·obtain ⟨i0, hi, hz0, hz1, hz2⟩ := info_parts act_row
  have hb0 := hr.lt
  obtain ⟨b', off', cap', w', hrun, hs, hgr, hb'⟩ := hem.appendN (P := Tryz.prog) l.length hpos 33 33 i0 _ 32 Tryz.underlying33 hi hz0 hz1 hz2 rfl (by omega) ⟨b, off, none⟩ cap (l.map actV).flatten hl.len (fun j u hu => by
    have hj := (List.getElem?_eq_some_iff.1 hu).1
    rw [Addr.add_lit, n0.cell (p := ⟨b, off + j, none⟩) hb0, hcell j hj]
    rw [List.getElem?_eq_getElem hj] at hu
    exact hu) (fun u hu => by
    obtain ⟨x, hx, hux⟩ := List.mem_flatten.1 hu
    obtain ⟨a, _, rfl⟩ := List.mem_map.1 hx
    unfold actV at hux
    simp at hux
    rcases hux with rfl | rfl | rfl <;> rfl) (by unfold maxLen; omega) (by omega)
  rw [Nat.zero_add, List.nil_append] at hs
  rw [Nat.zero_add] at hrun
  have HF := jD (And.intro hs (And.intro (show w.heap.size ≤ b' from hb'.elim (fun h => by injection h with h; omega) (fun h => Nat.le_trans n0.size h.1)) (n0.grown hgr n0.size (fun x hx => by injection hx with hx; omega))))
  clear hl hcell hr hfit hs hgr hb' hem n0 hi hz0 hz1 hz2 hc
  go_enter Tryz.func26, Tryz.ntmps26
  go_wp2_with (at_builtin; refine Lib.wpList_append_run _ rfl _ _ _ _ rfl _ _ rfl rfl _ _ hrun ?_)
  go_ret
  exact ⟨_, rfl, ⟨⟨_, HF.out.1, fun b hb => by injection hb with hb; subst hb; exact HF.out.2.1⟩, HF.out.2.2⟩⟩
end Go.Proofs.YtpbaobmegomfpacGreatDoor
namespace Go.Proofs.YtpbaobmegomfpacGreatDoor
open Go.Shelf Go.Proofs
def Tryz.lays105_ren : Go.Shelf.Ren := ⟨fun | 105 => 30 | 212 => 45 | 99 => 27 | 165 => 46 | 166 => 47 | 170 => 48 | 169 => 49 | 263 => 60 | 264 => 61 | 206 => 41 | 240 => 62 | 241 => 63 | 276 => 77 | 277 => 78 | n => n, fun | 9 => 9 | 3 => 3 | 4 => 4 | 20 => 20 | 0 => 0 | 46 => 97 | 109 => 98 | 5 => 5 | 72 => 102 | 76 => 106 | 51 => 117 | 146 => 118 | 53 => 120 | 148 => 121 | 70 => 100 | 37 => 79 | 75 => 105 | 127 => 123 | 164 => 135 | 80 => 109 | n => n, fun | n => n⟩
theorem Tryz.lays105 : Go.Proofs.Lays.n105 Tryz.prog Tryz.lays105_ren := {
 mixed := by kernel_rfl
 f99 := Tryz.func27.trans (congrArg some (by kernel_rfl))
 f105 := Tryz.func30.trans (congrArg some (by kernel_rfl))
 f165 := Tryz.func46.trans (congrArg some (by kernel_rfl))
 f166 := Tryz.func47.trans (congrArg some (by kernel_rfl))
 f169 := Tryz.func49.trans (congrArg some (by kernel_rfl))
 f170 := Tryz.func48.trans (congrArg some (by kernel_rfl))
 f206 := Tryz.func41.trans (congrArg some (by kernel_rfl))
 f212 := Tryz.func45.trans (congrArg some (by kernel_rfl))
 f240 := Tryz.func62.trans (congrArg some (by kernel_rfl))
 f241 := Tryz.func63.trans (congrArg some (by kernel_rfl))
 f263 := Tryz.func60.trans (congrArg some (by kernel_rfl))
 f264 := Tryz.func61.trans (congrArg some (by kernel_rfl))
 f276 := Tryz.func77.trans (congrArg some (by kernel_rfl))
 f277 := Tryz.func78.trans (congrArg some (by kernel_rfl))
 t0 := Tryz.underlying0
 a0 := Tryz.isAgg0
 z0 := Tryz.sizeOf0
 v0 := Tryz.zeroValue0
 t3 := Tryz.underlying3
 a3 := Tryz.isAgg3
 z3 := Tryz.sizeOf3
 v3 := Tryz.zeroValue3
 t4 := Tryz.underlying4
 a4 := Tryz.isAgg4
 z4 := Tryz.sizeOf4
 v4 := Tryz.zeroValue4
 t5 := Tryz.underlying5
 a5 := Tryz.isAgg5
 z5 := Tryz.sizeOf5
 v5 := Tryz.zeroValue5
 t9 := Tryz.underlying9
 a9 := Tryz.isAgg9
 z9 := Tryz.sizeOf9
 v9 := Tryz.zeroValue9
 t20 := Tryz.underlying20
 a20 := Tryz.isAgg20
 z20 := Tryz.sizeOf20
 v20 := Tryz.zeroValue20
 t37 := Tryz.underlying79
 a37 := Tryz.isAgg79
 z37 := Tryz.sizeOf79
 v37 := Tryz.zeroValue79
 t46 := Tryz.underlying97
 a46 := Tryz.isAgg97
 z46 := Tryz.sizeOf97
 v46 := Tryz.zeroValue97
 t51 := Tryz.underlying117
 a51 := Tryz.isAgg117
 z51 := Tryz.sizeOf117
 v51 := Tryz.zeroValue117
 t53 := Tryz.underlying120
 a53 := Tryz.isAgg120
 z53 := Tryz.sizeOf120
 v53 := Tryz.zeroValue120
 t70 := Tryz.underlying100
 a70 := Tryz.isAgg100
 z70 := Tryz.sizeOf100
 v70 := Tryz.zeroValue100
 t72 := Tryz.underlying102
 a72 := Tryz.isAgg102
 z72 := Tryz.sizeOf102
 v72 := Tryz.zeroValue102
 t75 := Tryz.underlying105
 a75 := Tryz.isAgg105
 z75 := Tryz.sizeOf105
 v75 := Tryz.zeroValue105
 t76 := Tryz.underlying106
 a76 := Tryz.isAgg106
 z76 := Tryz.sizeOf106
 v76 := Tryz.zeroValue106
 t109 := Tryz.underlying98
 a109 := Tryz.isAgg98
 z109 := Tryz.sizeOf98
 v109 := Tryz.zeroValue98
 t127 := Tryz.underlying123
 a127 := Tryz.isAgg123
 z127 := Tryz.sizeOf123
 v127 := Tryz.zeroValue123
 t146 := Tryz.underlying118
 a146 := Tryz.isAgg118
 z146 := Tryz.sizeOf118
 v146 := Tryz.zeroValue118
 t148 := Tryz.underlying121
 a148 := Tryz.isAgg121
 z148 := Tryz.sizeOf121
 v148 := Tryz.zeroValue121
 t164 := Tryz.underlying135
 a164 := Tryz.isAgg135
 z164 := Tryz.sizeOf135
 v164 := Tryz.zeroValue135 }
end Go.Proofs.YtpbaobmegomfpacGreatDoor
namespace Go.Proofs.YtpbaobmegomfpacGreatDoor
open Go.RowKit
theorem prefS_any (s p : ByteArray) (w : World) : Calls Tryz.prog 27 #[.string s, .string p] w fun e w' => e = .returned (.bool (Lib.hasPrefix s.data.toList p.data.toList)) ∧ w = w' := by
 refine Calls.mono (Any.strings_HasPrefix { Tryz.lays105 with } s p w) ?_
 rintro e w' ⟨h, h2⟩
 exact ⟨h, h2.symm⟩
theorem prefix_of {a d x : ByteArray} (h : d = a ++ x) : Lib.hasPrefix d.data.toList a.data.toList = true := by
 subst h
 unfold Lib.hasPrefix
 rw [List.isPrefixOf_iff_prefix]
 exact ⟨x.data.toList, by simp⟩
theorem twice_pool {mode : Int} {n : Nat} (hn : n ≤ 8) {l k : List Act} (h : actsE (l ++ k) = 0) :
  (∀ c, Lib.hasPrefix ((ranM mode n (l ++ k)).sent.getD c ⟨#[]⟩).data.toList ((ranM mode n l).sent.getD c ⟨#[]⟩).data.toList = true) ∧ ∃ m, (ranM mode n (l ++ k)).deeds = (ranM mode n l).deeds ++ m := by
 have h1 := (actsE_app.1 h).1
 have a1 := pool_house hn mode h1
 have a2 := pool_house hn mode h
 have hm := top_twice (mode := mode) (n := n) h
 unfold ranM
 rw [a1.sent, a2.sent, a1.deeds, a2.deeds]
 refine ⟨fun c => ?_, hm.deeds⟩
 obtain ⟨x, hx⟩ := hm.sent c
 exact prefix_of hx
theorem actV_ln (l : List Act) : (l.map actV).flatten.length = l.length * 3 := by
 induction l with
 | nil => rfl
 | cons a l ih => rw [List.map_cons, List.flatten_cons, List.length_append, ih, List.length_cons]; show 3 + _ = _; omega
theorem actV_cell (l : List Act) : ∀ u ∈ (l.map actV).flatten, u.oneCell' = true := fun u hu => by
 obtain ⟨x, hx, hux⟩ := List.mem_flatten.1 hu
 obtain ⟨a, _, rfl⟩ := List.mem_map.1 hx
 unfold actV at hux
 simp at hux
 rcases hux with rfl | rfl | rfl <;> rfl
theorem exec_append {P : Program} {w w' : World} {o : Oper} {ev : Operand → Value} (s x : Operand) (t tn : TypeId) {vs vx v' : Value} (ho : o.op = .call { callee := .builtin .append, args := #[s, x], argTypes := #[t, tn] }) (hs : ev s = vs) (hx : ev x = vx) (hr : (Builtin.append_ #[t, tn] o.type #[vs, vx]).run P w = .ok v' w') :
  (execOp ev o).run P w = .ok (.value v') w' := by
 unfold execOp
 simp only [ho, resolve, invoke, builtin, Sem.run_bind, Sem.run_pure, Result.andThen_ok, List.map_toArray, List.map_cons, List.map_nil, hs, hx, hr]
theorem app_acts {w : World} {v v2 : Value} {g g2 : Option Nat} {al bl : List Act} (h : Sl w 45 3 v g al.length (al.map actV).flatten) (h2 : Sl w 45 3 v2 g2 bl.length (bl.map actV).flatten) (ha : al.length ≤ 1000) (hb : bl.length ≤ 1000) :
  ∃ v' w' g', (Builtin.append_ #[33, 33] 33 #[v, v2]).run Tryz.prog w = .ok v' w' ∧ Sl w' 45 3 v' g' (al ++ bl).length ((al ++ bl).map actV).flatten ∧ w.grownBy w' g ∧ ∀ b, g' = some b → g = some b ∨ w.heap.size ≤ b := by
 obtain ⟨i0, hi, hz0, hz1, hz2⟩ := info_parts act_row
 have hl2 := actV_ln bl
 rw [List.length_append, List.map_append, List.flatten_append]
 rcases Nat.eq_zero_or_pos bl.length with h0 | hpos
 ·have hbl : bl = [] := List.eq_nil_of_length_eq_zero h0
  subst hbl
  have hs : Src Tryz.prog i0.size 33 v2 0 [] w := by
   rcases h2.form with ⟨_, rfl, _⟩ | ⟨b, off, cap, tot, _, rfl, _, _, _, _⟩
   ·exact Src.ofNil w Tryz.underlying33 0
   ·exact Src.ofSlice w Tryz.underlying33 ⟨b, off, none⟩ 0 cap [] (by simp) (fun j u hu => by simp at hu) (fun u hu => by cases hu)
  obtain ⟨A, c, hv, hle⟩ := h.shape
  have hrun := run_append_nothing (P := Tryz.prog) w 33 33 33 45 i0 Tryz.underlying33 hi A al.length c hle v2 hs
  rw [← hv] at hrun
  refine ⟨v, w, g, hrun, ?_, ⟨rfl, rfl, rfl, nL _, fun _ _ _ => rfl⟩, fun b hb => .inl hb⟩
  simpa using h
 ·obtain ⟨b2, off2, cap2, rfl, rfl, _, hc2⟩ := h2.at hpos
  obtain ⟨b', off', cap', w', hrun, hs, hgr, hb'⟩ := h.appendN (P := Tryz.prog) bl.length hpos 33 33 i0 _ 32 Tryz.underlying33 hi hz0 hz1 hz2 rfl (by omega) ⟨b2, off2, none⟩ cap2 (bl.map actV).flatten hl2 (fun j u hu => by
   have hj := (List.getElem?_eq_some_iff.1 hu).1
   rw [Addr.add_lit, hc2 j hj]
   rw [List.getElem?_eq_getElem hj] at hu
   exact hu) (actV_cell bl) (by unfold maxLen; omega) (by omega)
  exact ⟨_, w', some b', hrun, hs, hgr, fun b hb => by injection hb with hb; subst hb; exact hb'.imp (fun h => h) (fun h => h.1)⟩
end Go.Proofs.YtpbaobmegomfpacGreatDoor
namespace Go.Proofs.YtpbaobmegomfpacGreatDoor
open Go Go.RowKit
section
variable {P : Program} {ops : Array Oper} {Q : Exit → Go.Act → World → Prop} {md : Region.Mode} {z : Nat}
def prF (md : Region.Mode) (ops : Array Oper) (i : Nat) : List Nat := match ops[i]? with
 | some o => (o.after.toList.filter fun e => Region.binds md e).map (·.on)
 | none => []
def cloF (md : Region.Mode) (ops : Array Oper) : Nat → List Nat → List Nat
 | 0, L => L
 | k + 1, L => cloF md ops k ((List.range ops.size).filter fun j => L.contains j || L.any fun i => (prF md ops i).contains j)
theorem cloF_sub {D : Nat → Prop} (hD : ∀ i, D i → ∀ j ∈ prF md ops i, D j) : ∀ (k : Nat) (L : List Nat), (∀ i ∈ L, D i) → ∀ i ∈ cloF md ops k L, D i
 | 0, L, h => h
 | k + 1, L, h => cloF_sub hD k _ fun i hi => by
  have := (List.mem_filter.1 hi).2
  simp only [Bool.or_eq_true, List.any_eq_true] at this
  rcases this with h1 | ⟨x, hx, h1⟩
  ·exact h i (by simpa using h1)
  ·exact hD x (h x hx) i (by simpa using h1)
def putF (A : Go.Act) (vals : Nat → Value) : List (Nat × Nat) → Go.Act
 | [] => A
 | (j, d) :: l => putF (A.put (some d) (vals j)) vals l
theorem putF_defers (vals : Nat → Value) : ∀ (l : List (Nat × Nat)) (A : Go.Act), (putF A vals l).defers = A.defers
 | [], A => rfl
 | (j, d) :: l, A => by show (putF (A.put (some d) (vals j)) vals l).defers = _; rw [putF_defers vals l]; rfl
theorem putF_out (vals : Nat → Value) {t : Nat} : ∀ (l : List (Nat × Nat)) (A : Go.Act), (∀ x ∈ l, x.2 ≠ t) → (putF A vals l).tmps[t]? = A.tmps[t]?
 | [], A, _ => rfl
 | (j, d) :: l, A, h => by
  show (putF (A.put (some d) (vals j)) vals l).tmps[t]? = _
  rw [putF_out vals l _ (fun x hx => h x (List.mem_cons_of_mem _ hx))]
  have hne : d ≠ t := h (j, d) List.mem_cons_self
  simp [Act.put, Array.getElem?_setIfInBounds_ne hne]
theorem putF_in (vals : Nat → Value) {j t : Nat} : ∀ (l : List (Nat × Nat)) (A : Go.Act), t < A.tmps.size → (∀ x ∈ l, x.2 = t → x.1 = j) → (∃ x ∈ l, x.2 = t) → (putF A vals l).tmps[t]? = some (vals j)
 | [], A, _, _, h => by obtain ⟨x, hx, _⟩ := h; cases hx
 | (i, d) :: l, A, hs, hu, h => by
  show (putF (A.put (some d) (vals i)) vals l).tmps[t]? = _
  by_cases hl : ∃ x ∈ l, x.2 = t
  ·exact putF_in vals l _ (by simpa [Act.put] using hs) (fun x hx => hu x (List.mem_cons_of_mem _ hx)) hl
  ·rw [putF_out vals l _ (fun x hx e => hl ⟨x, hx, e⟩)]
   obtain ⟨x, hx, e⟩ := h
   rcases List.mem_cons.1 hx with rfl | hx
   ·obtain rfl : d = t := e
    have := hu (i, d) List.mem_cons_self rfl
    obtain rfl : i = j := this
    simp [Act.put, hs]
   ·exact absurd ⟨x, hx, e⟩ hl
def chkF (md : Region.Mode) (ops : Array Oper) (z : Nat) (fol : List Nat) (kill bef : List (Nat × Nat)) (D : List (Nat × Nat)) (pre : List (List (Nat × Nat))) (n : Nat) : Bool :=
 Region.noSelect ops && D.map (·.1) == List.range D.length && decide (D.length ≤ ops.size) && pre.length == D.length &&
 (D.all fun x => decide (x.2 < n) && (D.all fun y => y.2 != x.2 || y.1 == x.1)) &&
 ((List.range D.length).all fun i => match ops[i]?, D[i]?, pre[i]? with
  | some o, some x, some p => o.dst == some x.2 && ((prF md ops i).all fun j => decide (j < i)) && (p.all fun y => D.contains y && (prF md ops i).contains y.1) && (D.all fun y => !(o.looksAt ops).contains y.2 || p.contains y)
  | _, _, _ => false) &&
 ((List.range ops.size).all fun i => decide (i < D.length) || (List.range D.length).all fun j => (cloF md ops D.length (prF md ops i)).contains j || fol.contains j && (prF md ops j).all fun y => (cloF md ops D.length (prF md ops i)).contains y) &&
 (fol.all fun f => decide (f < D.length) && f != z && waitsFor md ops z f && Region.free md ops ((List.range ops.size).map fun j => (cloF md ops D.length (prF md ops f)).contains j).toArray f) &&
 (kill.all fun x => !fol.contains x.1 && (List.range D.length).all fun k => k == x.1 || !((pre.getD k []).any fun y => y.1 == x.2) || (cloF md ops D.length (prF md ops x.1)).contains k) &&
 (bef.all fun x => (cloF md ops D.length (prF md ops x.2)).contains x.1)
def ObF (P : Program) (ops : Array Oper) (V : Nat → Value → World → Prop) (Tr : Nat → World → World → Prop) (A : Go.Act) (i : Nat) (w : World) : Prop :=
 ∃ o, ops[i]? = some o ∧ ((Region.wanted o (yielded ops A.tmps) = true ∧ ((∃ v w', (execOp A.eval o).run P w = .ok (.value v) w' ∧ V i v w' ∧ Tr i w w') ∨
  ∃ g args, (execOp A.eval o).run P w = .ok (.enter g args) w ∧ Calls P g args w fun e w' => ∃ v, e = .returned v ∧ V i v w' ∧ Tr i w w')) ∨
  (Region.wanted o (yielded ops A.tmps) = false ∧ V i undef w))
def ObL (P : Program) (ops : Array Oper) (V : Nat → Value → World → Prop) (A : Go.Act) (i : Nat) (w : World) : Prop :=
 ∃ o v, ops[i]? = some o ∧ Region.wanted o (yielded ops A.tmps) = true ∧ (∀ w', (execOp A.eval o).run P w' = .ok (.value v) w') ∧ V i v w
theorem free_mono {md : Region.Mode} {ops : Array Oper} {l0 listed : Array Bool} {i : Nat} (hl : ∀ j, j < ops.size → l0.getD j true = true → listed.getD j true = true) (h : Region.free md ops l0 i = true) : Region.free md ops listed i = true := by
 unfold Region.free at *
 cases ho : ops[i]? with
 | none => rw [ho] at h; cases h
 | some oi =>
  rw [ho] at h
  simp only [List.all_eq_true, List.mem_range, Bool.or_eq_true] at h ⊢
  intro j hj
  rcases h j hj with (h1 | h1) | h1
  ·exact .inl (.inl h1)
  ·exact .inl (.inr (hl j hj h1))
  ·exact .inr h1
structure FJ (md : Region.Mode) (ops : Array Oper) (kill D : List (Nat × Nat)) (V : Nat → Value → World → Prop) (R : World → Prop) (A0 : Go.Act) (listed : Array Bool) (a : Go.Act) (w : World) (vals : Nat → Value) : Prop where
 sz : listed.size = ops.size
 hi : ∀ i, D.length ≤ i → listed.getD i false = false
 cl : ∀ i, listed.getD i false = true → ∀ j ∈ prF md ops i, listed.getD j false = true
 tm : ∀ x ∈ D, listed.getD x.1 false = true → a.tmps[x.2]? = some (vals x.1)
 rest : ∀ t, (∀ x ∈ D, listed.getD x.1 false = true → x.2 ≠ t) → a.tmps[t]? = A0.tmps[t]?
 df : a.defers = A0.defers
 fact : ∀ i, listed.getD i false = true → (∀ k, (k, i) ∈ kill → listed.getD k false = false) → V i (vals i) w
 r : R w
def unF (listed : Array Bool) (m : Nat) : Nat := (List.range m).countP fun i => !listed.getD i false
theorem countP_upd {f g : Nat → Bool} {i : Nat} : ∀ (l : List Nat), l.Nodup → i ∈ l → f i = true → g i = false → (∀ j, j ≠ i → g j = f j) → l.countP g + 1 = l.countP f
 | [], _, h, _, _, _ => by cases h
 | x :: l, hn, h, hf, hg, he => by
  have hn' := List.nodup_cons.1 hn
  rcases List.mem_cons.1 h with rfl | h
  ·rw [List.countP_cons_of_neg (by simp [hg]), List.countP_cons_of_pos hf]
   congr 1
   exact List.countP_congr fun j hj => by rw [he j (fun e => hn'.1 (e ▸ hj))]
  ·have hne : x ≠ i := fun e => hn'.1 (e ▸ h)
   have ih := countP_upd l hn'.2 h hf hg he
   rw [List.countP_cons, List.countP_cons, he x hne]
   omega
theorem getD_true_false {l : Array Bool} {i : Nat} (h : i < l.size) (d d' : Bool) : l.getD i d = l.getD i d' := by
 rw [Array.getD_eq_getD_getElem?, Array.getD_eq_getD_getElem?, Array.getElem?_eq_getElem h]; rfl
theorem getD_set_self {l : Array Bool} {i : Nat} (h : i < l.size) (d : Bool) : (l.setIfInBounds i true).getD i d = true := by
 rw [Array.getD_eq_getD_getElem?, Array.getElem?_setIfInBounds_self_of_lt h]; rfl
def lstF (m n : Nat) : Array Bool := (List.replicate m true ++ List.replicate (n - m) false).toArray
theorem act_ext {a b : Go.Act} (h1 : ∀ t : Nat, a.tmps[t]? = b.tmps[t]?) (h2 : a.defers = b.defers) : a = b := by
 obtain ⟨x, y⟩ := a
 obtain ⟨u, v⟩ := b
 simp only at h1 h2
 rw [h2, Array.ext_getElem? h1]
theorem free_main {fol : List Nat} {kill bef D : List (Nat × Nat)} {pre : List (List (Nat × Nat))} {A0 : Go.Act} (hchk : chkF md ops z fol kill bef D pre A0.tmps.size = true) (hQ : ∀ c (a : Go.Act) w (d : Nat) v, Q (.panic c) (a.put (some d) v) w → Q (.panic c) a w) (V : Nat → Value → World → Prop) (Tr : Nat → World → World → Prop) (R : World → Prop) (n0 : Nat) (Tr0 : ∀ i w, Tr i w w)
  (mono : ∀ k i v w w', (k, i) ∉ kill → (k, i) ∉ bef → k ≠ i → V i v w → Tr k w w' → V i v w') (monoR : ∀ k w w', R w → Tr k w w' → R w')
  (obl : ∀ i, i < D.length → i ∉ fol → ∀ (vals : Nat → Value) w, R w → (∀ x ∈ pre.getD i [], V x.1 (vals x.1) w) → ObF P ops V Tr (putF A0 vals (pre.getD i [])) i w)
  (obf : ∀ i ∈ fol, ∀ (vals : Nat → Value) w, R w → (∀ x ∈ pre.getD i [], V x.1 (vals x.1) w) → ObL P ops V (putF A0 vals (pre.getD i [])) i w)
  (fin : ∀ (vals : Nat → Value) w, R w → (∀ i < D.length, (∀ k, (k, i) ∉ kill) → V i (vals i) w) → wpAnyZ P md ops Q (fun _ => True) z n0 (lstF D.length ops.size) (putF A0 vals D) w) :
  ∀ (k : Nat) (listed : Array Bool) (a : Go.Act) (w : World) (vals : Nat → Value), unF listed D.length = k → FJ md ops kill D V R A0 listed a w vals → wpAnyZ P md ops Q (fun _ => True) z (n0 + k) listed a w := by
 unfold chkF at hchk
 simp only [Bool.and_eq_true, decide_eq_true_eq, beq_iff_eq] at hchk
 obtain ⟨⟨⟨⟨⟨⟨⟨⟨⟨hsel, hD⟩, hm⟩, hpl⟩, hd⟩, hop⟩, htail⟩, hfol⟩, hkill⟩, hbef⟩ := hchk
 have hsel' := Region.noSelect_spec hsel
 have hdx : ∀ x ∈ D, x.2 < A0.tmps.size ∧ ∀ y ∈ D, y.2 = x.2 → y.1 = x.1 := fun x hx => by
  have := List.all_eq_true.1 hd x hx
  simp only [Bool.and_eq_true, decide_eq_true_eq] at this
  refine ⟨this.1, fun y hy e => ?_⟩
  have := List.all_eq_true.1 this.2 y hy
  simpa [e] using this
 have hD1 : ∀ i, i < D.length → ∃ x, D[i]? = some x ∧ x.1 = i := fun i hi => by
  refine ⟨D[i], List.getElem?_eq_getElem hi, ?_⟩
  have h1 : (D.map (·.1))[i]? = (List.range D.length)[i]? := by rw [hD]
  rw [List.getElem?_map, List.getElem?_eq_getElem hi, List.getElem?_range hi] at h1
  simpa using h1
 have hDx : ∀ x ∈ D, x.1 < D.length ∧ D[x.1]? = some x := fun x hx => by
  obtain ⟨i, hi, rfl⟩ := List.mem_iff_getElem.1 hx
  obtain ⟨y, hy, e⟩ := hD1 i hi
  rw [List.getElem?_eq_getElem hi] at hy
  injection hy with hy
  subst hy
  rw [e]; exact ⟨hi, List.getElem?_eq_getElem hi⟩
 have hops : ∀ i, i < D.length → ∃ o x p, ops[i]? = some o ∧ D[i]? = some x ∧ pre[i]? = some p ∧ o.dst = some x.2 ∧ (∀ j ∈ prF md ops i, j < i) ∧ (∀ y ∈ p, y ∈ D ∧ y.1 ∈ prF md ops i) ∧ ∀ y ∈ D, y.2 ∈ o.looksAt ops → y ∈ p := fun i hi => by
  have := List.all_eq_true.1 hop i (List.mem_range.2 hi)
  split at this
  ·rename_i o x p h1 h2 h3
   simp only [Bool.and_eq_true, beq_iff_eq, List.all_eq_true, decide_eq_true_eq, List.contains_iff_mem, Bool.or_eq_true, Bool.not_eq_true'] at this
   refine ⟨o, x, p, h1, h2, h3, this.1.1.1, this.1.1.2, this.1.2, fun y hy hl => ?_⟩
   rcases this.2 y hy with h | h
   ·have := List.contains_iff_mem.2 hl
    rw [this] at h; cases h
   ·exact h
  ·cases this
 intro k
 induction k with
 | zero =>
  intro listed a w vals hk h
  have hall : ∀ i, i < D.length → listed.getD i false = true := fun i hi => by
   have := List.countP_eq_zero.1 hk i (List.mem_range.2 hi)
   simpa using this
  have e1 : listed = lstF D.length ops.size := by
   refine Array.ext_getElem? fun i => ?_
   unfold lstF
   show _ = (List.replicate D.length true ++ List.replicate (ops.size - D.length) false).toArray[i]?
   simp only [List.getElem?_toArray]
   have hlt' : listed.toList[i]? = listed[i]? := by simp
   try rw [hlt']
   rcases Nat.lt_or_ge i listed.size with hlt | hge
   ·have hb : listed[i]? = some (listed.getD i false) := by rw [Array.getD_eq_getD_getElem?, Array.getElem?_eq_getElem hlt]; rfl
    rw [hb]
    rcases Nat.lt_or_ge i D.length with h1 | h1
    ·rw [hall i h1, List.getElem?_append_left (by simpa using h1), List.getElem?_replicate, if_pos h1]
    ·rw [h.hi i h1, List.getElem?_append_right (by simpa using h1), List.getElem?_replicate, if_pos (by have := h.sz; simp; omega)]
   ·rw [Array.getElem?_eq_none hge, List.getElem?_eq_none]
    have := h.sz
    simp; omega
  have e2 : a = putF A0 vals D := by
   refine act_ext (fun t => ?_) (by rw [h.df, putF_defers])
   by_cases ht : ∃ x ∈ D, x.2 = t
   ·obtain ⟨x, hx, rfl⟩ := ht
    rw [h.tm x hx (hall _ (hDx x hx).1), putF_in (j := x.1) vals D A0 (hdx x hx).1 (fun y hy e => (hdx x hx).2 y hy e) ⟨x, hx, rfl⟩]
   ·rw [h.rest t (fun x hx _ e => ht ⟨x, hx, e⟩), putF_out vals D A0 (fun x hx e => ht ⟨x, hx, e⟩)]
  rw [e1, e2]
  exact fin vals w h.r (fun i hi hk => h.fact i (hall i hi) (fun k hk' => absurd hk' (hk k)))
 | succ k ih =>
  intro listed a w vals hk h
  have hex : ∃ i, i < D.length ∧ listed.getD i false = false := by
   apply Classical.byContradiction
   intro hno
   have : unF listed D.length = 0 := List.countP_eq_zero.2 fun i hi => by
    cases hb : listed.getD i false with
    | true => simp
    | false => exact absurd ⟨i, List.mem_range.1 hi, hb⟩ hno
   rw [this] at hk; cases hk
  have prl : ∀ i ∈ Region.ready md ops listed, ∀ x ∈ prF md ops i, listed.getD x false = true := fun i hi x hx => by
   obtain ⟨_, o, ho, haf⟩ := mem_ready.1 hi
   unfold prF at hx
   rw [ho] at hx
   obtain ⟨e, he, rfl⟩ := List.mem_map.1 hx
   have he2 := List.mem_filter.1 he
   exact haf e (by simpa using he2.1) (by simpa using he2.2)
  have ready_small : (∀ f ∈ fol, f ∉ Region.ready md ops listed) → ∀ i ∈ Region.ready md ops listed, i < D.length := fun hnf i hi => by
   apply Classical.byContradiction
   intro hge
   obtain ⟨hun, o, ho, haf⟩ := mem_ready.1 hi
   have hlt := (Array.getElem?_eq_some_iff.1 ho).1
   have := List.all_eq_true.1 htail i (List.mem_range.2 hlt)
   simp only [Bool.or_eq_true, decide_eq_true_eq, hge, false_or] at this
   obtain ⟨j, hj, hjf⟩ := hex
   have hjc := List.all_eq_true.1 this j (List.mem_range.2 hj)
   have hpr : ∀ x ∈ prF md ops i, listed.getD x false = true := fun x hx => by
    unfold prF at hx
    rw [ho] at hx
    obtain ⟨e, he, rfl⟩ := List.mem_map.1 hx
    have he2 := List.mem_filter.1 he
    exact haf e (by simpa using he2.1) (by simpa using he2.2)
   have hclo := cloF_sub (D := fun i => listed.getD i false = true) h.cl D.length (prF md ops i) hpr
   rcases Bool.or_eq_true _ _ ▸ hjc with hjc | hjc
   ·have := hclo j (by simpa using hjc)
    rw [hjf] at this; cases this
   ·simp only [Bool.and_eq_true, List.contains_iff_mem, List.all_eq_true] at hjc
    obtain ⟨oj, xj, pj, hj1, _⟩ := hops j hj
    refine hnf j hjc.1 (mem_ready.2 ⟨by rw [getD_true_false (by rw [h.sz]; omega) true false]; exact hjf, oj, hj1, fun e he hb => hclo _ (hjc.2 e.on ?_)⟩)
    unfold prF
    rw [hj1]
    exact List.mem_map.2 ⟨e, List.mem_filter.2 ⟨by simpa using he, by simpa using hb⟩, rfl⟩
  have at_i : ∀ i, i < D.length → i ∈ Region.ready md ops listed → ∃ o, ops[i]? = some o ∧ execOp a.eval o = execOp (putF A0 vals (pre.getD i [])).eval o ∧ Region.wanted o (yielded ops a.tmps) = Region.wanted o (yielded ops (putF A0 vals (pre.getD i [])).tmps) ∧
    (∀ x ∈ pre.getD i [], V x.1 (vals x.1) w) ∧ ∀ v w', V i v w' → Tr i w w' → (∃ d, o.dst = some d) ∧ wpAnyZ P md ops Q (fun _ => True) z (n0 + k) (listed.setIfInBounds i true) (a.put o.dst v) w' := fun i him hi => by
   obtain ⟨o, x, p, h1, h2, h3, h4, h5, h6, h7⟩ := hops i him
   have hxD : x ∈ D := List.mem_of_getElem? h2
   have hx1 : x.1 = i := by
    obtain ⟨y, hy, e⟩ := hD1 i him
    rw [h2] at hy; injection hy with hy; rw [hy]; exact e
   have hpre : pre.getD i [] = p := by rw [List.getD_eq_getElem?_getD, h3]; rfl
   have hilt : i < listed.size := by rw [h.sz]; omega
   have hifalse : listed.getD i false = false := by
    rw [← getD_true_false hilt true false]; exact (mem_ready.1 hi).1
   have hlive : ∀ y ∈ p, ∀ k, (k, y.1) ∈ kill → listed.getD k false = false := fun y hy k hk => by
    have h0 := List.all_eq_true.1 hkill (k, y.1) hk
    simp only [Bool.and_eq_true, List.all_eq_true, Bool.or_eq_true, beq_iff_eq] at h0
    have hi' := h0.2 i (List.mem_range.2 him)
    cases hb : listed.getD k false with
    | false => rfl
    | true =>
     exfalso
     rcases hi' with (hi' | hi') | hi'
     ·rw [← hi', hifalse] at hb; cases hb
     ·rw [hpre] at hi'
      have : (p.any fun u => u.1 == y.1) = true := List.any_eq_true.2 ⟨y, hy, by simp⟩
      rw [this] at hi'; cases hi'
     ·have := cloF_sub (D := fun i => listed.getD i false = true) h.cl D.length (prF md ops k) (h.cl k hb) i (by simpa using hi')
      rw [hifalse] at this; cases this
   -- the frame at hand and the one in which the operation was looked at
   have hsame : ∀ t, t ∈ o.looksAt ops → a.tmps[t]? = (putF A0 vals p).tmps[t]? := fun t ht => by
    by_cases hin : ∃ y ∈ D, y.2 = t
    ·obtain ⟨y, hy, rfl⟩ := hin
     have hyp := h7 y hy ht
     rw [h.tm y hy (prl i hi _ (h6 y hyp).2), putF_in (j := y.1) vals p A0 (hdx y hy).1 (fun u hu e => (hdx y hy).2 u (h6 u hu).1 e) ⟨y, hyp, rfl⟩]
    ·rw [h.rest t (fun y hy _ e => hin ⟨y, hy, e⟩), putF_out vals p A0 (fun y hy e => hin ⟨y, (h6 y hy).1, e⟩)]
   have hexec : execOp a.eval o = execOp (putF A0 vals p).eval o := execOp_congr o (fun cs b => hsel' i o cs b h1) fun y hy => by
    cases y with
    | tmp t =>
     have ht : t ∈ o.looksAt ops := List.mem_append_left _ (List.mem_filterMap.2 ⟨.tmp t, by simpa using hy, rfl⟩)
     show a.tmps.getD t undef = (putF A0 vals p).tmps.getD t undef
     rw [Array.getD_eq_getD_getElem?, Array.getD_eq_getD_getElem?, hsame t ht]
    | const _ => rfl
    | global _ => rfl
    | func _ => rfl
   have hwant : Region.wanted o (yielded ops a.tmps) = Region.wanted o (yielded ops (putF A0 vals p).tmps) := by
    unfold Region.wanted
    cases hg : o.guard with
    | none => rfl
    | some gw =>
     obtain ⟨g, want⟩ := gw
     have hy : yielded ops a.tmps g = yielded ops (putF A0 vals p).tmps g := by
      unfold yielded
      cases ht : (ops[g]?).bind (·.dst) with
      | none => rfl
      | some t =>
       have := hsame t (List.mem_append_right _ (by rw [hg]; simp [ht]))
       simp only [Option.bind_some, this]
     simp only [hy]
   -- behind it
   have next : ∀ v w', V i v w' → Tr i w w' → wpAnyZ P md ops Q (fun _ => True) z (n0 + k) (listed.setIfInBounds i true) (a.put o.dst v) w' := fun v w' hv hb => by
    refine ih (listed.setIfInBounds i true) (a.put o.dst v) w' (fun j => if j = i then v else vals j) ?_ ?_
    ·have := countP_upd (f := fun j => !listed.getD j false) (g := fun j => !(listed.setIfInBounds i true).getD j false) (i := i) (List.range D.length) List.nodup_range (List.mem_range.2 him) (by simp only [hifalse]; rfl) (by rw [getD_set_self hilt]; rfl) (fun j hj => by rw [getD_set_ne false (Ne.symm hj)])
     unfold unF at hk ⊢
     omega
    ·have hset : ∀ j, (listed.setIfInBounds i true).getD j false = true → j = i ∨ listed.getD j false = true := fun j hj => by
      by_cases e : j = i
      ·exact .inl e
      ·rw [getD_set_ne false (Ne.symm e)] at hj; exact .inr hj
     have hup : ∀ j, listed.getD j false = true → (listed.setIfInBounds i true).getD j false = true := fun j hj => by
      by_cases e : j = i
      ·subst e; exact getD_set_self hilt false
      ·rw [getD_set_ne false (Ne.symm e)]; exact hj
     have hin : i ≠ i → False := fun h => h rfl
     refine ⟨by simpa using h.sz, fun j hj => ?_, fun j hj y hy => ?_, fun y hy hl => ?_, fun t ht => ?_, ?_, fun j hj hjk => ?_, monoR i w w' h.r hb⟩
     ·rw [getD_set_ne false (show i ≠ j by omega)]; exact h.hi j hj
     ·rcases hset j hj with rfl | hj
      ·exact hup y (prl _ hi y hy)
      ·exact hup y (h.cl j hj y hy)
     ·rw [h4]
      by_cases e : y.1 = i
      ·rw [e]
       simp only [if_true]
       have hyx : y = x := by
        have := (hDx y hy).2
        rw [e, h2] at this
        injection this with this; exact this.symm
       rw [hyx]
       have htm : x.2 < a.tmps.size := by
        apply Classical.byContradiction
        intro hge
        have h0 := h.rest x.2 (fun u hu hl' e' => by
         have := (hdx x hxD).2 u hu e'
         rw [this, hx1, hifalse] at hl'; cases hl')
        rw [Array.getElem?_eq_none (by omega), Array.getElem?_eq_getElem (hdx x hxD).1] at h0
        cases h0
       simp [Act.put, htm]
      ·rw [if_neg e]
       have hl' : listed.getD y.1 false = true := (hset _ hl).resolve_left e
       have hne : x.2 ≠ y.2 := fun e' => e (by rw [← hx1]; exact (hdx x hxD).2 y hy e'.symm)
       have := h.tm y hy hl'
       simp [Act.put, Array.getElem?_setIfInBounds_ne hne, this]
     ·rw [h4]
      have hne : x.2 ≠ t := ht x hxD (by rw [hx1]; exact getD_set_self hilt false)
      have := h.rest t (fun y hy hl => ht y hy (hup _ hl))
      simp [Act.put, Array.getElem?_setIfInBounds_ne hne, this]
     ·rw [h4]; exact h.df
     ·by_cases e : j = i
      ·subst e; simp only [if_true]; exact hv
      ·simp only [if_neg e]; exact mono i j _ _ _ (fun hm => by have := hjk i hm; rw [getD_set_self hilt] at this; cases this) (fun hm => by
        have h0 := List.all_eq_true.1 hbef (i, j) hm
        have := cloF_sub (D := fun i => listed.getD i false = true) h.cl D.length (prF md ops j) (h.cl j ((hset j hj).resolve_left e)) i (by simpa using h0)
        rw [hifalse] at this; cases this) (Ne.symm e) (h.fact j ((hset j hj).resolve_left e) (fun k hk => by
        cases hb' : listed.getD k false with
        | false => rfl
        | true => have := hjk k hk; rw [hup k hb'] at this; cases this)) hb
   rw [hpre]
   exact ⟨o, h1, hexec, hwant, fun y hy => h.fact _ (prl i hi _ (h6 y hy).2) (hlive y hy), fun v w' h1' h2' => ⟨⟨_, h4⟩, next v w' h1' h2'⟩⟩
  by_cases hff : ∃ f ∈ fol, f ∈ Region.ready md ops listed
  ·obtain ⟨f, hf, hfr⟩ := hff
   have hc := List.all_eq_true.1 hfol f hf
   simp only [Bool.and_eq_true, decide_eq_true_eq, bne_iff_ne] at hc
   obtain ⟨o, h1, hexec, hwant, hpv, next⟩ := at_i f hc.1.1.1 hfr
   obtain ⟨o', v, h1', hw, hrun, hv⟩ := obf f hf vals w h.r hpv
   rw [h1] at h1'
   injection h1' with h1'
   subst h1'
   exact wpAnyZ_take (fuel := n0 + k) h1 hsel (free_mono (fun j hj hlj => by
    have e : ((List.range ops.size).map fun j => (cloF md ops D.length (prF md ops f)).contains j).toArray.getD j true = (cloF md ops D.length (prF md ops f)).contains j := by
     rw [Array.getD_eq_getD_getElem?, List.getElem?_toArray, List.getElem?_map, List.getElem?_range hj]; rfl
    rw [e] at hlj
    have hl2 := cloF_sub (D := fun i => listed.getD i false = true) h.cl D.length (prF md ops f) (prl f hfr) j (by simpa using hlj)
    rw [getD_true_false (by rw [h.sz]; exact hj) true false]; exact hl2) hc.2) (by simpa using hfr) (by simp [hc.1.2, hc.1.1.2]) (fun c a' w1 => by obtain ⟨d, hd'⟩ := (next v w hv (Tr0 _ _)).1; rw [hd']; exact hQ c a' w1 d _) (Or.inl ⟨by rw [hwant]; exact hw, fun w' _ => by rw [hexec]; exact hrun w'⟩) trivial (next v w hv (Tr0 _ _)).2
  have hnf : ∀ f ∈ fol, f ∉ Region.ready md ops listed := fun f hf hr => hff ⟨f, hf, hr⟩
  show wpAnyZ P md ops Q (fun _ => True) z ((n0 + k) + 1) listed a w
  refine ⟨fun hr => ?_, fun i hi => ?_⟩
  ·exfalso
   have : ∀ i, i < D.length → listed.getD i false = true := fun i => by
    induction i using Nat.strongRecOn with
    | _ i ihh =>
     intro hi
     obtain ⟨o, x, p, h1, _, _, _, hlt, _⟩ := hops i hi
     apply Classical.byContradiction
     intro hne
     have hmem : i ∈ Region.ready md ops listed := mem_ready.2 ⟨by rw [getD_true_false (by rw [h.sz]; omega) true false]; simpa using hne, o, h1, fun e he hb => by
      have hin : e.on ∈ prF md ops i := by
       unfold prF
       rw [h1]
       exact List.mem_map.2 ⟨e, List.mem_filter.2 ⟨by simpa using he, by simpa using hb⟩, rfl⟩
      exact ihh e.on (hlt _ hin) (Nat.lt_trans (hlt _ hin) hi)⟩
     rw [hr] at hmem; cases hmem
   obtain ⟨i, hi, hf⟩ := hex
   rw [this i hi] at hf; cases hf
  ·have him := ready_small hnf i hi
   have hnfi : i ∉ fol := fun hf => hnf i hf hi
   obtain ⟨o, h1, hexec, hwant, hpv, next⟩ := at_i i him hi
   obtain ⟨o', ho', hOb⟩ := obl i him hnfi vals w h.r hpv
   rw [h1] at ho'
   injection ho' with ho'
   subst ho'
   unfold wpOp
   rw [h1]
   simp only
   rw [hwant]
   rcases hOb with ⟨hw, hr⟩ | ⟨hw, hv⟩
   ·rw [if_pos hw]
    refine .inl ?_
    unfold Oper.wp
    rw [hexec]
    rcases hr with ⟨v, w', hrun, hv, hb⟩ | ⟨g, args, hrun, hc⟩
    ·rw [hrun]; exact ⟨fun _ => trivial, (next v w' hv hb).2⟩
    ·rw [hrun]
     refine Calls.mono hc ?_
     rintro e w' ⟨v, rfl, hv, hb⟩
     exact ⟨fun _ => trivial, (next v w' hv hb).2⟩
   ·rw [if_neg (by rw [hw]; simp)]
    exact ⟨fun _ => trivial, (next undef w hv (Tr0 _ _)).2⟩
theorem wp_free (z : Nat) (fol : List Nat) (kill bef D : List (Nat × Nat)) (pre : List (List (Nat × Nat))) (V : Nat → Value → World → Prop) (Tr : Nat → World → World → Prop) (R : World → Prop) (n0 : Nat) {id : Nat} {A0 : Go.Act} {w : World} (hm : P.follows .mixedOrders = true) (hn : ops.size = n0 + D.length)
  (hchk : chkF .any ops z fol kill bef D pre A0.tmps.size = true) (hQ : ∀ c (a : Go.Act) w (d : Nat) v, Q (.panic c) (a.put (some d) v) w → Q (.panic c) a w) (hR : R w.drew) (Tr0 : ∀ i w, Tr i w w)
  (mono : ∀ k i v w w', (k, i) ∉ kill → (k, i) ∉ bef → k ≠ i → V i v w → Tr k w w' → V i v w') (monoR : ∀ k w w', R w → Tr k w w' → R w')
  (obl : ∀ i, i < D.length → i ∉ fol → ∀ (vals : Nat → Value) w, R w → (∀ x ∈ pre.getD i [], V x.1 (vals x.1) w) → ObF P ops V Tr (putF A0 vals (pre.getD i [])) i w)
  (obf : ∀ i ∈ fol, ∀ (vals : Nat → Value) w, R w → (∀ x ∈ pre.getD i [], V x.1 (vals x.1) w) → ObL P ops V (putF A0 vals (pre.getD i [])) i w)
  (fin : ∀ (vals : Nat → Value) w, R w → (∀ i < D.length, (∀ k, (k, i) ∉ kill) → V i (vals i) w) → wpAnyZ P .any ops Q (fun _ => True) z n0 (lstF D.length ops.size) (putF A0 vals D) w) : (Code.region id ops true).wp P Q A0 w := by
 refine wp_region_any hm (wpAny_of_z (S := fun _ => True) (z := z) _ _ _ _ ?_)
 have hf : ∀ i, (Array.replicate ops.size false).getD i false = false := fun i => by
  rw [Array.getD_eq_getD_getElem?, Array.getElem?_replicate]; split <;> rfl
 have hu : unF (Array.replicate ops.size false) D.length = D.length := by
  unfold unF
  rw [List.countP_eq_length.2 (fun i _ => by rw [hf]; rfl), List.length_range]
 have := free_main (z := z) (Q := Q) hchk hQ V Tr R n0 Tr0 mono monoR obl obf fin D.length (Array.replicate ops.size false) A0 w.drew (fun _ => undef) hu
  ⟨by simp, fun i _ => hf i, (fun i hi => by rw [hf] at hi; cases hi), (fun x _ hl => by rw [hf] at hl; cases hl), fun t _ => rfl, rfl, (fun i hi _ => by rw [hf] at hi; cases hi), hR⟩
 rw [← hn] at this
 exact this
end
end Go.Proofs.YtpbaobmegomfpacGreatDoor
