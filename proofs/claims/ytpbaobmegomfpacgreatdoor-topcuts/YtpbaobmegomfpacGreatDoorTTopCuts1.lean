/-
  Texts of the proof, one behind the other: TopHd, CutsM, EqP, EqSD, SlN, PickW, WTopCuts.
-/
import Derived.Test.YtpbaobmegomfpacGreatDoorM41
import Derived.Test.YtpbaobmegomfpacGreatDoorM43
import Derived.Test.YtpbaobmegomfpacGreatDoorM24
import Derived.Test.YtpbaobmegomfpacGreatDoorM35
import Derived.Test.YtpbaobmegomfpacGreatDoorM2
import Derived.Test.YtpbaobmegomfpacGreatDoorRows
import Derived.Deep.QuietTactic
import Derived.BigQuiet
import Derived.IntWalk
import Derived.WalkSmall
import Derived.Test.YtpbaobmegomfpacGreatDoorM38
import Derived.Test.YtpbaobmegomfpacGreatDoorM21
import Derived.Test.YtpbaobmegomfpacGreatDoorM27
import Derived.Test.YtpbaobmegomfpacGreatDoorM1
set_option linter.unusedVariables false
set_option linter.unusedSimpArgs false
set_option maxRecDepth 100000
open List renaming getElem_toArray → gTA, getElem_cons_zero → gCZ, getElem_cons_succ → gCS, setIfInBounds_toArray → sTA, set_cons_zero → sCZ, set_cons_succ → sCS
open Go.Lib renaming hid → jD
open Nat renaming le_refl → nL
namespace Go.Proofs.YtpbaobmegomfpacGreatDoor
open Go.RowKit
theorem DLst.take {w : World} {B n c : Nat} {A : Option Addr} {l : List Deed} (h : DLst w B (.slice A n c) l) (hn : n = l.length) {k : Nat} (hk : k ≤ l.length) : DLst w B (.slice A k c) (l.take k) := by
 have hl : (l.take k).length = k := by rw [List.length_take]; omega
 obtain ⟨A', c', e, hc⟩ := h.form
 injection e with e1 e2 e3
 refine ⟨⟨A, c, by rw [hl], by omega⟩, by rw [hl]; have := h.small; omega, fun hp => ?_⟩
 rw [hl] at hp
 obtain ⟨b, off, c'', e, hb, hcell⟩ := h.cells (by omega)
 injection e with e1 e2 e3
 subst e1 e3
 refine ⟨b, off, c, by rw [hl], hb, fun i hi j u hu => hcell i (by omega) j u ?_⟩
 rw [List.getElem_take] at hu
 exact hu
def cutN (k : Int) (i : Nat) (a : Act) : Nat := (pickI (wrap64 (k + i)) ((a.data.size + 1 : Nat) : Int)).toNat
theorem cutN_le (k : Int) (i : Nat) (a : Act) : cutN k i a ≤ a.data.size := by
 have := pickI_bd (wrap64 (k + i)) (m := ((a.data.size + 1 : Nat) : Int)) (by omega)
 unfold cutN; omega
def cut2 (k : Int) (i : Nat) (a : Act) : List Act := [⟨a.kind, a.c, a.data.extract 0 (cutN k i a)⟩, ⟨a.kind, a.c, a.data.extract (cutN k i a) a.data.size⟩]
def cutsL (k : Int) : Nat → List Act → List Act
 | _, [] => []
 | i, a :: l => cut2 k i a ++ cutsL k (i + 1) l
def cutsT (k : Int) : Nat → List Act → List (Int × ByteArray × ByteArray)
 | _, [] => []
 | i, a :: l => (a.c, a.data.extract 0 (cutN k i a), a.data.extract (cutN k i a) a.data.size) :: cutsT k (i + 1) l
theorem cutsL_snoc (k : Int) : ∀ (l : List Act) (i : Nat) (a : Act), cutsL k i (l ++ [a]) = cutsL k i l ++ cut2 k (i + l.length) a
 | [], i, a => by simp [cutsL]
 | b :: l, i, a => by
  show cut2 k i b ++ cutsL k (i + 1) (l ++ [a]) = _
  rw [cutsL_snoc k l (i + 1) a, ← List.append_assoc, show i + 1 + l.length = i + (b :: l).length by simp; omega]; rfl
theorem cutsL_len (k : Int) : ∀ (l : List Act) (i : Nat), (cutsL k i l).length = 2 * l.length
 | [], i => rfl
 | b :: l, i => by
  show (cut2 k i b ++ cutsL k (i + 1) l).length = _
  rw [List.length_append, cutsL_len k l (i + 1)]
  show 2 + 2 * l.length = 2 * (l.length + 1); omega
theorem cut_app {b : ByteArray} {n : Nat} (h : n ≤ b.size) : b.extract 0 n ++ b.extract n b.size = b := ba_ext (by
 rw [ByteArray.data_append, Array.toList_append, ext_list, ext_list]
 simp only [List.drop_zero]
 rw [show b.data.toList.take b.size = b.data.toList from List.take_of_length_le (by simp)]
 exact List.take_append_drop n _)
theorem cutsT_map (k : Int) : ∀ (l : List Act) (i : Nat), (∀ a ∈ l, a.kind = 1) → ((cutsT k i l).map fun t => (⟨1, t.1, t.2.1 ++ t.2.2⟩ : Act)) = l
 | [], i, _ => rfl
 | a :: l, i, h => by
  show (⟨1, a.c, _ ++ _⟩ : Act) :: (cutsT k (i + 1) l).map _ = a :: l
  rw [cutsT_map k l (i + 1) (fun b hb => h b (List.mem_cons_of_mem _ hb)), cut_app (cutN_le k i a), ← h a List.mem_cons_self]
theorem cutsT_flat (k : Int) : ∀ (l : List Act) (i : Nat), (∀ a ∈ l, a.kind = 1) → ((cutsT k i l).flatMap fun t => [(⟨1, t.1, t.2.1⟩ : Act), ⟨1, t.1, t.2.2⟩]) = cutsL k i l
 | [], i, _ => rfl
 | a :: l, i, h => by
  show [(⟨1, a.c, _⟩ : Act), ⟨1, a.c, _⟩] ++ (cutsT k (i + 1) l).flatMap _ = cut2 k i a ++ cutsL k (i + 1) l
  rw [cutsT_flat k l (i + 1) (fun b hb => h b (List.mem_cons_of_mem _ hb))]
  unfold cut2
  rw [h a List.mem_cons_self]
theorem cutsT_mem (k : Int) : ∀ (l : List Act) (i : Nat) (t : Int × ByteArray × ByteArray), t ∈ cutsT k i l → ∃ a ∈ l, ∃ n, t = (a.c, a.data.extract 0 n, a.data.extract n a.data.size)
 | [], i, t, h => by cases h
 | a :: l, i, t, h => by
  rcases List.mem_cons.1 h with h | h
  ·exact ⟨a, List.mem_cons_self, _, h⟩
  ·obtain ⟨b, hb, n, e⟩ := cutsT_mem k l (i + 1) t h
   exact ⟨b, List.mem_cons_of_mem _ hb, n, e⟩
theorem cutsL_mem (k : Int) : ∀ (l : List Act) (i : Nat) (t : Act), t ∈ cutsL k i l → ∃ a ∈ l, t.kind = a.kind ∧ t.c = a.c ∧ t.data.size ≤ a.data.size
 | [], i, t, h => by cases h
 | a :: l, i, t, h => by
  rcases List.mem_append.1 h with h | h
  ·refine ⟨a, List.mem_cons_self, ?_⟩
   simp only [cut2, List.mem_cons, List.not_mem_nil, or_false] at h
   rcases h with rfl | rfl
   ·exact ⟨rfl, rfl, by simp only [ByteArray.size_extract]; omega⟩
   ·exact ⟨rfl, rfl, by simp only [ByteArray.size_extract]; omega⟩
  ·obtain ⟨b, hb, n⟩ := cutsL_mem k l (i + 1) t h
   exact ⟨b, List.mem_cons_of_mem _ hb, n⟩
theorem cutsL_E (k : Int) {l : List Act} (h : ∀ a ∈ l, actE a = 0) : actsE (cutsL k 0 l) = 0 := actsE_all fun t ht => by
 obtain ⟨a, ha, h1, h2, h3⟩ := cutsL_mem k l 0 t ht
 have := h a ha
 unfold actE at this ⊢
 rw [h1, h2]
 split at this
 ·cases this
 ·rename_i g1
  rw [if_neg g1]
  split at this
  ·cases this
  ·rename_i g2
   rw [if_neg g2]
   split at this
   ·cases this
   ·rename_i g3
    rw [if_neg (by omega)]
theorem stayR_c {l : List Raw} {most n : Nat} (hn : 0 < n) : ∀ a ∈ stayR l most n, 0 ≤ a.c ∧ a.c < n := fun a ha => actsR_c hn a (stayR_sub ha).1
theorem stayR_act {l : List Raw} {most n : Nat} (hn : 0 < n) (h6 : n ≤ 6) : ∀ a ∈ stayR l most n, actE a = 0 := fun a ha => by
 obtain ⟨r, _, rfl⟩ := List.mem_map.1 (stayR_sub ha).1
 exact actR_E hn h6 r
theorem cuts_house {mode : Int} (k : Int) {l : List Act} (hl : ∀ a ∈ l, actE a = 0) (h1 : ∀ a ∈ l, a.kind = 1 ∧ No88 a.data) (hc : ∀ a ∈ l, a.c < 4) :
  ((Mach.start houseStart 4).run houseO mode l).d = ((Mach.start houseStart 4).run houseO mode (cutsL k 0 l)).d := by
 have e1 := cutsT_map k l 0 (fun a ha => (h1 a ha).1)
 have e2 := cutsT_flat k l 0 (fun a ha => (h1 a ha).1)
 have := top_cuts (mode := mode) (l := cutsT k 0 l) (fun t ht => by
  obtain ⟨a, ha, n, rfl⟩ := cutsT_mem k l 0 t ht
  exact ⟨no88_ext (h1 a ha).2 _ _, no88_ext (h1 a ha).2 _ _⟩) (fun t ht => by
  obtain ⟨a, ha, n, rfl⟩ := cutsT_mem k l 0 t ht
  exact hc a ha) (by rw [e1]; exact actsE_all hl) (by rw [e2]; exact cutsL_E k hl)
 rw [e1, e2] at this
 exact this
set_option maxHeartbeats 400000 in
theorem equalP_same (v v' : Value) (l : PL) (w : World) (B : Nat) (hl : Lst w B v l) (hl' : Lst w B v' l) :
  Calls Tryz.prog 25 #[v, v'] w fun e w' => e = .returned (.bool true) ∧ ∃ n, w' = w.drewN n := by
 obtain ⟨A, c, rfl, hc⟩ := hl.form
 obtain ⟨A', c', rfl, hc'⟩ := hl'.form
 have hby := hl.bytes
 have HL := jD hl
 have HL' := jD hl'
 have hne : ((l.length : Int) != (l.length : Int)) = false := by simp
 clear hl hl'
 go_enter Tryz.func25, Tryz.ntmps25
 go_wp2
 go_loopw [13] (fun i wr => ∃ k : Nat, k ≤ l.length ∧ i = .int .i64 k ∧ ∃ n, wr = w.drewN n) (fun i _ => l.length - (intOf i).toNat)
 case atStart => exact ⟨0, by omega, rfl, 0, rfl⟩
 case round =>
  obtain ⟨k, hk, rfl, n, rfl⟩ := hrel
  by_cases hlt : k < l.length
  ·obtain ⟨b, off, rfl, hb, c0, c1⟩ := HL.out.pt hlt
   obtain ⟨b', off', rfl, hb', c0', c1'⟩ := HL'.out.pt hlt
   go_wp2
   go_quiet (fail)
   go_wp2
   go_roundw
   case rel => exact ⟨k + 1, by omega, by go_num, n + nq, rfl⟩
   case measure => simp [intOf]; omega
  ·go_wp2
   go_ret
   exact ⟨rfl, _, rfl⟩
set_option maxHeartbeats 400000 in
theorem equalS_same (v v' : Value) (l : List ByteArray) (w : World) (B : Nat) (hl : TLst w B v l) (hl' : TLst w B v' l) :
  Calls Tryz.prog 37 #[v, v'] w fun e w' => e = .returned (.bool true) ∧ ∃ n, w' = w.drewN n := by
 obtain ⟨A, c, rfl, hc⟩ := hl.form
 obtain ⟨A', c', rfl, hc'⟩ := hl'.form
 have hby := hl.small
 have HL := jD hl
 have HL' := jD hl'
 have hne : ((l.length : Int) != (l.length : Int)) = false := by simp
 clear hl hl'
 go_enter Tryz.func37, Tryz.ntmps37
 go_wp2
 go_loopw [13] (fun i wr => ∃ k : Nat, k ≤ l.length ∧ i = .int .i64 k ∧ ∃ n, wr = w.drewN n) (fun i _ => l.length - (intOf i).toNat)
 case atStart => exact ⟨0, by omega, rfl, 0, rfl⟩
 case round =>
  obtain ⟨k, hk, rfl, n, rfl⟩ := hrel
  by_cases hlt : k < l.length
  ·obtain ⟨b, off, rfl, hb, c0⟩ := HL.out.pt hlt
   obtain ⟨b', off', rfl, hb', c0'⟩ := HL'.out.pt hlt
   go_wp2
   go_quiet (fail)
   go_wp2
   go_roundw
   case rel => exact ⟨k + 1, by omega, by go_num, n + nq, rfl⟩
   case measure => simp [intOf]; omega
  ·go_wp2
   go_ret
   exact ⟨rfl, _, rfl⟩
set_option maxHeartbeats 400000 in
theorem equalD_same (v v' : Value) (l : List Deed) (w : World) (B : Nat) (hl : DLst w B v l) (hl' : DLst w B v' l) :
  Calls Tryz.prog 28 #[v, v'] w fun e w' => e = .returned (.bool true) ∧ ∃ n, w' = w.drewN n := by
 obtain ⟨A, c, rfl, hc⟩ := hl.form
 obtain ⟨A', c', rfl, hc'⟩ := hl'.form
 have hby := hl.small
 have HL := jD hl
 have HL' := jD hl'
 have hne : ((l.length : Int) != (l.length : Int)) = false := by simp
 clear hl hl'
 go_enter Tryz.func28, Tryz.ntmps28
 go_wp2
 go_loopw [13] (fun i wr => ∃ k : Nat, k ≤ l.length ∧ i = .int .i64 k ∧ ∃ n, wr = w.drewN n) (fun i _ => l.length - (intOf i).toNat)
 case atStart => exact ⟨0, by omega, rfl, 0, rfl⟩
 case round =>
  obtain ⟨k, hk, rfl, n, rfl⟩ := hrel
  by_cases hlt : k < l.length
  ·obtain ⟨b, off, rfl, hb, c0, c1, c2, c3, c4, c5, c6⟩ := HL.out.pt hlt
   obtain ⟨b', off', rfl, hb', e0, e1, e2, e3, e4, e5, e6⟩ := HL'.out.pt hlt
   go_wp2
   go_quiet (fail)
   go_wp2
   go_roundw
   case rel => exact ⟨k + 1, by omega, by go_num, n + nq, rfl⟩
   case measure => simp [intOf]; omega
  ·go_wp2
   go_ret
   exact ⟨rfl, _, rfl⟩
set_option maxHeartbeats 1000000 in
theorem same_any (v1 v2 v3 u1 u2 u3 : Value) (sent : List ByteArray) (deeds : List Deed) (rows : PL) (w : World) (h : OutV w v1 v2 v3 sent deeds rows) (h' : OutV w u1 u2 u3 sent deeds rows) :
  Calls Tryz.prog 19 #[.agg #[v1, v2, v3], .agg #[u1, u2, u3]] w fun e w' => e = .returned (.bool true) ∧ Below w.heap.size w w' := by
 obtain ⟨A1, c1, rfl, _⟩ := h.s.form
 obtain ⟨A2, c2, rfl, _⟩ := h.d.form
 obtain ⟨A3, c3, rfl, _⟩ := h.r.form
 obtain ⟨E1, e1, rfl, _⟩ := h'.s.form
 obtain ⟨E2, e2, rfl, _⟩ := h'.d.form
 obtain ⟨E3, e3, rfl, _⟩ := h'.r.form
 have nn := ((Below.refl w.heap.size w).alloc (nL _) (.cells #[.slice A1 sent.length c1, .slice A2 deeds.length c2, .slice A3 rows.length c3] 27)).alloc (by simp) (.cells #[.slice E1 sent.length e1, .slice E2 deeds.length e2, .slice E3 rows.length e3] 27)
 have HN := jD nn
 have H1 := jD (h.step nn)
 have H2 := jD (h'.step nn)
 clear h h' nn
 go_enter Tryz.func19, Tryz.ntmps19
 go_wp2_with fail
 refine (equalS_same _ _ sent _ _ H1.out.s H2.out.s).mono ?_
 rintro e w1 ⟨rfl, n1, rfl⟩
 go_wp2_with fail
 refine (equalD_same _ _ deeds _ _ (H1.out.step (below_drewN (Below.refl _ _) n1)).d (H2.out.step (below_drewN (Below.refl _ _) n1)).d).mono ?_
 rintro e w1 ⟨rfl, n2, rfl⟩
 go_wp2_with fail
 refine (equalP_same _ _ rows _ _ (H1.out.step (below_drewN (Below.refl _ _) _)).r (H2.out.step (below_drewN (Below.refl _ _) _)).r).mono ?_
 rintro e w1 ⟨rfl, n3, rfl⟩
 go_wp2
 go_ret
 exact ⟨rfl, below_drewN HN.out _⟩
section
variable {w w' : World} {t size n : Nat} {v : Value} {g : Option Nat} {xs : List Value}
theorem Sl.appendN {P : Program} (k : Nat) (hk : 0 < k) (h : Sl w t size v g n xs) (ts ty : TypeId) (i : TypeInfo) (z : Value) (bytes : Nat) (ht : P.underlying ts = some (.slice t)) (hi : P.info? t = some i) (hz : i.zero = some z)
  (hsize : i.size = size) (hby : i.bytes = bytes) (hzs : z.cells.size = size) (hsz : 0 < size) (ad : Addr) (c : Nat) (news : List Value) (hl : news.length = k * size) (hnews : ∀ j u, news[j]? = some u → w.cell? (ad.add j) = some u) (h1 : ∀ u ∈ news, u.oneCell' = true)
  (h63 : n + k ≤ maxLen) (hbytes : (n + k) * bytes ≤ 140737488355328) :
  ∃ b off cap w', (Builtin.append_ #[ts, ts] ty #[v, .slice (some ad) k c]).run P w = .ok (.slice (some ⟨b, off, none⟩) (n + k) cap) w' ∧ Sl w' t size (.slice (some ⟨b, off, none⟩) (n + k) cap) (some b) (n + k) (xs ++ news) ∧
   w.grownBy w' g ∧ (g = some b ∨ (w.heap.size ≤ b ∧ b < w'.heap.size)) := by
 have hl1 : news.length = k * i.size := by rw [hl, hsize]
 rcases h.form with ⟨rfl, rfl, rfl⟩ | ⟨b, off, cap, tot, rfl, rfl, hc, hr, hfit, hcell⟩
 ·have hx : xs = [] := List.eq_nil_of_length_eq_zero (by simpa using h.len)
  subst hx
  obtain ⟨v', w', hrun, hown, hgr, _⟩ := run_append_own (P := P) w w.heap.size ts ty t i z size bytes ht hi hz hsize hby hzs hsz _ 0 [] (World.ownsRow_nil w w.heap.size t size) ad k c news hl hnews h1 h63 hbytes (nL _)
  obtain ⟨b, cap, rfl, hb, hlt, hs⟩ := ownsRow_sl hown (by omega)
  exact ⟨b, 0, cap, w', hrun, hs, hgr, .inr ⟨hb, hlt⟩⟩
 ·by_cases hroom : n + k ≤ cap
  ·have hfit0 := hfit
   have hfit := hfit.resolve_left (by omega)
   have hmul : (n + k) * size ≤ cap * size := Nat.mul_le_mul_right _ hroom
   rw [Nat.add_mul] at hmul
   have hin : ∀ j, j < news.length → off + n * i.size + j < tot := fun j hj => by rw [hsize]; omega
   have hrun := run_append_room_cells (P := P) w ts ty t i ht hi b off n cap ad k c news hl1 hnews h1 hroom (fun j hj => by obtain ⟨u, hu⟩ := hr.any (hin j hj); rw [hu]; rfl) (fun j hj => hr.frozen _)
   rw [hsize] at hrun
   refine ⟨b, off, cap, _, hrun, ⟨?_, .inr ⟨b, off, cap, tot, rfl, rfl, hroom, sl_setCells hr, hfit0, fun j hj => ?_⟩⟩, ⟨?_, ?_, ?_, ?_, fun k hk hne => ?_⟩, .inl rfl⟩
   ·rw [List.length_append, h.len, hl, Nat.add_mul]
   ·have hlen := h.len
    by_cases hj' : j < xs.length
    ·rw [World.cell?_setCells_out b _ _ _ _ (fun _ _ => Or.inl (by show off + j < off + n * size; omega)), hcell j hj', List.getElem_append_left hj']
    ·have hj2 : j - xs.length < news.length := by rw [List.length_append] at hj; omega
     have := World.cell?_setCells_in b news (off + n * size) w (fun k hk => by obtain ⟨u, hu⟩ := hr.any (j := off + n * size + k) (by rw [hsize] at hin; exact hin k hk); rw [hu]; rfl) (j - xs.length) hj2
     rw [show off + n * size + (j - xs.length) = off + j by omega] at this
     rw [this, List.getElem_append_right (by omega)]
   ·exact (setCells_keeps b news _ w).1
   ·exact (setCells_keeps b news _ w).2.1
   ·exact (setCells_keeps b news _ w).2.2.1
   ·exact Nat.le_of_eq (setCells_keeps b news _ w).2.2.2.symm
   ·exact World.heap_setCells_other w b _ news hk (fun e => hne (by rw [e]))
  ·obtain ⟨v', w', hrun, hown, hgr⟩ := run_append_arg_grows (P := P) w ts ty t i z size bytes ht hi hz hsize hby hzs hsz ⟨b, off, none⟩ n cap xs h.len (fun j u hu => by
    have hj := (List.getElem?_eq_some_iff.1 hu).1
    rw [Addr.add_lit, hcell j hj]
    rw [List.getElem?_eq_getElem hj] at hu
    exact hu) ad k c news hl hnews (by omega) h63 hbytes
   obtain ⟨b', cap', rfl, hb, hlt, hs⟩ := ownsRow_sl hown (by omega)
   exact ⟨b', 0, cap', w', hrun, hs, ⟨hgr.os, hgr.tape, hgr.output, hgr.size, fun k hk _ => hgr.block k hk (by simp)⟩, .inr ⟨hb, hlt⟩⟩
end
set_option maxHeartbeats 400000 in
theorem pickedW_any (n m : Int) (w : World) (hn : -9223372036854775808 ≤ n) (hn2 : n ≤ 9223372036854775807) (hm : 0 < m) (hm2 : m ≤ 9223372036854775807) :
  Calls Tryz.prog 21 #[.int .i64 n, .int .i64 m] w fun e w' => e = .returned (.int .i64 (pickI n m)) ∧ w = w' := by
 have HP := jD (fun wc => picked_any n m wc hn hn2 hm hm2)
 clear hn hn2 hm hm2
 go_enter Tryz.func21, Tryz.ntmps21
 go_wp2_with fail
 refine (HP.out _).mono ?_
 rintro e w1 ⟨rfl, rfl⟩
 go_wp2
 go_ret
 exact ⟨rfl, rfl⟩
theorem topCuts.laidFacts {W : World} (h : laidMetH Tryz.prog Rows.topCutsRow.laid W) : Tabs W W.heap.size :=
 tabs_of (words_of h (by simp [Rows.topCutsRow, Rows.laid_tillerman_say_words, List.range, List.range.loop, wordL])) (leads_of h (by simp [Rows.topCutsRow, Rows.laid_tillerman_say_leads, List.range, List.range.loop, leadL]))
theorem act_row2 : (Tryz.prog.info? 45).map (fun i => (i.zero, i.size, i.bytes)) = some (some (.agg #[.int .i64 0, .int .i64 0, .string ⟨#[]⟩]), 3, 32) := by kernel_rfl
structure CutAt (w wr : World) (B : Nat) (vA : Value) (al : List Act) (o : Value) (bl : List Act) : Prop where
 a : ALst wr B vA al
 s : ∃ g, Sl wr 45 3 o g bl.length (bl.map actV).flatten ∧ ∀ b, g = some b → B ≤ b
 bb : B ≤ wr.heap.size
 wb : w.heap.size ≤ B
 bel : Below w.heap.size w wr
theorem CutAt.lst {w wr : World} {B : Nat} {vA : Value} {al : List Act} {o : Value} {bl : List Act} (h : CutAt w wr B vA al o bl) (hby : bl.length ≤ 1000) (hs : ∀ a ∈ bl, a.data.size ≤ 1000) : ALst wr wr.heap.size o bl := by
 obtain ⟨g, h1, _⟩ := h.s
 exact h1.alst (by omega) (fun a ha => by have := hs a ha; omega)
theorem top_cuts_pool {mode : Int} (k : Int) {l : List Act} (hl : ∀ a ∈ l, actE a = 0) (h1 : ∀ a ∈ l, a.kind = 1 ∧ No88 a.data) (hc : ∀ a ∈ l, a.c < 4) : (ranM mode 4 l).sent = (ranM mode 4 (cutsL k 0 l)).sent ∧ (ranM mode 4 l).deeds = (ranM mode 4 (cutsL k 0 l)).deeds ∧ (ranM mode 4 l).e.w.rows = (ranM mode 4 (cutsL k 0 l)).e.w.rows := by
 have p1 := pool_house (n := 4) (by omega) mode (actsE_all hl)
 have p2 := pool_house (n := 4) (by omega) mode (cutsL_E k hl)
 have hd := cuts_house (mode := mode) k hl h1 hc
 have e1 : _ = _ := congrArg D.sent hd
 have e2 : _ = _ := congrArg D.deeds hd
 have e3 : _ = _ := congrArg (fun d : D => d.w.rows) hd
 exact ⟨p1.sent.trans (e1.trans p2.sent.symm), p1.deeds.trans (e2.trans p2.deeds.symm), p1.rows.trans (e3.trans p2.rows.symm)⟩
set_option maxHeartbeats 4000000 in
theorem walk_TopCuts (v : Value) (l : List Raw) (mode k0 : Int) (w : World) (hl : RLst w w.heap.size v l) (hm : (Lit.int .i64 mode).wf = true) (hs : (Lit.int .i64 k0).wf = true) (hT : Tabs w w.heap.size) :
  Calls Tryz.prog 6 #[v, .int .i64 mode, .int .i64 k0] w fun e w' => e = .returned (.bool true) ∧ Below w.heap.size w w' := by
 have hmb := i64_bd hm
 have hacts := stayR_act (l := l) (most := 40) (n := 4) (by omega) (by omega)
 have hlen := stayR_len (l := l) (most := 40) (n := 4)
 have hszs : ∀ a ∈ stayR l 40 4, a.data.size ≤ 1000 := fun a ha => actsR_size (n := 4) a (stayR_sub ha).1
 have hpp := top_cuts_pool (mode := 1 + pickI mode 3) k0 hacts stayR_no (fun a ha => (stayR_c (by omega) a ha).2)
 have h43 : (1 : Int) + pickI 3 4 = 4 := by decide
 have hu := setupR_E mode 3
 rw [h43] at hu
 have hE1 := run_E hu (show (stayR l 40 4).length ≤ 300 by omega) (actsE_all hacts)
 have hE2 := run_E hu (show (cutsL k0 0 (stayR l 40 4)).length ≤ 300 by rw [cutsL_len]; omega) (cutsL_E k0 hacts)
 have hse := setup_any mode 3
 have HS := jD (fun wc => hse wc hmb.1 hmb.2 (by omega) (by omega))
 rw [h43] at HS
 have HT := jD hT
 have HA := jD (staying_any v l 40 4 w hl hT.wo (by omega) (by omega) (by omega))
 have HP1 := jD (fun (out : Value) (wc : World) (h : ALst wc wc.heap.size out (stayR l 40 4)) (hb : Below w.heap.size w wc) => playedT_any (1 + pickI mode 3) 4 out _ wc h ((hT.below hb).up hb.size) hE1)
 have HP2 := jD (fun (out : Value) (wc : World) (h : ALst wc wc.heap.size out (cutsL k0 0 (stayR l 40 4))) (hb : Below w.heap.size w wc) => playedT_any (1 + pickI mode 3) 4 out _ wc h ((hT.below hb).up hb.size) hE2)
 simp only [show (4 : Int).toNat = 4 from rfl] at HP1 HP2
 simp only [playedPost_congr hpp] at HP2
 obtain ⟨E, e, rfl, he⟩ := hl.form
 generalize ranM (1 + pickI mode 3) 4 (stayR l 40 4) = m1 at *
 generalize stayR l 40 4 = al at *
 generalize 1 + pickI mode 3 = md at *
 have HSZ := jD hszs
 clear hmb hacts hszs hpp h43 hu hE1 hE2 hse hl hm hs hT
 go_enter Tryz.func6, Tryz.ntmps6
 go_wp2_with fail
 refine HA.out.mono ?_
 rintro e1 w1 ⟨out, rfl, ha, hb1⟩
 obtain ⟨A0, c0, rfl, _⟩ := ha.form
 have HC0 := jD (show CutAt w w1 w1.heap.size (.slice A0 al.length c0) al (.slice none 0 0) [] from ⟨ha, ⟨none, Sl.nil_ _ _ _, fun _ h => by cases h⟩, nL _, hb1.size, hb1⟩)
 clear ha hb1 HA
 go_wp2_with fail
 go_loopw [8, 21] (fun o j wr => ∃ k : Nat, k ≤ al.length ∧ j = .int .i64 k ∧ Hid (CutAt w wr w1.heap.size (.slice A0 al.length c0) al o (cutsL k0 0 (al.take k)))) (fun _ j _ => al.length - (intOf j).toNat)
 case atStart => exact ⟨0, by omega, rfl, HC0.out⟩
 case round =>
  obtain ⟨k, hk, rfl, HR⟩ := hrel
  clear HC0
  by_cases hlt : k < al.length
  ·have HLT := jD hlt
   obtain ⟨b, off, rfl, hb, l0, l1, l2⟩ := HR.out.a.pt hlt
   have hsz := HSZ.out al[k] (List.getElem_mem hlt)
   have HS1 := jD (show cutsL k0 0 (al.take (k + 1)) = cutsL k0 0 (al.take k) ++ cut2 k0 k al[k] by
    have hl : (al.take k).length = k := by rw [List.length_take]; omega
    rw [List.take_succ_eq_append_getElem hlt, cutsL_snoc, hl, Nat.zero_add]
    rfl)
   generalize al[k] = x at *
   obtain ⟨kn, HKN⟩ : ∃ kn, Hid (cutN k0 k x = kn) := ⟨_, jD rfl⟩
   have hkn : kn ≤ x.data.size := by rw [← HKN.out]; exact cutN_le k0 k x
   have hpk := fun wc => pickedW_any (wrap64 (k0 + k)) ((x.data.size : Int) + 1) wc (i64_bd (wrap64_wf _)).1 (i64_bd (wrap64_wf _)).2 (by omega) (by omega)
   rw [show pickI (wrap64 (k0 + k)) ((x.data.size : Int) + 1) = kn by
    rw [← HKN.out]
    unfold cutN
    have := pickI_bd (wrap64 (k0 + k)) (m := ((x.data.size + 1 : Nat) : Int)) (by omega)
    rw [Int.toNat_of_nonneg this.1]; rfl] at hpk
   have HPK := jD hpk
   have nd := (Below.refl wr.heap.size wr).alloc (nL _) (.cells #[.int .i64 x.kind, .int .i64 x.c, .string x.data] 45)
   have xd := RowTo.whole wr #[.int .i64 x.kind, .int .i64 x.c, .string x.data] 45
   obtain ⟨x0, x1, x2⟩ := cells3 xd
   have hXl := xd.lt
   have HND := jD nd
   clear nd xd hpk
   go_wp2_with fail
   refine (HPK.out _).mono ?_
   rintro e5 w5 ⟨rfl, rfl⟩
   go_wp2_with fail
   obtain ⟨W1, HW1⟩ : ∃ u, Hid ((wr.alloc (.cells #[.int .i64 x.kind, .int .i64 x.c, .string x.data] 45)) = u) := ⟨_, jD rfl⟩
   rw [HW1.out] at HND x0 x1 x2 hXl ⊢
   clear HW1
   obtain ⟨i0, hi, hz0, hz1, hz2⟩ := info_parts act_row2
   obtain ⟨g, hsl, hg⟩ := HR.out.s
   have hlb : (cutsL k0 0 (al.take k)).length ≤ 2 * 40 := by rw [cutsL_len, List.length_take]; omega
   have nD := (Below.refl W1.heap.size W1).drew.alloc (show W1.heap.size ≤ W1.drew.heap.size from nL _) (.cells #[.int .i64 x.kind, .int .i64 x.c, .string (x.data.extract 0 kn), .int .i64 x.kind, .int .i64 x.c, .string (x.data.extract kn x.data.size)] 45)
   have xD := RowTo.whole W1.drew #[.int .i64 x.kind, .int .i64 x.c, .string (x.data.extract 0 kn), .int .i64 x.kind, .int .i64 x.c, .string (x.data.extract kn x.data.size)] 45
   have hbs := HR.out.bb
   have hws := HND.out.size
   obtain ⟨b', off', cap, w8, hrun, hs8, hgr, hb8⟩ := ((hsl.below HND.out).below nD).appendN (P := Tryz.prog) 2 (by omega) 33 33 i0 _ 32 Tryz.underlying33 hi hz0 hz1 hz2 rfl (by omega) ⟨W1.heap.size, 0, none⟩ 2 [.int .i64 x.kind, .int .i64 x.c, .string (x.data.extract 0 kn), .int .i64 x.kind, .int .i64 x.c, .string (x.data.extract kn x.data.size)] rfl (fun j u hu => by
    obtain ⟨hj, hu⟩ := List.getElem?_eq_some_iff.1 hu
    rw [← hu, Addr.add_lit, Nat.zero_add]
    exact xD.cell (j := j) hj) (fun u hu => by simp at hu; rcases hu with rfl | rfl | rfl | rfl | rfl | rfl <;> rfl) (by unfold maxLen; omega) (by omega)
   have hX8 : w8.heap[wr.heap.size]? = W1.heap[wr.heap.size]? := (hgr.block _ (Nat.lt_of_lt_of_le hXl nD.size) (fun e => by have := hsl.lt e.symm; omega)).trans (nD.block _ hXl)
   have HF : Hid (CutAt w w8 w1.heap.size (.slice (some ⟨b, off, none⟩) al.length c0) al (.slice (some ⟨b', off', none⟩) ((cutsL k0 0 (al.take k)).length + 2) cap) (cutsL k0 0 (al.take (k + 1)))) := jD (by
    have hB : Below w1.heap.size wr w8 := ((HND.out.mono hbs).trans (nD.mono (by omega))).grown hgr (by have := nD.size; omega) (fun y hy => hg y hy)
    rw [HS1.out]
    refine ⟨HR.out.a.below hB, ⟨some b', ?_, fun y hy => ?_⟩, Nat.le_trans hbs hB.size, HR.out.wb, HR.out.bel.trans (hB.mono HR.out.wb)⟩
    ·unfold cut2
     rw [HKN.out, List.length_append, List.map_append, List.flatten_append]
     exact hs8
    ·injection hy with hy; subst hy
     rcases hb8 with h | h
     ·exact hg _ h
     ·have := h.1; have := nD.size; omega)
   obtain ⟨A', c', hv', _⟩ := hsl.shape
   have hknI : (kn : Int) ≤ (x.data.size : Int) := by omega
   clear hsl hg hi hz0 hz1 hz2 hs8 hgr hb8 xD hbs hws HS1 HND HPK
   generalize (cutsL k0 0 (al.take k)).length = nk at *
   subst hv'
   clear hlb HR
   refine wp_region_z 21 (fun wx => wx.cell? ⟨wr.heap.size, 0, none⟩ = some (.int .i64 x.kind) ∧ wx.cell? ⟨wr.heap.size, 1, none⟩ = some (.int .i64 x.c) ∧ wx.cell? ⟨wr.heap.size, 2, none⟩ = some (.string x.data)) (by kernel_rfl) (show W1.drew.cell? ⟨wr.heap.size, 0, none⟩ = some (.int .i64 x.kind) ∧ W1.drew.cell? ⟨wr.heap.size, 1, none⟩ = some (.int .i64 x.c) ∧ W1.drew.cell? ⟨wr.heap.size, 2, none⟩ = some (.string x.data) from ⟨x0, x1, x2⟩) (fun hS => ?_)
   refine tkE [(0, []), (1, []), (2, []), (3, []), (4, []), (5, []), (6, []), (7, []), (8, []), (9, []), (10, []), (11, []), (12, []), (13, []), (14, []), (15, []), (16, []), (17, []), (18, [])] ?_
   iterate 19
    refine tkS (v := ?_) hS ?_ ?_
    rotate_left
    ·(intro w hSw; (try dsimp only at hSw); (try simp only [gTA, gCZ, gCS]); go_simp; try with_reducible rfl)
    (try simp only [gTA, gCZ, gCS, Act.put, sTA, sCZ, sCS])
   refine tkF ?_
   refine wpAnyZ_one (i := 19) rfl rfl (by kernel_rfl) (fun K hK => ?_)
   (try simp only [gTA, gCZ, gCS])
   go_simp
   have hS2 := (show (W1.drew.alloc (.cells #[.int .i64 x.kind, .int .i64 x.c, .string (x.data.extract 0 kn), .int .i64 x.kind, .int .i64 x.c, .string (x.data.extract kn x.data.size)] 45)).cell? ⟨wr.heap.size, 0, none⟩ = some (.int .i64 x.kind) ∧ (W1.drew.alloc (.cells #[.int .i64 x.kind, .int .i64 x.c, .string (x.data.extract 0 kn), .int .i64 x.kind, .int .i64 x.c, .string (x.data.extract kn x.data.size)] 45)).cell? ⟨wr.heap.size, 1, none⟩ = some (.int .i64 x.c) ∧ (W1.drew.alloc (.cells #[.int .i64 x.kind, .int .i64 x.c, .string (x.data.extract 0 kn), .int .i64 x.kind, .int .i64 x.c, .string (x.data.extract kn x.data.size)] 45)).cell? ⟨wr.heap.size, 2, none⟩ = some (.string x.data) from ⟨(nD.cell (p := ⟨wr.heap.size, 0, none⟩) hXl).trans x0, (nD.cell (p := ⟨wr.heap.size, 1, none⟩) hXl).trans x1, (nD.cell (p := ⟨wr.heap.size, 2, none⟩) hXl).trans x2⟩)
   refine hK.out _ _ hS2 ?_
   clear hK K hS
   have hS := hS2
   clear hS2
   (try simp only [gTA, gCZ, gCS, Act.put, sTA, sCZ, sCS])
   refine wpAnyZ_one (i := 20) rfl rfl (by kernel_rfl) (fun K hK => ?_)
   (try simp only [gTA, gCZ, gCS])
   refine Lib.wp_append_run _ _ _ _ _ rfl _ _ rfl rfl _ _ hrun ?_
   have hS2 := (show w8.cell? ⟨wr.heap.size, 0, none⟩ = some (.int .i64 x.kind) ∧ w8.cell? ⟨wr.heap.size, 1, none⟩ = some (.int .i64 x.c) ∧ w8.cell? ⟨wr.heap.size, 2, none⟩ = some (.string x.data) from ⟨(World.cell?_of_block (a := ⟨wr.heap.size, 0, none⟩) hX8).trans x0, (World.cell?_of_block (a := ⟨wr.heap.size, 1, none⟩) hX8).trans x1, (World.cell?_of_block (a := ⟨wr.heap.size, 2, none⟩) hX8).trans x2⟩)
   refine hK.out _ _ hS2 ?_
   clear hK K hS
   have hS := hS2
   clear hS2
   (try simp only [gTA, gCZ, gCS, Act.put, sTA, sCZ, sCS])
   refine wpAnyZ_last rfl rfl (by kernel_rfl) (by kernel_rfl) (fun K hK => ?_)
   (try simp only [gTA, gCZ, gCS])
   go_simp
   refine hK.out _ _ ?_
   clear hK K
   (try simp only [gTA, gCZ, gCS, Act.put, sTA, sCZ, sCS])
   go_wp2
   go_roundw
   case rel => exact ⟨k + 1, Nat.succ_le_of_lt HLT.out, by go_num, HF.out⟩
   case measure => have := HLT.out; simp [intOf]; omega
  ·obtain rfl : k = al.length := by omega
   rw [List.take_length] at HR
   have hbl := HR.out.bel
   have h1 := HR.out.a.keep HR.out.bb (w' := wr) (fun _ _ => rfl)
   have h2 := HR.out.lst (by rw [cutsL_len]; omega) (fun a ha => by
    obtain ⟨q, hq, _, _, h3⟩ := cutsL_mem k0 al 0 a ha
    exact Nat.le_trans h3 (HSZ.out q hq))
   obtain ⟨g, hsl, _⟩ := HR.out.s
   obtain ⟨A', c', hv', _⟩ := hsl.shape
   have HL := jD (And.intro h1 (And.intro h2 hbl))
   clear h1 h2 hsl hbl HR HSZ
   generalize cutsL k0 0 al = bl at *
   subst hv'
   go_wp2_with fail
   refine (HS.out _).mono ?_
   rintro e5 w5 ⟨rfl, hb5⟩
   have n5 := (Below.refl w5.heap.size w5).alloc (nL _) (.cells #[.int .i64 md, .int .i64 4] 31)
   have HX5 := jD (RowTo.whole w5 #[.int .i64 md, .int .i64 4] 31)
   have HL5 := jD (And.intro ((HL.out.1.step hb5).step n5) (And.intro ((HL.out.2.1.step hb5).step n5) (bel_add' (bel_trans HL.out.2.2 hb5) n5 (bel_trans HL.out.2.2 hb5).size)))
   obtain ⟨x0, x1⟩ := cells2 HX5.out
   have hxl := HX5.out.lt
   clear HL hb5 n5 HS
   go_wp2_with fail
   refine (HP1.out _ _ HL5.out.1 HL5.out.2.2).mono ?_
   rintro e2 w2 ⟨v1, v2, v3, rfl, ho, hb2⟩
   obtain ⟨A1, c1, rfl, _⟩ := ho.s.form
   obtain ⟨A2, c2, rfl, _⟩ := ho.d.form
   obtain ⟨A3, c3, rfl, _⟩ := ho.r.form
   have n2 := (Below.refl w2.heap.size w2).alloc (nL _) (.cells #[.slice A1 m1.sent.length c1, .slice A2 m1.deeds.length c2, .slice A3 m1.e.w.rows.length c3] 27)
   have X2 := RowTo.whole w2 #[.slice A1 m1.sent.length c1, .slice A2 m1.deeds.length c2, .slice A3 m1.e.w.rows.length c3] 27
   have H2 := jD (And.intro (ho.step n2) (And.intro X2 (bel_add' (bel_trans HL5.out.2.2 hb2) n2 (bel_trans HL5.out.2.2 hb2).size)))
   have HAA2 := jD ((HL5.out.2.1.step hb2).step n2)
   have hX5 := (HX5.out.below hb2 HX5.out.lt).below n2 (HX5.out.below hb2 HX5.out.lt).lt
   clear x0 x1 hxl
   obtain ⟨x0, x1⟩ := cells2 hX5
   have hxl := hX5.lt
   clear ho hb2 n2 X2 HL5 hX5 HX5
   go_wp2_with fail
   refine (HP2.out _ _ HAA2.out H2.out.2.2).mono ?_
   rintro e3 w3 ⟨u1, u2, u3, rfl, ho, hb3⟩
   obtain ⟨E1, e1, rfl, _⟩ := ho.s.form
   obtain ⟨E2, e2, rfl, _⟩ := ho.d.form
   obtain ⟨E3, e3, rfl, _⟩ := ho.r.form
   have n3 := (Below.refl w3.heap.size w3).alloc (nL _) (.cells #[.slice E1 m1.sent.length e1, .slice E2 m1.deeds.length e2, .slice E3 m1.e.w.rows.length e3] 27)
   have X3 := RowTo.whole w3 #[.slice E1 m1.sent.length e1, .slice E2 m1.deeds.length e2, .slice E3 m1.e.w.rows.length e3] 27
   have hX2 := (H2.out.2.1.below hb3 H2.out.2.1.lt).below n3 (H2.out.2.1.below hb3 H2.out.2.1.lt).lt
   clear x0 x1 hxl
   obtain ⟨r0, r1, r2⟩ := cells3 hX2
   have hXl := hX2.lt
   have HS2 := jD (same_any _ _ _ _ _ _ _ _ _ _ ((H2.out.1.step hb3).step n3) (ho.step n3))
   have HB3 := jD (bel_add' (bel_trans H2.out.2.2 hb3) n3 (bel_trans H2.out.2.2 hb3).size)
   obtain ⟨x0, x1, x2⟩ := cells3 X3
   clear ho hb3 n3 X3 hX2 H2
   go_wp2_with fail
   refine HS2.out.mono ?_
   rintro e4 w4 ⟨rfl, hb4⟩
   have HB4 := jD (bel_trans HB3.out hb4)
   clear hb4
   go_wp2
   go_ret
   exact ⟨rfl, HB4.out⟩
end Go.Proofs.YtpbaobmegomfpacGreatDoor
