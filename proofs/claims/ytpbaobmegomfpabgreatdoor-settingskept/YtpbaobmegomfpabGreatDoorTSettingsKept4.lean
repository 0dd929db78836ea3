/-
  Texts of the proof, one behind the other: WSettingsKept.
-/
import Derived.Test.YtpbaobmegomfpabGreatDoorTSettingsKept2
import Derived.Test.YtpbaobmegomfpabGreatDoorM26
import Derived.Test.YtpbaobmegomfpabGreatDoorTSettingsKept3
import Derived.Lib.AppendIntMem
set_option linter.unusedVariables false
set_option linter.unusedSimpArgs false
set_option maxRecDepth 100000
open List renaming getElem_toArray → gTA, getElem_cons_zero → gCZ, getElem_cons_succ → gCS, setIfInBounds_toArray → sTA, set_cons_zero → sCZ, set_cons_succ → sCS
open Go.Lib renaming hid → jD
open Nat renaming le_refl → nL
namespace Go.Proofs.YtpbaobmegomfpabGreatDoor
open Go.RowKit
theorem settingsKept.laidFacts {W : World} (h : laidMetH Tryz.prog Rows.settingsKeptRow.laid W) : Tabs W W.heap.size ∧ Lib.TabIs Tryz.prog W "internal/strconv.uint64pow10" .u64 Lib.pow10Tab :=
 ⟨tabs_of (words_of h (by simp [Rows.settingsKeptRow, Rows.laid_tillerman_say_words, List.range, List.range.loop, wordL])) (leads_of h (by simp [Rows.settingsKeptRow, Rows.laid_tillerman_say_leads, List.range, List.range.loop, leadL])),
  pow_of h (by simp [Rows.settingsKeptRow, Rows.laid_internal_strconv_uint64pow10, Lib.tabData, Lib.pow10Tab, List.range, List.range.loop])⟩
theorem sk_tlst {w : World} {g n : Nat} {l : List ByteArray} (h : RowTo w g 9 n (l.map .string)) (hs : ∀ t ∈ l, t.size ≤ 100000000) (hl : l.length ≤ 1000) : TLst w w.heap.size (.slice (some ⟨g, 0, none⟩) l.length l.length) l := by
 refine ⟨⟨_, _, rfl, nL _⟩, by omega, hs, fun _ => ⟨g, 0, _, rfl, h.lt, fun i hi => ?_⟩⟩
 rw [Nat.zero_add, h.cell (by simpa using hi), List.getElem_map]
structure SkAt (w wr : World) (u g r : Nat) (md : Int) : Prop where
 u : RowTo wr u 23 2 [.int .i64 md, .int .i64 1]
 g : RowTo wr g 41 3 [.int .i64 6, .string ⟨#[97]⟩, .string ⟨#[]⟩]
 r : RowTo wr r 41 3 [.int .i64 8, .string ⟨#[105, 116]⟩, .string ⟨#[]⟩]
 bel : Below w.heap.size w wr
set_option maxHeartbeats 8000000 in
theorem walk_SettingsKept (n m : Int) (b : Bool) (w : World) (hn : (Lit.int .i64 n).wf = true) (hm : (Lit.int .i64 m).wf = true) (hF : Tabs w w.heap.size ∧ Lib.TabIs Tryz.prog w "internal/strconv.uint64pow10" .u64 Lib.pow10Tab) :
  Calls Tryz.prog 5 #[.int .i64 n, .int .i64 m, .bool b] w fun e w' => e = .returned (.bool true) ∧ Below w.heap.size w w' := by
 have hnb := i64_bd hn
 have hmb := i64_bd hm
 have hT := hF.1
 have HT := jD hF.1
 obtain ⟨i, hi, hi1⟩ := pick_some n 100 (by omega)
 obtain ⟨j, hj, hj1⟩ := pick_some m 100 (by omega)
 have HP1 := jD (fun wc => picked_any n 100 wc hnb.1 hnb.2 (by omega) (by omega))
 have HP2 := jD (fun wc => picked_any m 100 wc hmb.1 hmb.2 (by omega) (by omega))
 rw [show (100 : Int) = ((100 : Nat) : Int) from rfl, hi] at HP1
 rw [show (100 : Int) = ((100 : Nat) : Int) from rfl, hj] at HP2
 have HI1 := jD (itoa3_any i (by omega) w hF.2)
 have HI2 := jD (fun (wc : World) (hb : Below w.heap.size w wc) => itoa3_any j (by omega) wc (Lib.tabBelow_of_tabIs hF.2 wc hb))
 have hv := vnum_bnd i hi1
 have ho := vnum_bnd j hj1
 have hsz1 : (⟨(dig3 i).toArray⟩ : ByteArray).size ≤ 3 := by unfold dig3; (repeat' split) <;> simp [ByteArray.size]
 have hsz2 : (⟨(dig3 j).toArray⟩ : ByteArray).size ≤ 3 := by unfold dig3; (repeat' split) <;> simp [ByteArray.size]
 unfold vnum at hv ho
 generalize (⟨(dig3 i).toArray⟩ : ByteArray) = d1 at *
 generalize (⟨(dig3 j).toArray⟩ : ByteArray) = d2 at *
 have hs1 : ¬ (9223372036854775807 < 1 + d1.size) := by omega
 have hs2 : ¬ (9223372036854775807 < 1 + d2.size) := by omega
 have HV := jD hv
 have HO := jD ho
 have HZ := jD (show (⟨#[118]⟩ ++ d1 : ByteArray).size ≤ 10 ∧ (⟨#[118]⟩ ++ d2 : ByteArray).size ≤ 10 by rw [ByteArray.size_append, ByteArray.size_append]; show 1 + d1.size ≤ 10 ∧ 1 + d2.size ≤ 10; omega)
 clear hn hm hF hnb hmb hi hj hi1 hj1 hv ho hT
 go_enter Tryz.func5, Tryz.ntmps5
 go_wp2_with fail
 refine (HP1.out _).mono ?_
 rintro e w' ⟨rfl, rfl⟩
 go_wp2_with fail
 refine HI1.out.mono ?_
 rintro e w1 ⟨rfl, hb1⟩
 have HB1 := jD hb1
 clear hb1 HP1 HI1
 go_wp2_with fail
 refine (HP2.out _).mono ?_
 rintro e w' ⟨rfl, rfl⟩
 go_wp2_with fail
 refine (HI2.out _ HB1.out).mono ?_
 rintro e w2 ⟨rfl, hb2⟩
 have HB2 := jD (bel_add' HB1.out hb2 HB1.out.size)
 have hz2 := HB2.out.size
 clear hb2 HP2 HI2 HB1
 obtain ⟨sv, HVE⟩ : ∃ x : ByteArray, Hid ((⟨#[118]⟩ ++ d1 : ByteArray) = x) := ⟨_, jD rfl⟩
 obtain ⟨so, HOE⟩ : ∃ x : ByteArray, Hid ((⟨#[118]⟩ ++ d2 : ByteArray) = x) := ⟨_, jD rfl⟩
 rw [HVE.out] at HV HZ
 rw [HOE.out] at HO HZ
 cases b
 ·go_wp2_with fail
  rw [HVE.out, HOE.out]
  have a1 := (Below.refl w2.heap.size w2).alloc (nL _) (.cells #[.int .i64 2, .int .i64 1] 23)
  have a2 := (Below.refl _ (w2.alloc (.cells #[.int .i64 2, .int .i64 1] 23))).alloc (nL _) (.cells #[.int .i64 6, .string ⟨#[97]⟩, .string ⟨#[]⟩] 41)
  have a3 := (Below.refl _ ((w2.alloc (.cells #[.int .i64 2, .int .i64 1] 23)).alloc (.cells #[.int .i64 6, .string ⟨#[97]⟩, .string ⟨#[]⟩] 41))).alloc (nL _) (.cells #[.int .i64 8, .string ⟨#[105, 116]⟩, .string ⟨#[]⟩] 41)
  have x1 := RowTo.whole w2 #[.int .i64 2, .int .i64 1] 23
  have x2 := RowTo.whole (w2.alloc (.cells #[.int .i64 2, .int .i64 1] 23)) #[.int .i64 6, .string ⟨#[97]⟩, .string ⟨#[]⟩] 41
  have x3 := RowTo.whole ((w2.alloc (.cells #[.int .i64 2, .int .i64 1] 23)).alloc (.cells #[.int .i64 6, .string ⟨#[97]⟩, .string ⟨#[]⟩] 41)) #[.int .i64 8, .string ⟨#[105, 116]⟩, .string ⟨#[]⟩] 41
  simp only [World.size_alloc] at x2 x3
  have HK := jD (show SkAt w (((w2.alloc (.cells #[.int .i64 2, .int .i64 1] 23)).alloc (.cells #[.int .i64 6, .string ⟨#[97]⟩, .string ⟨#[]⟩] 41)).alloc (.cells #[.int .i64 8, .string ⟨#[105, 116]⟩, .string ⟨#[]⟩] 41)) w2.heap.size (w2.heap.size + 1) (w2.heap.size + 1 + 1) 2 from ⟨(x1.below a2 x1.lt).below a3 (x1.below a2 x1.lt).lt, x2.below a3 x2.lt, x3, bel_add' (bel_add' (bel_add' HB2.out a1 HB2.out.size) a2 (bel_add' HB2.out a1 HB2.out.size).size) a3 (bel_add' (bel_add' HB2.out a1 HB2.out.size) a2 (bel_add' HB2.out a1 HB2.out.size).size).size⟩)
  obtain ⟨W, HW⟩ : ∃ u, Hid ((((w2.alloc (.cells #[.int .i64 2, .int .i64 1] 23)).alloc (.cells #[.int .i64 6, .string ⟨#[97]⟩, .string ⟨#[]⟩] 41)).alloc (.cells #[.int .i64 8, .string ⟨#[105, 116]⟩, .string ⟨#[]⟩] 41)) = u) := ⟨_, jD rfl⟩
  rw [HW.out] at HK ⊢
  clear HW a1 a2 a3 x1 x2 x3 hs1 hs2 hsz1 hsz2 HB2 HVE HOE
  have HTW := jD (HT.out.below HK.out.bel)
  clear HT
  have HE := jD (run_E (mode := 2) (s := 1) (by decide) (show (skActs sv so).length ≤ 300 by show 6 ≤ 300; omega) (skActs_E HV.out HO.out))
  have hpp := kept_pool (mode := 2) (by decide) HV.out HO.out
  have HPP := jD hpp
  have HS6 := jD (ran_sent 2 (n := 1) (by omega) (skActs_E HV.out HO.out))
  clear hpp
  have HAS := jD (skActs_size HV.out HO.out)
  have HRUN := jD (fun (out : Value) (wc : World) (h : ALst wc wc.heap.size out (skActs sv so)) (hb : Below W.heap.size W wc) => (show Calls Tryz.prog 7 #[.agg #[.int .i64 2, .int .i64 1], out] wc (RunPost wc (ranM 2 1 (skActs sv so))) from run_any 2 1 out _ wc h ((HTW.out.below (hb.mono HK.out.bel.size)).up (Nat.le_trans HK.out.bel.size hb.size)) HE.out))
  obtain ⟨x0, x1⟩ := cells2 HK.out.u
  have hxl := HK.out.u.lt
  obtain ⟨y0, y1, y2⟩ := cells3 HK.out.g
  have hyl := HK.out.g.lt
  obtain ⟨z0, z1, z2⟩ := cells3 HK.out.r
  have hzl := HK.out.r.lt
  generalize ranM 2 1 (skActs sv so) = m1 at *
  refine wp_free 37 [34] [] [] [(0, 33), (1, 34), (2, 35), (3, 36), (4, 37), (5, 38), (6, 39), (7, 40), (8, 41), (9, 42), (10, 43), (11, 44), (12, 45), (13, 46), (14, 47), (15, 48), (16, 49), (17, 50), (18, 51), (19, 52), (20, 53), (21, 54), (22, 55), (23, 56), (24, 57), (25, 58), (26, 59), (27, 60), (28, 61), (29, 62), (30, 63), (31, 64), (32, 32), (33, 65), (34, 66), (35, 13)] [[], [], [], [(2, 35)], [], [(3, 36), (4, 37)], [(1, 34), (5, 38)], [], [], [], [], [(10, 43)], [(8, 41), (9, 42), (11, 44)], [(7, 40), (12, 45)], [], [], [], [(15, 48), (16, 49)], [(14, 47), (17, 50)], [], [], [], [(20, 53), (21, 54)], [(19, 52), (22, 55)], [], [], [], [], [(26, 59), (27, 60)], [(25, 58), (28, 61)], [(6, 39), (13, 46), (18, 51), (23, 56), (24, 57), (29, 62)], [(0, 33), (30, 63)], [(31, 64)], [(32, 32)], [(32, 32)], []] (fun i v w => match i with | 0 => v = .agg #[.int .i64 2, .int .i64 1] | 1 => v = .func (.func 20) #[] #[] | 2 => v = .string sv | 3 => v = .agg #[.int .i64 9, .string ⟨#[97]⟩, .string sv] | 4 => v = .agg #[.int .i64 11, .string ⟨#[105, 116]⟩, .string ⟨#[103, 101, 116, 32, 97]⟩] | 5 => ∃ g, v = .slice (some ⟨g, 0, none⟩) 2 2 ∧ RowTo w g 41 6 ((skA sv).flatMap rqV) | 6 => v = .agg #[.int .i64 1, .int .i64 0, .string (catQ ((skA sv).map msgR))] | 7 => v = .func (.func 20) #[] #[] | 8 => v = .agg #[.int .i64 6, .string ⟨#[97]⟩, .string ⟨#[]⟩] | 9 => v = .agg #[.int .i64 8, .string ⟨#[105, 116]⟩, .string ⟨#[]⟩] | 10 => v = .string so | 11 => v = .agg #[.int .i64 9, .string ⟨#[97]⟩, .string so] | 12 => ∃ g, v = .slice (some ⟨g, 0, none⟩) 3 3 ∧ RowTo w g 41 9 ((skB so).flatMap rqV) | 13 => v = .agg #[.int .i64 1, .int .i64 1, .string (catQ ((skB so).map msgR))] | 14 => v = .func (.func 20) #[] #[] | 15 => v = .agg #[.int .i64 6, .string ⟨#[97]⟩, .string ⟨#[]⟩] | 16 => v = .agg #[.int .i64 8, .string ⟨#[105, 116]⟩, .string ⟨#[]⟩] | 17 => ∃ g, v = .slice (some ⟨g, 0, none⟩) 2 2 ∧ RowTo w g 41 6 (skC.flatMap rqV) | 18 => v = .agg #[.int .i64 1, .int .i64 0, .string (catQ (skC.map msgR))] | 19 => v = .func (.func 20) #[] #[] | 20 => v = .agg #[.int .i64 6, .string ⟨#[97]⟩, .string ⟨#[]⟩] | 21 => v = .agg #[.int .i64 8, .string ⟨#[105, 116]⟩, .string ⟨#[]⟩] | 22 => ∃ g, v = .slice (some ⟨g, 0, none⟩) 2 2 ∧ RowTo w g 41 6 (skC.flatMap rqV) | 23 => v = .agg #[.int .i64 1, .int .i64 1, .string (catQ (skC.map msgR))] | 24 => v = .agg #[.int .i64 2, .int .i64 0, .string ⟨#[]⟩] | 25 => v = .func (.func 20) #[] #[] | 26 => v = .agg #[.int .i64 6, .string ⟨#[97]⟩, .string ⟨#[]⟩] | 27 => v = .agg #[.int .i64 8, .string ⟨#[105, 116]⟩, .string ⟨#[]⟩] | 28 => ∃ g, v = .slice (some ⟨g, 0, none⟩) 2 2 ∧ RowTo w g 41 6 (skC.flatMap rqV) | 29 => v = .agg #[.int .i64 1, .int .i64 0, .string (catQ (skC.map msgR))] | 30 => ALst w w.heap.size v (skActs sv so) | 31 => ∃ v1 v2 v3, v = .tuple #[.agg #[v1, v2, v3], .int .i64 0] ∧ OutV w v1 v2 v3 m1.sent m1.deeds m1.e.w.rows | 32 => ∃ v1 v2 v3, v = .tuple #[.agg #[v1, v2, v3], .int .i64 0] ∧ OutV w v1 v2 v3 m1.sent m1.deeds m1.e.w.rows | 33 => ∃ v1 v2 v3, v = .agg #[v1, v2, v3] ∧ OutV w v1 v2 v3 m1.sent m1.deeds m1.e.w.rows | 34 => v = .int .i64 0 | 35 => ∃ b, v = .pointer (some ⟨b, 0, none⟩) ∧ W.heap.size ≤ b ∧ RowTo w b 29 3 [.slice none 0 0, .slice none 0 0, .slice none 0 0] | _ => True) (fun _ w w' => Below w.heap.size w w') (fun wc => Below W.heap.size W wc) 2 (by kernel_rfl) (by rfl) (by kernel_rfl) (fun _ _ _ _ _ h => h) (Below.refl _ _).drew (fun _ _ => Below.refl _ _) ?amo (fun k w w' h hb => bel_trans h hb) ?aob ?aof ?afi
  case amo =>
   intro k i v w w' hk1 hk2 hk3 h hb
   rcases i with _ | _ | _ | _ | _ | _ | _ | _ | _ | _ | _ | _ | _ | _ | _ | _ | _ | _ | _ | _ | _ | _ | _ | _ | _ | _ | _ | _ | _ | _ | _ | _ | _ | _ | _ | _ | i
   ·exact h
   ·exact h
   ·exact h
   ·exact h
   ·exact h
   ·obtain ⟨g, e, hr⟩ := h; exact ⟨g, e, hr.below hb hr.lt⟩
   ·exact h
   ·exact h
   ·exact h
   ·exact h
   ·exact h
   ·exact h
   ·obtain ⟨g, e, hr⟩ := h; exact ⟨g, e, hr.below hb hr.lt⟩
   ·exact h
   ·exact h
   ·exact h
   ·exact h
   ·obtain ⟨g, e, hr⟩ := h; exact ⟨g, e, hr.below hb hr.lt⟩
   ·exact h
   ·exact h
   ·exact h
   ·exact h
   ·obtain ⟨g, e, hr⟩ := h; exact ⟨g, e, hr.below hb hr.lt⟩
   ·exact h
   ·exact h
   ·exact h
   ·exact h
   ·exact h
   ·obtain ⟨g, e, hr⟩ := h; exact ⟨g, e, hr.below hb hr.lt⟩
   ·exact h
   ·exact h.step hb
   ·obtain ⟨v1, v2, v3, e, ho⟩ := h; exact ⟨v1, v2, v3, e, ho.step hb⟩
   ·obtain ⟨v1, v2, v3, e, ho⟩ := h; exact ⟨v1, v2, v3, e, ho.step hb⟩
   ·obtain ⟨v1, v2, v3, e, ho⟩ := h; exact ⟨v1, v2, v3, e, ho.step hb⟩
   ·exact h
   ·obtain ⟨b, e, hlo, hr⟩ := h; exact ⟨b, e, hlo, hr.below hb hr.lt⟩
   ·exact h
  case aob =>
   intro i hi hnf vals wc hR hV
   rcases i with _ | _ | _ | _ | _ | _ | _ | _ | _ | _ | _ | _ | _ | _ | _ | _ | _ | _ | _ | _ | _ | _ | _ | _ | _ | _ | _ | _ | _ | _ | _ | _ | _ | _ | _ | _ | i
   ·clear hV hnf hi
    have qx0 := (hR.cell (p := ⟨w2.heap.size, 0, none⟩) hxl).trans x0
    have qx1 := (hR.cell (p := ⟨w2.heap.size, 1, none⟩) hxl).trans x1
    refine ⟨_, rfl, Or.inl ⟨by rfl, Or.inl ⟨.agg #[.int .i64 2, .int .i64 1], wc, ?_, rfl, (Below.refl _ _)⟩⟩⟩
    (try simp only [putF, List.getD_cons_succ, List.getD_cons_zero, Go.Act.put, sTA, sCZ, sCS])
    go_simp
    try rfl
   ·clear hV hnf hi
    refine ⟨_, rfl, Or.inl ⟨by rfl, Or.inl ⟨.func (.func 20) #[] #[], wc, ?_, rfl, (Below.refl _ _)⟩⟩⟩
    (try simp only [putF, List.getD_cons_succ, List.getD_cons_zero, Go.Act.put, sTA, sCZ, sCS])
    go_simp
    try rfl
   ·clear hV hnf hi
    refine ⟨_, rfl, Or.inl ⟨by rfl, Or.inl ⟨.string sv, wc, ?_, rfl, (Below.refl _ _)⟩⟩⟩
    (try simp only [putF, List.getD_cons_succ, List.getD_cons_zero, Go.Act.put, sTA, sCZ, sCS])
    go_simp
    try rfl
   ·have h2 : (vals 2) = .string sv := hV (2, 35) (by decide)
    clear hV hnf hi
    refine ⟨_, rfl, Or.inl ⟨by rfl, Or.inl ⟨.agg #[.int .i64 9, .string ⟨#[97]⟩, .string sv], wc, ?_, rfl, (Below.refl _ _)⟩⟩⟩
    (try simp only [putF, List.getD_cons_succ, List.getD_cons_zero, Go.Act.put, sTA, sCZ, sCS, h2])
    go_simp
    try rfl
   ·clear hV hnf hi
    refine ⟨_, rfl, Or.inl ⟨by rfl, Or.inl ⟨.agg #[.int .i64 11, .string ⟨#[105, 116]⟩, .string ⟨#[103, 101, 116, 32, 97]⟩], wc, ?_, rfl, (Below.refl _ _)⟩⟩⟩
    (try simp only [putF, List.getD_cons_succ, List.getD_cons_zero, Go.Act.put, sTA, sCZ, sCS])
    go_simp
    try rfl
   ·have h3 : (vals 3) = .agg #[.int .i64 9, .string ⟨#[97]⟩, .string sv] := hV (3, 36) (by decide)
    have h4 : (vals 4) = .agg #[.int .i64 11, .string ⟨#[105, 116]⟩, .string ⟨#[103, 101, 116, 32, 97]⟩] := hV (4, 37) (by decide)
    clear hV hnf hi
    refine ⟨_, rfl, Or.inl ⟨by rfl, Or.inl ⟨.slice (some ⟨wc.heap.size, 0, none⟩) 2 2, (wc.alloc (.cells #[.int .i64 9, .string ⟨#[97]⟩, .string sv, .int .i64 11, .string ⟨#[105, 116]⟩, .string ⟨#[103, 101, 116, 32, 97]⟩] 41)), ?_, ⟨_, rfl, RowTo.whole wc #[.int .i64 9, .string ⟨#[97]⟩, .string sv, .int .i64 11, .string ⟨#[105, 116]⟩, .string ⟨#[103, 101, 116, 32, 97]⟩] 41⟩, ((Below.refl _ _).alloc (nL _) _)⟩⟩⟩
    (try simp only [putF, List.getD_cons_succ, List.getD_cons_zero, Go.Act.put, sTA, sCZ, sCS, h3, h4])
    go_simp
    try rfl
   ·have h1 : (vals 1) = .func (.func 20) #[] #[] := hV (1, 34) (by decide)
    have h5 : ∃ g, (vals 5) = .slice (some ⟨g, 0, none⟩) 2 2 ∧ RowTo wc g 41 6 ((skA sv).flatMap rqV) := hV (5, 38) (by decide)
    clear hV hnf hi
    obtain ⟨g, eg, hrow⟩ := h5
    refine ⟨_, rfl, Or.inl ⟨by rfl, Or.inr ⟨20, #[.int .i64 0, .slice (some ⟨g, 0, none⟩) 2 2], ?_, ?_⟩⟩⟩
    ·(try simp only [putF, List.getD_cons_succ, List.getD_cons_zero, Go.Act.put, sTA, sCZ, sCS, h1, eg])
     go_simp
     try rfl
    ·refine (skAct_any 0 (skA sv) g 6 wc hrow (skA_ok HV.out) (by show 2 ≤ 10; omega) ((HTW.out.wo.below (hR.mono (nL _))))).mono ?_
     rintro e w' ⟨rfl, hb⟩
     exact ⟨_, rfl, rfl, hb⟩
   ·clear hV hnf hi
    refine ⟨_, rfl, Or.inl ⟨by rfl, Or.inl ⟨.func (.func 20) #[] #[], wc, ?_, rfl, (Below.refl _ _)⟩⟩⟩
    (try simp only [putF, List.getD_cons_succ, List.getD_cons_zero, Go.Act.put, sTA, sCZ, sCS])
    go_simp
    try rfl
   ·clear hV hnf hi
    have qy0 := (hR.cell (p := ⟨w2.heap.size + 1, 0, none⟩) hyl).trans y0
    have qy1 := (hR.cell (p := ⟨w2.heap.size + 1, 1, none⟩) hyl).trans y1
    have qy2 := (hR.cell (p := ⟨w2.heap.size + 1, 2, none⟩) hyl).trans y2
    refine ⟨_, rfl, Or.inl ⟨by rfl, Or.inl ⟨.agg #[.int .i64 6, .string ⟨#[97]⟩, .string ⟨#[]⟩], wc, ?_, rfl, (Below.refl _ _)⟩⟩⟩
    (try simp only [putF, List.getD_cons_succ, List.getD_cons_zero, Go.Act.put, sTA, sCZ, sCS])
    go_simp
    try rfl
   ·clear hV hnf hi
    have qz0 := (hR.cell (p := ⟨w2.heap.size + 1 + 1, 0, none⟩) hzl).trans z0
    have qz1 := (hR.cell (p := ⟨w2.heap.size + 1 + 1, 1, none⟩) hzl).trans z1
    have qz2 := (hR.cell (p := ⟨w2.heap.size + 1 + 1, 2, none⟩) hzl).trans z2
    refine ⟨_, rfl, Or.inl ⟨by rfl, Or.inl ⟨.agg #[.int .i64 8, .string ⟨#[105, 116]⟩, .string ⟨#[]⟩], wc, ?_, rfl, (Below.refl _ _)⟩⟩⟩
    (try simp only [putF, List.getD_cons_succ, List.getD_cons_zero, Go.Act.put, sTA, sCZ, sCS])
    go_simp
    try rfl
   ·clear hV hnf hi
    refine ⟨_, rfl, Or.inl ⟨by rfl, Or.inl ⟨.string so, wc, ?_, rfl, (Below.refl _ _)⟩⟩⟩
    (try simp only [putF, List.getD_cons_succ, List.getD_cons_zero, Go.Act.put, sTA, sCZ, sCS])
    go_simp
    try rfl
   ·have h10 : (vals 10) = .string so := hV (10, 43) (by decide)
    clear hV hnf hi
    refine ⟨_, rfl, Or.inl ⟨by rfl, Or.inl ⟨.agg #[.int .i64 9, .string ⟨#[97]⟩, .string so], wc, ?_, rfl, (Below.refl _ _)⟩⟩⟩
    (try simp only [putF, List.getD_cons_succ, List.getD_cons_zero, Go.Act.put, sTA, sCZ, sCS, h10])
    go_simp
    try rfl
   ·have h8 : (vals 8) = .agg #[.int .i64 6, .string ⟨#[97]⟩, .string ⟨#[]⟩] := hV (8, 41) (by decide)
    have h9 : (vals 9) = .agg #[.int .i64 8, .string ⟨#[105, 116]⟩, .string ⟨#[]⟩] := hV (9, 42) (by decide)
    have h11 : (vals 11) = .agg #[.int .i64 9, .string ⟨#[97]⟩, .string so] := hV (11, 44) (by decide)
    clear hV hnf hi
    refine ⟨_, rfl, Or.inl ⟨by rfl, Or.inl ⟨.slice (some ⟨wc.heap.size, 0, none⟩) 3 3, (wc.alloc (.cells #[.int .i64 6, .string ⟨#[97]⟩, .string ⟨#[]⟩, .int .i64 8, .string ⟨#[105, 116]⟩, .string ⟨#[]⟩, .int .i64 9, .string ⟨#[97]⟩, .string so] 41)), ?_, ⟨_, rfl, RowTo.whole wc #[.int .i64 6, .string ⟨#[97]⟩, .string ⟨#[]⟩, .int .i64 8, .string ⟨#[105, 116]⟩, .string ⟨#[]⟩, .int .i64 9, .string ⟨#[97]⟩, .string so] 41⟩, ((Below.refl _ _).alloc (nL _) _)⟩⟩⟩
    (try simp only [putF, List.getD_cons_succ, List.getD_cons_zero, Go.Act.put, sTA, sCZ, sCS, h8, h9, h11])
    go_simp
    try rfl
   ·have h7 : (vals 7) = .func (.func 20) #[] #[] := hV (7, 40) (by decide)
    have h12 : ∃ g, (vals 12) = .slice (some ⟨g, 0, none⟩) 3 3 ∧ RowTo wc g 41 9 ((skB so).flatMap rqV) := hV (12, 45) (by decide)
    clear hV hnf hi
    obtain ⟨g, eg, hrow⟩ := h12
    refine ⟨_, rfl, Or.inl ⟨by rfl, Or.inr ⟨20, #[.int .i64 1, .slice (some ⟨g, 0, none⟩) 3 3], ?_, ?_⟩⟩⟩
    ·(try simp only [putF, List.getD_cons_succ, List.getD_cons_zero, Go.Act.put, sTA, sCZ, sCS, h7, eg])
     go_simp
     try rfl
    ·refine (skAct_any 1 (skB so) g 9 wc hrow (skB_ok HO.out) (by show 3 ≤ 10; omega) ((HTW.out.wo.below (hR.mono (nL _))))).mono ?_
     rintro e w' ⟨rfl, hb⟩
     exact ⟨_, rfl, rfl, hb⟩
   ·clear hV hnf hi
    refine ⟨_, rfl, Or.inl ⟨by rfl, Or.inl ⟨.func (.func 20) #[] #[], wc, ?_, rfl, (Below.refl _ _)⟩⟩⟩
    (try simp only [putF, List.getD_cons_succ, List.getD_cons_zero, Go.Act.put, sTA, sCZ, sCS])
    go_simp
    try rfl
   ·clear hV hnf hi
    have qy0 := (hR.cell (p := ⟨w2.heap.size + 1, 0, none⟩) hyl).trans y0
    have qy1 := (hR.cell (p := ⟨w2.heap.size + 1, 1, none⟩) hyl).trans y1
    have qy2 := (hR.cell (p := ⟨w2.heap.size + 1, 2, none⟩) hyl).trans y2
    refine ⟨_, rfl, Or.inl ⟨by rfl, Or.inl ⟨.agg #[.int .i64 6, .string ⟨#[97]⟩, .string ⟨#[]⟩], wc, ?_, rfl, (Below.refl _ _)⟩⟩⟩
    (try simp only [putF, List.getD_cons_succ, List.getD_cons_zero, Go.Act.put, sTA, sCZ, sCS])
    go_simp
    try rfl
   ·clear hV hnf hi
    have qz0 := (hR.cell (p := ⟨w2.heap.size + 1 + 1, 0, none⟩) hzl).trans z0
    have qz1 := (hR.cell (p := ⟨w2.heap.size + 1 + 1, 1, none⟩) hzl).trans z1
    have qz2 := (hR.cell (p := ⟨w2.heap.size + 1 + 1, 2, none⟩) hzl).trans z2
    refine ⟨_, rfl, Or.inl ⟨by rfl, Or.inl ⟨.agg #[.int .i64 8, .string ⟨#[105, 116]⟩, .string ⟨#[]⟩], wc, ?_, rfl, (Below.refl _ _)⟩⟩⟩
    (try simp only [putF, List.getD_cons_succ, List.getD_cons_zero, Go.Act.put, sTA, sCZ, sCS])
    go_simp
    try rfl
   ·have h15 : (vals 15) = .agg #[.int .i64 6, .string ⟨#[97]⟩, .string ⟨#[]⟩] := hV (15, 48) (by decide)
    have h16 : (vals 16) = .agg #[.int .i64 8, .string ⟨#[105, 116]⟩, .string ⟨#[]⟩] := hV (16, 49) (by decide)
    clear hV hnf hi
    refine ⟨_, rfl, Or.inl ⟨by rfl, Or.inl ⟨.slice (some ⟨wc.heap.size, 0, none⟩) 2 2, (wc.alloc (.cells #[.int .i64 6, .string ⟨#[97]⟩, .string ⟨#[]⟩, .int .i64 8, .string ⟨#[105, 116]⟩, .string ⟨#[]⟩] 41)), ?_, ⟨_, rfl, RowTo.whole wc #[.int .i64 6, .string ⟨#[97]⟩, .string ⟨#[]⟩, .int .i64 8, .string ⟨#[105, 116]⟩, .string ⟨#[]⟩] 41⟩, ((Below.refl _ _).alloc (nL _) _)⟩⟩⟩
    (try simp only [putF, List.getD_cons_succ, List.getD_cons_zero, Go.Act.put, sTA, sCZ, sCS, h15, h16])
    go_simp
    try rfl
   ·have h14 : (vals 14) = .func (.func 20) #[] #[] := hV (14, 47) (by decide)
    have h17 : ∃ g, (vals 17) = .slice (some ⟨g, 0, none⟩) 2 2 ∧ RowTo wc g 41 6 (skC.flatMap rqV) := hV (17, 50) (by decide)
    clear hV hnf hi
    obtain ⟨g, eg, hrow⟩ := h17
    refine ⟨_, rfl, Or.inl ⟨by rfl, Or.inr ⟨20, #[.int .i64 0, .slice (some ⟨g, 0, none⟩) 2 2], ?_, ?_⟩⟩⟩
    ·(try simp only [putF, List.getD_cons_succ, List.getD_cons_zero, Go.Act.put, sTA, sCZ, sCS, h14, eg])
     go_simp
     try rfl
    ·refine (skAct_any 0 skC g 6 wc hrow skC_ok (by show 2 ≤ 10; omega) ((HTW.out.wo.below (hR.mono (nL _))))).mono ?_
     rintro e w' ⟨rfl, hb⟩
     exact ⟨_, rfl, rfl, hb⟩
   ·clear hV hnf hi
    refine ⟨_, rfl, Or.inl ⟨by rfl, Or.inl ⟨.func (.func 20) #[] #[], wc, ?_, rfl, (Below.refl _ _)⟩⟩⟩
    (try simp only [putF, List.getD_cons_succ, List.getD_cons_zero, Go.Act.put, sTA, sCZ, sCS])
    go_simp
    try rfl
   ·clear hV hnf hi
    have qy0 := (hR.cell (p := ⟨w2.heap.size + 1, 0, none⟩) hyl).trans y0
    have qy1 := (hR.cell (p := ⟨w2.heap.size + 1, 1, none⟩) hyl).trans y1
    have qy2 := (hR.cell (p := ⟨w2.heap.size + 1, 2, none⟩) hyl).trans y2
    refine ⟨_, rfl, Or.inl ⟨by rfl, Or.inl ⟨.agg #[.int .i64 6, .string ⟨#[97]⟩, .string ⟨#[]⟩], wc, ?_, rfl, (Below.refl _ _)⟩⟩⟩
    (try simp only [putF, List.getD_cons_succ, List.getD_cons_zero, Go.Act.put, sTA, sCZ, sCS])
    go_simp
    try rfl
   ·clear hV hnf hi
    have qz0 := (hR.cell (p := ⟨w2.heap.size + 1 + 1, 0, none⟩) hzl).trans z0
    have qz1 := (hR.cell (p := ⟨w2.heap.size + 1 + 1, 1, none⟩) hzl).trans z1
    have qz2 := (hR.cell (p := ⟨w2.heap.size + 1 + 1, 2, none⟩) hzl).trans z2
    refine ⟨_, rfl, Or.inl ⟨by rfl, Or.inl ⟨.agg #[.int .i64 8, .string ⟨#[105, 116]⟩, .string ⟨#[]⟩], wc, ?_, rfl, (Below.refl _ _)⟩⟩⟩
    (try simp only [putF, List.getD_cons_succ, List.getD_cons_zero, Go.Act.put, sTA, sCZ, sCS])
    go_simp
    try rfl
   ·have h20 : (vals 20) = .agg #[.int .i64 6, .string ⟨#[97]⟩, .string ⟨#[]⟩] := hV (20, 53) (by decide)
    have h21 : (vals 21) = .agg #[.int .i64 8, .string ⟨#[105, 116]⟩, .string ⟨#[]⟩] := hV (21, 54) (by decide)
    clear hV hnf hi
    refine ⟨_, rfl, Or.inl ⟨by rfl, Or.inl ⟨.slice (some ⟨wc.heap.size, 0, none⟩) 2 2, (wc.alloc (.cells #[.int .i64 6, .string ⟨#[97]⟩, .string ⟨#[]⟩, .int .i64 8, .string ⟨#[105, 116]⟩, .string ⟨#[]⟩] 41)), ?_, ⟨_, rfl, RowTo.whole wc #[.int .i64 6, .string ⟨#[97]⟩, .string ⟨#[]⟩, .int .i64 8, .string ⟨#[105, 116]⟩, .string ⟨#[]⟩] 41⟩, ((Below.refl _ _).alloc (nL _) _)⟩⟩⟩
    (try simp only [putF, List.getD_cons_succ, List.getD_cons_zero, Go.Act.put, sTA, sCZ, sCS, h20, h21])
    go_simp
    try rfl
   ·have h19 : (vals 19) = .func (.func 20) #[] #[] := hV (19, 52) (by decide)
    have h22 : ∃ g, (vals 22) = .slice (some ⟨g, 0, none⟩) 2 2 ∧ RowTo wc g 41 6 (skC.flatMap rqV) := hV (22, 55) (by decide)
    clear hV hnf hi
    obtain ⟨g, eg, hrow⟩ := h22
    refine ⟨_, rfl, Or.inl ⟨by rfl, Or.inr ⟨20, #[.int .i64 1, .slice (some ⟨g, 0, none⟩) 2 2], ?_, ?_⟩⟩⟩
    ·(try simp only [putF, List.getD_cons_succ, List.getD_cons_zero, Go.Act.put, sTA, sCZ, sCS, h19, eg])
     go_simp
     try rfl
    ·refine (skAct_any 1 skC g 6 wc hrow skC_ok (by show 2 ≤ 10; omega) ((HTW.out.wo.below (hR.mono (nL _))))).mono ?_
     rintro e w' ⟨rfl, hb⟩
     exact ⟨_, rfl, rfl, hb⟩
   ·clear hV hnf hi
    refine ⟨_, rfl, Or.inl ⟨by rfl, Or.inl ⟨.agg #[.int .i64 2, .int .i64 0, .string ⟨#[]⟩], wc, ?_, rfl, (Below.refl _ _)⟩⟩⟩
    (try simp only [putF, List.getD_cons_succ, List.getD_cons_zero, Go.Act.put, sTA, sCZ, sCS])
    go_simp
    try rfl
   ·clear hV hnf hi
    refine ⟨_, rfl, Or.inl ⟨by rfl, Or.inl ⟨.func (.func 20) #[] #[], wc, ?_, rfl, (Below.refl _ _)⟩⟩⟩
    (try simp only [putF, List.getD_cons_succ, List.getD_cons_zero, Go.Act.put, sTA, sCZ, sCS])
    go_simp
    try rfl
   ·clear hV hnf hi
    have qy0 := (hR.cell (p := ⟨w2.heap.size + 1, 0, none⟩) hyl).trans y0
    have qy1 := (hR.cell (p := ⟨w2.heap.size + 1, 1, none⟩) hyl).trans y1
    have qy2 := (hR.cell (p := ⟨w2.heap.size + 1, 2, none⟩) hyl).trans y2
    refine ⟨_, rfl, Or.inl ⟨by rfl, Or.inl ⟨.agg #[.int .i64 6, .string ⟨#[97]⟩, .string ⟨#[]⟩], wc, ?_, rfl, (Below.refl _ _)⟩⟩⟩
    (try simp only [putF, List.getD_cons_succ, List.getD_cons_zero, Go.Act.put, sTA, sCZ, sCS])
    go_simp
    try rfl
   ·clear hV hnf hi
    have qz0 := (hR.cell (p := ⟨w2.heap.size + 1 + 1, 0, none⟩) hzl).trans z0
    have qz1 := (hR.cell (p := ⟨w2.heap.size + 1 + 1, 1, none⟩) hzl).trans z1
    have qz2 := (hR.cell (p := ⟨w2.heap.size + 1 + 1, 2, none⟩) hzl).trans z2
    refine ⟨_, rfl, Or.inl ⟨by rfl, Or.inl ⟨.agg #[.int .i64 8, .string ⟨#[105, 116]⟩, .string ⟨#[]⟩], wc, ?_, rfl, (Below.refl _ _)⟩⟩⟩
    (try simp only [putF, List.getD_cons_succ, List.getD_cons_zero, Go.Act.put, sTA, sCZ, sCS])
    go_simp
    try rfl
   ·have h26 : (vals 26) = .agg #[.int .i64 6, .string ⟨#[97]⟩, .string ⟨#[]⟩] := hV (26, 59) (by decide)
    have h27 : (vals 27) = .agg #[.int .i64 8, .string ⟨#[105, 116]⟩, .string ⟨#[]⟩] := hV (27, 60) (by decide)
    clear hV hnf hi
    refine ⟨_, rfl, Or.inl ⟨by rfl, Or.inl ⟨.slice (some ⟨wc.heap.size, 0, none⟩) 2 2, (wc.alloc (.cells #[.int .i64 6, .string ⟨#[97]⟩, .string ⟨#[]⟩, .int .i64 8, .string ⟨#[105, 116]⟩, .string ⟨#[]⟩] 41)), ?_, ⟨_, rfl, RowTo.whole wc #[.int .i64 6, .string ⟨#[97]⟩, .string ⟨#[]⟩, .int .i64 8, .string ⟨#[105, 116]⟩, .string ⟨#[]⟩] 41⟩, ((Below.refl _ _).alloc (nL _) _)⟩⟩⟩
    (try simp only [putF, List.getD_cons_succ, List.getD_cons_zero, Go.Act.put, sTA, sCZ, sCS, h26, h27])
    go_simp
    try rfl
   ·have h25 : (vals 25) = .func (.func 20) #[] #[] := hV (25, 58) (by decide)
    have h28 : ∃ g, (vals 28) = .slice (some ⟨g, 0, none⟩) 2 2 ∧ RowTo wc g 41 6 (skC.flatMap rqV) := hV (28, 61) (by decide)
    clear hV hnf hi
    obtain ⟨g, eg, hrow⟩ := h28
    refine ⟨_, rfl, Or.inl ⟨by rfl, Or.inr ⟨20, #[.int .i64 0, .slice (some ⟨g, 0, none⟩) 2 2], ?_, ?_⟩⟩⟩
    ·(try simp only [putF, List.getD_cons_succ, List.getD_cons_zero, Go.Act.put, sTA, sCZ, sCS, h25, eg])
     go_simp
     try rfl
    ·refine (skAct_any 0 skC g 6 wc hrow skC_ok (by show 2 ≤ 10; omega) ((HTW.out.wo.below (hR.mono (nL _))))).mono ?_
     rintro e w' ⟨rfl, hb⟩
     exact ⟨_, rfl, rfl, hb⟩
   ·have h6 : (vals 6) = .agg #[.int .i64 1, .int .i64 0, .string (catQ ((skA sv).map msgR))] := hV (6, 39) (by decide)
    have h13 : (vals 13) = .agg #[.int .i64 1, .int .i64 1, .string (catQ ((skB so).map msgR))] := hV (13, 46) (by decide)
    have h18 : (vals 18) = .agg #[.int .i64 1, .int .i64 0, .string (catQ (skC.map msgR))] := hV (18, 51) (by decide)
    have h23 : (vals 23) = .agg #[.int .i64 1, .int .i64 1, .string (catQ (skC.map msgR))] := hV (23, 56) (by decide)
    have h24 : (vals 24) = .agg #[.int .i64 2, .int .i64 0, .string ⟨#[]⟩] := hV (24, 57) (by decide)
    have h29 : (vals 29) = .agg #[.int .i64 1, .int .i64 0, .string (catQ (skC.map msgR))] := hV (29, 62) (by decide)
    clear hV hnf hi
    refine ⟨_, rfl, Or.inl ⟨by rfl, Or.inl ⟨.slice (some ⟨wc.heap.size, 0, none⟩) 6 6, (wc.alloc (.cells #[.int .i64 1, .int .i64 0, .string (catQ ((skA sv).map msgR)), .int .i64 1, .int .i64 1, .string (catQ ((skB so).map msgR)), .int .i64 1, .int .i64 0, .string (catQ (skC.map msgR)), .int .i64 1, .int .i64 1, .string (catQ (skC.map msgR)), .int .i64 2, .int .i64 0, .string ⟨#[]⟩, .int .i64 1, .int .i64 0, .string (catQ (skC.map msgR))] 54)), ?_, (Sl.alst (g := some wc.heap.size) (al := skActs sv so) ⟨rfl, .inr ⟨_, 0, 6, 18, rfl, rfl, nL _, (RowTo.whole wc #[.int .i64 1, .int .i64 0, .string (catQ ((skA sv).map msgR)), .int .i64 1, .int .i64 1, .string (catQ ((skB so).map msgR)), .int .i64 1, .int .i64 0, .string (catQ (skC.map msgR)), .int .i64 1, .int .i64 1, .string (catQ (skC.map msgR)), .int .i64 2, .int .i64 0, .string ⟨#[]⟩, .int .i64 1, .int .i64 0, .string (catQ (skC.map msgR))] 54).front 0, .inr rfl, fun j hj => by rw [Nat.zero_add]; exact (RowTo.whole wc #[.int .i64 1, .int .i64 0, .string (catQ ((skA sv).map msgR)), .int .i64 1, .int .i64 1, .string (catQ ((skB so).map msgR)), .int .i64 1, .int .i64 0, .string (catQ (skC.map msgR)), .int .i64 1, .int .i64 1, .string (catQ (skC.map msgR)), .int .i64 2, .int .i64 0, .string ⟨#[]⟩, .int .i64 1, .int .i64 0, .string (catQ (skC.map msgR))] 54).cell hj⟩⟩ (show 6 * 32 ≤ _ by omega) (fun a ha => Nat.le_trans (HAS.out a ha) (by omega))), ((Below.refl _ _).alloc (nL _) _)⟩⟩⟩
    (try simp only [putF, List.getD_cons_succ, List.getD_cons_zero, Go.Act.put, sTA, sCZ, sCS, h6, h13, h18, h23, h24, h29])
    go_simp
    try rfl
   ·have h0 : (vals 0) = .agg #[.int .i64 2, .int .i64 1] := hV (0, 33) (by decide)
    have h30 : ALst wc wc.heap.size (vals 30) (skActs sv so) := hV (30, 63) (by decide)
    clear hV hnf hi
    refine ⟨_, rfl, Or.inl ⟨by rfl, Or.inr ⟨7, #[.agg #[.int .i64 2, .int .i64 1], vals 30], ?_, ?_⟩⟩⟩
    ·(try simp only [putF, List.getD_cons_succ, List.getD_cons_zero, Go.Act.put, sTA, sCZ, sCS, h0])
     go_simp
     try rfl
    ·refine (HRUN.out _ wc h30 hR).mono ?_
     rintro e w' ⟨v1, v2, v3, rfl, ho, hb⟩
     exact ⟨_, rfl, ⟨v1, v2, v3, rfl, ho⟩, hb⟩
   ·have h31 : ∃ v1 v2 v3, (vals 31) = .tuple #[.agg #[v1, v2, v3], .int .i64 0] ∧ OutV wc v1 v2 v3 m1.sent m1.deeds m1.e.w.rows := hV (31, 64) (by decide)
    clear hV hnf hi
    refine ⟨_, rfl, Or.inl ⟨by rfl, Or.inl ⟨(vals 31), wc, ?_, h31, (Below.refl _ _)⟩⟩⟩
    (try simp only [putF, List.getD_cons_succ, List.getD_cons_zero, Go.Act.put, sTA, sCZ, sCS])
    go_simp
    try rfl
   ·have h32 : ∃ v1 v2 v3, (vals 32) = .tuple #[.agg #[v1, v2, v3], .int .i64 0] ∧ OutV wc v1 v2 v3 m1.sent m1.deeds m1.e.w.rows := hV (32, 32) (by decide)
    clear hV hnf hi
    obtain ⟨v1, v2, v3, e7, ho⟩ := h32
    refine ⟨_, rfl, Or.inl ⟨by rfl, Or.inl ⟨.agg #[v1, v2, v3], wc, ?_, ⟨v1, v2, v3, rfl, ho⟩, (Below.refl _ _)⟩⟩⟩
    (try simp only [putF, List.getD_cons_succ, List.getD_cons_zero, Go.Act.put, sTA, sCZ, sCS, e7])
    go_simp
    try rfl
   ·exact absurd (by decide) hnf
   ·clear hV hnf hi
    refine ⟨_, rfl, Or.inl ⟨by rfl, Or.inl ⟨.pointer (some ⟨wc.heap.size, 0, none⟩), (wc.alloc (.cells #[.slice none 0 0, .slice none 0 0, .slice none 0 0] 29)), ?_, ⟨_, rfl, hR.size, RowTo.whole wc _ _⟩, ((Below.refl _ _).alloc (nL _) _)⟩⟩⟩
    (try simp only [putF, List.getD_cons_succ, List.getD_cons_zero, Go.Act.put, sTA, sCZ, sCS])
    go_simp
    try rfl
   ·exact absurd hi (by simp)
  case aof =>
   intro i hi vals wc hR hV
   obtain rfl := List.mem_singleton.1 hi
   ·have h32 : ∃ v1 v2 v3, (vals 32) = .tuple #[.agg #[v1, v2, v3], .int .i64 0] ∧ OutV wc v1 v2 v3 m1.sent m1.deeds m1.e.w.rows := hV (32, 32) (by decide)
    clear hV hi
    obtain ⟨v1, v2, v3, e7, ho⟩ := h32
    refine ⟨_, .int .i64 0, rfl, by rfl, fun w' => ?_, rfl⟩
    (try simp only [putF, List.getD_cons_succ, List.getD_cons_zero, Go.Act.put, sTA, sCZ, sCS, e7])
    go_simp
    try rfl
  case afi =>
   intro vals wf hR hV
   have hS := True.intro
   have f33 : ∃ v1 v2 v3, (vals 33) = .agg #[v1, v2, v3] ∧ OutV wf v1 v2 v3 m1.sent m1.deeds m1.e.w.rows := hV 33 (by decide) (fun k hk => by simp at hk)
   have f34 : (vals 34) = .int .i64 0 := hV 34 (by decide) (fun k hk => by simp at hk)
   have f35 : ∃ b, (vals 35) = .pointer (some ⟨b, 0, none⟩) ∧ W.heap.size ≤ b ∧ RowTo wf b 29 3 [.slice none 0 0, .slice none 0 0, .slice none 0 0] := hV 35 (by decide) (fun k hk => by simp at hk)
   clear hV
   obtain ⟨v1, v2, v3, eo, hO⟩ := f33
   obtain ⟨bO, ep, hlo, hY0⟩ := f35
   obtain ⟨B1, b1, rfl, _⟩ := hO.s.form
   obtain ⟨B2, b2, rfl, _⟩ := hO.d.form
   obtain ⟨B3, b3, rfl, _⟩ := hO.r.form
   (try simp only [putF, List.getD_cons_succ, List.getD_cons_zero, Go.Act.put, sTA, sCZ, sCS, eo, ep, f34])
   obtain ⟨r0, r1, r2⟩ := cells3 hY0
   have g0 := hY0.frozen 0
   have g1 := hY0.frozen 1
   have g2 := hY0.frozen 2
   clear x0 x1 hxl y0 y1 y2 hyl z0 z1 z2 hzl
   have hk8 : ∀ b', b' ≠ bO → (((wf.setCell ⟨bO, 0, none⟩ (.slice B1 m1.sent.length b1)).setCell ⟨bO, 1, none⟩ (.slice B2 m1.deeds.length b2)).setCell ⟨bO, 2, none⟩ (.slice B3 m1.e.w.rows.length b3)).heap[b']? = wf.heap[b']? := fun b' hb => by rw [Below.heap_setCell _ _ _ _ hb, Below.heap_setCell _ _ _ _ hb, Below.heap_setCell _ _ _ _ hb]
   have hz8 : (((wf.setCell ⟨bO, 0, none⟩ (.slice B1 m1.sent.length b1)).setCell ⟨bO, 1, none⟩ (.slice B2 m1.deeds.length b2)).setCell ⟨bO, 2, none⟩ (.slice B3 m1.e.w.rows.length b3)).heap.size = wf.heap.size := by simp [World.setCell]
   have HO8 := jD (hO.off (slOnly3 hY0) hz8 hk8)
   have HY8 := jD (hY0.set3 (.slice B1 m1.sent.length b1) (.slice B2 m1.deeds.length b2) (.slice B3 m1.e.w.rows.length b3))
   have HU8 := jD (bel_set3 hR hlo (.slice B1 m1.sent.length b1) (.slice B2 m1.deeds.length b2) (.slice B3 m1.e.w.rows.length b3))
   clear hk8 hz8 hO hY0 hR
   refine wpAnyZ_one (i := 36) rfl rfl (by kernel_rfl) (fun K hK => ?_)
   (try simp only [gTA, gCZ, gCS])
   go_simp
   have hS2 := True.intro
   refine hK.out _ _ hS2 ?_
   clear hK K hS
   have hS := hS2
   clear hS2
   (try simp only [gTA, gCZ, gCS, Act.put, sTA, sCZ, sCS])
   obtain ⟨W8, HW8⟩ : ∃ u, Hid ((((wf.setCell ⟨bO, 0, none⟩ (.slice B1 m1.sent.length b1)).setCell ⟨bO, 1, none⟩ (.slice B2 m1.deeds.length b2)).setCell ⟨bO, 2, none⟩ (.slice B3 m1.e.w.rows.length b3)) = u) := ⟨_, jD rfl⟩
   rw [HW8.out] at HO8 HY8 HU8 ⊢
   clear HW8 r0 r1 r2 g0 g1 g2 hlo
   refine wpAnyZ_last rfl rfl (by kernel_rfl) (by kernel_rfl) (fun K hK => ?_)
   (try simp only [gTA, gCZ, gCS])
   go_simp
   refine hK.out _ _ ?_
   clear hK K
   (try simp only [gTA, gCZ, gCS, Act.put, sTA, sCZ, sCS])
   have HB8 := jD (bel_add' HK.out.bel HU8.out HK.out.bel.size)
   clear HK HU8 HRUN HAS HE HTW
   have h6a : 0 < m1.sent.length := by rw [HS6.out]; omega
   have h6b : 1 < m1.sent.length := by rw [HS6.out]; omega
   have hsl : ((m1.sent.length : Int) != 6) = false := by rw [HS6.out]; rfl
   obtain ⟨q0, u0, rfl, hq0, c0⟩ := HO8.out.s.pt h6a
   obtain ⟨q1, u1, hv1, hq1, c1⟩ := HO8.out.s.pt h6b
   injection hv1 with hv1
   injection hv1 with hv1 hu1
   subst hv1 hu1
   have e0 : m1.sent[0] = catM [tIok, tIok, tIeq sv, tIeq sv, tInone, tIprep] := by have h := HPP.out.1; rw [List.getD_eq_getElem?_getD, List.getElem?_eq_getElem h6a] at h; exact h
   have e1 : m1.sent[1] = catM [tInone, tIprep, tIok, tIeq so, tIprep] := by have h := HPP.out.2; rw [List.getD_eq_getElem?_getD, List.getElem?_eq_getElem h6b] at h; exact h
   rw [e0] at c0
   rw [e1] at c1
   simp only [Nat.add_zero] at c0
   have h6I : (1 : Int) < (m1.sent.length : Int) := by omega
   have hts : ∀ t ∈ [tIok, tIok, tIeq sv, tIeq sv, tInone, tIprep], t.size ≤ 200 := fun t ht => by
    have hz := HZ.out
    have he : (tIeq sv).size ≤ 20 := by show ((⟨#[73, 61]⟩ : ByteArray) ++ sv).size ≤ 20; rw [ByteArray.size_append]; show 2 + sv.size ≤ 20; omega
    simp only [List.mem_cons, List.not_mem_nil, or_false] at ht
    rcases ht with rfl | rfl | rfl | rfl | rfl | rfl
    all_goals first | (exact Nat.le_trans he (by omega)) | decide
   have HT0 := jD hts
   clear hts
   have hts : ∀ t ∈ [tInone, tIprep, tIok, tIeq so, tIprep], t.size ≤ 200 := fun t ht => by
    have hz := HZ.out
    have he : (tIeq so).size ≤ 20 := by show ((⟨#[73, 61]⟩ : ByteArray) ++ so).size ≤ 20; rw [ByteArray.size_append]; show 2 + so.size ≤ 20; omega
    simp only [List.mem_cons, List.not_mem_nil, or_false] at ht
    rcases ht with rfl | rfl | rfl | rfl | rfl
    all_goals first | (exact Nat.le_trans he (by omega)) | decide
   have HT1 := jD hts
   clear hts
   have HA0 := jD (fun wc => answers_any [tIok, tIok, tIeq sv, tIeq sv, tInone, tIprep] wc HT0.out (by simp))
   have HA1 := jD (fun wc => answers_any [tInone, tIprep, tIok, tIeq so, tIprep] wc HT1.out (by simp))
   generalize catM [tIok, tIok, tIeq sv, tIeq sv, tInone, tIprep] = s0 at *
   generalize catM [tInone, tIprep, tIok, tIeq so, tIprep] = s1 at *
   have HC1 := jD (And.intro c1 hq0)
   have hs1 : ¬ (9223372036854775807 < 2 + sv.size) := by have := HZ.out; omega
   have hs2 : ¬ (9223372036854775807 < 2 + so.size) := by have := HZ.out; omega
   clear e0 e1 HPP c1
   obtain ⟨p0, p1, p2⟩ := cells3 HY8.out
   have pl := HY8.out.lt
   go_wp2_with fail
   refine (HA0.out _).mono ?_
   rintro e8 wA ⟨va, rfl, hoA, hbA⟩
   have HYA := jD (HY8.out.below hbA HY8.out.lt)
   have c1 := (hbA.cell (p := ⟨q0, u0 + 1, none⟩) HC1.out.2).trans HC1.out.1
   have hqA : q0 < wA.heap.size := Nat.lt_of_lt_of_le HC1.out.2 hbA.size
   have HOA := jD hoA
   have HBA := jD (bel_add' HB8.out hbA HB8.out.size)
   clear hbA hoA p0 p1 p2 pl HY8 HC1 c0 hq0 hq1 HA0 HB8
   obtain ⟨p0, p1, p2⟩ := cells3 HYA.out
   have pl := HYA.out.lt
   go_wp2_with fail
   refine (HA1.out _).mono ?_
   rintro e9 wB ⟨vb, rfl, hoB, hbB⟩
   have HLA := jD (HOA.out.below hbB)
   have HOB := jD hoB
   have HBB := jD (bel_add' HBA.out hbB HBA.out.size)
   clear hbB hoB p0 p1 p2 pl c1 hqA HYA HOA HBA HA1
   have n1 := (Below.refl wB.heap.size wB).alloc (nL _) (.cells #[.string ⟨#[73, 111, 107]⟩, .string ⟨#[73, 111, 107]⟩, .string (⟨#[73, 61]⟩ ++ sv), .string (⟨#[73, 61]⟩ ++ sv), .string ⟨#[73, 110, 111, 110, 101]⟩, .string ⟨#[73, 33, 110, 111, 116, 32, 112, 114, 101, 112, 97, 114, 101, 100]⟩] 9)
   have HE0 := jD (And.intro ((HLA.out.below n1).lst (fun t ht => Nat.le_trans (HT0.out t ht) (by omega)) (by simp)) (sk_tlst (l := [tIok, tIok, tIeq sv, tIeq sv, tInone, tIprep]) (RowTo.whole wB #[.string ⟨#[73, 111, 107]⟩, .string ⟨#[73, 111, 107]⟩, .string (⟨#[73, 61]⟩ ++ sv), .string (⟨#[73, 61]⟩ ++ sv), .string ⟨#[73, 110, 111, 110, 101]⟩, .string ⟨#[73, 33, 110, 111, 116, 32, 112, 114, 101, 112, 97, 114, 101, 100]⟩] 9) (fun t ht => Nat.le_trans (HT0.out t ht) (by omega)) (by simp)))
   have HOB1 := jD (HOB.out.below n1)
   have HBB1 := jD (bel_add' HBB.out n1 HBB.out.size)
   clear n1 HLA HOB HBB
   obtain ⟨Aa, ca, rfl, _⟩ := HE0.out.1.form
   obtain ⟨Ab, cb, rfl, _⟩ := HOB1.out.shape
   go_wp2_with fail
   refine (equalS_same _ _ [tIok, tIok, tIeq sv, tIeq sv, tInone, tIprep] _ _ HE0.out.1 HE0.out.2).mono ?_
   rintro e10 wC ⟨rfl, k1, rfl⟩
   obtain ⟨wD, HWD⟩ : ∃ u, Hid ((wB.alloc (.cells #[.string ⟨#[73, 111, 107]⟩, .string ⟨#[73, 111, 107]⟩, .string (⟨#[73, 61]⟩ ++ sv), .string (⟨#[73, 61]⟩ ++ sv), .string ⟨#[73, 110, 111, 110, 101]⟩, .string ⟨#[73, 33, 110, 111, 116, 32, 112, 114, 101, 112, 97, 114, 101, 100]⟩] 9)).drewN k1 = u) := ⟨_, jD rfl⟩
   have hnD := below_drewN (Below.refl (wB.alloc (.cells #[.string ⟨#[73, 111, 107]⟩, .string ⟨#[73, 111, 107]⟩, .string (⟨#[73, 61]⟩ ++ sv), .string (⟨#[73, 61]⟩ ++ sv), .string ⟨#[73, 110, 111, 110, 101]⟩, .string ⟨#[73, 33, 110, 111, 116, 32, 112, 114, 101, 112, 97, 114, 101, 100]⟩] 9)).heap.size (wB.alloc (.cells #[.string ⟨#[73, 111, 107]⟩, .string ⟨#[73, 111, 107]⟩, .string (⟨#[73, 61]⟩ ++ sv), .string (⟨#[73, 61]⟩ ++ sv), .string ⟨#[73, 110, 111, 110, 101]⟩, .string ⟨#[73, 33, 110, 111, 116, 32, 112, 114, 101, 112, 97, 114, 101, 100]⟩] 9))) k1
   have HOB2 := jD (HOB1.out.below hnD)
   have HBB2 := jD (bel_add' HBB1.out hnD HBB1.out.size)
   rw [HWD.out] at HOB2 HBB2 ⊢
   clear HWD hnD HOB1 HBB1 HE0
   have n2 := (Below.refl wD.heap.size wD).alloc (nL _) (.cells #[.string ⟨#[73, 110, 111, 110, 101]⟩, .string ⟨#[73, 33, 110, 111, 116, 32, 112, 114, 101, 112, 97, 114, 101, 100]⟩, .string ⟨#[73, 111, 107]⟩, .string (⟨#[73, 61]⟩ ++ so), .string ⟨#[73, 33, 110, 111, 116, 32, 112, 114, 101, 112, 97, 114, 101, 100]⟩] 9)
   have HE1 := jD (And.intro ((HOB2.out.below n2).lst (fun t ht => Nat.le_trans (HT1.out t ht) (by omega)) (by simp)) (sk_tlst (l := [tInone, tIprep, tIok, tIeq so, tIprep]) (RowTo.whole wD #[.string ⟨#[73, 110, 111, 110, 101]⟩, .string ⟨#[73, 33, 110, 111, 116, 32, 112, 114, 101, 112, 97, 114, 101, 100]⟩, .string ⟨#[73, 111, 107]⟩, .string (⟨#[73, 61]⟩ ++ so), .string ⟨#[73, 33, 110, 111, 116, 32, 112, 114, 101, 112, 97, 114, 101, 100]⟩] 9) (fun t ht => Nat.le_trans (HT1.out t ht) (by omega)) (by simp)))
   have HBB3 := jD (bel_add' HBB2.out n2 HBB2.out.size)
   clear n2
   go_wp2_with fail
   refine (equalS_same _ _ [tInone, tIprep, tIok, tIeq so, tIprep] _ _ HE1.out.1 HE1.out.2).mono ?_
   rintro e11 wE ⟨rfl, k2, rfl⟩
   go_wp2
   go_ret
   exact ⟨rfl, below_drewN HBB3.out _⟩
 ·go_wp2_with fail
  rw [HVE.out, HOE.out]
  have a1 := (Below.refl w2.heap.size w2).alloc (nL _) (.cells #[.int .i64 3, .int .i64 1] 23)
  have a2 := (Below.refl _ (w2.alloc (.cells #[.int .i64 3, .int .i64 1] 23))).alloc (nL _) (.cells #[.int .i64 6, .string ⟨#[97]⟩, .string ⟨#[]⟩] 41)
  have a3 := (Below.refl _ ((w2.alloc (.cells #[.int .i64 3, .int .i64 1] 23)).alloc (.cells #[.int .i64 6, .string ⟨#[97]⟩, .string ⟨#[]⟩] 41))).alloc (nL _) (.cells #[.int .i64 8, .string ⟨#[105, 116]⟩, .string ⟨#[]⟩] 41)
  have x1 := RowTo.whole w2 #[.int .i64 3, .int .i64 1] 23
  have x2 := RowTo.whole (w2.alloc (.cells #[.int .i64 3, .int .i64 1] 23)) #[.int .i64 6, .string ⟨#[97]⟩, .string ⟨#[]⟩] 41
  have x3 := RowTo.whole ((w2.alloc (.cells #[.int .i64 3, .int .i64 1] 23)).alloc (.cells #[.int .i64 6, .string ⟨#[97]⟩, .string ⟨#[]⟩] 41)) #[.int .i64 8, .string ⟨#[105, 116]⟩, .string ⟨#[]⟩] 41
  simp only [World.size_alloc] at x2 x3
  have HK := jD (show SkAt w (((w2.alloc (.cells #[.int .i64 3, .int .i64 1] 23)).alloc (.cells #[.int .i64 6, .string ⟨#[97]⟩, .string ⟨#[]⟩] 41)).alloc (.cells #[.int .i64 8, .string ⟨#[105, 116]⟩, .string ⟨#[]⟩] 41)) w2.heap.size (w2.heap.size + 1) (w2.heap.size + 1 + 1) 3 from ⟨(x1.below a2 x1.lt).below a3 (x1.below a2 x1.lt).lt, x2.below a3 x2.lt, x3, bel_add' (bel_add' (bel_add' HB2.out a1 HB2.out.size) a2 (bel_add' HB2.out a1 HB2.out.size).size) a3 (bel_add' (bel_add' HB2.out a1 HB2.out.size) a2 (bel_add' HB2.out a1 HB2.out.size).size).size⟩)
  obtain ⟨W, HW⟩ : ∃ u, Hid ((((w2.alloc (.cells #[.int .i64 3, .int .i64 1] 23)).alloc (.cells #[.int .i64 6, .string ⟨#[97]⟩, .string ⟨#[]⟩] 41)).alloc (.cells #[.int .i64 8, .string ⟨#[105, 116]⟩, .string ⟨#[]⟩] 41)) = u) := ⟨_, jD rfl⟩
  rw [HW.out] at HK ⊢
  clear HW a1 a2 a3 x1 x2 x3 hs1 hs2 hsz1 hsz2 HB2 HVE HOE
  have HTW := jD (HT.out.below HK.out.bel)
  clear HT
  have HE := jD (run_E (mode := 3) (s := 1) (by decide) (show (skActs sv so).length ≤ 300 by show 6 ≤ 300; omega) (skActs_E HV.out HO.out))
  have hpp := kept_pool (mode := 3) (by decide) HV.out HO.out
  have HPP := jD hpp
  have HS6 := jD (ran_sent 3 (n := 1) (by omega) (skActs_E HV.out HO.out))
  clear hpp
  have HAS := jD (skActs_size HV.out HO.out)
  have HRUN := jD (fun (out : Value) (wc : World) (h : ALst wc wc.heap.size out (skActs sv so)) (hb : Below W.heap.size W wc) => (show Calls Tryz.prog 7 #[.agg #[.int .i64 3, .int .i64 1], out] wc (RunPost wc (ranM 3 1 (skActs sv so))) from run_any 3 1 out _ wc h ((HTW.out.below (hb.mono HK.out.bel.size)).up (Nat.le_trans HK.out.bel.size hb.size)) HE.out))
  obtain ⟨x0, x1⟩ := cells2 HK.out.u
  have hxl := HK.out.u.lt
  obtain ⟨y0, y1, y2⟩ := cells3 HK.out.g
  have hyl := HK.out.g.lt
  obtain ⟨z0, z1, z2⟩ := cells3 HK.out.r
  have hzl := HK.out.r.lt
  generalize ranM 3 1 (skActs sv so) = m1 at *
  refine wp_free 37 [34] [] [] [(0, 33), (1, 34), (2, 35), (3, 36), (4, 37), (5, 38), (6, 39), (7, 40), (8, 41), (9, 42), (10, 43), (11, 44), (12, 45), (13, 46), (14, 47), (15, 48), (16, 49), (17, 50), (18, 51), (19, 52), (20, 53), (21, 54), (22, 55), (23, 56), (24, 57), (25, 58), (26, 59), (27, 60), (28, 61), (29, 62), (30, 63), (31, 64), (32, 32), (33, 65), (34, 66), (35, 13)] [[], [], [], [(2, 35)], [], [(3, 36), (4, 37)], [(1, 34), (5, 38)], [], [], [], [], [(10, 43)], [(8, 41), (9, 42), (11, 44)], [(7, 40), (12, 45)], [], [], [], [(15, 48), (16, 49)], [(14, 47), (17, 50)], [], [], [], [(20, 53), (21, 54)], [(19, 52), (22, 55)], [], [], [], [], [(26, 59), (27, 60)], [(25, 58), (28, 61)], [(6, 39), (13, 46), (18, 51), (23, 56), (24, 57), (29, 62)], [(0, 33), (30, 63)], [(31, 64)], [(32, 32)], [(32, 32)], []] (fun i v w => match i with | 0 => v = .agg #[.int .i64 3, .int .i64 1] | 1 => v = .func (.func 20) #[] #[] | 2 => v = .string sv | 3 => v = .agg #[.int .i64 9, .string ⟨#[97]⟩, .string sv] | 4 => v = .agg #[.int .i64 11, .string ⟨#[105, 116]⟩, .string ⟨#[103, 101, 116, 32, 97]⟩] | 5 => ∃ g, v = .slice (some ⟨g, 0, none⟩) 2 2 ∧ RowTo w g 41 6 ((skA sv).flatMap rqV) | 6 => v = .agg #[.int .i64 1, .int .i64 0, .string (catQ ((skA sv).map msgR))] | 7 => v = .func (.func 20) #[] #[] | 8 => v = .agg #[.int .i64 6, .string ⟨#[97]⟩, .string ⟨#[]⟩] | 9 => v = .agg #[.int .i64 8, .string ⟨#[105, 116]⟩, .string ⟨#[]⟩] | 10 => v = .string so | 11 => v = .agg #[.int .i64 9, .string ⟨#[97]⟩, .string so] | 12 => ∃ g, v = .slice (some ⟨g, 0, none⟩) 3 3 ∧ RowTo w g 41 9 ((skB so).flatMap rqV) | 13 => v = .agg #[.int .i64 1, .int .i64 1, .string (catQ ((skB so).map msgR))] | 14 => v = .func (.func 20) #[] #[] | 15 => v = .agg #[.int .i64 6, .string ⟨#[97]⟩, .string ⟨#[]⟩] | 16 => v = .agg #[.int .i64 8, .string ⟨#[105, 116]⟩, .string ⟨#[]⟩] | 17 => ∃ g, v = .slice (some ⟨g, 0, none⟩) 2 2 ∧ RowTo w g 41 6 (skC.flatMap rqV) | 18 => v = .agg #[.int .i64 1, .int .i64 0, .string (catQ (skC.map msgR))] | 19 => v = .func (.func 20) #[] #[] | 20 => v = .agg #[.int .i64 6, .string ⟨#[97]⟩, .string ⟨#[]⟩] | 21 => v = .agg #[.int .i64 8, .string ⟨#[105, 116]⟩, .string ⟨#[]⟩] | 22 => ∃ g, v = .slice (some ⟨g, 0, none⟩) 2 2 ∧ RowTo w g 41 6 (skC.flatMap rqV) | 23 => v = .agg #[.int .i64 1, .int .i64 1, .string (catQ (skC.map msgR))] | 24 => v = .agg #[.int .i64 2, .int .i64 0, .string ⟨#[]⟩] | 25 => v = .func (.func 20) #[] #[] | 26 => v = .agg #[.int .i64 6, .string ⟨#[97]⟩, .string ⟨#[]⟩] | 27 => v = .agg #[.int .i64 8, .string ⟨#[105, 116]⟩, .string ⟨#[]⟩] | 28 => ∃ g, v = .slice (some ⟨g, 0, none⟩) 2 2 ∧ RowTo w g 41 6 (skC.flatMap rqV) | 29 => v = .agg #[.int .i64 1, .int .i64 0, .string (catQ (skC.map msgR))] | 30 => ALst w w.heap.size v (skActs sv so) | 31 => ∃ v1 v2 v3, v = .tuple #[.agg #[v1, v2, v3], .int .i64 0] ∧ OutV w v1 v2 v3 m1.sent m1.deeds m1.e.w.rows | 32 => ∃ v1 v2 v3, v = .tuple #[.agg #[v1, v2, v3], .int .i64 0] ∧ OutV w v1 v2 v3 m1.sent m1.deeds m1.e.w.rows | 33 => ∃ v1 v2 v3, v = .agg #[v1, v2, v3] ∧ OutV w v1 v2 v3 m1.sent m1.deeds m1.e.w.rows | 34 => v = .int .i64 0 | 35 => ∃ b, v = .pointer (some ⟨b, 0, none⟩) ∧ W.heap.size ≤ b ∧ RowTo w b 29 3 [.slice none 0 0, .slice none 0 0, .slice none 0 0] | _ => True) (fun _ w w' => Below w.heap.size w w') (fun wc => Below W.heap.size W wc) 2 (by kernel_rfl) (by rfl) (by kernel_rfl) (fun _ _ _ _ _ h => h) (Below.refl _ _).drew (fun _ _ => Below.refl _ _) ?bmo (fun k w w' h hb => bel_trans h hb) ?bob ?bof ?bfi
  case bmo =>
   intro k i v w w' hk1 hk2 hk3 h hb
   rcases i with _ | _ | _ | _ | _ | _ | _ | _ | _ | _ | _ | _ | _ | _ | _ | _ | _ | _ | _ | _ | _ | _ | _ | _ | _ | _ | _ | _ | _ | _ | _ | _ | _ | _ | _ | _ | i
   ·exact h
   ·exact h
   ·exact h
   ·exact h
   ·exact h
   ·obtain ⟨g, e, hr⟩ := h; exact ⟨g, e, hr.below hb hr.lt⟩
   ·exact h
   ·exact h
   ·exact h
   ·exact h
   ·exact h
   ·exact h
   ·obtain ⟨g, e, hr⟩ := h; exact ⟨g, e, hr.below hb hr.lt⟩
   ·exact h
   ·exact h
   ·exact h
   ·exact h
   ·obtain ⟨g, e, hr⟩ := h; exact ⟨g, e, hr.below hb hr.lt⟩
   ·exact h
   ·exact h
   ·exact h
   ·exact h
   ·obtain ⟨g, e, hr⟩ := h; exact ⟨g, e, hr.below hb hr.lt⟩
   ·exact h
   ·exact h
   ·exact h
   ·exact h
   ·exact h
   ·obtain ⟨g, e, hr⟩ := h; exact ⟨g, e, hr.below hb hr.lt⟩
   ·exact h
   ·exact h.step hb
   ·obtain ⟨v1, v2, v3, e, ho⟩ := h; exact ⟨v1, v2, v3, e, ho.step hb⟩
   ·obtain ⟨v1, v2, v3, e, ho⟩ := h; exact ⟨v1, v2, v3, e, ho.step hb⟩
   ·obtain ⟨v1, v2, v3, e, ho⟩ := h; exact ⟨v1, v2, v3, e, ho.step hb⟩
   ·exact h
   ·obtain ⟨b, e, hlo, hr⟩ := h; exact ⟨b, e, hlo, hr.below hb hr.lt⟩
   ·exact h
  case bob =>
   intro i hi hnf vals wc hR hV
   rcases i with _ | _ | _ | _ | _ | _ | _ | _ | _ | _ | _ | _ | _ | _ | _ | _ | _ | _ | _ | _ | _ | _ | _ | _ | _ | _ | _ | _ | _ | _ | _ | _ | _ | _ | _ | _ | i
   ·clear hV hnf hi
    have qx0 := (hR.cell (p := ⟨w2.heap.size, 0, none⟩) hxl).trans x0
    have qx1 := (hR.cell (p := ⟨w2.heap.size, 1, none⟩) hxl).trans x1
    refine ⟨_, rfl, Or.inl ⟨by rfl, Or.inl ⟨.agg #[.int .i64 3, .int .i64 1], wc, ?_, rfl, (Below.refl _ _)⟩⟩⟩
    (try simp only [putF, List.getD_cons_succ, List.getD_cons_zero, Go.Act.put, sTA, sCZ, sCS])
    go_simp
    try rfl
   ·clear hV hnf hi
    refine ⟨_, rfl, Or.inl ⟨by rfl, Or.inl ⟨.func (.func 20) #[] #[], wc, ?_, rfl, (Below.refl _ _)⟩⟩⟩
    (try simp only [putF, List.getD_cons_succ, List.getD_cons_zero, Go.Act.put, sTA, sCZ, sCS])
    go_simp
    try rfl
   ·clear hV hnf hi
    refine ⟨_, rfl, Or.inl ⟨by rfl, Or.inl ⟨.string sv, wc, ?_, rfl, (Below.refl _ _)⟩⟩⟩
    (try simp only [putF, List.getD_cons_succ, List.getD_cons_zero, Go.Act.put, sTA, sCZ, sCS])
    go_simp
    try rfl
   ·have h2 : (vals 2) = .string sv := hV (2, 35) (by decide)
    clear hV hnf hi
    refine ⟨_, rfl, Or.inl ⟨by rfl, Or.inl ⟨.agg #[.int .i64 9, .string ⟨#[97]⟩, .string sv], wc, ?_, rfl, (Below.refl _ _)⟩⟩⟩
    (try simp only [putF, List.getD_cons_succ, List.getD_cons_zero, Go.Act.put, sTA, sCZ, sCS, h2])
    go_simp
    try rfl
   ·clear hV hnf hi
    refine ⟨_, rfl, Or.inl ⟨by rfl, Or.inl ⟨.agg #[.int .i64 11, .string ⟨#[105, 116]⟩, .string ⟨#[103, 101, 116, 32, 97]⟩], wc, ?_, rfl, (Below.refl _ _)⟩⟩⟩
    (try simp only [putF, List.getD_cons_succ, List.getD_cons_zero, Go.Act.put, sTA, sCZ, sCS])
    go_simp
    try rfl
   ·have h3 : (vals 3) = .agg #[.int .i64 9, .string ⟨#[97]⟩, .string sv] := hV (3, 36) (by decide)
    have h4 : (vals 4) = .agg #[.int .i64 11, .string ⟨#[105, 116]⟩, .string ⟨#[103, 101, 116, 32, 97]⟩] := hV (4, 37) (by decide)
    clear hV hnf hi
    refine ⟨_, rfl, Or.inl ⟨by rfl, Or.inl ⟨.slice (some ⟨wc.heap.size, 0, none⟩) 2 2, (wc.alloc (.cells #[.int .i64 9, .string ⟨#[97]⟩, .string sv, .int .i64 11, .string ⟨#[105, 116]⟩, .string ⟨#[103, 101, 116, 32, 97]⟩] 41)), ?_, ⟨_, rfl, RowTo.whole wc #[.int .i64 9, .string ⟨#[97]⟩, .string sv, .int .i64 11, .string ⟨#[105, 116]⟩, .string ⟨#[103, 101, 116, 32, 97]⟩] 41⟩, ((Below.refl _ _).alloc (nL _) _)⟩⟩⟩
    (try simp only [putF, List.getD_cons_succ, List.getD_cons_zero, Go.Act.put, sTA, sCZ, sCS, h3, h4])
    go_simp
    try rfl
   ·have h1 : (vals 1) = .func (.func 20) #[] #[] := hV (1, 34) (by decide)
    have h5 : ∃ g, (vals 5) = .slice (some ⟨g, 0, none⟩) 2 2 ∧ RowTo wc g 41 6 ((skA sv).flatMap rqV) := hV (5, 38) (by decide)
    clear hV hnf hi
    obtain ⟨g, eg, hrow⟩ := h5
    refine ⟨_, rfl, Or.inl ⟨by rfl, Or.inr ⟨20, #[.int .i64 0, .slice (some ⟨g, 0, none⟩) 2 2], ?_, ?_⟩⟩⟩
    ·(try simp only [putF, List.getD_cons_succ, List.getD_cons_zero, Go.Act.put, sTA, sCZ, sCS, h1, eg])
     go_simp
     try rfl
    ·refine (skAct_any 0 (skA sv) g 6 wc hrow (skA_ok HV.out) (by show 2 ≤ 10; omega) ((HTW.out.wo.below (hR.mono (nL _))))).mono ?_
     rintro e w' ⟨rfl, hb⟩
     exact ⟨_, rfl, rfl, hb⟩
   ·clear hV hnf hi
    refine ⟨_, rfl, Or.inl ⟨by rfl, Or.inl ⟨.func (.func 20) #[] #[], wc, ?_, rfl, (Below.refl _ _)⟩⟩⟩
    (try simp only [putF, List.getD_cons_succ, List.getD_cons_zero, Go.Act.put, sTA, sCZ, sCS])
    go_simp
    try rfl
   ·clear hV hnf hi
    have qy0 := (hR.cell (p := ⟨w2.heap.size + 1, 0, none⟩) hyl).trans y0
    have qy1 := (hR.cell (p := ⟨w2.heap.size + 1, 1, none⟩) hyl).trans y1
    have qy2 := (hR.cell (p := ⟨w2.heap.size + 1, 2, none⟩) hyl).trans y2
    refine ⟨_, rfl, Or.inl ⟨by rfl, Or.inl ⟨.agg #[.int .i64 6, .string ⟨#[97]⟩, .string ⟨#[]⟩], wc, ?_, rfl, (Below.refl _ _)⟩⟩⟩
    (try simp only [putF, List.getD_cons_succ, List.getD_cons_zero, Go.Act.put, sTA, sCZ, sCS])
    go_simp
    try rfl
   ·clear hV hnf hi
    have qz0 := (hR.cell (p := ⟨w2.heap.size + 1 + 1, 0, none⟩) hzl).trans z0
    have qz1 := (hR.cell (p := ⟨w2.heap.size + 1 + 1, 1, none⟩) hzl).trans z1
    have qz2 := (hR.cell (p := ⟨w2.heap.size + 1 + 1, 2, none⟩) hzl).trans z2
    refine ⟨_, rfl, Or.inl ⟨by rfl, Or.inl ⟨.agg #[.int .i64 8, .string ⟨#[105, 116]⟩, .string ⟨#[]⟩], wc, ?_, rfl, (Below.refl _ _)⟩⟩⟩
    (try simp only [putF, List.getD_cons_succ, List.getD_cons_zero, Go.Act.put, sTA, sCZ, sCS])
    go_simp
    try rfl
   ·clear hV hnf hi
    refine ⟨_, rfl, Or.inl ⟨by rfl, Or.inl ⟨.string so, wc, ?_, rfl, (Below.refl _ _)⟩⟩⟩
    (try simp only [putF, List.getD_cons_succ, List.getD_cons_zero, Go.Act.put, sTA, sCZ, sCS])
    go_simp
    try rfl
   ·have h10 : (vals 10) = .string so := hV (10, 43) (by decide)
    clear hV hnf hi
    refine ⟨_, rfl, Or.inl ⟨by rfl, Or.inl ⟨.agg #[.int .i64 9, .string ⟨#[97]⟩, .string so], wc, ?_, rfl, (Below.refl _ _)⟩⟩⟩
    (try simp only [putF, List.getD_cons_succ, List.getD_cons_zero, Go.Act.put, sTA, sCZ, sCS, h10])
    go_simp
    try rfl
   ·have h8 : (vals 8) = .agg #[.int .i64 6, .string ⟨#[97]⟩, .string ⟨#[]⟩] := hV (8, 41) (by decide)
    have h9 : (vals 9) = .agg #[.int .i64 8, .string ⟨#[105, 116]⟩, .string ⟨#[]⟩] := hV (9, 42) (by decide)
    have h11 : (vals 11) = .agg #[.int .i64 9, .string ⟨#[97]⟩, .string so] := hV (11, 44) (by decide)
    clear hV hnf hi
    refine ⟨_, rfl, Or.inl ⟨by rfl, Or.inl ⟨.slice (some ⟨wc.heap.size, 0, none⟩) 3 3, (wc.alloc (.cells #[.int .i64 6, .string ⟨#[97]⟩, .string ⟨#[]⟩, .int .i64 8, .string ⟨#[105, 116]⟩, .string ⟨#[]⟩, .int .i64 9, .string ⟨#[97]⟩, .string so] 41)), ?_, ⟨_, rfl, RowTo.whole wc #[.int .i64 6, .string ⟨#[97]⟩, .string ⟨#[]⟩, .int .i64 8, .string ⟨#[105, 116]⟩, .string ⟨#[]⟩, .int .i64 9, .string ⟨#[97]⟩, .string so] 41⟩, ((Below.refl _ _).alloc (nL _) _)⟩⟩⟩
    (try simp only [putF, List.getD_cons_succ, List.getD_cons_zero, Go.Act.put, sTA, sCZ, sCS, h8, h9, h11])
    go_simp
    try rfl
   ·have h7 : (vals 7) = .func (.func 20) #[] #[] := hV (7, 40) (by decide)
    have h12 : ∃ g, (vals 12) = .slice (some ⟨g, 0, none⟩) 3 3 ∧ RowTo wc g 41 9 ((skB so).flatMap rqV) := hV (12, 45) (by decide)
    clear hV hnf hi
    obtain ⟨g, eg, hrow⟩ := h12
    refine ⟨_, rfl, Or.inl ⟨by rfl, Or.inr ⟨20, #[.int .i64 1, .slice (some ⟨g, 0, none⟩) 3 3], ?_, ?_⟩⟩⟩
    ·(try simp only [putF, List.getD_cons_succ, List.getD_cons_zero, Go.Act.put, sTA, sCZ, sCS, h7, eg])
     go_simp
     try rfl
    ·refine (skAct_any 1 (skB so) g 9 wc hrow (skB_ok HO.out) (by show 3 ≤ 10; omega) ((HTW.out.wo.below (hR.mono (nL _))))).mono ?_
     rintro e w' ⟨rfl, hb⟩
     exact ⟨_, rfl, rfl, hb⟩
   ·clear hV hnf hi
    refine ⟨_, rfl, Or.inl ⟨by rfl, Or.inl ⟨.func (.func 20) #[] #[], wc, ?_, rfl, (Below.refl _ _)⟩⟩⟩
    (try simp only [putF, List.getD_cons_succ, List.getD_cons_zero, Go.Act.put, sTA, sCZ, sCS])
    go_simp
    try rfl
   ·clear hV hnf hi
    have qy0 := (hR.cell (p := ⟨w2.heap.size + 1, 0, none⟩) hyl).trans y0
    have qy1 := (hR.cell (p := ⟨w2.heap.size + 1, 1, none⟩) hyl).trans y1
    have qy2 := (hR.cell (p := ⟨w2.heap.size + 1, 2, none⟩) hyl).trans y2
    refine ⟨_, rfl, Or.inl ⟨by rfl, Or.inl ⟨.agg #[.int .i64 6, .string ⟨#[97]⟩, .string ⟨#[]⟩], wc, ?_, rfl, (Below.refl _ _)⟩⟩⟩
    (try simp only [putF, List.getD_cons_succ, List.getD_cons_zero, Go.Act.put, sTA, sCZ, sCS])
    go_simp
    try rfl
   ·clear hV hnf hi
    have qz0 := (hR.cell (p := ⟨w2.heap.size + 1 + 1, 0, none⟩) hzl).trans z0
    have qz1 := (hR.cell (p := ⟨w2.heap.size + 1 + 1, 1, none⟩) hzl).trans z1
    have qz2 := (hR.cell (p := ⟨w2.heap.size + 1 + 1, 2, none⟩) hzl).trans z2
    refine ⟨_, rfl, Or.inl ⟨by rfl, Or.inl ⟨.agg #[.int .i64 8, .string ⟨#[105, 116]⟩, .string ⟨#[]⟩], wc, ?_, rfl, (Below.refl _ _)⟩⟩⟩
    (try simp only [putF, List.getD_cons_succ, List.getD_cons_zero, Go.Act.put, sTA, sCZ, sCS])
    go_simp
    try rfl
   ·have h15 : (vals 15) = .agg #[.int .i64 6, .string ⟨#[97]⟩, .string ⟨#[]⟩] := hV (15, 48) (by decide)
    have h16 : (vals 16) = .agg #[.int .i64 8, .string ⟨#[105, 116]⟩, .string ⟨#[]⟩] := hV (16, 49) (by decide)
    clear hV hnf hi
    refine ⟨_, rfl, Or.inl ⟨by rfl, Or.inl ⟨.slice (some ⟨wc.heap.size, 0, none⟩) 2 2, (wc.alloc (.cells #[.int .i64 6, .string ⟨#[97]⟩, .string ⟨#[]⟩, .int .i64 8, .string ⟨#[105, 116]⟩, .string ⟨#[]⟩] 41)), ?_, ⟨_, rfl, RowTo.whole wc #[.int .i64 6, .string ⟨#[97]⟩, .string ⟨#[]⟩, .int .i64 8, .string ⟨#[105, 116]⟩, .string ⟨#[]⟩] 41⟩, ((Below.refl _ _).alloc (nL _) _)⟩⟩⟩
    (try simp only [putF, List.getD_cons_succ, List.getD_cons_zero, Go.Act.put, sTA, sCZ, sCS, h15, h16])
    go_simp
    try rfl
   ·have h14 : (vals 14) = .func (.func 20) #[] #[] := hV (14, 47) (by decide)
    have h17 : ∃ g, (vals 17) = .slice (some ⟨g, 0, none⟩) 2 2 ∧ RowTo wc g 41 6 (skC.flatMap rqV) := hV (17, 50) (by decide)
    clear hV hnf hi
    obtain ⟨g, eg, hrow⟩ := h17
    refine ⟨_, rfl, Or.inl ⟨by rfl, Or.inr ⟨20, #[.int .i64 0, .slice (some ⟨g, 0, none⟩) 2 2], ?_, ?_⟩⟩⟩
    ·(try simp only [putF, List.getD_cons_succ, List.getD_cons_zero, Go.Act.put, sTA, sCZ, sCS, h14, eg])
     go_simp
     try rfl
    ·refine (skAct_any 0 skC g 6 wc hrow skC_ok (by show 2 ≤ 10; omega) ((HTW.out.wo.below (hR.mono (nL _))))).mono ?_
     rintro e w' ⟨rfl, hb⟩
     exact ⟨_, rfl, rfl, hb⟩
   ·clear hV hnf hi
    refine ⟨_, rfl, Or.inl ⟨by rfl, Or.inl ⟨.func (.func 20) #[] #[], wc, ?_, rfl, (Below.refl _ _)⟩⟩⟩
    (try simp only [putF, List.getD_cons_succ, List.getD_cons_zero, Go.Act.put, sTA, sCZ, sCS])
    go_simp
    try rfl
   ·clear hV hnf hi
    have qy0 := (hR.cell (p := ⟨w2.heap.size + 1, 0, none⟩) hyl).trans y0
    have qy1 := (hR.cell (p := ⟨w2.heap.size + 1, 1, none⟩) hyl).trans y1
    have qy2 := (hR.cell (p := ⟨w2.heap.size + 1, 2, none⟩) hyl).trans y2
    refine ⟨_, rfl, Or.inl ⟨by rfl, Or.inl ⟨.agg #[.int .i64 6, .string ⟨#[97]⟩, .string ⟨#[]⟩], wc, ?_, rfl, (Below.refl _ _)⟩⟩⟩
    (try simp only [putF, List.getD_cons_succ, List.getD_cons_zero, Go.Act.put, sTA, sCZ, sCS])
    go_simp
    try rfl
   ·clear hV hnf hi
    have qz0 := (hR.cell (p := ⟨w2.heap.size + 1 + 1, 0, none⟩) hzl).trans z0
    have qz1 := (hR.cell (p := ⟨w2.heap.size + 1 + 1, 1, none⟩) hzl).trans z1
    have qz2 := (hR.cell (p := ⟨w2.heap.size + 1 + 1, 2, none⟩) hzl).trans z2
    refine ⟨_, rfl, Or.inl ⟨by rfl, Or.inl ⟨.agg #[.int .i64 8, .string ⟨#[105, 116]⟩, .string ⟨#[]⟩], wc, ?_, rfl, (Below.refl _ _)⟩⟩⟩
    (try simp only [putF, List.getD_cons_succ, List.getD_cons_zero, Go.Act.put, sTA, sCZ, sCS])
    go_simp
    try rfl
   ·have h20 : (vals 20) = .agg #[.int .i64 6, .string ⟨#[97]⟩, .string ⟨#[]⟩] := hV (20, 53) (by decide)
    have h21 : (vals 21) = .agg #[.int .i64 8, .string ⟨#[105, 116]⟩, .string ⟨#[]⟩] := hV (21, 54) (by decide)
    clear hV hnf hi
    refine ⟨_, rfl, Or.inl ⟨by rfl, Or.inl ⟨.slice (some ⟨wc.heap.size, 0, none⟩) 2 2, (wc.alloc (.cells #[.int .i64 6, .string ⟨#[97]⟩, .string ⟨#[]⟩, .int .i64 8, .string ⟨#[105, 116]⟩, .string ⟨#[]⟩] 41)), ?_, ⟨_, rfl, RowTo.whole wc #[.int .i64 6, .string ⟨#[97]⟩, .string ⟨#[]⟩, .int .i64 8, .string ⟨#[105, 116]⟩, .string ⟨#[]⟩] 41⟩, ((Below.refl _ _).alloc (nL _) _)⟩⟩⟩
    (try simp only [putF, List.getD_cons_succ, List.getD_cons_zero, Go.Act.put, sTA, sCZ, sCS, h20, h21])
    go_simp
    try rfl
   ·have h19 : (vals 19) = .func (.func 20) #[] #[] := hV (19, 52) (by decide)
    have h22 : ∃ g, (vals 22) = .slice (some ⟨g, 0, none⟩) 2 2 ∧ RowTo wc g 41 6 (skC.flatMap rqV) := hV (22, 55) (by decide)
    clear hV hnf hi
    obtain ⟨g, eg, hrow⟩ := h22
    refine ⟨_, rfl, Or.inl ⟨by rfl, Or.inr ⟨20, #[.int .i64 1, .slice (some ⟨g, 0, none⟩) 2 2], ?_, ?_⟩⟩⟩
    ·(try simp only [putF, List.getD_cons_succ, List.getD_cons_zero, Go.Act.put, sTA, sCZ, sCS, h19, eg])
     go_simp
     try rfl
    ·refine (skAct_any 1 skC g 6 wc hrow skC_ok (by show 2 ≤ 10; omega) ((HTW.out.wo.below (hR.mono (nL _))))).mono ?_
     rintro e w' ⟨rfl, hb⟩
     exact ⟨_, rfl, rfl, hb⟩
   ·clear hV hnf hi
    refine ⟨_, rfl, Or.inl ⟨by rfl, Or.inl ⟨.agg #[.int .i64 2, .int .i64 0, .string ⟨#[]⟩], wc, ?_, rfl, (Below.refl _ _)⟩⟩⟩
    (try simp only [putF, List.getD_cons_succ, List.getD_cons_zero, Go.Act.put, sTA, sCZ, sCS])
    go_simp
    try rfl
   ·clear hV hnf hi
    refine ⟨_, rfl, Or.inl ⟨by rfl, Or.inl ⟨.func (.func 20) #[] #[], wc, ?_, rfl, (Below.refl _ _)⟩⟩⟩
    (try simp only [putF, List.getD_cons_succ, List.getD_cons_zero, Go.Act.put, sTA, sCZ, sCS])
    go_simp
    try rfl
   ·clear hV hnf hi
    have qy0 := (hR.cell (p := ⟨w2.heap.size + 1, 0, none⟩) hyl).trans y0
    have qy1 := (hR.cell (p := ⟨w2.heap.size + 1, 1, none⟩) hyl).trans y1
    have qy2 := (hR.cell (p := ⟨w2.heap.size + 1, 2, none⟩) hyl).trans y2
    refine ⟨_, rfl, Or.inl ⟨by rfl, Or.inl ⟨.agg #[.int .i64 6, .string ⟨#[97]⟩, .string ⟨#[]⟩], wc, ?_, rfl, (Below.refl _ _)⟩⟩⟩
    (try simp only [putF, List.getD_cons_succ, List.getD_cons_zero, Go.Act.put, sTA, sCZ, sCS])
    go_simp
    try rfl
   ·clear hV hnf hi
    have qz0 := (hR.cell (p := ⟨w2.heap.size + 1 + 1, 0, none⟩) hzl).trans z0
    have qz1 := (hR.cell (p := ⟨w2.heap.size + 1 + 1, 1, none⟩) hzl).trans z1
    have qz2 := (hR.cell (p := ⟨w2.heap.size + 1 + 1, 2, none⟩) hzl).trans z2
    refine ⟨_, rfl, Or.inl ⟨by rfl, Or.inl ⟨.agg #[.int .i64 8, .string ⟨#[105, 116]⟩, .string ⟨#[]⟩], wc, ?_, rfl, (Below.refl _ _)⟩⟩⟩
    (try simp only [putF, List.getD_cons_succ, List.getD_cons_zero, Go.Act.put, sTA, sCZ, sCS])
    go_simp
    try rfl
   ·have h26 : (vals 26) = .agg #[.int .i64 6, .string ⟨#[97]⟩, .string ⟨#[]⟩] := hV (26, 59) (by decide)
    have h27 : (vals 27) = .agg #[.int .i64 8, .string ⟨#[105, 116]⟩, .string ⟨#[]⟩] := hV (27, 60) (by decide)
    clear hV hnf hi
    refine ⟨_, rfl, Or.inl ⟨by rfl, Or.inl ⟨.slice (some ⟨wc.heap.size, 0, none⟩) 2 2, (wc.alloc (.cells #[.int .i64 6, .string ⟨#[97]⟩, .string ⟨#[]⟩, .int .i64 8, .string ⟨#[105, 116]⟩, .string ⟨#[]⟩] 41)), ?_, ⟨_, rfl, RowTo.whole wc #[.int .i64 6, .string ⟨#[97]⟩, .string ⟨#[]⟩, .int .i64 8, .string ⟨#[105, 116]⟩, .string ⟨#[]⟩] 41⟩, ((Below.refl _ _).alloc (nL _) _)⟩⟩⟩
    (try simp only [putF, List.getD_cons_succ, List.getD_cons_zero, Go.Act.put, sTA, sCZ, sCS, h26, h27])
    go_simp
    try rfl
   ·have h25 : (vals 25) = .func (.func 20) #[] #[] := hV (25, 58) (by decide)
    have h28 : ∃ g, (vals 28) = .slice (some ⟨g, 0, none⟩) 2 2 ∧ RowTo wc g 41 6 (skC.flatMap rqV) := hV (28, 61) (by decide)
    clear hV hnf hi
    obtain ⟨g, eg, hrow⟩ := h28
    refine ⟨_, rfl, Or.inl ⟨by rfl, Or.inr ⟨20, #[.int .i64 0, .slice (some ⟨g, 0, none⟩) 2 2], ?_, ?_⟩⟩⟩
    ·(try simp only [putF, List.getD_cons_succ, List.getD_cons_zero, Go.Act.put, sTA, sCZ, sCS, h25, eg])
     go_simp
     try rfl
    ·refine (skAct_any 0 skC g 6 wc hrow skC_ok (by show 2 ≤ 10; omega) ((HTW.out.wo.below (hR.mono (nL _))))).mono ?_
     rintro e w' ⟨rfl, hb⟩
     exact ⟨_, rfl, rfl, hb⟩
   ·have h6 : (vals 6) = .agg #[.int .i64 1, .int .i64 0, .string (catQ ((skA sv).map msgR))] := hV (6, 39) (by decide)
    have h13 : (vals 13) = .agg #[.int .i64 1, .int .i64 1, .string (catQ ((skB so).map msgR))] := hV (13, 46) (by decide)
    have h18 : (vals 18) = .agg #[.int .i64 1, .int .i64 0, .string (catQ (skC.map msgR))] := hV (18, 51) (by decide)
    have h23 : (vals 23) = .agg #[.int .i64 1, .int .i64 1, .string (catQ (skC.map msgR))] := hV (23, 56) (by decide)
    have h24 : (vals 24) = .agg #[.int .i64 2, .int .i64 0, .string ⟨#[]⟩] := hV (24, 57) (by decide)
    have h29 : (vals 29) = .agg #[.int .i64 1, .int .i64 0, .string (catQ (skC.map msgR))] := hV (29, 62) (by decide)
    clear hV hnf hi
    refine ⟨_, rfl, Or.inl ⟨by rfl, Or.inl ⟨.slice (some ⟨wc.heap.size, 0, none⟩) 6 6, (wc.alloc (.cells #[.int .i64 1, .int .i64 0, .string (catQ ((skA sv).map msgR)), .int .i64 1, .int .i64 1, .string (catQ ((skB so).map msgR)), .int .i64 1, .int .i64 0, .string (catQ (skC.map msgR)), .int .i64 1, .int .i64 1, .string (catQ (skC.map msgR)), .int .i64 2, .int .i64 0, .string ⟨#[]⟩, .int .i64 1, .int .i64 0, .string (catQ (skC.map msgR))] 54)), ?_, (Sl.alst (g := some wc.heap.size) (al := skActs sv so) ⟨rfl, .inr ⟨_, 0, 6, 18, rfl, rfl, nL _, (RowTo.whole wc #[.int .i64 1, .int .i64 0, .string (catQ ((skA sv).map msgR)), .int .i64 1, .int .i64 1, .string (catQ ((skB so).map msgR)), .int .i64 1, .int .i64 0, .string (catQ (skC.map msgR)), .int .i64 1, .int .i64 1, .string (catQ (skC.map msgR)), .int .i64 2, .int .i64 0, .string ⟨#[]⟩, .int .i64 1, .int .i64 0, .string (catQ (skC.map msgR))] 54).front 0, .inr rfl, fun j hj => by rw [Nat.zero_add]; exact (RowTo.whole wc #[.int .i64 1, .int .i64 0, .string (catQ ((skA sv).map msgR)), .int .i64 1, .int .i64 1, .string (catQ ((skB so).map msgR)), .int .i64 1, .int .i64 0, .string (catQ (skC.map msgR)), .int .i64 1, .int .i64 1, .string (catQ (skC.map msgR)), .int .i64 2, .int .i64 0, .string ⟨#[]⟩, .int .i64 1, .int .i64 0, .string (catQ (skC.map msgR))] 54).cell hj⟩⟩ (show 6 * 32 ≤ _ by omega) (fun a ha => Nat.le_trans (HAS.out a ha) (by omega))), ((Below.refl _ _).alloc (nL _) _)⟩⟩⟩
    (try simp only [putF, List.getD_cons_succ, List.getD_cons_zero, Go.Act.put, sTA, sCZ, sCS, h6, h13, h18, h23, h24, h29])
    go_simp
    try rfl
   ·have h0 : (vals 0) = .agg #[.int .i64 3, .int .i64 1] := hV (0, 33) (by decide)
    have h30 : ALst wc wc.heap.size (vals 30) (skActs sv so) := hV (30, 63) (by decide)
    clear hV hnf hi
    refine ⟨_, rfl, Or.inl ⟨by rfl, Or.inr ⟨7, #[.agg #[.int .i64 3, .int .i64 1], vals 30], ?_, ?_⟩⟩⟩
    ·(try simp only [putF, List.getD_cons_succ, List.getD_cons_zero, Go.Act.put, sTA, sCZ, sCS, h0])
     go_simp
     try rfl
    ·refine (HRUN.out _ wc h30 hR).mono ?_
     rintro e w' ⟨v1, v2, v3, rfl, ho, hb⟩
     exact ⟨_, rfl, ⟨v1, v2, v3, rfl, ho⟩, hb⟩
   ·have h31 : ∃ v1 v2 v3, (vals 31) = .tuple #[.agg #[v1, v2, v3], .int .i64 0] ∧ OutV wc v1 v2 v3 m1.sent m1.deeds m1.e.w.rows := hV (31, 64) (by decide)
    clear hV hnf hi
    refine ⟨_, rfl, Or.inl ⟨by rfl, Or.inl ⟨(vals 31), wc, ?_, h31, (Below.refl _ _)⟩⟩⟩
    (try simp only [putF, List.getD_cons_succ, List.getD_cons_zero, Go.Act.put, sTA, sCZ, sCS])
    go_simp
    try rfl
   ·have h32 : ∃ v1 v2 v3, (vals 32) = .tuple #[.agg #[v1, v2, v3], .int .i64 0] ∧ OutV wc v1 v2 v3 m1.sent m1.deeds m1.e.w.rows := hV (32, 32) (by decide)
    clear hV hnf hi
    obtain ⟨v1, v2, v3, e7, ho⟩ := h32
    refine ⟨_, rfl, Or.inl ⟨by rfl, Or.inl ⟨.agg #[v1, v2, v3], wc, ?_, ⟨v1, v2, v3, rfl, ho⟩, (Below.refl _ _)⟩⟩⟩
    (try simp only [putF, List.getD_cons_succ, List.getD_cons_zero, Go.Act.put, sTA, sCZ, sCS, e7])
    go_simp
    try rfl
   ·exact absurd (by decide) hnf
   ·clear hV hnf hi
    refine ⟨_, rfl, Or.inl ⟨by rfl, Or.inl ⟨.pointer (some ⟨wc.heap.size, 0, none⟩), (wc.alloc (.cells #[.slice none 0 0, .slice none 0 0, .slice none 0 0] 29)), ?_, ⟨_, rfl, hR.size, RowTo.whole wc _ _⟩, ((Below.refl _ _).alloc (nL _) _)⟩⟩⟩
    (try simp only [putF, List.getD_cons_succ, List.getD_cons_zero, Go.Act.put, sTA, sCZ, sCS])
    go_simp
    try rfl
   ·exact absurd hi (by simp)
  case bof =>
   intro i hi vals wc hR hV
   obtain rfl := List.mem_singleton.1 hi
   ·have h32 : ∃ v1 v2 v3, (vals 32) = .tuple #[.agg #[v1, v2, v3], .int .i64 0] ∧ OutV wc v1 v2 v3 m1.sent m1.deeds m1.e.w.rows := hV (32, 32) (by decide)
    clear hV hi
    obtain ⟨v1, v2, v3, e7, ho⟩ := h32
    refine ⟨_, .int .i64 0, rfl, by rfl, fun w' => ?_, rfl⟩
    (try simp only [putF, List.getD_cons_succ, List.getD_cons_zero, Go.Act.put, sTA, sCZ, sCS, e7])
    go_simp
    try rfl
  case bfi =>
   intro vals wf hR hV
   have hS := True.intro
   have f33 : ∃ v1 v2 v3, (vals 33) = .agg #[v1, v2, v3] ∧ OutV wf v1 v2 v3 m1.sent m1.deeds m1.e.w.rows := hV 33 (by decide) (fun k hk => by simp at hk)
   have f34 : (vals 34) = .int .i64 0 := hV 34 (by decide) (fun k hk => by simp at hk)
   have f35 : ∃ b, (vals 35) = .pointer (some ⟨b, 0, none⟩) ∧ W.heap.size ≤ b ∧ RowTo wf b 29 3 [.slice none 0 0, .slice none 0 0, .slice none 0 0] := hV 35 (by decide) (fun k hk => by simp at hk)
   clear hV
   obtain ⟨v1, v2, v3, eo, hO⟩ := f33
   obtain ⟨bO, ep, hlo, hY0⟩ := f35
   obtain ⟨B1, b1, rfl, _⟩ := hO.s.form
   obtain ⟨B2, b2, rfl, _⟩ := hO.d.form
   obtain ⟨B3, b3, rfl, _⟩ := hO.r.form
   (try simp only [putF, List.getD_cons_succ, List.getD_cons_zero, Go.Act.put, sTA, sCZ, sCS, eo, ep, f34])
   obtain ⟨r0, r1, r2⟩ := cells3 hY0
   have g0 := hY0.frozen 0
   have g1 := hY0.frozen 1
   have g2 := hY0.frozen 2
   clear x0 x1 hxl y0 y1 y2 hyl z0 z1 z2 hzl
   have hk8 : ∀ b', b' ≠ bO → (((wf.setCell ⟨bO, 0, none⟩ (.slice B1 m1.sent.length b1)).setCell ⟨bO, 1, none⟩ (.slice B2 m1.deeds.length b2)).setCell ⟨bO, 2, none⟩ (.slice B3 m1.e.w.rows.length b3)).heap[b']? = wf.heap[b']? := fun b' hb => by rw [Below.heap_setCell _ _ _ _ hb, Below.heap_setCell _ _ _ _ hb, Below.heap_setCell _ _ _ _ hb]
   have hz8 : (((wf.setCell ⟨bO, 0, none⟩ (.slice B1 m1.sent.length b1)).setCell ⟨bO, 1, none⟩ (.slice B2 m1.deeds.length b2)).setCell ⟨bO, 2, none⟩ (.slice B3 m1.e.w.rows.length b3)).heap.size = wf.heap.size := by simp [World.setCell]
   have HO8 := jD (hO.off (slOnly3 hY0) hz8 hk8)
   have HY8 := jD (hY0.set3 (.slice B1 m1.sent.length b1) (.slice B2 m1.deeds.length b2) (.slice B3 m1.e.w.rows.length b3))
   have HU8 := jD (bel_set3 hR hlo (.slice B1 m1.sent.length b1) (.slice B2 m1.deeds.length b2) (.slice B3 m1.e.w.rows.length b3))
   clear hk8 hz8 hO hY0 hR
   refine wpAnyZ_one (i := 36) rfl rfl (by kernel_rfl) (fun K hK => ?_)
   (try simp only [gTA, gCZ, gCS])
   go_simp
   have hS2 := True.intro
   refine hK.out _ _ hS2 ?_
   clear hK K hS
   have hS := hS2
   clear hS2
   (try simp only [gTA, gCZ, gCS, Act.put, sTA, sCZ, sCS])
   obtain ⟨W8, HW8⟩ : ∃ u, Hid ((((wf.setCell ⟨bO, 0, none⟩ (.slice B1 m1.sent.length b1)).setCell ⟨bO, 1, none⟩ (.slice B2 m1.deeds.length b2)).setCell ⟨bO, 2, none⟩ (.slice B3 m1.e.w.rows.length b3)) = u) := ⟨_, jD rfl⟩
   rw [HW8.out] at HO8 HY8 HU8 ⊢
   clear HW8 r0 r1 r2 g0 g1 g2 hlo
   refine wpAnyZ_last rfl rfl (by kernel_rfl) (by kernel_rfl) (fun K hK => ?_)
   (try simp only [gTA, gCZ, gCS])
   go_simp
   refine hK.out _ _ ?_
   clear hK K
   (try simp only [gTA, gCZ, gCS, Act.put, sTA, sCZ, sCS])
   have HB8 := jD (bel_add' HK.out.bel HU8.out HK.out.bel.size)
   clear HK HU8 HRUN HAS HE HTW
   have h6a : 0 < m1.sent.length := by rw [HS6.out]; omega
   have h6b : 1 < m1.sent.length := by rw [HS6.out]; omega
   have hsl : ((m1.sent.length : Int) != 6) = false := by rw [HS6.out]; rfl
   obtain ⟨q0, u0, rfl, hq0, c0⟩ := HO8.out.s.pt h6a
   obtain ⟨q1, u1, hv1, hq1, c1⟩ := HO8.out.s.pt h6b
   injection hv1 with hv1
   injection hv1 with hv1 hu1
   subst hv1 hu1
   have e0 : m1.sent[0] = catM [tIok, tIok, tIeq sv, tIeq sv, tInone, tIprep] := by have h := HPP.out.1; rw [List.getD_eq_getElem?_getD, List.getElem?_eq_getElem h6a] at h; exact h
   have e1 : m1.sent[1] = catM [tInone, tIprep, tIok, tIeq so, tIprep] := by have h := HPP.out.2; rw [List.getD_eq_getElem?_getD, List.getElem?_eq_getElem h6b] at h; exact h
   rw [e0] at c0
   rw [e1] at c1
   simp only [Nat.add_zero] at c0
   have h6I : (1 : Int) < (m1.sent.length : Int) := by omega
   have hts : ∀ t ∈ [tIok, tIok, tIeq sv, tIeq sv, tInone, tIprep], t.size ≤ 200 := fun t ht => by
    have hz := HZ.out
    have he : (tIeq sv).size ≤ 20 := by show ((⟨#[73, 61]⟩ : ByteArray) ++ sv).size ≤ 20; rw [ByteArray.size_append]; show 2 + sv.size ≤ 20; omega
    simp only [List.mem_cons, List.not_mem_nil, or_false] at ht
    rcases ht with rfl | rfl | rfl | rfl | rfl | rfl
    all_goals first | (exact Nat.le_trans he (by omega)) | decide
   have HT0 := jD hts
   clear hts
   have hts : ∀ t ∈ [tInone, tIprep, tIok, tIeq so, tIprep], t.size ≤ 200 := fun t ht => by
    have hz := HZ.out
    have he : (tIeq so).size ≤ 20 := by show ((⟨#[73, 61]⟩ : ByteArray) ++ so).size ≤ 20; rw [ByteArray.size_append]; show 2 + so.size ≤ 20; omega
    simp only [List.mem_cons, List.not_mem_nil, or_false] at ht
    rcases ht with rfl | rfl | rfl | rfl | rfl
    all_goals first | (exact Nat.le_trans he (by omega)) | decide
   have HT1 := jD hts
   clear hts
   have HA0 := jD (fun wc => answers_any [tIok, tIok, tIeq sv, tIeq sv, tInone, tIprep] wc HT0.out (by simp))
   have HA1 := jD (fun wc => answers_any [tInone, tIprep, tIok, tIeq so, tIprep] wc HT1.out (by simp))
   generalize catM [tIok, tIok, tIeq sv, tIeq sv, tInone, tIprep] = s0 at *
   generalize catM [tInone, tIprep, tIok, tIeq so, tIprep] = s1 at *
   have HC1 := jD (And.intro c1 hq0)
   have hs1 : ¬ (9223372036854775807 < 2 + sv.size) := by have := HZ.out; omega
   have hs2 : ¬ (9223372036854775807 < 2 + so.size) := by have := HZ.out; omega
   clear e0 e1 HPP c1
   obtain ⟨p0, p1, p2⟩ := cells3 HY8.out
   have pl := HY8.out.lt
   go_wp2_with fail
   refine (HA0.out _).mono ?_
   rintro e8 wA ⟨va, rfl, hoA, hbA⟩
   have HYA := jD (HY8.out.below hbA HY8.out.lt)
   have c1 := (hbA.cell (p := ⟨q0, u0 + 1, none⟩) HC1.out.2).trans HC1.out.1
   have hqA : q0 < wA.heap.size := Nat.lt_of_lt_of_le HC1.out.2 hbA.size
   have HOA := jD hoA
   have HBA := jD (bel_add' HB8.out hbA HB8.out.size)
   clear hbA hoA p0 p1 p2 pl HY8 HC1 c0 hq0 hq1 HA0 HB8
   obtain ⟨p0, p1, p2⟩ := cells3 HYA.out
   have pl := HYA.out.lt
   go_wp2_with fail
   refine (HA1.out _).mono ?_
   rintro e9 wB ⟨vb, rfl, hoB, hbB⟩
   have HLA := jD (HOA.out.below hbB)
   have HOB := jD hoB
   have HBB := jD (bel_add' HBA.out hbB HBA.out.size)
   clear hbB hoB p0 p1 p2 pl c1 hqA HYA HOA HBA HA1
   have n1 := (Below.refl wB.heap.size wB).alloc (nL _) (.cells #[.string ⟨#[73, 111, 107]⟩, .string ⟨#[73, 111, 107]⟩, .string (⟨#[73, 61]⟩ ++ sv), .string (⟨#[73, 61]⟩ ++ sv), .string ⟨#[73, 110, 111, 110, 101]⟩, .string ⟨#[73, 33, 110, 111, 116, 32, 112, 114, 101, 112, 97, 114, 101, 100]⟩] 9)
   have HE0 := jD (And.intro ((HLA.out.below n1).lst (fun t ht => Nat.le_trans (HT0.out t ht) (by omega)) (by simp)) (sk_tlst (l := [tIok, tIok, tIeq sv, tIeq sv, tInone, tIprep]) (RowTo.whole wB #[.string ⟨#[73, 111, 107]⟩, .string ⟨#[73, 111, 107]⟩, .string (⟨#[73, 61]⟩ ++ sv), .string (⟨#[73, 61]⟩ ++ sv), .string ⟨#[73, 110, 111, 110, 101]⟩, .string ⟨#[73, 33, 110, 111, 116, 32, 112, 114, 101, 112, 97, 114, 101, 100]⟩] 9) (fun t ht => Nat.le_trans (HT0.out t ht) (by omega)) (by simp)))
   have HOB1 := jD (HOB.out.below n1)
   have HBB1 := jD (bel_add' HBB.out n1 HBB.out.size)
   clear n1 HLA HOB HBB
   obtain ⟨Aa, ca, rfl, _⟩ := HE0.out.1.form
   obtain ⟨Ab, cb, rfl, _⟩ := HOB1.out.shape
   go_wp2_with fail
   refine (equalS_same _ _ [tIok, tIok, tIeq sv, tIeq sv, tInone, tIprep] _ _ HE0.out.1 HE0.out.2).mono ?_
   rintro e10 wC ⟨rfl, k1, rfl⟩
   obtain ⟨wD, HWD⟩ : ∃ u, Hid ((wB.alloc (.cells #[.string ⟨#[73, 111, 107]⟩, .string ⟨#[73, 111, 107]⟩, .string (⟨#[73, 61]⟩ ++ sv), .string (⟨#[73, 61]⟩ ++ sv), .string ⟨#[73, 110, 111, 110, 101]⟩, .string ⟨#[73, 33, 110, 111, 116, 32, 112, 114, 101, 112, 97, 114, 101, 100]⟩] 9)).drewN k1 = u) := ⟨_, jD rfl⟩
   have hnD := below_drewN (Below.refl (wB.alloc (.cells #[.string ⟨#[73, 111, 107]⟩, .string ⟨#[73, 111, 107]⟩, .string (⟨#[73, 61]⟩ ++ sv), .string (⟨#[73, 61]⟩ ++ sv), .string ⟨#[73, 110, 111, 110, 101]⟩, .string ⟨#[73, 33, 110, 111, 116, 32, 112, 114, 101, 112, 97, 114, 101, 100]⟩] 9)).heap.size (wB.alloc (.cells #[.string ⟨#[73, 111, 107]⟩, .string ⟨#[73, 111, 107]⟩, .string (⟨#[73, 61]⟩ ++ sv), .string (⟨#[73, 61]⟩ ++ sv), .string ⟨#[73, 110, 111, 110, 101]⟩, .string ⟨#[73, 33, 110, 111, 116, 32, 112, 114, 101, 112, 97, 114, 101, 100]⟩] 9))) k1
   have HOB2 := jD (HOB1.out.below hnD)
   have HBB2 := jD (bel_add' HBB1.out hnD HBB1.out.size)
   rw [HWD.out] at HOB2 HBB2 ⊢
   clear HWD hnD HOB1 HBB1 HE0
   have n2 := (Below.refl wD.heap.size wD).alloc (nL _) (.cells #[.string ⟨#[73, 110, 111, 110, 101]⟩, .string ⟨#[73, 33, 110, 111, 116, 32, 112, 114, 101, 112, 97, 114, 101, 100]⟩, .string ⟨#[73, 111, 107]⟩, .string (⟨#[73, 61]⟩ ++ so), .string ⟨#[73, 33, 110, 111, 116, 32, 112, 114, 101, 112, 97, 114, 101, 100]⟩] 9)
   have HE1 := jD (And.intro ((HOB2.out.below n2).lst (fun t ht => Nat.le_trans (HT1.out t ht) (by omega)) (by simp)) (sk_tlst (l := [tInone, tIprep, tIok, tIeq so, tIprep]) (RowTo.whole wD #[.string ⟨#[73, 110, 111, 110, 101]⟩, .string ⟨#[73, 33, 110, 111, 116, 32, 112, 114, 101, 112, 97, 114, 101, 100]⟩, .string ⟨#[73, 111, 107]⟩, .string (⟨#[73, 61]⟩ ++ so), .string ⟨#[73, 33, 110, 111, 116, 32, 112, 114, 101, 112, 97, 114, 101, 100]⟩] 9) (fun t ht => Nat.le_trans (HT1.out t ht) (by omega)) (by simp)))
   have HBB3 := jD (bel_add' HBB2.out n2 HBB2.out.size)
   clear n2
   go_wp2_with fail
   refine (equalS_same _ _ [tInone, tIprep, tIok, tIeq so, tIprep] _ _ HE1.out.1 HE1.out.2).mono ?_
   rintro e11 wE ⟨rfl, k2, rfl⟩
   go_wp2
   go_ret
   exact ⟨rfl, below_drewN HBB3.out _⟩
end Go.Proofs.YtpbaobmegomfpabGreatDoor
