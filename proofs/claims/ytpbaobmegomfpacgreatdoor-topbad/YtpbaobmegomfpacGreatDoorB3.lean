/-
  Texts of the proof, one behind the other: WTopBad.
-/
import Derived.Test.YtpbaobmegomfpacGreatDoorB2
import Derived.Lib.Repeat
set_option linter.unusedVariables false
set_option linter.unusedSimpArgs false
set_option maxRecDepth 100000
open List renaming getElem_toArray → gTA, getElem_cons_zero → gCZ, getElem_cons_succ → gCS, setIfInBounds_toArray → sTA, set_cons_zero → sCZ, set_cons_succ → sCS
open Go.Lib renaming hid → jD
open Nat renaming le_refl → nL
namespace Go.Proofs.YtpbaobmegomfpacGreatDoor
open Go.RowKit
theorem topBad.laidFacts {W : World} (h : laidMetH Tryz.prog Rows.topBadRow.laid W) : Tabs W W.heap.size :=
 tabs_of (words_of h (by simp [Rows.topBadRow, Rows.laid_tillerman_say_words, List.range, List.range.loop, wordL])) (leads_of h (by simp [Rows.topBadRow, Rows.laid_tillerman_say_leads, List.range, List.range.loop, leadL]))
theorem runE_ok {l : List Act} (h : l.length ≤ 300) : runE 1 1 l = actsE l := by
 unfold runE
 rw [if_neg (show ¬ (setupE 1 1 ≠ 0) by decide), if_neg (by omega)]
theorem setup_kind {k : Int} (h : 0 ≤ k) (l : List Act) : runE (3 + (1 + k)) 1 l = 3 := by
 have e : setupE (3 + (1 + k)) 1 = 3 := by unfold setupE; rw [if_pos (by omega)]
 unfold runE; rw [e]; rfl
theorem setup_range {k : Int} (h : 0 ≤ k) (l : List Act) : runE 1 (4 + (1 + k)) l = 2 := by
 have e : setupE 1 (4 + (1 + k)) = 2 := by unfold setupE; rw [if_neg (by omega), if_pos (by omega)]
 unfold runE; rw [e]; rfl
theorem acts_one {a : Act} {c : Int} (h : actE a = c) (hc : c ≠ 0) : runE 1 1 [a] = c := by
 rw [runE_ok (by simp)]
 unfold actsE
 rw [h, if_pos hc]
theorem act_kind {k : Int} (h : 0 ≤ k) : runE 1 1 [⟨2 + (1 + k), 0, ⟨#[]⟩⟩] = 3 := acts_one (by unfold actE; rw [if_pos (by simp only; omega)]) (by omega)
theorem act_range {k : Int} (h : 0 ≤ k) : runE 1 1 [⟨2, -(1 + k), ⟨#[]⟩⟩] = 2 := acts_one (by unfold actE; rw [if_neg (by simp), if_pos (by simp only; omega)]) (by omega)
theorem act_size {d : ByteArray} (h : 1000 < d.size) : runE 1 1 [⟨1, 0, d⟩] = 1 := acts_one (by unfold actE; rw [if_neg (by simp), if_neg (by simp), if_pos h]) (by omega)
theorem acts_many {l : List Act} (h : 300 < l.length) : runE 1 1 l = 1 := by
 unfold runE
 rw [if_neg (show ¬ (setupE 1 1 ≠ 0) by decide), if_pos h]
theorem alst_one {w : World} {g t : Nat} {k c : Int} {d : ByteArray} (h : RowTo w g t 3 [.int .i64 k, .int .i64 c, .string d]) (hd : d.size ≤ 140737488351232) : ALst w w.heap.size (.slice (some ⟨g, 0, none⟩) 1 1) [⟨k, c, d⟩] := by
 obtain ⟨x0, x1, x2⟩ := cells3 h
 refine ⟨⟨_, _, rfl, nL _⟩, by simp, fun a ha => by rw [List.mem_singleton.1 ha]; exact hd, fun _ => ⟨g, 0, 1, rfl, h.lt, fun i hi => ?_⟩⟩
 obtain rfl : i = 0 := by simpa using hi
 exact ⟨x0, x1, x2⟩
theorem alst_nil (w : World) : ALst w w.heap.size (.slice none 0 0) [] := ⟨⟨none, 0, rfl, nL _⟩, (by simp), (fun a ha => (by cases ha)), fun h => absurd h (by simp)⟩
theorem rep_size (n : Nat) : (⟨(Lib.repeatL (⟨#[120]⟩ : ByteArray).data.toList n).toArray⟩ : ByteArray).size = n := by
 show (Lib.repeatL (⟨#[120]⟩ : ByteArray).data.toList n).toArray.size = n
 rw [List.size_toArray, Lib.repeatL_length]; simp
theorem wrapI {n : Int} (h : -9223372036854775808 ≤ n ∧ n ≤ 9223372036854775807) : IntKind.i64.wrap n = n := by
 exact Go.IntWalk.i64_in n h
theorem act_row3 : (Tryz.prog.info? 45).map (fun i => (i.zero, i.size, i.bytes)) = some (some (.agg #[.int .i64 0, .int .i64 0, .string ⟨#[]⟩]), 3, 32) := by kernel_rfl
theorem make_acts (p : Nat) (h : p < 50) (w : World) : (Instr.makeSlice 33 (.int .i64 (300 + (1 + (p : Int)))) (.int .i64 (300 + (1 + (p : Int))))).run Tryz.prog w = .ok (.slice (some ⟨w.heap.size, 0, none⟩) (301 + p) (301 + p)) (w.alloc (.cells (madeCells #[.int .i64 0, .int .i64 0, .string ⟨#[]⟩] ((301 + p) * 3)) 45)) := by
 obtain ⟨i0, hi, hz0, hz1, hz2⟩ := info_parts act_row3
 have hr := run_make (P := Tryz.prog) w 33 45 i0 _ Tryz.underlying33 hi hz0 .i64 .i64 ((301 + p : Nat) : Int) ((301 + p : Nat) : Int) (by omega) (Int.le_refl _) (by rw [hz2]; omega) (by omega)
 rw [hz1, show (Value.agg #[.int .i64 0, .int .i64 0, .string ⟨#[]⟩]).cells = #[.int .i64 0, .int .i64 0, .string ⟨#[]⟩] from rfl] at hr
 rw [show ((301 + p : Nat) : Int) = 300 + (1 + (p : Int)) by omega, show (300 + (1 + (p : Int))).toNat = 301 + p by omega] at hr
 exact hr
theorem alst_zero {w : World} {g n m : Nat} (h : RowTo w g 45 m (madeCells #[.int .i64 0, .int .i64 0, .string ⟨#[]⟩] (n * 3)).toList) (hn : n ≤ 1000) : ALst w w.heap.size (.slice (some ⟨g, 0, none⟩) n n) (List.replicate n ⟨0, 0, ⟨#[]⟩⟩) := by
 refine ⟨⟨some ⟨g, 0, none⟩, n, by simp, by simp⟩, by simp; omega, fun a ha => by rw [(List.mem_replicate.1 ha).2]; decide, fun _ => ⟨g, 0, n, by simp, h.lt, fun i hi => ?_⟩⟩
 simp only [List.length_replicate] at hi
 have hlen : (madeCells #[Value.int .i64 0, .int .i64 0, .string ⟨#[]⟩] (n * 3)).toList.length = n * 3 := by simp [madeCells]
 have c : ∀ j, j < 3 → w.cell? ⟨g, 0 + i * 3 + j, none⟩ = [Value.int .i64 0, .int .i64 0, .string ⟨#[]⟩][j]? := fun j hj => by
  have hlt : 0 + i * 3 + j < (madeCells #[Value.int .i64 0, .int .i64 0, .string ⟨#[]⟩] (n * 3)).toList.length := by rw [hlen]; omega
  rw [h.cell hlt]
  have e : (0 + i * 3 + j) % 3 = j := by omega
  simp only [madeCells, Array.toList_ofFn, List.getElem_ofFn]
  match j, hj, e with
  | 0, _, e => simp [e]
  | 1, _, e => simp [e]
  | 2, _, e => simp [e]
 simp only [List.getElem_replicate]
 exact ⟨c 0 (by omega), c 1 (by omega), c 2 (by omega)⟩
def UAt (w wr : World) : Prop := RowTo wr w.heap.size 31 2 [.int .i64 1, .int .i64 1] ∧ Below w.heap.size w wr
theorem UAt.below {w wr w' : World} (h : UAt w wr) (hb : Below wr.heap.size wr w') : UAt w w' := ⟨h.1.below hb h.1.lt, bel_add' h.2 hb h.2.size⟩
theorem UAt.next {w wr w1 w' : World} {o : Obj} (h : UAt w wr) (h1 : Below wr.heap.size wr w1) (hb : Below w1.heap.size w1 w') : UAt w (w'.alloc o) := ((h.below h1).below hb).below ((Below.refl _ _).alloc (nL _) _)
set_option maxHeartbeats 4000000 in
theorem walk_TopBad (n : Int) (w : World) (hn : (Lit.int .i64 n).wf = true) (hT : Tabs w w.heap.size) :
  Calls Tryz.prog 10 #[.int .i64 n] w fun e w' => e = .returned (.bool true) ∧ Below w.heap.size w w' := by
 have hnb := i64_bd hn
 obtain ⟨p, hp, hpl⟩ := pick_some n 50 (by omega)
 have HP := jD (fun wc => pickedW_any n 50 wc hnb.1 hnb.2 (by omega) (by omega))
 rw [show ((50 : Nat) : Int) = 50 from rfl] at hp
 rw [hp] at HP
 have hp0 : (0 : Int) ≤ (p : Int) := by omega
 have hpI : (p : Int) < 50 := by omega
 have run : ∀ (mode srv : Int) (v : Value) (l : List Act) (c : Int) (wc : World), ALst wc wc.heap.size v l → runE mode srv l = c → c ≠ 0 → Calls Tryz.prog 29 #[.agg #[.int .i64 mode, .int .i64 srv], v] wc fun e w' => e = .returned (.tuple #[.agg #[.slice none 0 0, .slice none 0 0, .slice none 0 0], .int .i64 c]) ∧ Below wc.heap.size wc w' := fun mode srv v l c wc h1 h2 h3 => by
  have := run_bad mode srv v l wc h1 (by rw [h2]; exact h3)
  rw [h2] at this
  exact this
 have HR3 := jD (fun wc => run (3 + (1 + (p : Int))) 1 (.slice none 0 0) [] 3 wc (alst_nil wc) (setup_kind hp0 _) (by omega))
 have HR4 := jD (fun wc => run 1 (4 + (1 + (p : Int))) (.slice none 0 0) [] 2 wc (alst_nil wc) (setup_range hp0 _) (by omega))
 have HR5 := jD (fun (g : Nat) (wc : World) (h : RowTo wc g 45 3 [.int .i64 (2 + (1 + (p : Int))), .int .i64 0, .string ⟨#[]⟩]) => run 1 1 _ _ 3 wc (alst_one h (by decide)) (act_kind hp0) (by omega))
 have HR6 := jD (fun (g : Nat) (wc : World) (h : RowTo wc g 45 3 [.int .i64 2, .int .i64 (-(1 + (p : Int))), .string ⟨#[]⟩]) => run 1 1 _ _ 2 wc (alst_one h (by decide)) (act_range hp0) (by omega))
 have HRUN := jD run
 clear hn hT hp hnb run
 go_enter Tryz.func10, Tryz.ntmps10
 go_wp2_with fail
 refine (HP.out _).mono ?_
 rintro e0 w0 ⟨rfl, rfl⟩
 have HU2 := jD (show UAt w (w.alloc (.cells #[.int .i64 1, .int .i64 1] 31)) from ⟨RowTo.whole w #[.int .i64 1, .int .i64 1] _, (Below.refl _ _).alloc (nL _) _⟩)
 go_wp2_with fail
 refine (HR3.out _).mono ?_
 rintro e3 w3 ⟨rfl, hb⟩
 have HU3 := jD (HU2.out.next (o := .cells #[.slice none 0 0, .slice none 0 0, .slice none 0 0] 27) (Below.refl _ _) hb)
 obtain ⟨x0, x1⟩ := cells2 HU3.out.1
 have hxl := HU3.out.1.lt
 clear hb HU2
 go_wp2_with fail
 refine (HR4.out _).mono ?_
 rintro e4 w4 ⟨rfl, hb⟩
 have HU4 := jD (HU3.out.next (o := .cells #[.slice none 0 0, .slice none 0 0, .slice none 0 0] 27) (Below.refl _ _) hb)
 obtain ⟨x0, x1⟩ := cells2 HU4.out.1
 have hxl := HU4.out.1.lt
 clear hb HU3
 go_wp2_with fail
 have X := RowTo.whole (w4.alloc (.cells #[.slice none 0 0, .slice none 0 0, .slice none 0 0] 27)) #[.int .i64 (2 + (1 + (p : Int))), .int .i64 0, .string ⟨#[]⟩] 45
 simp only [World.size_alloc] at X
 refine (HR5.out _ _ X).mono ?_
 rintro e5 w5 ⟨rfl, hb⟩
 have HU5 := jD (HU4.out.next (o := .cells #[.slice none 0 0, .slice none 0 0, .slice none 0 0] 27) ((Below.refl _ _).alloc (nL _) _) hb)
 obtain ⟨x0, x1⟩ := cells2 HU5.out.1
 have hxl := HU5.out.1.lt
 clear hb HU4
 clear X
 go_wp2_with fail
 have X := RowTo.whole (w5.alloc (.cells #[.slice none 0 0, .slice none 0 0, .slice none 0 0] 27)) #[.int .i64 2, .int .i64 (-(1 + (p : Int))), .string ⟨#[]⟩] 45
 simp only [World.size_alloc] at X
 refine (HR6.out _ _ X).mono ?_
 rintro e6 w6 ⟨rfl, hb⟩
 have HU6 := jD (HU5.out.next (o := .cells #[.slice none 0 0, .slice none 0 0, .slice none 0 0] 27) ((Below.refl _ _).alloc (nL _) _) hb)
 obtain ⟨x0, x1⟩ := cells2 HU6.out.1
 have hxl := HU6.out.1.lt
 clear hb HU5
 clear X
 go_wp2_with fail
 have HU := HU6
 obtain ⟨big, HBG⟩ : ∃ u, Hid ((⟨(Lib.repeatL (⟨#[120]⟩ : ByteArray).data.toList (1001 + p)).toArray⟩ : ByteArray) = u) := ⟨_, jD rfl⟩
 have HBS := jD (show big.size = 1001 + p by rw [← HBG.out]; exact rep_size _)
 have HREP := jD (fun (wc : World) => (show Calls Tryz.prog 30 #[.string ⟨#[120]⟩, .int .i64 (1000 + (1 + (p : Int)))] wc fun e w' => e = .returned (.string big) ∧ Below wc.heap.size wc w' by
  have h := Tryz.strings_Repeat ⟨#[120]⟩ (1001 + p) wc (by omega) (by show 1 * (1001 + p) ≤ _; omega)
  rw [HBG.out, show ((1001 + p : Nat) : Int) = 1000 + (1 + (p : Int)) by omega] at h
  exact h))
 have HRAa := jD (fun (c b : Nat) (w1 : World) (h : c = 3 → RowTo w1 b 45 3 [.int .i64 1, .int .i64 0, .string big]) => (show c = 3 → RowTo (w1.alloc (.cells #[.slice none 0 0, .slice none 0 0, .slice none 0 0] 27)) b 45 3 [.int .i64 1, .int .i64 0, .string big] from fun e => (h e).alloc _))
 have HRAe := jD (fun (c b : Nat) (w1 : World) (h : c = 1 → RowTo w1 b 45 (madeCells #[.int .i64 0, .int .i64 0, .string ⟨#[]⟩] ((301 + p) * 3)).size (madeCells #[.int .i64 0, .int .i64 0, .string ⟨#[]⟩] ((301 + p) * 3)).toList) => (show c = 1 → RowTo (w1.alloc (.cells #[.slice none 0 0, .slice none 0 0, .slice none 0 0] 27)) b 45 _ _ from fun e => (h e).alloc _))
 have hmk := make_acts p hpl
 have hw1 : IntKind.i64.wrap (1000 + (1 + (p : Int))) = 1000 + (1 + (p : Int)) := wrapI (by omega)
 have hw2 : IntKind.i64.wrap (300 + (1 + (p : Int))) = 300 + (1 + (p : Int)) := wrapI (by omega)
 clear HU6 HBG
 obtain ⟨WA, HW⟩ : ∃ u, Hid ((w6.alloc (.cells #[.slice none 0 0, .slice none 0 0, .slice none 0 0] 27)) = u) := ⟨_, jD rfl⟩
 rw [HW.out] at HU x0 x1 hxl ⊢
 clear HW
 refine wp_region_z 12 (fun wx => wx.cell? ⟨w.heap.size, 0, none⟩ = some (.int .i64 1) ∧ wx.cell? ⟨w.heap.size, 1, none⟩ = some (.int .i64 1)) (by kernel_rfl) (show WA.drew.cell? ⟨w.heap.size, 0, none⟩ = some (.int .i64 1) ∧ WA.drew.cell? ⟨w.heap.size, 1, none⟩ = some (.int .i64 1) from ⟨x0, x1⟩) (fun hS => ?_)
 refine tkZ 0 ?va0 rfl ?ya0 hS ?ra0
 case ya0 => (intro w hSw; (try dsimp only at hSw); (try simp only [gTA, gCZ, gCS]); go_simp; try with_reducible rfl)
 (try simp only [gTA, gCZ, gCS, Act.put, sTA, sCZ, sCS])
 refine tkZ 1 ?va1 rfl ?ya1 hS ?ra1
 case ya1 => (intro w hSw; (try dsimp only at hSw); (try simp only [gTA, gCZ, gCS]); go_simp; try with_reducible rfl)
 (try simp only [gTA, gCZ, gCS, Act.put, sTA, sCZ, sCS])
 refine tkZ 2 ?va2 rfl ?ya2 hS ?ra2
 case ya2 => (intro w hSw; (try dsimp only at hSw); (try simp only [gTA, gCZ, gCS]); go_simp; try with_reducible rfl)
 (try simp only [gTA, gCZ, gCS, Act.put, sTA, sCZ, sCS])
 refine gridB (C := 5) (cop := fun c => match c with | 0 => 3 | 1 => 4 | 2 => 5 | 3 => 6 | _ => 7) (dst := fun c => match c with | 0 => 57 | 1 => 58 | 2 => 59 | 3 => 60 | _ => 53) (vals := fun b c => match c with | 0 => .string big | 1 => .agg #[.int .i64 1, .int .i64 0, .string big] | 2 => .slice (some ⟨b, 0, none⟩) 1 1 | 3 => .tuple #[.agg #[.slice none 0 0, .slice none 0 0, .slice none 0 0], .int .i64 1] | _ => .tuple #[.agg #[.slice none 0 0, .slice none 0 0, .slice none 0 0], .int .i64 1]) (p := 10) (dp := 13) (tp := 27) (zp := #[.slice none 0 0, .slice none 0 0, .slice none 0 0]) (L := fun c x => #[true, true, true, decide (0 < c), decide (1 < c), decide (2 < c), decide (3 < c), decide (4 < c), false, false, x, false, false]) (L' := fun x => #[true, true, true, true, true, true, true, true, true, true, x, false, false]) ⟨_, rfl, rfl, rfl, fun ev w => (by go_simp; rfl)⟩ ?ardy (by kernel_rfl) rfl ?asc ?asp ?adn (R := fun c b wc => UAt w wc ∧ Below WA.heap.size WA wc ∧ (c = 3 → RowTo wc b 45 3 [.int .i64 1, .int .i64 0, .string big])) (fun a => (a.put (some 61) (.agg #[.slice none 0 0, .slice none 0 0, .slice none 0 0])).put (some 62) (.int .i64 1)) 2 2 WA.heap.size ?ahtk ?ahR ?ahS (fun c b w1 h => h.2.1.size) ?ast ?afin _ 0 ⟨HU.out.below (Below.refl _ _).drew, (Below.refl _ _).drew, fun h => by cases h⟩
 case ardy => (intro c y hc; rcases c with _ | _ | _ | _ | _ | c; all_goals first | (exfalso; omega) | (cases y <;> kernel_rfl))
 case asc => (intro c y hc; rcases c with _ | _ | _ | _ | _ | c; all_goals first | rfl | (exfalso; omega))
 case asp => (intro c hc; rcases c with _ | _ | _ | _ | _ | c; all_goals first | rfl | (exfalso; omega))
 case ahtk =>
  intro b y wc n hR H
  have hS : wc.cell? ⟨w.heap.size, 0, none⟩ = some (.int .i64 1) ∧ wc.cell? ⟨w.heap.size, 1, none⟩ = some (.int .i64 1) := by obtain ⟨q0, q1⟩ := cells2 hR.1.1; exact ⟨q0, q1⟩
  cases y
  all_goals (
   (try simp only [fr1, putN, pt, Option.isSome, gTA, gCZ, gCS, Go.Act.put, sTA, sCZ, sCS] at H ⊢)
   refine tkZ 8 ?_ rfl ?_ hS ?_
   rotate_left
   ·(intro w hSw; (try dsimp only at hSw); (try simp only [gTA, gCZ, gCS]); go_simp; try with_reducible rfl)
   (try simp only [gTA, gCZ, gCS, Act.put, sTA, sCZ, sCS])
   refine tkZ 9 ?_ rfl ?_ hS ?_
   rotate_left
   ·(intro w hSw; (try dsimp only at hSw); (try simp only [gTA, gCZ, gCS]); go_simp; try with_reducible rfl)
   (try simp only [gTA, gCZ, gCS, Act.put, sTA, sCZ, sCS])
   exact H)
 case adn => (intro c hc; rcases c with _ | _ | _ | _ | _ | c; all_goals first | decide | (exfalso; omega))
 case ahS => (intro c b w1 h; obtain ⟨q0, q1⟩ := cells2 h.1.1; exact ⟨q0, q1⟩)
 case ahR => (intro c b w1 h; exact ⟨h.1.below ((Below.refl _ _).alloc (nL _) _), bel_trans h.2.1 ((Below.refl _ _).alloc (nL _) _), HRAa.out c b w1 h.2.2⟩)
 case ast =>
  intro c b y wc hc hR
  rcases c with _ | _ | _ | _ | _ | c
  ·refine stepB_call (g := 30) (args := #[.string ⟨#[120]⟩, .int .i64 (1000 + (1 + (p : Int)))]) (b' := b) ⟨_, rfl, rfl, rfl, ?_⟩ (HREP.out wc) rfl (fun w' hb => ⟨hR.1.below hb, bel_trans hR.2.1 hb, fun h => by cases h⟩)
   (cases y <;> ((try simp only [fr1, putN, pt, gTA, gCZ, gCS, Go.Act.put, sTA, sCZ, sCS]); go_simp; try rfl))
  ·refine stepB_val (v := .agg #[.int .i64 1, .int .i64 0, .string big]) (w' := wc) (b' := b) ⟨_, rfl, rfl, rfl, ?_⟩ rfl ⟨hR.1, hR.2.1, fun h => by cases h⟩ (Below.refl _ _)
   (cases y <;> ((try simp only [fr1, putN, pt, gTA, gCZ, gCS, Go.Act.put, sTA, sCZ, sCS]); go_simp; try rfl))
  ·refine stepB_val (v := .slice (some ⟨wc.heap.size, 0, none⟩) 1 1) (w' := wc.alloc (.cells #[.int .i64 1, .int .i64 0, .string big] 45)) (b' := wc.heap.size) ⟨_, rfl, rfl, rfl, ?_⟩ rfl ⟨hR.1.below ((Below.refl _ _).alloc (nL _) _), bel_trans hR.2.1 ((Below.refl _ _).alloc (nL _) _), fun _ => RowTo.whole wc _ _⟩ ((Below.refl _ _).alloc (nL _) _)
   (cases y <;> ((try simp only [fr1, putN, pt, gTA, gCZ, gCS, Go.Act.put, sTA, sCZ, sCS]); go_simp; try rfl))
  ·refine stepB_call (g := 29) (args := #[.agg #[.int .i64 1, .int .i64 1], .slice (some ⟨b, 0, none⟩) 1 1]) (b' := b) ⟨_, rfl, rfl, rfl, ?_⟩ (HRUN.out 1 1 _ _ 1 wc (alst_one (hR.2.2 rfl) (by have := HBS.out; omega)) (act_size (by have := HBS.out; omega)) (by omega)) rfl (fun w' hb => ⟨hR.1.below hb, bel_trans hR.2.1 hb, fun h => by cases h⟩)
   (cases y <;> ((try simp only [fr1, putN, pt, gTA, gCZ, gCS, Go.Act.put, sTA, sCZ, sCS]); go_simp; try rfl))
  ·refine stepB_val (v := .tuple #[.agg #[.slice none 0 0, .slice none 0 0, .slice none 0 0], .int .i64 1]) (w' := wc) (b' := b) ⟨_, rfl, rfl, rfl, ?_⟩ rfl ⟨hR.1, hR.2.1, fun h => by cases h⟩ (Below.refl _ _)
   (cases y <;> ((try simp only [fr1, putN, pt, gTA, gCZ, gCS, Go.Act.put, sTA, sCZ, sCS]); go_simp; try rfl))
  ·exfalso; omega
 case afin =>
  intro w7 b b1 hR hz7
  have hY0 := zs_row hz7
  have hb1 := (hz7 b1 rfl).1
  obtain ⟨y0, y1, y2⟩ := cells3 hY0
  have f0 := hY0.frozen 0
  have f1 := hY0.frozen 1
  have f2 := hY0.frozen 2
  have hbw : b1 ≠ w.heap.size := by omega
  have HU7 : Hid (UAt w (((w7.setCell ⟨b1, 0, none⟩ (.slice none 0 0)).setCell ⟨b1, 1, none⟩ (.slice none 0 0)).setCell ⟨b1, 2, none⟩ (.slice none 0 0))) := jD ⟨hR.1.1.oth3 hbw _ _ _, bel_set3 hR.1.2 (by omega) _ _ _⟩
  have hY7 := hY0.set3 (.slice none 0 0) (.slice none 0 0) (.slice none 0 0)
  have HY7 := jD hY7
  have hwl := hR.1.1.lt
  have hyl := hY0.lt
  obtain ⟨q0, q1⟩ := cells2 HU7.out.1
  clear hR hz7 hY0 hY7 hb1 x0 x1 hxl
  (try simp only [fr1, putN, pt, gTA, gCZ, gCS, Go.Act.put, sTA, sCZ, sCS])
  refine wpAnyZ_one (i := 11) rfl rfl (by kernel_rfl) (fun K hK => ?_)
  (try simp only [gTA, gCZ, gCS])
  go_simp
  have hS2 := (show (((w7.setCell ⟨b1, 0, none⟩ (.slice none 0 0)).setCell ⟨b1, 1, none⟩ (.slice none 0 0)).setCell ⟨b1, 2, none⟩ (.slice none 0 0)).cell? ⟨w.heap.size, 0, none⟩ = some (.int .i64 1) ∧ (((w7.setCell ⟨b1, 0, none⟩ (.slice none 0 0)).setCell ⟨b1, 1, none⟩ (.slice none 0 0)).setCell ⟨b1, 2, none⟩ (.slice none 0 0)).cell? ⟨w.heap.size, 1, none⟩ = some (.int .i64 1) from ⟨q0, q1⟩)
  refine hK.out _ _ hS2 ?_
  clear hK K hS
  have hS := hS2
  clear hS2
  (try simp only [gTA, gCZ, gCS, Act.put, sTA, sCZ, sCS])
  obtain ⟨W8, HW8⟩ : ∃ u, Hid ((((w7.setCell ⟨b1, 0, none⟩ (.slice none 0 0)).setCell ⟨b1, 1, none⟩ (.slice none 0 0)).setCell ⟨b1, 2, none⟩ (.slice none 0 0)) = u) := ⟨_, jD rfl⟩
  rw [HW8.out] at HU7 HY7 q0 q1 hS ⊢
  clear HW8 y0 y1 y2 f0 f1 f2 hwl hyl
  refine wpAnyZ_last rfl rfl (by kernel_rfl) (by kernel_rfl) (fun K hK => ?_)
  (try simp only [gTA, gCZ, gCS])
  go_simp
  refine hK.out _ _ ?_
  clear hK K
  (try simp only [gTA, gCZ, gCS, Act.put, sTA, sCZ, sCS])
  have HU := HU7
  have x0 := q0
  have x1 := q1
  have hxl := HU.out.1.lt
  clear q0 q1 HU7
  go_wp2_with fail
  obtain ⟨WB, HW⟩ : ∃ u, Hid (W8 = u) := ⟨_, jD rfl⟩
  rw [HW.out] at HU x0 x1 hxl ⊢
  clear HW
  clear HY7
  refine wp_region_z 10 (fun wx => wx.cell? ⟨w.heap.size, 0, none⟩ = some (.int .i64 1) ∧ wx.cell? ⟨w.heap.size, 1, none⟩ = some (.int .i64 1)) (by kernel_rfl) (show WB.drew.cell? ⟨w.heap.size, 0, none⟩ = some (.int .i64 1) ∧ WB.drew.cell? ⟨w.heap.size, 1, none⟩ = some (.int .i64 1) from ⟨x0, x1⟩) (fun hS => ?_)
  refine tkZ 0 ?ve0 rfl ?ye0 hS ?re0
  case ye0 => (intro w hSw; (try dsimp only at hSw); (try simp only [gTA, gCZ, gCS]); go_simp; try with_reducible rfl)
  (try simp only [gTA, gCZ, gCS, Act.put, sTA, sCZ, sCS])
  refine tkZ 1 ?ve1 rfl ?ye1 hS ?re1
  case ye1 => (intro w hSw; (try dsimp only at hSw); (try simp only [gTA, gCZ, gCS]); go_simp; try with_reducible rfl)
  (try simp only [gTA, gCZ, gCS, Act.put, sTA, sCZ, sCS])
  refine tkZ 2 ?ve2 rfl ?ye2 hS ?re2
  case ye2 => (intro w hSw; (try dsimp only at hSw); (try simp only [gTA, gCZ, gCS]); go_simp; try with_reducible rfl)
  (try simp only [gTA, gCZ, gCS, Act.put, sTA, sCZ, sCS])
  refine gridB (C := 3) (cop := fun c => match c with | 0 => 3 | 1 => 4 | _ => 5) (dst := fun c => match c with | 0 => 67 | 1 => 68 | _ => 63) (vals := fun b c => match c with | 0 => .slice (some ⟨b, 0, none⟩) (301 + p) (301 + p) | 1 => .tuple #[.agg #[.slice none 0 0, .slice none 0 0, .slice none 0 0], .int .i64 1] | _ => .tuple #[.agg #[.slice none 0 0, .slice none 0 0, .slice none 0 0], .int .i64 1]) (p := 8) (dp := 15) (tp := 27) (zp := #[.slice none 0 0, .slice none 0 0, .slice none 0 0]) (L := fun c x => #[true, true, true, decide (0 < c), decide (1 < c), decide (2 < c), false, false, x, false, false]) (L' := fun x => #[true, true, true, true, true, true, true, true, x, false, false]) ⟨_, rfl, rfl, rfl, fun ev w => (by go_simp; rfl)⟩ ?erdy (by kernel_rfl) rfl ?esc ?esp ?edn (R := fun c b wc => UAt w wc ∧ Below WB.heap.size WB wc ∧ (c = 1 → RowTo wc b 45 (madeCells #[.int .i64 0, .int .i64 0, .string ⟨#[]⟩] ((301 + p) * 3)).size (madeCells #[.int .i64 0, .int .i64 0, .string ⟨#[]⟩] ((301 + p) * 3)).toList)) (fun a => (a.put (some 69) (.agg #[.slice none 0 0, .slice none 0 0, .slice none 0 0])).put (some 70) (.int .i64 1)) 2 2 WB.heap.size ?ehtk ?ehR ?ehS (fun c b w1 h => h.2.1.size) ?est ?efin _ 0 ⟨HU.out.below (Below.refl _ _).drew, (Below.refl _ _).drew, fun h => by cases h⟩
  case erdy => (intro c y hc; rcases c with _ | _ | _ | c; all_goals first | (exfalso; omega) | (cases y <;> kernel_rfl))
  case esc => (intro c y hc; rcases c with _ | _ | _ | c; all_goals first | rfl | (exfalso; omega))
  case esp => (intro c hc; rcases c with _ | _ | _ | c; all_goals first | rfl | (exfalso; omega))
  case ehtk =>
   intro b y wc n hR H
   have hS : wc.cell? ⟨w.heap.size, 0, none⟩ = some (.int .i64 1) ∧ wc.cell? ⟨w.heap.size, 1, none⟩ = some (.int .i64 1) := by obtain ⟨q0, q1⟩ := cells2 hR.1.1; exact ⟨q0, q1⟩
   cases y
   all_goals (
    (try simp only [fr1, putN, pt, Option.isSome, gTA, gCZ, gCS, Go.Act.put, sTA, sCZ, sCS] at H ⊢)
    refine tkZ 6 ?_ rfl ?_ hS ?_
    rotate_left
    ·(intro w hSw; (try dsimp only at hSw); (try simp only [gTA, gCZ, gCS]); go_simp; try with_reducible rfl)
    (try simp only [gTA, gCZ, gCS, Act.put, sTA, sCZ, sCS])
    refine tkZ 7 ?_ rfl ?_ hS ?_
    rotate_left
    ·(intro w hSw; (try dsimp only at hSw); (try simp only [gTA, gCZ, gCS]); go_simp; try with_reducible rfl)
    (try simp only [gTA, gCZ, gCS, Act.put, sTA, sCZ, sCS])
    exact H)
  case edn => (intro c hc; rcases c with _ | _ | _ | c; all_goals first | decide | (exfalso; omega))
  case ehS => (intro c b w1 h; obtain ⟨q0, q1⟩ := cells2 h.1.1; exact ⟨q0, q1⟩)
  case ehR => (intro c b w1 h; exact ⟨h.1.below ((Below.refl _ _).alloc (nL _) _), bel_trans h.2.1 ((Below.refl _ _).alloc (nL _) _), HRAe.out c b w1 h.2.2⟩)
  case est =>
   intro c b y wc hc hR
   rcases c with _ | _ | _ | c
   ·refine stepB_val (v := .slice (some ⟨wc.heap.size, 0, none⟩) (301 + p) (301 + p)) (w' := wc.alloc (.cells (madeCells #[.int .i64 0, .int .i64 0, .string ⟨#[]⟩] ((301 + p) * 3)) 45)) (b' := wc.heap.size) ⟨_, rfl, rfl, rfl, ?_⟩ rfl ⟨hR.1.below ((Below.refl _ _).alloc (nL _) _), bel_trans hR.2.1 ((Below.refl _ _).alloc (nL _) _), fun _ => RowTo.whole wc _ _⟩ ((Below.refl _ _).alloc (nL _) _)
    (cases y <;> ((try simp only [fr1, putN, pt, gTA, gCZ, gCS, Go.Act.put, sTA, sCZ, sCS]); go_simp; try rfl))
   ·refine stepB_call (g := 29) (args := #[.agg #[.int .i64 1, .int .i64 1], .slice (some ⟨b, 0, none⟩) (301 + p) (301 + p)]) (b' := b) ⟨_, rfl, rfl, rfl, ?_⟩ (HRUN.out 1 1 _ _ 1 wc (alst_zero (hR.2.2 rfl) (by omega)) (acts_many (by simp; omega)) (by omega)) rfl (fun w' hb => ⟨hR.1.below hb, bel_trans hR.2.1 hb, fun h => by cases h⟩)
    (cases y <;> ((try simp only [fr1, putN, pt, gTA, gCZ, gCS, Go.Act.put, sTA, sCZ, sCS]); go_simp; try rfl))
   ·refine stepB_val (v := .tuple #[.agg #[.slice none 0 0, .slice none 0 0, .slice none 0 0], .int .i64 1]) (w' := wc) (b' := b) ⟨_, rfl, rfl, rfl, ?_⟩ rfl ⟨hR.1, hR.2.1, fun h => by cases h⟩ (Below.refl _ _)
    (cases y <;> ((try simp only [fr1, putN, pt, gTA, gCZ, gCS, Go.Act.put, sTA, sCZ, sCS]); go_simp; try rfl))
   ·exfalso; omega
  case efin =>
   intro w7 b b1 hR hz7
   have hY0 := zs_row hz7
   have hb1 := (hz7 b1 rfl).1
   obtain ⟨y0, y1, y2⟩ := cells3 hY0
   have f0 := hY0.frozen 0
   have f1 := hY0.frozen 1
   have f2 := hY0.frozen 2
   have hbw : b1 ≠ w.heap.size := by omega
   have HU7 : Hid (UAt w (((w7.setCell ⟨b1, 0, none⟩ (.slice none 0 0)).setCell ⟨b1, 1, none⟩ (.slice none 0 0)).setCell ⟨b1, 2, none⟩ (.slice none 0 0))) := jD ⟨hR.1.1.oth3 hbw _ _ _, bel_set3 hR.1.2 (by omega) _ _ _⟩
   have hY7 := hY0.set3 (.slice none 0 0) (.slice none 0 0) (.slice none 0 0)
   have HY7 := jD hY7
   have hwl := hR.1.1.lt
   have hyl := hY0.lt
   obtain ⟨q0, q1⟩ := cells2 HU7.out.1
   clear hR hz7 hY0 hY7 hb1 x0 x1 hxl
   (try simp only [fr1, putN, pt, gTA, gCZ, gCS, Go.Act.put, sTA, sCZ, sCS])
   refine wpAnyZ_one (i := 9) rfl rfl (by kernel_rfl) (fun K hK => ?_)
   (try simp only [gTA, gCZ, gCS])
   go_simp
   have hS2 := (show (((w7.setCell ⟨b1, 0, none⟩ (.slice none 0 0)).setCell ⟨b1, 1, none⟩ (.slice none 0 0)).setCell ⟨b1, 2, none⟩ (.slice none 0 0)).cell? ⟨w.heap.size, 0, none⟩ = some (.int .i64 1) ∧ (((w7.setCell ⟨b1, 0, none⟩ (.slice none 0 0)).setCell ⟨b1, 1, none⟩ (.slice none 0 0)).setCell ⟨b1, 2, none⟩ (.slice none 0 0)).cell? ⟨w.heap.size, 1, none⟩ = some (.int .i64 1) from ⟨q0, q1⟩)
   refine hK.out _ _ hS2 ?_
   clear hK K hS
   have hS := hS2
   clear hS2
   (try simp only [gTA, gCZ, gCS, Act.put, sTA, sCZ, sCS])
   obtain ⟨W8, HW8⟩ : ∃ u, Hid ((((w7.setCell ⟨b1, 0, none⟩ (.slice none 0 0)).setCell ⟨b1, 1, none⟩ (.slice none 0 0)).setCell ⟨b1, 2, none⟩ (.slice none 0 0)) = u) := ⟨_, jD rfl⟩
   rw [HW8.out] at HU7 HY7 q0 q1 hS ⊢
   clear HW8 y0 y1 y2 f0 f1 f2 hwl hyl
   refine wpAnyZ_last rfl rfl (by kernel_rfl) (by kernel_rfl) (fun K hK => ?_)
   (try simp only [gTA, gCZ, gCS])
   go_simp
   refine hK.out _ _ ?_
   clear hK K
   (try simp only [gTA, gCZ, gCS, Act.put, sTA, sCZ, sCS])
   have HU := HU7
   have x0 := q0
   have x1 := q1
   have hxl := HU.out.1.lt
   clear q0 q1 HU7
   obtain ⟨y0, y1, y2⟩ := cells3 HY7.out
   have hyl := HY7.out.lt
   go_wp2
   go_ret
   exact ⟨rfl, HU.out.2⟩
end Go.Proofs.YtpbaobmegomfpacGreatDoor
