/-
  Texts of the proof, one behind the other: PTop, HouseK, HouseL, HouseN, ActsM, Say11, PMsg, GridC.
-/
import Derived.Test.YtpbaobmegomfpacGreatDoorM40
import Derived.Deep.RegionHeld3
import Derived.Test.YtpbaobmegomfpacGreatDoorM15
import Derived.Test.YtpbaobmegomfpacGreatDoorM35
import Derived.Test.YtpbaobmegomfpacGreatDoorM31
import Derived.Test.YtpbaobmegomfpacGreatDoorM16
import Derived.Test.YtpbaobmegomfpacGreatDoorM1
import Derived.Test.YtpbaobmegomfpacGreatDoorM27
import Derived.Test.YtpbaobmegomfpacGreatDoorM29
import Derived.Test.YtpbaobmegomfpacGreatDoorM28
set_option linter.unusedVariables false
set_option linter.unusedSimpArgs false
set_option maxRecDepth 100000
open List renaming getElem_toArray → gTA, getElem_cons_zero → gCZ, getElem_cons_succ → gCS, setIfInBounds_toArray → sTA, set_cons_zero → sCZ, set_cons_succ → sCS
open Go.Lib renaming hid → jD
open Nat renaming le_refl → nL
namespace Go.Proofs.YtpbaobmegomfpacGreatDoor
open Go.RowKit
theorem cellDr {w : World} {p : Addr} {v : Value} (h : w.cell? p = some v) : w.drew.cell? p = some v := h
def SlOnly (w : World) (R : Nat) : Prop := ∀ o u, w.cell? ⟨R, o, none⟩ = some u → ∃ A n c, u = .slice A n c
theorem slOnly3 {w : World} {R t : Nat} {a b c : Option Addr} {n1 n2 n3 c1 c2 c3 : Nat} (h : RowTo w R t 3 [.slice a n1 c1, .slice b n2 c2, .slice c n3 c3]) : SlOnly w R := fun o u hu => by
 obtain ⟨r0, r1, r2⟩ := cells3 h
 rcases Nat.lt_or_ge o 3 with hj | hj
 ·obtain rfl | rfl | rfl : o = 0 ∨ o = 1 ∨ o = 2 := by omega
  ·rw [r0] at hu; injection hu with hu; exact ⟨_, _, _, hu.symm⟩
  ·rw [r1] at hu; injection hu with hu; exact ⟨_, _, _, hu.symm⟩
  ·rw [r2] at hu; injection hu with hu; exact ⟨_, _, _, hu.symm⟩
 ·rw [h.out_ hj] at hu; cases hu
theorem SlOnly.str {w : World} {R o : Nat} (h : SlOnly w R) {s : ByteArray} (hc : w.cell? ⟨R, o, none⟩ = some (.string s)) : False := by
 obtain ⟨A, n, c, e⟩ := h _ _ hc; cases e
theorem SlOnly.int {w : World} {R o : Nat} (h : SlOnly w R) {k : IntKind} {s : Int} (hc : w.cell? ⟨R, o, none⟩ = some (.int k s)) : False := by
 obtain ⟨A, n, c, e⟩ := h _ _ hc; cases e
theorem OutV.off {w w' : World} {R : Nat} {v1 v2 v3 : Value} {sent : List ByteArray} {deeds : List Deed} {rows : PL} (h : OutV w v1 v2 v3 sent deeds rows) (hR : SlOnly w R) (hs : w'.heap.size = w.heap.size) (hk : ∀ b, b ≠ R → w'.heap[b]? = w.heap[b]?) : OutV w' v1 v2 v3 sent deeds rows := by
 refine ⟨⟨h.s.form, h.s.small, h.s.sizes, fun hn => ?_⟩, ⟨h.d.form, h.d.small, fun hn => ?_⟩, ?_⟩
 ·obtain ⟨b, off, c, e, hb, hc⟩ := h.s.cells hn
  have hne : b ≠ R := by rintro rfl; exact hR.str (hc 0 hn)
  exact ⟨b, off, c, e, by rw [hs]; exact hb, fun i hi => (World.cell?_of_block (hk b hne)).trans (hc i hi)⟩
 ·obtain ⟨b, off, c, e, hb, hc⟩ := h.d.cells hn
  have hne : b ≠ R := by rintro rfl; exact hR.int (hc 0 hn 0 _ rfl)
  exact ⟨b, off, c, e, by rw [hs]; exact hb, fun i hi j u hu => (World.cell?_of_block (hk b hne)).trans (hc i hi j u hu)⟩
 ·rw [hs]
  exact h.r.offN (fun o s _ h1 _ => hR.str h1) hk
def ranM (mode : Int) (n : Nat) (l : List Act) : Mach PE := (Mach.start (poolStart n) n).run poolO mode l
theorem ran_sent (mode : Int) {n : Nat} (hn : n ≤ 8) {l : List Act} (hl : actsE l = 0) : (ranM mode n l).sent.length = 6 := ((start_ok (poolStart n) n mode).run hl).s6
def PlayedPost (w : World) (m : Mach PE) (e : Ending) (w' : World) : Prop := ∃ v1 v2 v3, e = .returned (.tuple #[.agg #[v1, v2, v3], .bool true]) ∧ OutV w' v1 v2 v3 m.sent m.deeds m.e.w.rows ∧ Below w.heap.size w w'
theorem playedPost_congr {w : World} {m1 m2 : Mach PE} (h : m1.sent = m2.sent ∧ m1.deeds = m2.deeds ∧ m1.e.w.rows = m2.e.w.rows) : PlayedPost w m2 = PlayedPost w m1 := by
 funext e w'; unfold PlayedPost; rw [h.1, h.2.1, h.2.2]
set_option maxHeartbeats 2000000 in
theorem playedT_any (mode srv : Int) (v : Value) (l : List Act) (w : World) (hl : ALst w w.heap.size v l) (hT : Tabs w w.heap.size) (hE : runE mode srv l = 0) :
  Calls Tryz.prog 11 #[.agg #[.int .i64 mode, .int .i64 srv], v] w (PlayedPost w (ranM mode srv.toNat l)) := by
 obtain ⟨h1, h2, h3, h4, h5, h6⟩ := setup_of hE
 have hs := ran_sent mode (n := srv.toNat) (by omega) h6
 have n0 := ((Below.refl w.heap.size w).alloc (nL _) (.cells #[.int .i64 mode, .int .i64 srv] 31)).alloc (by simp) (.cells #[.slice none 0 0, .slice none 0 0, .slice none 0 0] 27)
 have X1 := (RowTo.whole w #[.int .i64 mode, .int .i64 srv] 31).alloc (.cells #[.slice none 0 0, .slice none 0 0, .slice none 0 0] 27)
 have X2 := RowTo.whole (w.alloc (.cells #[.int .i64 mode, .int .i64 srv] 31)) #[.slice none 0 0, .slice none 0 0, .slice none 0 0] 27
 simp only [World.size_alloc] at X2
 have HR : Hid (Calls Tryz.prog 29 #[.agg #[.int .i64 mode, .int .i64 srv], v] _ (RunPost _ (ranM mode srv.toNat l))) := jD (run_any mode srv v l _ (hl.step n0) ((hT.below (n0.mono (nL _))).up n0.size) hE)
 obtain ⟨A, cA, rfl, hcA⟩ := hl.form
 generalize ranM mode srv.toNat l = m at *
 have HX2 := jD X2
 have HN0 := jD n0
 obtain ⟨x0, x1⟩ := cells2 X1
 clear hl hT hE h1 h2 h3 h4 h5 h6 X1 X2 n0 hcA
 go_enter Tryz.func11, Tryz.ntmps11
 go_wp2_with fail
 refine HR.out.mono ?_
 rintro e w1 ⟨v1, v2, v3, rfl, ho, hb⟩
 obtain ⟨A1, c1, rfl, _⟩ := ho.s.form
 obtain ⟨A2, c2, rfl, _⟩ := ho.d.form
 obtain ⟨A3, c3, rfl, _⟩ := ho.r.form
 rw [hs]
 have hR2 := HX2.out.below hb HX2.out.lt
 have n1 := (Below.refl w1.heap.size w1).alloc (nL _) (.cells #[.slice A1 6 c1, .slice A2 m.deeds.length c2, .slice A3 m.e.w.rows.length c3] 27)
 have hR3 := hR2.below n1 hR2.lt
 obtain ⟨r0, r1, r2⟩ := cells3 hR3
 obtain ⟨o0, o1, o2⟩ := cells3 (RowTo.whole w1 #[.slice A1 6 c1, .slice A2 m.deeds.length c2, .slice A3 m.e.w.rows.length c3] 27)
 have f0 := hR3.frozen 0
 have f1 := hR3.frozen 1
 have f2 := hR3.frozen 2
 rw [hs] at ho
 have HO := jD (And.intro (ho.step n1) (And.intro hR3 (bel_add' (bel_add' HN0.out hb HN0.out.size) n1 (bel_add' HN0.out hb HN0.out.size).size)))
 have HO1 := jD (show w.heap.size + 1 < w1.heap.size from hR2.lt)
 clear ho hb hR2 n1 hR3 HN0 HX2 HR x0 x1
 go_wp2_with fail
 obtain ⟨W1, HW1⟩ : ∃ u, Hid ((w1.alloc (.cells #[.slice A1 6 c1, .slice A2 m.deeds.length c2, .slice A3 m.e.w.rows.length c3] 27)) = u) := ⟨_, jD rfl⟩
 rw [HW1.out] at HO o0 o1 o2 r0 r1 r2 f0 f1 f2 ⊢
 clear HW1
 have HF := jD (fun (w' : World) (hh : w'.heap = (((W1.setCell ⟨w.heap.size + 1, 0, none⟩ (.slice A1 6 c1)).setCell ⟨w.heap.size + 1, 1, none⟩ (.slice A2 m.deeds.length c2)).setCell ⟨w.heap.size + 1, 2, none⟩ (.slice A3 m.e.w.rows.length c3)).heap) (ht : w'.os = W1.os ∧ w'.tape = W1.tape ∧ w'.output = W1.output) => (show OutV w' (.slice A1 6 c1) (.slice A2 m.deeds.length c2) (.slice A3 m.e.w.rows.length c3) m.sent m.deeds m.e.w.rows ∧ Below w.heap.size w w' by
  have hk : ∀ b, b ≠ w.heap.size + 1 → w'.heap[b]? = W1.heap[b]? := fun b hb => by rw [hh, Below.heap_setCell _ _ _ _ hb, Below.heap_setCell _ _ _ _ hb, Below.heap_setCell _ _ _ _ hb]
  have hz : w'.heap.size = W1.heap.size := by rw [hh]; simp [World.setCell]
  have hB := HO.out.2.2
  exact ⟨HO.out.1.off (slOnly3 HO.out.2.1) hz hk, ⟨ht.1.trans hB.os, ht.2.1.trans hB.tape, ht.2.2.trans hB.output, by rw [hz]; exact hB.size, fun b hb => (hk b (by omega)).trans (hB.block b hb)⟩⟩))
 have hOR : w1.heap.size ≠ w.heap.size + 1 := by have := HO1.out; omega
 have hRl := HO.out.2.1.lt
 clear HO
 have HSd := jD (show W1.drew.cell? ⟨w1.heap.size, 0, none⟩ = some (.slice A1 6 c1) ∧ W1.drew.cell? ⟨w1.heap.size, 1, none⟩ = some (.slice A2 m.deeds.length c2) ∧ W1.drew.cell? ⟨w1.heap.size, 2, none⟩ = some (.slice A3 m.e.w.rows.length c3) from ⟨o0, o1, o2⟩)
 go_region_held3 (fun wx => wx.cell? ⟨w1.heap.size, 0, none⟩ = some (.slice A1 6 c1) ∧ wx.cell? ⟨w1.heap.size, 1, none⟩ = some (.slice A2 m.deeds.length c2) ∧ wx.cell? ⟨w1.heap.size, 2, none⟩ = some (.slice A3 m.e.w.rows.length c3))
  (first
   | with_reducible exact ⟨o0, o1, o2⟩
   | with_reducible exact HSd.out
   | with_reducible exact ⟨cellDr (cell_set3 o0 hOR), cellDr (cell_set3 o1 hOR), cellDr (cell_set3 o2 hOR)⟩
   | with_reducible exact ⟨cell_set3 o0 hOR, cell_set3 o1 hOR, cell_set3 o2 hOR⟩)
  (fail)
 all_goals go_wp2
 all_goals refine bodyPost_ret (v := .tuple #[.agg #[.slice A1 6 c1, .slice A2 m.deeds.length c2, .slice A3 m.e.w.rows.length c3], .bool true]) (by simp [results, Tryz.results11, go_sem, r0, r1, r2]) rfl ?_
 all_goals exact ⟨_, _, _, rfl, HF.out _ (by rfl) ⟨by rfl, by rfl, by rfl⟩⟩
def Deed.told (x : Deed) : ByteArray := tellT x.a.kind.toNat x.st.toNat x.a.text
section
variable {mode : Int} {m : Mach Wd}
end
theorem refB_no {mode : Int} {r : Req} (h0 : r.k ≠ 0) (h1 : r.k = 1 → mode ≠ 3) : refB mode r = false := decide_eq_false fun h => h.elim h0 fun hh => h1 hh.1 hh.2
section
variable {mode : Int} {m : Mach Wd} {c : Nat}
end
def msgR (r : Req) : ByteArray := textOf r.k.toNat r.key r.val
theorem text_size {k : Nat} {key v : ByteArray} (h : checkE k key v = 0) : (textOf k key v).size ≤ 60 := by
 obtain ⟨_, _, _, h4⟩ := read_text h
 rcases Nat.lt_or_ge 60 (textOf k key v).size with h' | h'
 ·rw [readE_long h'] at h4; cases h4
 ·exact h'
theorem req_nat {r : Req} (h : r.ok) : ((r.k.toNat : Nat) : Int) = r.k := by have := (good_of h).lo; omega
theorem msgR_size {r : Req} (h : r.ok) : (msgR r).size ≤ 60 := text_size (by rw [req_nat h]; exact h)
theorem held_set {ss : List Sess} {s : Nat} (x : Sess) (key : ByteArray) : heldB (ss.set s x) s key = heldB ss s key := by
 rw [Bool.eq_iff_iff, heldB_iff, heldB_iff]
 constructor
 ·rintro ⟨k, hk, h1, h2⟩
  have hne : s ≠ k := fun e => h2 (by rw [e])
  rw [List.length_set] at hk
  rw [List.getElem_set_ne hne] at h1
  exact ⟨k, hk, h1, h2⟩
 ·rintro ⟨k, hk, h1, h2⟩
  have hne : s ≠ k := fun e => h2 (by rw [e])
  exact ⟨k, by rw [List.length_set]; exact hk, by rw [List.getElem_set_ne hne]; exact h1, h2⟩
theorem Like.step {A B : Wd} {s c : Nat} (h : Like A B s c) {r : Req} (hr : r.ok) : Like (doR A s r).1 (doR B c r).1 s c ∧ (doR A s r).2 = (doR B c r).2 := by
 obtain ⟨rows, x, a, h1, h2⟩ := h.doM r.k r.key r.val
 have hA := doR_ok h.a h.hs hr
 have hB := doR_ok h.b h.hc hr
 have e1 : doR A s r = (⟨rows, A.ss.set s x⟩, a) := h1
 have e2 : doR B c r = (⟨rows, B.ss.set c x⟩, a) := h2
 rw [e1] at hA ⊢
 rw [e2] at hB ⊢
 refine ⟨⟨hA.1, hB.1, by rw [hA.2]; exact h.hs, by rw [hB.2]; exact h.hc, rfl, ?_, fun key => ?_⟩, rfl⟩
 ·show Wd.at ⟨rows, A.ss.set s x⟩ s = Wd.at ⟨rows, B.ss.set c x⟩ c
  rw [set_at h.hs, set_at h.hc, if_pos rfl, if_pos rfl]
 ·show heldB (A.ss.set s x) s key = heldB (B.ss.set c x) c key
  rw [held_set, held_set, h.held]
section
variable {mode : Int} {m : Mach Wd} {c : Nat}
end
section
variable {mode : Int} {m : Mach Wd} {c : Nat}
end
section
variable {mode : Int} {S T S' T' : Sess} {s t : ByteArray} {ds : List Deed} {r : Req} {a : Ans}
end
section
variable (v o : ByteArray)
variable {v o}
theorem rf (mode : Int) {k : Int} {key val : ByteArray} (h : 2 ≤ k) : refB mode ⟨k, key, val⟩ = false := refB_no (by show k ≠ 0; omega) (fun h' => absurd h' (by show ¬ k = 1; omega))
variable {mode : Int} {s t : ByteArray} {ds : List Deed}
end
def rawM (r : Raw) : ByteArray := msg 81 (msgR (reqR r))
def bump (r : Raw) : Raw := ⟨wrap64 (r.kd + 1), wrap64 (r.a + 1), r.b, r.c⟩
def oddT : Nat → ByteArray
 | 0 => ⟨#[]⟩
 | 1 => ⟨#[119, 104, 97, 116]⟩
 | 2 => ⟨#[103, 101, 116]⟩
 | 3 => ⟨#[115, 101, 116, 32, 97]⟩
 | _ => ⟨#[98, 101, 103, 105, 110, 32, 120]⟩
def wayR (r : Raw) : Nat := (pickI (r.kd.tdiv 24) 20).toNat
def dataR (r : Raw) : ByteArray :=
 if wayR r = 0 then ⟨#[]⟩ else if wayR r = 1 then msg 81 (oddT (pickI r.a 5).toNat) else if wayR r = 2 then msg 88 ⟨#[]⟩
 else if wayR r < 6 then rawM r ++ rawM (bump r) else if wayR r = 6 then (rawM r).extract 0 (pickI r.a (max 1 (rawM r).size : Nat)).toNat else rawM r
def actR (n : Nat) (r : Raw) : Act := ⟨if wayR r = 0 then 2 else 1, pickI r.c n, dataR r⟩
def actsR (l : List Raw) (most n : Nat) : List Act := (l.take most).map (actR n)
theorem rawM_size (r : Raw) : (rawM r).size ≤ 62 := by
 unfold rawM; rw [msg_size]
 have := msgR_size (reqR_ok r); omega
theorem rawM_two (r : Raw) : 2 ≤ (rawM r).size := by unfold rawM; rw [msg_size]; omega
theorem oddT_size : ∀ x, (oddT x).size ≤ 7
 | 0 => by decide
 | 1 => by decide
 | 2 => by decide
 | 3 => by decide
 | _ + 4 => by show (⟨#[98, 101, 103, 105, 110, 32, 120]⟩ : ByteArray).size ≤ 7; decide
theorem dataR_size (r : Raw) : (dataR r).size ≤ 124 := by
 have h1 := rawM_size r
 have h2 := rawM_size (bump r)
 unfold dataR
 by_cases h : wayR r = 0
 ·rw [if_pos h]; decide
 rw [if_neg h]
 by_cases h : wayR r = 1
 ·rw [if_pos h, msg_size]; have := oddT_size (pickI r.a 5).toNat; omega
 rw [if_neg h]
 by_cases h : wayR r = 2
 ·rw [if_pos h]; decide
 rw [if_neg h]
 by_cases h : wayR r < 6
 ·rw [if_pos h, ByteArray.size_append]; omega
 rw [if_neg h]
 by_cases h : wayR r = 6
 ·rw [if_pos h, ByteArray.size_extract]; omega
 rw [if_neg h]; omega
theorem actsR_size {l : List Raw} {most n : Nat} : ∀ a ∈ actsR l most n, a.data.size ≤ 1000 := fun a ha => by
 obtain ⟨r, _, rfl⟩ := List.mem_map.1 ha
 have := dataR_size r
 show (dataR r).size ≤ _
 omega
theorem actR_E {n : Nat} (hn : 0 < n) (h6 : n ≤ 6) (r : Raw) : actE (actR n r) = 0 := by
 have h1 := dataR_size r
 have h2 := pickI_bd r.c (m := n) (by omega)
 unfold actE actR
 rw [if_neg (by simp only; split <;> omega), if_neg (by simp only; omega), if_neg (by simp only; omega)]
theorem act_0 {n : Nat} {r : Raw} (h : wayR r = 0) : actR n r = ⟨2, pickI r.c n, ⟨#[]⟩⟩ := by unfold actR dataR; rw [if_pos h, if_pos h]
theorem act_1 {n : Nat} {r : Raw} (h : wayR r = 1) : actR n r = ⟨1, pickI r.c n, msg 81 (oddT (pickI r.a 5).toNat)⟩ := by unfold actR dataR; rw [if_neg (by omega), if_neg (by omega), if_pos h]
theorem act_2 {n : Nat} {r : Raw} (h : wayR r = 2) : actR n r = ⟨1, pickI r.c n, msg 88 ⟨#[]⟩⟩ := by unfold actR dataR; rw [if_neg (by omega), if_neg (by omega), if_neg (by omega), if_pos h]
theorem act_3 {n : Nat} {r : Raw} (h : 3 ≤ wayR r ∧ wayR r < 6) : actR n r = ⟨1, pickI r.c n, rawM r ++ rawM (bump r)⟩ := by unfold actR dataR; rw [if_neg (by omega), if_neg (by omega), if_neg (by omega), if_neg (by omega), if_pos h.2]
theorem act_6 {n : Nat} {r : Raw} (h : wayR r = 6) : actR n r = ⟨1, pickI r.c n, (rawM r).extract 0 (pickI r.a (max 1 (rawM r).size : Nat)).toNat⟩ := by unfold actR dataR; rw [if_neg (by omega), if_neg (by omega), if_neg (by omega), if_neg (by omega), if_neg (by omega), if_pos h]
theorem act_7 {n : Nat} {r : Raw} (h : 6 < wayR r) : actR n r = ⟨1, pickI r.c n, rawM r⟩ := by unfold actR dataR; rw [if_neg (by omega), if_neg (by omega), if_neg (by omega), if_neg (by omega), if_neg (by omega), if_neg (by omega)]
theorem actsR_E {l : List Raw} {most n : Nat} (hn : 0 < n) (h6 : n ≤ 6) : actsE (actsR l most n) = 0 := actsE_all fun a ha => by
 obtain ⟨r, _, rfl⟩ := List.mem_map.1 ha
 exact actR_E hn h6 r
theorem actsR_len {l : List Raw} {most n : Nat} : (actsR l most n).length ≤ most := by unfold actsR; simp; omega
theorem actsR_c {l : List Raw} {most n : Nat} (hn : 0 < n) : ∀ a ∈ actsR l most n, 0 ≤ a.c ∧ a.c < n := fun a ha => by
 obtain ⟨r, _, rfl⟩ := List.mem_map.1 ha
 exact pickI_bd r.c (by omega)
theorem actsR_take {l : List Raw} {most n k : Nat} (hk : k < l.length) (hm : k < most) : actsR l (k + 1) n = actsR l k n ++ [actR n l[k]] := by
 unfold actsR
 rw [List.take_succ_eq_append_getElem hk, List.map_append]; rfl
theorem setupR_E (mode srv : Int) : setupE (1 + pickI mode 3) (1 + pickI srv 4) = 0 := by
 have h1 := pickI_bd mode (m := 3) (by omega)
 have h2 := pickI_bd srv (m := 4) (by omega)
 unfold setupE
 rw [if_neg (by omega), if_neg (by omega)]
theorem run_E {mode s : Int} {l : List Act} (h1 : setupE mode s = 0) (h2 : l.length ≤ 300) (h3 : actsE l = 0) : runE mode s l = 0 := by
 unfold runE; rw [if_neg (by simpa using h1), if_neg (by omega), h3]
theorem no88_of {l : List UInt8} (h : l.all (fun x => decide (x ≠ 88)) = true) : No88 ⟨l.toArray⟩ := fun x hx => by
 have := List.all_eq_true.1 h x (by simpa using hx)
 simpa using this
theorem word_no : ∀ k, k ≤ 11 → (wordL k).all (fun x => decide (x ≠ 88)) = true := by decide
theorem key_no : ∀ k, k < 4 → (keyL k).all (fun x => decide (x ≠ 88)) = true := by decide
theorem val_no : ∀ k, k < 12 → ((118 : UInt8) :: numL k).all (fun x => decide (x ≠ 88)) = true := by decide
theorem valAt_list (k : Nat) : (valAt k).data.toList = 118 :: numL k := by unfold valAt numAt; simp
theorem valAt_no {k : Nat} (h : k < 12) : No88 (valAt k) := fun x hx => by
 rw [valAt_list] at hx
 simpa using List.all_eq_true.1 (val_no k h) x hx
theorem prepAt_no {b : Nat} (h : b < 12) : ∀ c, No88 (prepAt c b)
 | 0 => no88_of (by decide)
 | 1 => no88_of (by decide)
 | 2 => by
  show No88 (⟨#[112, 117, 116, 32, 114, 111, 119, 32]⟩ ++ valAt b)
  exact no88_app.2 ⟨no88_of (l := [112, 117, 116, 32, 114, 111, 119, 32]) (by decide), valAt_no h⟩
 | _ + 3 => no88_of (l := [112, 117, 116, 32, 98, 32, 120]) (by decide)
theorem no88_nil : No88 ⟨#[]⟩ := fun x hx => by simp at hx
theorem no88_sp : No88 ⟨#[32]⟩ := no88_of (l := [32]) (by decide)
theorem textOf_no {k : Nat} {key v : ByteArray} (hk : k ≤ 11) (h1 : No88 key) (h2 : No88 v) : No88 (textOf k key v) := by
 have hw : No88 (wordAt k) := no88_of (word_no k hk)
 unfold textOf
 split
 ·exact hw
 ·split
  ·exact no88_app.2 ⟨hw, no88_app.2 ⟨no88_sp, h1⟩⟩
  ·exact no88_app.2 ⟨no88_app.2 ⟨hw, no88_app.2 ⟨no88_sp, h1⟩⟩, no88_app.2 ⟨no88_sp, h2⟩⟩
theorem msg_no {k : UInt8} {t : ByteArray} (hk : k ≠ 88) (hs : t.size < 88) (ht : No88 t) : No88 (msg k t) := fun x hx => by
 rw [msg_toList] at hx
 rcases List.mem_cons.1 hx with rfl | hx
 ·exact hk
 rcases List.mem_cons.1 hx with rfl | hx
 ·intro e
  have := congrArg UInt8.toNat e
  rw [UInt8.toNat_ofNat_of_lt' (by show t.size < 256; omega)] at this
  have : t.size = 88 := this
  omega
 ·exact ht x hx
theorem rawM_no (r : Raw) : No88 (rawM r) := by
 have h := reqR_ok r
 refine msg_no (by decide) (by have := msgR_size h; omega) ?_
 unfold msgR
 refine textOf_no ?_ ?_ ?_
 ·have := (good_of h).hi
  omega
 ·show No88 (rawKey _ _)
  unfold rawKey
  split
  ·exact no88_nil
  ·exact no88_of (key_no _ (pick_lt r.a (m := 4) (by omega)))
 ·show No88 (rawVal _ _ _)
  unfold rawVal
  split
  ·exact no88_nil
  ·split
   ·exact valAt_no (pick_lt r.b (m := 12) (by omega))
   ·exact prepAt_no (pick_lt r.b (m := 12) (by omega)) _
theorem oddT_no : ∀ x, No88 (oddT x)
 | 0 => no88_nil
 | 1 => no88_of (l := [119, 104, 97, 116]) (by decide)
 | 2 => no88_of (l := [103, 101, 116]) (by decide)
 | 3 => no88_of (l := [115, 101, 116, 32, 97]) (by decide)
 | _ + 4 => no88_of (l := [98, 101, 103, 105, 110, 32, 120]) (by decide)
def goneB (a : Act) : Bool := decide (a.kind = 2) || (decide (1 ≤ a.data.size) && decide (a.data.data[0]? = some 88))
theorem dataR_no (r : Raw) (h2 : wayR r ≠ 2) : No88 (dataR r) := by
 unfold dataR
 by_cases h : wayR r = 0
 ·rw [if_pos h]; exact no88_nil
 rw [if_neg h]
 by_cases h : wayR r = 1
 ·rw [if_pos h]; exact msg_no (by decide) (by have := oddT_size (pickI r.a 5).toNat; omega) (oddT_no _)
 rw [if_neg h, if_neg h2]
 by_cases h : wayR r < 6
 ·rw [if_pos h]; exact no88_app.2 ⟨rawM_no _, rawM_no _⟩
 rw [if_neg h]
 by_cases h : wayR r = 6
 ·rw [if_pos h]; exact no88_ext (rawM_no r) _ _
 rw [if_neg h]; exact rawM_no r
def stayR (l : List Raw) (most n : Nat) : List Act := (actsR l most n).filter fun a => !goneB a
theorem stayR_sub {l : List Raw} {most n : Nat} {a : Act} (h : a ∈ stayR l most n) : a ∈ actsR l most n ∧ goneB a = false := by
 have := List.mem_filter.1 h
 exact ⟨this.1, by simpa using this.2⟩
theorem stayR_len {l : List Raw} {most n : Nat} : (stayR l most n).length ≤ most := Nat.le_trans (List.length_filter_le _ _) actsR_len
theorem stayR_no {l : List Raw} {most n : Nat} : ∀ a ∈ stayR l most n, a.kind = 1 ∧ No88 a.data := fun a ha => by
 obtain ⟨h1, h2⟩ := stayR_sub ha
 obtain ⟨r, _, rfl⟩ := List.mem_map.1 h1
 have hk : (actR n r).kind ≠ 2 := fun e => by unfold goneB at h2; rw [decide_eq_true e] at h2; simp at h2
 have h0 : wayR r ≠ 0 := fun e => hk (by unfold actR; rw [if_pos e])
 refine ⟨by unfold actR; rw [if_neg h0], ?_⟩
 refine dataR_no r fun e => ?_
 have : goneB (actR n r) = true := by
  have hd : (actR n r).data = msg 88 ⟨#[]⟩ := by
   show dataR r = _
   unfold dataR
   rw [if_neg (by omega), if_neg (by omega), if_pos e]
  have hk1 : (actR n r).kind = 1 := by unfold actR; rw [if_neg h0]
  unfold goneB
  rw [hd, hk1]; decide
 rw [this] at h2; cases h2
set_option maxHeartbeats 1000000 in
theorem show_ok (k : Nat) (key v : ByteArray) (w : World) (hW : Words w) (h : checkE k key v = 0) :
  Calls Tryz.prog 50 #[.agg #[.int .i64 k, .string key, .string v]] w fun e w' => e = .returned (.tuple #[.string (textOf k key v), .int .i64 0]) ∧ Below w.heap.size w w' := by
 have HW := jD hW
 obtain ⟨g1, g2, g3, g4, g5, g6⟩ := good_of h
 have hc := check_any k key v (w.alloc (.cells #[.int .i64 k, .string key, .string v] 36)) (by unfold maxLen; omega) (by unfold maxLen; omega) (HW.out.alloc _)
 rw [h] at hc
 have HC := jD hc
 have hws := wordAt_size (k := k) (by omega)
 clear hW hc h
 by_cases h6 : k < 6
 ·have ht := jD (textOf_6 (key := key) (v := v) h6)
  rw [decide_eq_true (by omega)] at g5 g6
  go_enter Tryz.func50, Tryz.ntmps50
  go_wp2_with fail
  refine HC.out.mono ?_
  rintro e w1 ⟨rfl, hb⟩
  have c := (Stm.new w k key v 36).below hb
  have c0 := c.c0
  have c1 := c.c1
  have c2 := c.c2
  have cw := ((HW.out.alloc _).below hb).cell k (by omega)
  clear c
  go_wp2
  go_ret2
  exact ⟨by rw [ht.out]; rfl, bel_trans ((Below.refl _ _).alloc (nL _) _) hb⟩
 ·by_cases h9 : k < 9
  ·have ht := jD (textOf_9 (key := key) (v := v) h6 h9)
   rw [decide_eq_false (by omega)] at g5
   rw [decide_eq_true (by omega)] at g6
   go_enter Tryz.func50, Tryz.ntmps50
   go_wp2_with fail
   refine HC.out.mono ?_
   rintro e w1 ⟨rfl, hb⟩
   have c := (Stm.new w k key v 36).below hb
   have c0 := c.c0
   have c1 := c.c1
   have c2 := c.c2
   have cw := ((HW.out.alloc _).below hb).cell k (by omega)
   clear c
   go_wp2
   go_ret2
   exact ⟨by rw [ht.out]; rfl, bel_trans ((Below.refl _ _).alloc (nL _) _) hb⟩
  ·have ht := jD (textOf_12 (key := key) (v := v) h9)
   rw [decide_eq_false (by omega)] at g5 g6
   go_enter Tryz.func50, Tryz.ntmps50
   go_wp2_with fail
   refine HC.out.mono ?_
   rintro e w1 ⟨rfl, hb⟩
   have c := (Stm.new w k key v 36).below hb
   have c0 := c.c0
   have c1 := c.c1
   have c2 := c.c2
   have cw := ((HW.out.alloc _).below hb).cell k (by omega)
   clear c
   go_wp2
   go_ret2
   exact ⟨by rw [ht.out]; rfl, bel_trans ((Below.refl _ _).alloc (nL _) _) hb⟩
set_option maxHeartbeats 400000 in
theorem setup_any (mode srv : Int) (w : World) (h1 : -9223372036854775808 ≤ mode) (h2 : mode ≤ 9223372036854775807) (h3 : -9223372036854775808 ≤ srv) (h4 : srv ≤ 9223372036854775807) :
  Calls Tryz.prog 12 #[.int .i64 mode, .int .i64 srv] w fun e w' => e = .returned (.agg #[.int .i64 (1 + pickI mode 3), .int .i64 (1 + pickI srv 4)]) ∧ Below w.heap.size w w' := by
 have HP := jD (fun wc => picked_any mode 3 wc h1 h2 (by omega) (by omega))
 have HQ := jD (fun wc => picked_any srv 4 wc h3 h4 (by omega) (by omega))
 have b1 := pickI_bd mode (m := 3) (by omega)
 have b2 := pickI_bd srv (m := 4) (by omega)
 generalize pickI mode 3 = p at *
 generalize pickI srv 4 = q at *
 clear h1 h2 h3 h4
 go_enter Tryz.func12, Tryz.ntmps12
 go_wp2_with fail
 refine (HP.out _).mono ?_
 rintro e w1 ⟨rfl, rfl⟩
 go_wp2_with fail
 refine (HQ.out _).mono ?_
 rintro e w1 ⟨rfl, rfl⟩
 go_wp2
 refine bodyPost_ret (v := .agg #[.int .i64 (1 + p), .int .i64 (1 + q)]) (by simp [results, Tryz.results12, go_sem]) rfl ⟨rfl, ?_⟩
 repeat' (first | exact Below.refl _ _ | assumption | with_reducible refine below_drewN ?_ _ | with_reducible refine Below.drew ?_ | with_reducible refine Below.setCell ?_ ?_ _ | with_reducible refine Below.alloc ?_ ?_ _ | (simp; done) | (simp; omega))
set_option maxHeartbeats 400000 in
theorem message_any (r : Req) (hr : r.ok) (w : World) (hW : Words w) :
  Calls Tryz.prog 32 #[.agg #[.int .i64 r.k, .string r.key, .string r.val]] w fun e w' => e = .returned (.string (msg 81 (msgR r))) ∧ Below w.heap.size w w' := by
 obtain ⟨k, hk⟩ : ∃ k : Nat, r.k = k := ⟨r.k.toNat, (req_nat hr).symm⟩
 have hm : msgR r = textOf k r.key r.val := by unfold msgR; rw [hk]; rfl
 have hs := msgR_size hr
 have hc : checkE k r.key r.val = 0 := by rw [← hk]; exact hr
 rw [hm] at hs ⊢
 rw [hk]
 generalize r.key = key at *
 generalize r.val = val at *
 have HW := jD hW
 have HS := jD (fun wc h => show_ok k key val wc h hc)
 generalize textOf k key val = t at *
 have HP := jD (fun wc => (pack_any 81 t wc (by omega)))
 clear hW hc hk hm hr
 go_enter Tryz.func32, Tryz.ntmps32
 go_wp2_with fail
 refine (HS.out _ (HW.out.alloc _)).mono ?_
 rintro e w1 ⟨rfl, hb1⟩
 have HB1 := jD (bel_trans ((Below.refl w.heap.size w).alloc (nL _) _) hb1)
 clear hb1
 go_wp2_with fail
 refine (HP.out _).mono ?_
 rintro e w2 ⟨rfl, hb2⟩
 have HB2 := jD (bel_trans HB1.out hb2)
 clear hb2
 go_wp2
 go_ret
 exact ⟨rfl, HB2.out⟩
end Go.Proofs.YtpbaobmegomfpacGreatDoor
namespace Go.Proofs.YtpbaobmegomfpacGreatDoor
open Go Go.RowKit
def fr1 (dp : Nat) (a : Go.Act) : Option Nat → Go.Act
 | none => a
 | some b => a.put (some dp) (pt b)
theorem fr1_put {dp d : Nat} (h : d ≠ dp) (a : Go.Act) (x : Option Nat) (v : Value) : (fr1 dp a x).put (some d) v = fr1 dp (a.put (some d) v) x := by
 cases x with
 | none => rfl
 | some b => simp only [fr1]; rw [pc (Ne.symm h)]
def putN (dst : Nat → Nat) (vals : Nat → Value) (a : Go.Act) : Nat → Go.Act
 | 0 => a
 | c + 1 => (putN dst vals a c).put (some (dst c)) (vals c)
section
variable {P : Program} {ops : Array Oper} {Q : Exit → Go.Act → World → Prop} {md : Region.Mode} {S R : World → Prop} {z : Nat}
def StepC (P : Program) (ops : Array Oper) (R : World → Prop) (i d : Nat) (v : Value) (dp : Nat) (a : Go.Act) : Prop :=
 ∃ o, ops[i]? = some o ∧ o.guard = none ∧ o.dst = some d ∧ ∀ x w, R w →
  (∃ g args, (execOp (fr1 dp a x).eval o).run P w = .ok (.enter g args) w ∧ Calls P g args w fun e w' => e = .returned v ∧ Below w.heap.size w w') ∨ (execOp (fr1 dp a x).eval o).run P w = .ok (.value v) w
theorem StepC.op {i d : Nat} {v : Value} {dp : Nat} {a : Go.Act} (h : StepC P ops R i d v dp a) (hR : ∀ w w', R w → Below w.heap.size w w' → R w') (x : Option Nat) (w : World) (hw : R w) :
  wpOp P ops Q i (fun a' w' => ∃ u, a' = (fr1 dp a x).put (some d) u ∧ (a.put (some d) u = a.put (some d) v ∧ R w') ∧ Below w.heap.size w w') (fr1 dp a x) w := by
 obtain ⟨o, h1, h2, h3, h4⟩ := h
 rcases h4 x w hw with ⟨g, args, hr, hc⟩ | hr
 ·refine wpOp_wp h1 h2 (wp_call hr (hc.mono ?_))
  rintro e w' ⟨rfl, hb⟩
  exact ⟨v, rfl, v, by rw [h3], ⟨rfl, hR w w' hw hb⟩, hb⟩
 ·refine wpOp_wp h1 h2 (wp_val hr ?_)
  exact ⟨v, by rw [h3], ⟨rfl, hw⟩, Below.refl _ _⟩
theorem gridJ {C : Nat} {cop dst : Nat → Nat} {p dp : Nat} {tp : TypeId} {zp : Array Value} {L : Nat → Bool → Array Bool}
  (op : ∃ o, ops[p]? = some o ∧ o.guard = none ∧ o.dst = some dp ∧ ∀ (ev : Operand → Value) w, (execOp ev o).run P w = .ok (.value (pt w.heap.size)) (w.alloc (.cells zp tp)))
  (ready : ∀ c x, c < C → Region.ready md ops (L c x) = cop c :: (if x then [] else [p])) (readyC : Region.ready md ops (L C false) = [p])
  (setc : ∀ c x, c < C → (L c x).setIfInBounds (cop c) true = L (c + 1) x) (setp : ∀ c, c ≤ C → (L c false).setIfInBounds p true = L c true)
  (dn : ∀ c, c < C → dst c ≠ dp) (J : Nat → Go.Act → World → Prop) (n0 lo : Nat) (hJ : ∀ c a w, J c a w → J c a (w.alloc (.cells zp tp))) (hS : ∀ c a w, J c a w → S w) (hl : ∀ c a w, J c a w → lo ≤ w.heap.size)
  (steps : ∀ c a x w, c < C → J c a w → wpOp P ops Q (cop c) (fun a' w' => ∃ v, a' = (fr1 dp a x).put (some (dst c)) v ∧ J (c + 1) (a.put (some (dst c)) v) w' ∧ Below w.heap.size w w') (fr1 dp a x) w)
  (hfin : ∀ a w b, J C a w → zs lo tp zp (some b) w → wpAnyZ P md ops Q S z n0 (L C true) (a.put (some dp) (pt b)) w) :
  ∀ a w, J 0 a w → wpAnyZ P md ops Q S z (n0 + 1 + C) (L 0 false) a w := by
 obtain ⟨o, p1, p2, p3, p4⟩ := op
 have ap : ∀ (a : Go.Act) (w : World) (K : Go.Act → World → Prop), K (fr1 dp a (some w.heap.size)) (w.alloc (.cells zp tp)) → wpOp P ops Q p K (fr1 dp a none) w := fun a w K h => by
  refine wpOp_wp p1 p2 (wp_val (p4 _ w) ?_)
  rw [p3]; exact h
 have main : ∀ (k c : Nat), c + k = C → ∀ (x : Option Nat) (a : Go.Act) (w : World), J c a w → zs lo tp zp x w → wpAnyZ P md ops Q S z (n0 + (!x.isSome).toNat + k) (L c x.isSome) (fr1 dp a x) w := by
  intro k
  induction k with
  | zero =>
   intro c hc x a w hw hz
   obtain rfl : c = C := by omega
   cases x with
   | some b => exact hfin a w b hw hz
   | none =>
    refine ⟨fun h0 => (by rw [show (none : Option Nat).isSome = false from rfl, readyC] at h0; cases h0), fun i hi => ?_⟩
    rw [show (none : Option Nat).isSome = false from rfl, readyC] at hi
    obtain rfl : i = p := by simpa using hi
    have hw' := hJ c a w hw
    refine ap _ w _ ⟨fun _ => hS _ _ _ hw', ?_⟩
    rw [show (none : Option Nat).isSome = false from rfl, setp c (nL _)]
    exact hfin _ _ _ hw' (zs_new _ _ _ (hl _ _ _ hw))
  | succ k ih =>
   intro c hc x a w hw hz
   have hcC : c < C := by omega
   have call : ∀ (x : Option Nat) (w : World), J c a w → zs lo tp zp x w → wpOp P ops Q (cop c) (fun a w' => (cop c ≠ z → S w') ∧ wpAnyZ P md ops Q S z (n0 + (!x.isSome).toNat + k) ((L c x.isSome).setIfInBounds (cop c) true) a w') (fr1 dp a x) w := fun x w hw hz => by
    refine wpOp_mono (fun a' w' h => ?_) (steps c a x w hcC hw)
    obtain ⟨v, rfl, hw', hb⟩ := h
    refine ⟨fun _ => hS _ _ _ hw', ?_⟩
    rw [setc c _ hcC, fr1_put (dn c hcC)]
    exact ih (c + 1) (by omega) x _ w' hw' (zs_below hz hb)
   cases x with
   | some b =>
    refine ⟨fun h0 => (by rw [ready c _ hcC] at h0; cases h0), fun i hi => ?_⟩
    rw [ready c _ hcC] at hi
    obtain rfl : i = cop c := by simpa using hi
    exact call (some b) w hw hz
   | none =>
    refine ⟨fun h0 => (by rw [ready c _ hcC] at h0; cases h0), fun i hi => ?_⟩
    rw [ready c _ hcC] at hi
    have hi : i = cop c ∨ i = p := by simpa using hi
    rcases hi with rfl | rfl
    ·exact call none w hw hz
    ·have hw' := hJ c a w hw
     refine ap _ w _ ⟨fun _ => hS _ _ _ hw', ?_⟩
     rw [show (none : Option Nat).isSome = false from rfl, setp c (by omega)]
     have go := (⟨fun h0 => (by rw [ready c _ hcC] at h0; cases h0), fun j hj => (by
      rw [ready c _ hcC] at hj
      obtain rfl : j = cop c := by simpa using hj
      exact call (some w.heap.size) _ hw' (zs_new _ _ _ (hl _ _ _ hw)))⟩ : wpAnyZ P md ops Q S z (n0 + (!(some w.heap.size : Option Nat).isSome).toNat + k + 1) (L c (some w.heap.size : Option Nat).isSome) (fr1 dp a (some w.heap.size)) (w.alloc (.cells zp tp)))
     have e : n0 + (!(none : Option Nat).isSome).toNat + k = n0 + (!(some w.heap.size : Option Nat).isSome).toNat + k + 1 := by
      show n0 + 1 + k = n0 + 0 + k + 1
      omega
     show wpAnyZ P md ops Q S z (n0 + (!(none : Option Nat).isSome).toNat + k) (L c true) _ _
     rw [e]
     exact go
 intro a w hw
 exact main C 0 (by omega) none a w hw (zs_none _ _ _ _)
theorem gridC {C : Nat} {cop dst : Nat → Nat} {vals : Nat → Value} {A0 : Go.Act} {p dp : Nat} {tp : TypeId} {zp : Array Value} {L : Nat → Bool → Array Bool}
  (op : ∃ o, ops[p]? = some o ∧ o.guard = none ∧ o.dst = some dp ∧ ∀ (ev : Operand → Value) w, (execOp ev o).run P w = .ok (.value (pt w.heap.size)) (w.alloc (.cells zp tp)))
  (ready : ∀ c x, c < C → Region.ready md ops (L c x) = cop c :: (if x then [] else [p])) (readyC : Region.ready md ops (L C false) = [p])
  (setc : ∀ c x, c < C → (L c x).setIfInBounds (cop c) true = L (c + 1) x) (setp : ∀ c, c ≤ C → (L c false).setIfInBounds p true = L c true)
  (dn : ∀ c, c < C → dst c ≠ dp) (n0 lo : Nat) (hR : ∀ w w', R w → Below w.heap.size w w' → R w') (hS : ∀ w, R w → S w) (hl : ∀ w, R w → lo ≤ w.heap.size)
  (steps : ∀ c, c < C → StepC P ops R (cop c) (dst c) (vals c) dp (putN dst vals A0 c))
  (hfin : ∀ w b, R w → zs lo tp zp (some b) w → wpAnyZ P md ops Q S z n0 (L C true) ((putN dst vals A0 C).put (some dp) (pt b)) w) :
  ∀ w, R w → wpAnyZ P md ops Q S z (n0 + 1 + C) (L 0 false) A0 w := fun w hw =>
 gridJ op ready readyC setc setp dn (fun c a w => a = putN dst vals A0 c ∧ R w) n0 lo (fun c a w h => ⟨h.1, hR _ _ h.2 ((Below.refl w.heap.size w).alloc (nL _) _)⟩) (fun c a w h => hS w h.2) (fun c a w h => hl w h.2)
  (fun c a x w hc h => by
   obtain ⟨rfl, hw⟩ := h
   exact (steps c hc).op hR x w hw)
  (fun a w b h hz => by obtain ⟨rfl, hw⟩ := h; exact hfin w b hw hz) A0 w ⟨rfl, hw⟩
end
end Go.Proofs.YtpbaobmegomfpacGreatDoor
