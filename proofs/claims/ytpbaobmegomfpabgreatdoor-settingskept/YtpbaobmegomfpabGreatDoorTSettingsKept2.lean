/-
  Texts of the proof, one behind the other: Laid, LaidWords, CommitM, Itoa2, ActsM, PTop, KeptM, Say11, PMsg, KeptW, Say3, AnsW, EqP, EqSD, GridC, PActs, DelA, PStay, LaidLeads, TabsL.
-/
import Derived.Test.YtpbaobmegomfpabGreatDoorRows
import Derived.WalkKit
import Derived.ProofKit
import Derived.Lib.LaidTab
import Derived.Test.YtpbaobmegomfpabGreatDoorM15
import Derived.Test.YtpbaobmegomfpabGreatDoorM23
import Derived.Test.YtpbaobmegomfpabGreatDoorTSettingsKept1
import Derived.Below
import Derived.Test.YtpbaobmegomfpabGreatDoorM38
import Derived.Deep.RegionHeld3
import Derived.Test.YtpbaobmegomfpabGreatDoorM34
import Derived.Test.YtpbaobmegomfpabGreatDoorM16
import Derived.Test.YtpbaobmegomfpabGreatDoorM1
import Derived.Test.YtpbaobmegomfpabGreatDoorM26
import Derived.Test.YtpbaobmegomfpabGreatDoorM28
import Derived.Test.YtpbaobmegomfpabGreatDoorM22
import Derived.Test.YtpbaobmegomfpabGreatDoorM21
import Derived.IntWalk
import Derived.WalkSmall
import Derived.WalkSpells
import Derived.WalkLawsBesides
import Derived.Lib.Hide
import Derived.Test.YtpbaobmegomfpabGreatDoorM36
import Derived.Lib.AppendZeros
import Derived.MapKept
import Derived.Laws.StructEq
import Derived.Test.YtpbaobmegomfpabGreatDoorM2
import Derived.Deep.QuietTactic
import Derived.BigQuiet
import Derived.Test.YtpbaobmegomfpabGreatDoorM27
import Derived.Test.YtpbaobmegomfpabGreatDoorM20
import Derived.Deep.CutRange
import Derived.Deep.CutBlock
import Derived.Deep.Upon
import Derived.Test.YtpbaobmegomfpabGreatDoorM37
set_option linter.unusedVariables false
set_option linter.unusedSimpArgs false
set_option maxRecDepth 100000
open List renaming getElem_toArray → gTA, getElem_cons_zero → gCZ, getElem_cons_succ → gCS, setIfInBounds_toArray → sTA, set_cons_zero → sCZ, set_cons_succ → sCS
open Go.Lib renaming hid → jD
open Nat renaming le_refl → nL
namespace Go.Proofs.YtpbaobmegomfpabGreatDoor
open Go.RowKit
theorem laid_mem {P : Program} {w : World} {n : String} {d : DataW Unit} : ∀ {l : List (String × DataW Unit)} {ps : List MemPlace}, DataW.LaidVars P w l ps → (n, d) ∈ l →
  ∃ g t cs fuel p, P.globalNamed n = some g ∧ (P.globals[g]?).map (·.type) = some t ∧ w.var? P n = some cs ∧ DataW.trod (fun _ => ()) P w 0 (fun _ => true) false fuel t cs.toList = some (d, p)
 | [], _, _, h => by cases h
 | (m, e) :: l, ps, hl, h => by
  obtain ⟨g, t, cs, fuel, p, q, h1, h2, h3, h4, h5, _⟩ := hl
  rcases List.mem_cons.1 h with he | he
  ·cases he
   exact ⟨g, t, cs, fuel, p, h1, h2, h3, h4⟩
  ·exact laid_mem h5 he
theorem strs_of {P : Program} {w : World} {fuel : Nat} {t e : TypeId} {n : Nat} {cs : List Value} {ss : List (List UInt8)} {p : List MemPlace}
  (ht : P.underlying t = some (.array n e)) (he : P.underlying e = some .string) (hce : P.cellsOf e = 1) (hct : P.cellsOf t = n)
  (h : DataW.trod (fun _ => ()) P w 0 (fun _ => true) false fuel t cs = some (.agg (ss.map fun s => .lit (.string s)), p)) : cs = ss.map fun s => Value.string ⟨s.toArray⟩ := by
 cases fuel with
 | zero => simp [DataW.trod] at h
 | succ fuel =>
  simp only [DataW.trod, ht, hce, hct, Nat.mul_one] at h
  split at h
  ·obtain ⟨xs, hm, hx⟩ := Option.map_eq_some_iff.1 h
   have hxs : xs.map (·.1) = ss.map fun s => (DataW.lit (.string s) : DataW Unit) := by
    have := congrArg Prod.fst hx
    simpa using this
   have hxl : xs.length = n := by simpa using Lib.mapM_length hm
   have hzl : ss.length = n := by
    have := congrArg List.length hxs
    simp at this
    omega
   apply List.ext_getElem?
   intro i
   by_cases hi : i < n
   ·obtain ⟨b, hb, hf⟩ := Lib.mapM_at hm i i (by simp [hi])
    obtain ⟨z, hc, rfl, _⟩ := DataW.trod_string he hf
    have h1 : cs[i]? = some (.string z) := by
     have := congrArg (·[0]?) hc
     simpa [List.getElem?_take, List.getElem?_drop] using this
    have h2 : (xs.map (·.1))[i]? = some (DataW.lit (.string z.data.toList) : DataW Unit) := by simp [hb]
    rw [hxs] at h2
    simp only [List.getElem?_map, Option.map_eq_some_iff, DataW.lit.injEq, Lit.string.injEq] at h2
    obtain ⟨s, hs, rfl⟩ := h2
    simp [h1, hs]
   ·rw [List.getElem?_eq_none (by omega), List.getElem?_eq_none (by simp; omega)]
  ·cases h
theorem tab_of {P : Program} {w : World} {n : String} {l : List (String × DataW Unit)} {ss : List (List UInt8)} {g : Nat} {t e : TypeId} {m : Nat}
  (hg : P.globalNamed n = some g) (hty : (P.globals[g]?).map (·.type) = some t) (ht : P.underlying t = some (.array m e)) (he : P.underlying e = some .string) (hce : P.cellsOf e = 1) (hct : P.cellsOf t = m)
  (h : laidMet P l w) (hin : (n, DataW.agg (ss.map fun s => .lit (.string s))) ∈ l) : g < w.heap.size ∧ ∀ i, i < ss.length → w.cell? ⟨g, i, none⟩ = some (.string ⟨(ss.getD i []).toArray⟩) := by
 obtain ⟨ps, hl, _⟩ := h
 obtain ⟨g', t', cs, fuel, p, h1, h2, h3, h4⟩ := laid_mem hl hin
 obtain rfl := Option.some.inj (hg.symm.trans h1)
 obtain rfl := Option.some.inj (hty.symm.trans h2)
 have hcs := strs_of ht he hce hct h4
 refine ⟨?_, fun i hi => ?_⟩
 ·simp only [World.var?, hg, Option.bind_some] at h3
  split at h3
  ·rename_i hh
   exact (Array.getElem?_eq_some_iff.1 hh).1
  ·cases h3
 ·rw [World.var?_cell hg h3 i]
  have : cs[i]? = cs.toList[i]? := by simp
  rw [this, hcs]
  simp [List.getD, hi]
theorem words_of {l : List (String × DataW Unit)} {w : World} (h : laidMet Tryz.prog l w) (hin : ("tillerman/say.words", DataW.agg ((List.range 12).map fun k => .lit (.string (wordL k)))) ∈ l) : Words w := by
 have h2 : ("tillerman/say.words", DataW.agg (((List.range 12).map wordL).map fun s => .lit (.string s))) ∈ l := by
  rw [List.map_map]; exact hin
 obtain ⟨h3, h4⟩ := tab_of (P := Tryz.prog) (g := 1) (t := 125) (e := 9) (m := 12) (by kernel_rfl) (by kernel_rfl) Tryz.underlying125 Tryz.underlying9 (by kernel_rfl) (by kernel_rfl) h h2
 refine ⟨h3, fun k hk => ?_⟩
 rw [h4 k (by simp; omega)]
 have : ((List.range 12).map wordL).getD k [] = wordL k := by
  simp [List.getD, show k < 12 by omega]
 rw [this]; rfl
section
variable (v : ByteArray)
end
end Go.Proofs.YtpbaobmegomfpabGreatDoor
namespace Go.Proofs.YtpbaobmegomfpabGreatDoor
open Go.RowKit Go.Sort
def dig3 (n : Nat) : List UInt8 := if n < 10 then [UInt8.ofNat (48 + n)] else if n < 100 then [UInt8.ofNat (48 + n / 10), UInt8.ofNat (48 + n % 10)] else [UInt8.ofNat (48 + n / 10 / 10), UInt8.ofNat (48 + n / 10 % 10), UInt8.ofNat (48 + n % 10)]
theorem dig3_eq {n : Nat} (h : n < 1000) : Lib.decDigits n = dig3 n := by
 unfold dig3
 by_cases h1 : n < 10
 ·rw [if_pos h1, Lib.decDigits_one h1]
 ·rw [if_neg h1]
  by_cases h2 : n < 100
  ·rw [if_pos h2, Lib.decDigits_two h1 h2]
  ·rw [if_neg h2, Lib.decDigits, dif_neg h1, Lib.decDigits_two (by omega) (by omega)]
   rfl
theorem itoa_nat {n : Nat} (h : n < 1000) : Lib.itoa (n : Int) = dig3 n := by
 unfold Lib.itoa
 rw [if_neg (by omega), show ((n : Int)).toNat = n by omega, dig3_eq h]
def vnum (n : Nat) : ByteArray := ⟨#[118]⟩ ++ ⟨(dig3 n).toArray⟩
theorem grown_bel (w : World) (q : Nat) (os : Array Obj) : Below w.heap.size w (grow (w.drewN q) os) :=
 ⟨rfl, rfl, rfl, by simp [grow, World.drewN], fun k hk => by
  show ((w.drewN q).heap ++ os)[k]? = _
  rw [Array.getElem?_append_left (by simpa [World.drewN] using hk)]
  rfl⟩
theorem pow_of {l : List (String × DataW Unit)} {w : World} (h : laidMet Tryz.prog l w) (hin : ("internal/strconv.uint64pow10", Lib.tabData .u64 Lib.pow10Tab) ∈ l) : Lib.TabIs Tryz.prog w "internal/strconv.uint64pow10" .u64 Lib.pow10Tab := by
 obtain ⟨ps, hl, _⟩ := h
 obtain ⟨g', t', cs, fuel, p, hg', ht', hvar, hd⟩ := laid_mem hl hin
 obtain rfl := Option.some.inj ((show Tryz.prog.globalNamed "internal/strconv.uint64pow10" = some 2 by kernel_rfl).symm.trans hg')
 obtain rfl := Option.some.inj ((show (Tryz.prog.globals[2]?).map (·.type) = some 168 by kernel_rfl).symm.trans ht')
 unfold Lib.TabIs
 rw [hvar, ← Lib.cells_of_tab Tryz.underlying168 Tryz.underlying149 (by kernel_rfl) (by kernel_rfl) hd]
theorem itoa3_any (n : Nat) (h : n < 1000) (w : World) (ht : Lib.TabIs Tryz.prog w "internal/strconv.uint64pow10" .u64 Lib.pow10Tab) :
  Calls Tryz.prog 19 #[.int .i64 n] w fun e w' => e = .returned (.string ⟨(dig3 n).toArray⟩) ∧ Below w.heap.size w w' := by
 refine (Tryz.strconv_Itoa n (by omega) (by omega) w ht).mono ?_
 rintro e w' ⟨rfl, k, os, rfl⟩
 rw [itoa_nat h]
 exact ⟨rfl, grown_bel w k os⟩
end Go.Proofs.YtpbaobmegomfpabGreatDoor
namespace Go.Proofs.YtpbaobmegomfpabGreatDoor
open Go.RowKit
theorem run_E {mode s : Int} {l : List Act} (h1 : setupE mode s = 0) (h2 : l.length ≤ 300) (h3 : actsE l = 0) : runE mode s l = 0 := by
 unfold runE; rw [if_neg (by simpa using h1), if_neg (by omega), h3]
def SlOnly (w : World) (R : Nat) : Prop := ∀ o u, w.cell? ⟨R, o, none⟩ = some u → ∃ A n c, u = .slice A n c
theorem slOnly3 {w : World} {R t : Nat} {a b c : Option Addr} {n1 n2 n3 c1 c2 c3 : Nat} (h : RowTo w R t 3 [.slice a n1 c1, .slice b n2 c2, .slice c n3 c3]) : SlOnly w R := fun o u hu => by
 obtain ⟨r0, r1, r2⟩ := cells3 h
 rcases Nat.lt_or_ge o 3 with hj | hj
 ·obtain rfl | rfl | rfl : o = 0 ∨ o = 1 ∨ o = 2 := by omega
  ·rw [r0] at hu; injection hu with hu; exact ⟨_, _, _, hu.symm⟩
  ·rw [r1] at hu; injection hu with hu; exact ⟨_, _, _, hu.symm⟩
  ·rw [r2] at hu; injection hu with hu; exact ⟨_, _, _, hu.symm⟩
 ·rw [h.out_ hj] at hu; cases hu
theorem SlOnly.str {w : World} {R o : Nat} (h : SlOnly w R) {s : ByteArray} (hc : w.cell? ⟨R, o, none⟩ = some (.string s)) : False := by
 obtain ⟨A, n, c, e⟩ := h _ _ hc; cases e
theorem SlOnly.int {w : World} {R o : Nat} (h : SlOnly w R) {k : IntKind} {s : Int} (hc : w.cell? ⟨R, o, none⟩ = some (.int k s)) : False := by
 obtain ⟨A, n, c, e⟩ := h _ _ hc; cases e
theorem OutV.off {w w' : World} {R : Nat} {v1 v2 v3 : Value} {sent : List ByteArray} {deeds : List Deed} {rows : PL} (h : OutV w v1 v2 v3 sent deeds rows) (hR : SlOnly w R) (hs : w'.heap.size = w.heap.size) (hk : ∀ b, b ≠ R → w'.heap[b]? = w.heap[b]?) : OutV w' v1 v2 v3 sent deeds rows := by
 refine ⟨⟨h.s.form, h.s.small, h.s.sizes, fun hn => ?_⟩, ⟨h.d.form, h.d.small, fun hn => ?_⟩, ?_⟩
 ·obtain ⟨b, off, c, e, hb, hc⟩ := h.s.cells hn
  have hne : b ≠ R := by rintro rfl; exact hR.str (hc 0 hn)
  exact ⟨b, off, c, e, by rw [hs]; exact hb, fun i hi => (World.cell?_of_block (hk b hne)).trans (hc i hi)⟩
 ·obtain ⟨b, off, c, e, hb, hc⟩ := h.d.cells hn
  have hne : b ≠ R := by rintro rfl; exact hR.int (hc 0 hn 0 _ rfl)
  exact ⟨b, off, c, e, by rw [hs]; exact hb, fun i hi j u hu => (World.cell?_of_block (hk b hne)).trans (hc i hi j u hu)⟩
 ·rw [hs]
  exact h.r.offN (fun o s _ h1 _ => hR.str h1) hk
def ranM (mode : Int) (n : Nat) (l : List Act) : Mach PE := (Mach.start (poolStart n) n).run poolO mode l
theorem ran_sent (mode : Int) {n : Nat} (hn : n ≤ 8) {l : List Act} (hl : actsE l = 0) : (ranM mode n l).sent.length = 6 := ((start_ok (poolStart n) n mode).run hl).s6
theorem vnum_bnd : ∀ n, n < 100 → bndB 33 126 20 (vnum n) = true := by decide +kernel
theorem msgs_E {c : Nat} (hc : c < 6) {l : List Req} (hr : ∀ r ∈ l, r.ok) (hl : l.length ≤ 10) : actE ⟨1, (c : Int), catQ (l.map msgR)⟩ = 0 := by
 have hsz : ∀ t ∈ l.map msgR, t.size ≤ 60 := fun t ht => by
  obtain ⟨r, hr', rfl⟩ := List.mem_map.1 ht
  exact msgR_size (hr r hr')
 have := catQ_size hsz
 rw [List.length_map] at this
 unfold actE
 rw [if_neg (by simp), if_neg (by simp only; omega), if_neg (by simp only; omega)]
theorem skActs_E {v o : ByteArray} (hv : bndB 33 126 20 v = true) (ho : bndB 33 126 20 o = true) : actsE (skActs v o) = 0 := actsE_all fun a ha => by
 unfold skActs at ha
 simp only [List.mem_cons, List.not_mem_nil, or_false] at ha
 rcases ha with rfl | rfl | rfl | rfl | rfl | rfl
 ·exact msgs_E (c := 0) (by omega) (skA_ok hv) (by simp [skA])
 ·exact msgs_E (c := 1) (by omega) (skB_ok ho) (by simp [skB])
 ·exact msgs_E (c := 0) (by omega) skC_ok (by simp [skC])
 ·exact msgs_E (c := 1) (by omega) skC_ok (by simp [skC])
 ·exact close_E (i := 0) (by omega)
 ·exact msgs_E (c := 0) (by omega) skC_ok (by simp [skC])
theorem kept_pool {mode : Int} (hm : mode ≠ 1) {v o : ByteArray} (hv : bndB 33 126 20 v = true) (ho : bndB 33 126 20 o = true) :
  (ranM mode 1 (skActs v o)).sent.getD 0 ⟨#[]⟩ = catM [tIok, tIok, tIeq v, tIeq v, tInone, tIprep] ∧ (ranM mode 1 (skActs v o)).sent.getD 1 ⟨#[]⟩ = catM [tInone, tIprep, tIok, tIeq o, tIprep] := by
 have a1 := pool_house (n := 1) (by omega) mode (skActs_E hv ho)
 unfold ranM
 rw [a1.sent]
 exact top_kept hm hv ho
theorem skActs_size {v o : ByteArray} (hv : bndB 33 126 20 v = true) (ho : bndB 33 126 20 o = true) : ∀ a ∈ skActs v o, a.data.size ≤ 1000 := fun a ha => by
 have h := skActs_E hv ho
 have : ∀ l : List Act, actsE l = 0 → ∀ a ∈ l, actE a = 0 := fun l => by
  induction l with
  | nil => intro _ a ha; cases ha
  | cons b l ih =>
   intro h a ha
   have hc := actsE_cons h
   rcases List.mem_cons.1 ha with rfl | ha
   ·exact hc.1
   ·exact ih hc.2 a ha
 have he := this _ h a ha
 unfold actE at he
 apply Classical.byContradiction
 intro hn
 split at he
 ·cases he
 ·split at he
  ·cases he
  ·rw [if_pos (by omega)] at he; cases he
set_option maxHeartbeats 1000000 in
theorem show_ok (k : Nat) (key v : ByteArray) (w : World) (hW : Words w) (h : checkE k key v = 0) :
  Calls Tryz.prog 35 #[.agg #[.int .i64 k, .string key, .string v]] w fun e w' => e = .returned (.tuple #[.string (textOf k key v), .int .i64 0]) ∧ Below w.heap.size w w' := by
 have HW := jD hW
 obtain ⟨g1, g2, g3, g4, g5, g6⟩ := good_of h
 have hc := check_any k key v (w.alloc (.cells #[.int .i64 k, .string key, .string v] 41)) (by unfold maxLen; omega) (by unfold maxLen; omega) (HW.out.alloc _)
 rw [h] at hc
 have HC := jD hc
 have hws := wordAt_size (k := k) (by omega)
 clear hW hc h
 by_cases h6 : k < 6
 ·have ht := jD (textOf_6 (key := key) (v := v) h6)
  rw [decide_eq_true (by omega)] at g5 g6
  go_enter Tryz.func35, Tryz.ntmps35
  go_wp2_with fail
  refine HC.out.mono ?_
  rintro e w1 ⟨rfl, hb⟩
  have c := (Stm.new w k key v 41).below hb
  have c0 := c.c0
  have c1 := c.c1
  have c2 := c.c2
  have cw := ((HW.out.alloc _).below hb).cell k (by omega)
  clear c
  go_wp2
  go_ret2
  exact ⟨by rw [ht.out]; rfl, bel_trans ((Below.refl _ _).alloc (nL _) _) hb⟩
 ·by_cases h9 : k < 9
  ·have ht := jD (textOf_9 (key := key) (v := v) h6 h9)
   rw [decide_eq_false (by omega)] at g5
   rw [decide_eq_true (by omega)] at g6
   go_enter Tryz.func35, Tryz.ntmps35
   go_wp2_with fail
   refine HC.out.mono ?_
   rintro e w1 ⟨rfl, hb⟩
   have c := (Stm.new w k key v 41).below hb
   have c0 := c.c0
   have c1 := c.c1
   have c2 := c.c2
   have cw := ((HW.out.alloc _).below hb).cell k (by omega)
   clear c
   go_wp2
   go_ret2
   exact ⟨by rw [ht.out]; rfl, bel_trans ((Below.refl _ _).alloc (nL _) _) hb⟩
  ·have ht := jD (textOf_12 (key := key) (v := v) h9)
   rw [decide_eq_false (by omega)] at g5 g6
   go_enter Tryz.func35, Tryz.ntmps35
   go_wp2_with fail
   refine HC.out.mono ?_
   rintro e w1 ⟨rfl, hb⟩
   have c := (Stm.new w k key v 41).below hb
   have c0 := c.c0
   have c1 := c.c1
   have c2 := c.c2
   have cw := ((HW.out.alloc _).below hb).cell k (by omega)
   clear c
   go_wp2
   go_ret2
   exact ⟨by rw [ht.out]; rfl, bel_trans ((Below.refl _ _).alloc (nL _) _) hb⟩
set_option maxHeartbeats 400000 in
theorem message_any (r : Req) (hr : r.ok) (w : World) (hW : Words w) :
  Calls Tryz.prog 15 #[.agg #[.int .i64 r.k, .string r.key, .string r.val]] w fun e w' => e = .returned (.string (msg 81 (msgR r))) ∧ Below w.heap.size w w' := by
 obtain ⟨k, hk⟩ : ∃ k : Nat, r.k = k := ⟨r.k.toNat, (req_nat hr).symm⟩
 have hm : msgR r = textOf k r.key r.val := by unfold msgR; rw [hk]; rfl
 have hs := msgR_size hr
 have hc : checkE k r.key r.val = 0 := by rw [← hk]; exact hr
 rw [hm] at hs ⊢
 rw [hk]
 generalize r.key = key at *
 generalize r.val = val at *
 have HW := jD hW
 have HS := jD (fun wc h => show_ok k key val wc h hc)
 generalize textOf k key val = t at *
 have HP := jD (fun wc => (pack_any 81 t wc (by omega)))
 clear hW hc hk hm hr
 go_enter Tryz.func15, Tryz.ntmps15
 go_wp2_with fail
 refine (HS.out _ (HW.out.alloc _)).mono ?_
 rintro e w1 ⟨rfl, hb1⟩
 have HB1 := jD (bel_trans ((Below.refl w.heap.size w).alloc (nL _) _) hb1)
 clear hb1
 go_wp2_with fail
 refine (HP.out _).mono ?_
 rintro e w2 ⟨rfl, hb2⟩
 have HB2 := jD (bel_trans HB1.out hb2)
 clear hb2
 go_wp2
 go_ret
 exact ⟨rfl, HB2.out⟩
def rqV (r : Req) : List Value := [.int .i64 r.k, .string r.key, .string r.val]
theorem catQ_snoc : ∀ (l : List ByteArray) (t : ByteArray), catQ (l ++ [t]) = catQ l ++ msg 81 t
 | [], t => by
  show msg 81 t ++ (⟨#[]⟩ : ByteArray) = (⟨#[]⟩ : ByteArray) ++ msg 81 t
  rw [app_nil, msg_app_nil]
 | x :: l, t => by
  show msg 81 x ++ catQ (l ++ [t]) = (msg 81 x ++ catQ l) ++ msg 81 t
  rw [catQ_snoc l t, ByteArray.append_assoc]
theorem rqV_cell {w : World} {g n : Nat} {l : List Req} (h : RowTo w g 41 n (l.flatMap rqV)) {k : Nat} (hk : k < l.length) :
  w.cell? ⟨g, k * 3, none⟩ = some (.int .i64 l[k].k) ∧ w.cell? ⟨g, k * 3 + 1, none⟩ = some (.string l[k].key) ∧ w.cell? ⟨g, k * 3 + 2, none⟩ = some (.string l[k].val) := by
 have hlen : ∀ l : List Req, (l.flatMap rqV).length = l.length * 3 := fun l => by
  induction l with
  | nil => rfl
  | cons a l ih => rw [List.flatMap_cons, List.length_append, ih, List.length_cons]; show 3 + _ = _; omega
 have hget : ∀ (l : List Req) (k : Nat) (hk : k < l.length) (j : Nat), j < 3 → (l.flatMap rqV)[k * 3 + j]? = (rqV l[k])[j]? := fun l => by
  induction l with
  | nil => intro k hk; cases hk
  | cons a l ih =>
   intro k hk j hj
   rw [List.flatMap_cons]
   cases k with
   | zero => rw [Nat.zero_mul, Nat.zero_add, List.getElem?_append_left (by show j < 3; exact hj)]; rfl
   | succ k =>
    rw [List.getElem?_append_right (by show 3 ≤ _; omega)]
    have := ih k (by simpa using hk) j hj
    have e : (k + 1) * 3 + j - (rqV a).length = k * 3 + j := by show (k + 1) * 3 + j - 3 = _; omega
    rw [e, this]; rfl
 have c : ∀ j, j < 3 → ∀ v, (rqV l[k])[j]? = some v → w.cell? ⟨g, k * 3 + j, none⟩ = some v := fun j hj v hv => by
  have hlt : k * 3 + j < (l.flatMap rqV).length := by rw [hlen]; omega
  rw [h.cell hlt]
  have := hget l k hk j hj
  rw [List.getElem?_eq_getElem hlt, hv] at this
  exact this
 exact ⟨c 0 (by omega) _ rfl, c 1 (by omega) _ rfl, c 2 (by omega) _ rfl⟩
set_option maxHeartbeats 1000000 in
theorem skAct_any (c : Int) (l : List Req) (g n : Nat) (w : World) (h : RowTo w g 41 n (l.flatMap rqV)) (hr : ∀ r ∈ l, r.ok) (hl : l.length ≤ 10) (hW : Words w) :
  Calls Tryz.prog 20 #[.int .i64 c, .slice (some ⟨g, 0, none⟩) l.length l.length] w fun e w' => e = .returned (.agg #[.int .i64 1, .int .i64 c, .string (catQ (l.map msgR))]) ∧ Below w.heap.size w w' := by
 have HH := jD h
 have hgl := h.lt
 have HR := jD hr
 have HW := jD hW
 have n0 := (Below.refl w.heap.size w).alloc (nL _) (.cells #[.int .i64 0, .int .i64 0, .string ⟨#[]⟩] 54)
 have HS0 := jD (And.intro (RowTo.whole w #[.int .i64 0, .int .i64 0, .string ⟨#[]⟩] 54) n0)
 clear h hr hW n0
 go_enter Tryz.func20, Tryz.ntmps20
 go_wp2
 go_loopw [5, 10] (fun s i wr => ∃ k : Nat, k ≤ l.length ∧ i = .int .i64 k ∧ s = .string (catQ ((l.take k).map msgR)) ∧ Hid (RowTo wr w.heap.size 54 3 [.int .i64 0, .int .i64 0, .string ⟨#[]⟩] ∧ Below w.heap.size w wr)) (fun _ i _ => l.length - (intOf i).toNat)
 case atStart => exact ⟨0, by omega, rfl, rfl, HS0.out⟩
 case round =>
  obtain ⟨k, hk, rfl, rfl, HZ⟩ := hrel
  clear HS0
  by_cases hlt : k < l.length
  ·obtain ⟨c0, c1, c2⟩ := rqV_cell (HH.out.below HZ.out.2 hgl) hlt
   have hglr : g < wr.heap.size := Nat.lt_of_lt_of_le hgl HZ.out.2.size
   have nb := (Below.refl wr.heap.size wr).alloc (nL _) (.cells #[.int .i64 l[k].k, .string l[k].key, .string l[k].val] 41)
   have hX := RowTo.whole wr #[.int .i64 l[k].k, .string l[k].key, .string l[k].val] 41
   obtain ⟨x0, x1, x2⟩ := cells3 hX
   have HM := jD (message_any l[k] (HR.out _ (List.getElem_mem hlt)) _ ((HW.out.below HZ.out.2).below nb))
   have HZ1 := jD (And.intro (HZ.out.1.below nb HZ.out.1.lt) (bel_add' HZ.out.2 nb HZ.out.2.size))
   have hs1 : (catQ ((l.take k).map msgR)).size ≤ 620 := by
    refine Nat.le_trans (catQ_size fun t ht => ?_) (show 62 * ((l.take k).map msgR).length ≤ 620 by rw [List.length_map, List.length_take]; omega)
    obtain ⟨r, hr', rfl⟩ := List.mem_map.1 ht
    exact msgR_size (HR.out r (List.mem_of_mem_take hr'))
   have hs2 : (msg 81 (msgR l[k])).size ≤ 62 := by rw [msg_size]; have := msgR_size (HR.out _ (List.getElem_mem hlt)); omega
   have HCQ := jD (show catQ ((l.take (k + 1)).map msgR) = catQ ((l.take k).map msgR) ++ msg 81 (msgR l[k]) by rw [List.take_succ_eq_append_getElem hlt, List.map_append]; exact catQ_snoc _ _)
   generalize catQ ((l.take k).map msgR) = s0 at *
   generalize msg 81 (msgR l[k]) = t0 at *
   have hsum := fun W => run_string_add_sum (P := Tryz.prog) W s0 t0 (by omega)
   have hc0 : wr.cell? ⟨g, 0 + k * 3, none⟩ = some (.int .i64 l[k].k) := by rw [Nat.zero_add]; exact c0
   have hc1 : wr.cell? ⟨g, 0 + k * 3 + 1, none⟩ = some (.string l[k].key) := by rw [Nat.zero_add]; exact c1
   have hc2 : wr.cell? ⟨g, 0 + k * 3 + 2, none⟩ = some (.string l[k].val) := by rw [Nat.zero_add]; exact c2
   clear nb hX HZ
   go_wp2_with fail
   refine HM.out.mono ?_
   rintro e1 w1 ⟨rfl, hb1⟩
   have HN := jD (And.intro (HZ1.out.1.below hb1 HZ1.out.1.lt) (bel_add' HZ1.out.2 hb1 HZ1.out.2.size))
   clear hb1 HM HZ1 x0 x1 x2
   go_wp2
   go_roundw
   case rel => exact ⟨k + 1, by omega, by go_num, by rw [HCQ.out], HN.out⟩
   case measure => simp [intOf]; omega
  ·obtain rfl : k = l.length := by omega
   rw [List.take_length]
   have hR := HZ.out.1
   have hrl := hR.lt
   have f0 := hR.frozen 0
   have f1 := hR.frozen 1
   have f2 := hR.frozen 2
   obtain ⟨x0, x1, x2⟩ := cells3 hR
   obtain ⟨s0, HSE⟩ : ∃ u, Hid (catQ (l.map msgR) = u) := ⟨_, jD rfl⟩
   rw [HSE.out]
   have HF := jD (bel_set3 HZ.out.2 (nL _) (.int .i64 1) (.int .i64 c) (.string s0))
   have HR3 := jD (hR.set3 (.int .i64 1) (.int .i64 c) (.string s0))
   clear hR HZ
   go_wp2
   obtain ⟨r0, r1, r2⟩ := cells3 HR3.out
   refine bodyPost_ret (v := .agg #[.int .i64 1, .int .i64 c, .string s0]) (by simp [results, Tryz.results20, go_sem, r0, r1, r2]) rfl ⟨by rw [HSE.out], HF.out⟩
theorem unpack_msg (k : UInt8) (T m : ByteArray) (w : World) (hT : T.size ≤ 255) (hm : m.size ≤ 140737488351232) :
  Calls Tryz.prog 37 #[.string (msg k T ++ m)] w fun e w' => e = .returned (.tuple #[.int .u8 k.toNat, .string T, .int .i64 ((2 : Int) + (T.size : Int))]) ∧ Below w.heap.size w w' := by
 have hz : (msg k T ++ m).size = T.size + 2 + m.size := by rw [ByteArray.size_append, msg_size]
 have h1 : (msg k T ++ m)[1].toNat = T.size := by
  have := u8_size hT
  rw [msgs_one]; omega
 refine (unpack_ok (msg k T ++ m) w (by unfold maxLen; omega) (by omega) (by omega)).mono fun e w' ⟨he, hb⟩ => ⟨?_, hb⟩
 rw [he, h1, msgs_zero, msgs_text]
theorem strT_row : (Tryz.prog.info? 9).map (fun i => (i.zero, i.size, i.bytes)) = some (some (.string ⟨#[]⟩), 1, 16) := by kernel_rfl
def OwnT (w0 w : World) (v : Value) (l : List ByteArray) : Prop := ∃ g, Sl w 9 1 v g l.length (l.map .string) ∧ ∀ b, g = some b → w0.heap.size ≤ b
theorem OwnT.below {w0 w w' : World} {v : Value} {l : List ByteArray} (h : OwnT w0 w v l) (hb : Below w.heap.size w w') : OwnT w0 w' v l := by
 obtain ⟨g, h1, h2⟩ := h
 exact ⟨g, h1.below hb, h2⟩
theorem OwnT.nil (w0 w : World) : OwnT w0 w (.slice none 0 0) [] := ⟨none, Sl.nil_ _ _ _, fun b hb => by cases hb⟩
theorem OwnT.shape {w0 w : World} {v : Value} {l : List ByteArray} (h : OwnT w0 w v l) : ∃ A c, v = .slice A l.length c ∧ l.length ≤ c := by
 obtain ⟨g, h1, _⟩ := h
 exact h1.shape
theorem OwnT.lst {w0 w : World} {v : Value} {l : List ByteArray} (h : OwnT w0 w v l) (hs : ∀ t ∈ l, t.size ≤ 100000000) (hl : l.length ≤ 1000000) : TLst w w.heap.size v l := by
 refine ⟨h.shape, hl, hs, fun hn => ?_⟩
 obtain ⟨g, h1, _⟩ := h
 obtain ⟨b, off, cap, rfl, rfl, hc, hcell⟩ := h1.at hn
 refine ⟨b, off, cap, rfl, h1.lt rfl, fun i hi => ?_⟩
 rw [hcell i (by simpa using hi), List.getElem_map]
theorem run_app1 {w0 w : World} {v : Value} {l : List ByteArray} {t : ByteArray} (h : OwnT w0 w v l) (hl : l.length ≤ 1000) (hw : w0.heap.size ≤ w.heap.size) :
  ∃ v' w', (Builtin.append_ #[25, 25] 25 #[v, .slice (some ⟨w.heap.size, 0, none⟩) 1 1]).run Tryz.prog (w.alloc (.cells #[.string t] 9)) = .ok v' w' ∧ OwnT w0 w' v' (l ++ [t]) ∧ ∀ wb, Below w0.heap.size wb w → Below w0.heap.size wb w' := by
 obtain ⟨i0, hi, hz0, hz1, hz2⟩ := info_parts strT_row
 have nb := (Below.refl w.heap.size w).alloc (nL _) (.cells #[.string t] 9)
 have hX := RowTo.whole w #[.string t] 9
 obtain ⟨g, h1, h2⟩ := h.below nb
 obtain ⟨b, off, cap, w', hrun, hs, hgr, hb⟩ := h1.append (P := Tryz.prog) 25 25 i0 _ 16 Tryz.underlying25 hi hz0 hz1 hz2 rfl (by omega) ⟨w.heap.size, 0, none⟩ 1 [.string t] rfl (fun j u hu => by
   have hj := (List.getElem?_eq_some_iff.1 hu).1
   have hj0 : j = 0 := by simpa using hj
   subst hj0
   injection hu with hu
   subst hu
   exact hX.cell (j := 0) (by simp)) (fun u hu => by rw [List.mem_singleton.1 hu]; rfl) (by unfold maxLen; omega) (by omega)
 refine ⟨_, w', hrun, ⟨some b, by rw [List.length_append, List.map_append]; exact hs, fun x hx => ?_⟩, fun wb hwb => ?_⟩
 ·injection hx with hx
  subst hx
  exact hb.elim (fun e => h2 _ e) (fun e => Nat.le_trans (Nat.le_trans hw nb.size) e.1)
 ·exact (hwb.trans (nb.mono hw)).grown hgr (Nat.le_trans hw nb.size) h2
theorem toL_ne {s x : ByteArray} (h : ¬ s = x) : (s.toList == x.toList) = false := by
 rw [← beq_toListBytes]
 cases hb : (s == x) with
 | false => rfl
 | true => exact absurd ((Go.MapKept.bytes_beq s x).1 hb) h
theorem toL_emp {s : ByteArray} (h : ¬ s = ⟨#[]⟩) : s.toList.isEmpty = false := by
 have h1 := toL_ne h
 have e : (⟨#[]⟩ : ByteArray).toList = [] := by first | rfl | simp | (unfold ByteArray.toList ByteArray.toList.loop; simp)
 rw [e] at h1
 cases hs : s.toList with
 | nil => rw [hs] at h1; cases h1
 | cons a l => rfl
def strSz : Value → Nat
 | .string b => b.size
 | _ => 0
theorem catM_size {ts : List ByteArray} (h : ∀ t ∈ ts, t.size ≤ 200) : (catM ts).size ≤ 202 * ts.length := by
 induction ts with
 | nil => exact nL _
 | cons t l ih =>
  show (msg 82 t ++ catM l).size ≤ _
  rw [ByteArray.size_append, msg_size]
  have h1 := h t List.mem_cons_self
  have h2 := ih (fun x hx => h x (List.mem_cons_of_mem _ hx))
  simp only [List.length_cons]
  omega
set_option maxHeartbeats 1000000 in
theorem answers_any (ts : List ByteArray) (w : World) (hts : ∀ t ∈ ts, t.size ≤ 200) (hl : ts.length ≤ 1000) :
  Calls Tryz.prog 16 #[.string (catM ts)] w fun e w' => ∃ v, e = .returned (.tuple #[v, .bool true]) ∧ OwnT w w' v ts ∧ Below w.heap.size w w' := by
 have HTS := jD hts
 have HS0 := jD (show OwnT w w (.slice none 0 0) (ts.take 0) ∧ Below w.heap.size w w from ⟨OwnT.nil w w, Below.refl _ _⟩)
 clear hts
 go_enter Tryz.func16, Tryz.ntmps16
 go_wp2
 go_loopw [0, 4] (fun s o wr => ∃ k : Nat, k ≤ ts.length ∧ s = .string (catM (ts.drop k)) ∧ Hid (OwnT w wr o (ts.take k) ∧ Below w.heap.size w wr)) (fun s _ _ => strSz s)
 case atStart => exact ⟨0, by omega, rfl, HS0.out⟩
 case round =>
  obtain ⟨k, hk, rfl, HZ⟩ := hrel
  clear HS0
  by_cases hlt : k < ts.length
  ·obtain ⟨t, ht⟩ : ∃ t, Hid (ts[k] = t) := ⟨_, jD rfl⟩
   obtain ⟨m, hm⟩ : ∃ m, Hid (catM (ts.drop (k + 1)) = m) := ⟨_, jD rfl⟩
   have he : catM (ts.drop k) = msg 82 t ++ m := by
    rw [List.drop_eq_getElem_cons hlt, ← ht.out, ← hm.out]; rfl
   have htz : t.size ≤ 200 := by rw [← ht.out]; exact HTS.out _ (List.getElem_mem hlt)
   have hmz : m.size ≤ 202000 := by
    rw [← hm.out]
    refine Nat.le_trans (catM_size fun x hx => HTS.out x (List.mem_of_mem_drop hx)) ?_
    rw [List.length_drop]; omega
   have hsz : (msg 82 t ++ m).size = t.size + 2 + m.size := by rw [ByteArray.size_append, msg_size]
   have HU := jD (fun wc => unpack_msg 82 t m wc (by omega) (by omega))
   have HRE := jD (msg_rest 82 t m)
   have HTK := jD (show ts.take (k + 1) = ts.take k ++ [t] by rw [List.take_succ_eq_append_getElem hlt, ht.out])
   obtain ⟨j, hj⟩ : ∃ j : Nat, j = 2 + t.size := ⟨_, rfl⟩
   have hjI : (2 : Int) + (t.size : Int) = (j : Int) := by omega
   rw [← hj] at HRE
   rw [hjI] at HU
   rw [he]
   have hnee : ¬ (msg 82 t ++ m) = ⟨#[]⟩ := fun h => by have := congrArg ByteArray.size h; rw [hsz] at this; have h0 : (⟨#[]⟩ : ByteArray).size = 0 := rfl; omega
   have hne : (msg 82 t ++ m).toList.isEmpty = false := toL_emp hnee
   clear hnee
   have HZS := jD hsz
   have hjs : j ≤ (msg 82 t ++ m).size := by omega
   have HJ := jD hj
   generalize msg 82 t ++ m = s at *
   have hj0 : ((j : Int) == 0) = false := beq_eq_false_iff_ne.2 (by omega)
   clear he hsz hjI hj
   go_wp2_with fail
   refine (HU.out _).mono ?_
   rintro e1 w1 ⟨rfl, hb1⟩
   have HZ1 := jD (And.intro (HZ.out.1.below hb1) (bel_add' HZ.out.2 hb1 HZ.out.2.size))
   clear hb1 HU
   have hlk : (ts.take k).length ≤ 1000 := by rw [List.length_take]; omega
   obtain ⟨v', w', hrun, ho, hbb⟩ := run_app1 (t := t) HZ1.out.1 hlk HZ1.out.2.size
   obtain ⟨A, c, hv, _⟩ := HZ1.out.1.shape
   have hlk2 : (ts.take k).length = k := by rw [List.length_take]; omega
   rw [hlk2] at hv
   rw [hv] at hrun ⊢
   have HN := jD (And.intro ho (hbb w HZ1.out.2))
   clear ho hbb hv HZ HZ1 hlk hlk2
   go_wp2_with (at_builtin; refine Lib.wpList_append_run _ rfl _ _ _ _ rfl _ _ rfl rfl _ _ hrun ?_)
   go_roundw
   case rel => exact ⟨k + 1, by omega, by rw [hm.out]; simp [HRE.out], by rw [HTK.out]; exact HN.out⟩
   case measure => simp [strSz, HRE.out]; have := HZS.out; have := HJ.out; omega
  ·obtain rfl : k = ts.length := by omega
   have HE := jD (show OwnT w wr _ ts ∧ Below w.heap.size w wr by have h := HZ.out; rw [List.take_length] at h; exact h)
   have he : catM (ts.drop ts.length) = ⟨#[]⟩ := by rw [List.drop_length]; rfl
   rw [he]
   clear HZ
   go_wp2
   go_ret2
   exact ⟨_, rfl, HE.out⟩
set_option maxHeartbeats 400000 in
theorem equalS_same (v v' : Value) (l : List ByteArray) (w : World) (B : Nat) (hl : TLst w B v l) (hl' : TLst w B v' l) :
  Calls Tryz.prog 17 #[v, v'] w fun e w' => e = .returned (.bool true) ∧ ∃ n, w' = w.drewN n := by
 obtain ⟨A, c, rfl, hc⟩ := hl.form
 obtain ⟨A', c', rfl, hc'⟩ := hl'.form
 have hby := hl.small
 have HL := jD hl
 have HL' := jD hl'
 have hne : ((l.length : Int) != (l.length : Int)) = false := by simp
 clear hl hl'
 go_enter Tryz.func17, Tryz.ntmps17
 go_wp2
 go_loopw [13] (fun i wr => ∃ k : Nat, k ≤ l.length ∧ i = .int .i64 k ∧ ∃ n, wr = w.drewN n) (fun i _ => l.length - (intOf i).toNat)
 case atStart => exact ⟨0, by omega, rfl, 0, rfl⟩
 case round =>
  obtain ⟨k, hk, rfl, n, rfl⟩ := hrel
  by_cases hlt : k < l.length
  ·obtain ⟨b, off, rfl, hb, c0⟩ := HL.out.pt hlt
   obtain ⟨b', off', rfl, hb', c0'⟩ := HL'.out.pt hlt
   go_wp2
   go_quiet (fail)
   go_wp2
   go_roundw
   case rel => exact ⟨k + 1, by omega, by go_num, n + nq, rfl⟩
   case measure => simp [intOf]; omega
  ·go_wp2
   go_ret
   exact ⟨rfl, _, rfl⟩
end Go.Proofs.YtpbaobmegomfpabGreatDoor
namespace Go.Proofs.YtpbaobmegomfpabGreatDoor
open Go Go.RowKit
section
variable {P : Program} {ops : Array Oper} {Q : Exit → Go.Act → World → Prop} {md : Region.Mode} {S R : World → Prop} {z : Nat}
end
end Go.Proofs.YtpbaobmegomfpabGreatDoor
namespace Go.Proofs.YtpbaobmegomfpabGreatDoor
open Go.RowKit
def actV (a : Act) : List Value := [.int .i64 a.kind, .int .i64 a.c, .string a.data]
def encA (x : Act) : List Value := [.int .i64 x.kind, .int .i64 x.c, .string x.data]
section
variable {w : World} {b off cap : Nat} {d : List (Act)}
theorem Rw.cA (h : Rw w 54 3 b off cap (d.map encA)) {i : Nat} (hi : i < d.length) : w.cell? ⟨b, off + i * 3, none⟩ = some (.int .i64 d[i].kind) ∧ w.cell? ⟨b, off + i * 3 + 1, none⟩ = some (.int .i64 d[i].c) ∧ w.cell? ⟨b, off + i * 3 + 2, none⟩ = some (.string d[i].data) := by
 have hi' : i < (d.map encA).length := by simpa using hi
 have h0 := h.cell i hi' 0 (by omega)
 have h1 := h.cell i hi' 1 (by omega)
 have h2 := h.cell i hi' 2 (by omega)
 rw [List.getElem_map] at h0
 rw [List.getElem_map] at h1
 rw [List.getElem_map] at h2
 exact ⟨by simpa [encA] using h0, by simpa [encA] using h1, by simpa [encA] using h2⟩
end
theorem actV_len (al : List Act) : ∀ e ∈ al.map actV, e.length = 3 := fun e he => by obtain ⟨x, _, rfl⟩ := List.mem_map.1 he; rfl
theorem Sl.alst {w : World} {out : Value} {g : Option Nat} {al : List Act} (h : Sl w 54 3 out g al.length (al.map actV).flatten) (hby : al.length * 32 ≤ 140737488351232) (hs : ∀ a ∈ al, a.data.size ≤ 140737488351232) : ALst w w.heap.size out al := by
 obtain ⟨A, c, rfl, hc⟩ := h.shape
 refine ⟨⟨A, c, rfl, hc⟩, hby, hs, fun hn => ?_⟩
 obtain ⟨b, off, cap, h1, h2, h3, h4⟩ := h.at hn
 refine ⟨b, off, cap, h2, h.lt h1, fun i hi => ?_⟩
 have hf : ∀ j, j < 3 → w.cell? ⟨b, off + (i * 3 + j), none⟩ = (actV al[i])[j]? := fun j hj => by
  have hf := flat_get (d := al.map actV) (size := 3) (actV_len al) (i := i) (by simpa using hi) hj
  rw [List.getElem_map] at hf
  have hl : i * 3 + j < (al.map actV).flatten.length := by rw [h.len]; exact at_in hi hj
  rw [h4 _ hl, ← List.getElem?_eq_getElem hl]
  exact hf
 have h0 := hf 0 (by omega)
 have h1 := hf 1 (by omega)
 have h2 := hf 2 (by omega)
 rw [← Nat.add_assoc] at h0 h1 h2
 exact ⟨h0, h1, h2⟩
theorem Rw.alst {w : World} {b off cap : Nat} {al : List Act} (h : Rw w 54 3 b off cap (al.map encA)) (hby : al.length ≤ 1000) (hs : ∀ a ∈ al, a.data.size ≤ 1000) : ALst w w.heap.size (.slice (some ⟨b, off, none⟩) al.length cap) al :=
 ⟨⟨_, _, rfl, by simpa using h.room⟩, by omega, fun a ha => by have := hs a ha; omega, fun _ => ⟨b, off, cap, rfl, h.row.lt, fun i hi => h.cA hi⟩⟩
theorem leads_of {l : List (String × DataW Unit)} {w : World} (h : laidMet Tryz.prog l w) (hin : ("tillerman/say.leads", DataW.agg ((List.range 5).map fun k => .lit (.string (leadL k)))) ∈ l) : Leads w := by
 have h2 : ("tillerman/say.leads", DataW.agg (((List.range 5).map leadL).map fun s => .lit (.string s))) ∈ l := by
  rw [List.map_map]; exact hin
 obtain ⟨h3, h4⟩ := tab_of (P := Tryz.prog) (g := 0) (t := 103) (e := 9) (m := 5) (by kernel_rfl) (by kernel_rfl) Tryz.underlying103 Tryz.underlying9 (by kernel_rfl) (by kernel_rfl) h h2
 refine ⟨h3, fun k hk => ?_⟩
 rw [h4 k (by simp; omega)]
 have : ((List.range 5).map leadL).getD k [] = leadL k := by
  simp [List.getD, show k < 5 by omega]
 rw [this]; rfl
theorem tabs_of {w : World} (h1 : Words w) (h2 : Leads w) : Tabs w w.heap.size := ⟨h1, h2, h1.room, h2.room⟩
end Go.Proofs.YtpbaobmegomfpabGreatDoor
