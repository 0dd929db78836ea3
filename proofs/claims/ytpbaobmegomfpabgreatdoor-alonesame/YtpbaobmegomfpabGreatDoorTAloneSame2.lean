/-
  Texts of the proof, one behind the other: EqP, EqSD, Laid, LaidWords, LaidLeads, TabsL, TopHd, FreeR, FreeX, WAloneSame.
-/
import Derived.Test.YtpbaobmegomfpabGreatDoorM2
import Derived.Test.YtpbaobmegomfpabGreatDoorRows
import Derived.Deep.QuietTactic
import Derived.BigQuiet
import Derived.IntWalk
import Derived.WalkSmall
import Derived.Test.YtpbaobmegomfpabGreatDoorM36
import Derived.WalkKit
import Derived.ProofKit
import Derived.Lib.LaidTab
import Derived.Test.YtpbaobmegomfpabGreatDoorM15
import Derived.Test.YtpbaobmegomfpabGreatDoorM27
import Derived.Test.YtpbaobmegomfpabGreatDoorM28
import Derived.Test.YtpbaobmegomfpabGreatDoorTAloneSame1
import Derived.Test.YtpbaobmegomfpabGreatDoorM23
import Derived.Test.YtpbaobmegomfpabGreatDoorM1
import Derived.Below
import Derived.Test.YtpbaobmegomfpabGreatDoorM26
set_option linter.unusedVariables false
set_option linter.unusedSimpArgs false
set_option maxRecDepth 100000
open List renaming getElem_toArray → gTA, getElem_cons_zero → gCZ, getElem_cons_succ → gCS, setIfInBounds_toArray → sTA, set_cons_zero → sCZ, set_cons_succ → sCS
open Go.Lib renaming hid → jD
open Nat renaming le_refl → nL
namespace Go.Proofs.YtpbaobmegomfpabGreatDoor
open Go.RowKit
set_option maxHeartbeats 400000 in
theorem equalP_same (v v' : Value) (l : PL) (w : World) (B : Nat) (hl : Lst w B v l) (hl' : Lst w B v' l) :
  Calls Tryz.prog 18 #[v, v'] w fun e w' => e = .returned (.bool true) ∧ ∃ n, w' = w.drewN n := by
 obtain ⟨A, c, rfl, hc⟩ := hl.form
 obtain ⟨A', c', rfl, hc'⟩ := hl'.form
 have hby := hl.bytes
 have HL := jD hl
 have HL' := jD hl'
 have hne : ((l.length : Int) != (l.length : Int)) = false := by simp
 clear hl hl'
 go_enter Tryz.func18, Tryz.ntmps18
 go_wp2
 go_loopw [13] (fun i wr => ∃ k : Nat, k ≤ l.length ∧ i = .int .i64 k ∧ ∃ n, wr = w.drewN n) (fun i _ => l.length - (intOf i).toNat)
 case atStart => exact ⟨0, by omega, rfl, 0, rfl⟩
 case round =>
  obtain ⟨k, hk, rfl, n, rfl⟩ := hrel
  by_cases hlt : k < l.length
  ·obtain ⟨b, off, rfl, hb, c0, c1⟩ := HL.out.pt hlt
   obtain ⟨b', off', rfl, hb', c0', c1'⟩ := HL'.out.pt hlt
   go_wp2
   go_quiet (fail)
   go_wp2
   go_roundw
   case rel => exact ⟨k + 1, by omega, by go_num, n + nq, rfl⟩
   case measure => simp [intOf]; omega
  ·go_wp2
   go_ret
   exact ⟨rfl, _, rfl⟩
set_option maxHeartbeats 400000 in
theorem equalS_same (v v' : Value) (l : List ByteArray) (w : World) (B : Nat) (hl : TLst w B v l) (hl' : TLst w B v' l) :
  Calls Tryz.prog 17 #[v, v'] w fun e w' => e = .returned (.bool true) ∧ ∃ n, w' = w.drewN n := by
 obtain ⟨A, c, rfl, hc⟩ := hl.form
 obtain ⟨A', c', rfl, hc'⟩ := hl'.form
 have hby := hl.small
 have HL := jD hl
 have HL' := jD hl'
 have hne : ((l.length : Int) != (l.length : Int)) = false := by simp
 clear hl hl'
 go_enter Tryz.func17, Tryz.ntmps17
 go_wp2
 go_loopw [13] (fun i wr => ∃ k : Nat, k ≤ l.length ∧ i = .int .i64 k ∧ ∃ n, wr = w.drewN n) (fun i _ => l.length - (intOf i).toNat)
 case atStart => exact ⟨0, by omega, rfl, 0, rfl⟩
 case round =>
  obtain ⟨k, hk, rfl, n, rfl⟩ := hrel
  by_cases hlt : k < l.length
  ·obtain ⟨b, off, rfl, hb, c0⟩ := HL.out.pt hlt
   obtain ⟨b', off', rfl, hb', c0'⟩ := HL'.out.pt hlt
   go_wp2
   go_quiet (fail)
   go_wp2
   go_roundw
   case rel => exact ⟨k + 1, by omega, by go_num, n + nq, rfl⟩
   case measure => simp [intOf]; omega
  ·go_wp2
   go_ret
   exact ⟨rfl, _, rfl⟩
theorem laid_mem {P : Program} {w : World} {n : String} {d : DataW Unit} : ∀ {l : List (String × DataW Unit)} {ps : List MemPlace}, DataW.LaidVars P w l ps → (n, d) ∈ l →
  ∃ g t cs fuel p, P.globalNamed n = some g ∧ (P.globals[g]?).map (·.type) = some t ∧ w.var? P n = some cs ∧ DataW.trod (fun _ => ()) P w 0 (fun _ => true) false fuel t cs.toList = some (d, p)
 | [], _, _, h => by cases h
 | (m, e) :: l, ps, hl, h => by
  obtain ⟨g, t, cs, fuel, p, q, h1, h2, h3, h4, h5, _⟩ := hl
  rcases List.mem_cons.1 h with he | he
  ·cases he
   exact ⟨g, t, cs, fuel, p, h1, h2, h3, h4⟩
  ·exact laid_mem h5 he
theorem strs_of {P : Program} {w : World} {fuel : Nat} {t e : TypeId} {n : Nat} {cs : List Value} {ss : List (List UInt8)} {p : List MemPlace}
  (ht : P.underlying t = some (.array n e)) (he : P.underlying e = some .string) (hce : P.cellsOf e = 1) (hct : P.cellsOf t = n)
  (h : DataW.trod (fun _ => ()) P w 0 (fun _ => true) false fuel t cs = some (.agg (ss.map fun s => .lit (.string s)), p)) : cs = ss.map fun s => Value.string ⟨s.toArray⟩ := by
 cases fuel with
 | zero => simp [DataW.trod] at h
 | succ fuel =>
  simp only [DataW.trod, ht, hce, hct, Nat.mul_one] at h
  split at h
  ·obtain ⟨xs, hm, hx⟩ := Option.map_eq_some_iff.1 h
   have hxs : xs.map (·.1) = ss.map fun s => (DataW.lit (.string s) : DataW Unit) := by
    have := congrArg Prod.fst hx
    simpa using this
   have hxl : xs.length = n := by simpa using Lib.mapM_length hm
   have hzl : ss.length = n := by
    have := congrArg List.length hxs
    simp at this
    omega
   apply List.ext_getElem?
   intro i
   by_cases hi : i < n
   ·obtain ⟨b, hb, hf⟩ := Lib.mapM_at hm i i (by simp [hi])
    obtain ⟨z, hc, rfl, _⟩ := DataW.trod_string he hf
    have h1 : cs[i]? = some (.string z) := by
     have := congrArg (·[0]?) hc
     simpa [List.getElem?_take, List.getElem?_drop] using this
    have h2 : (xs.map (·.1))[i]? = some (DataW.lit (.string z.data.toList) : DataW Unit) := by simp [hb]
    rw [hxs] at h2
    simp only [List.getElem?_map, Option.map_eq_some_iff, DataW.lit.injEq, Lit.string.injEq] at h2
    obtain ⟨s, hs, rfl⟩ := h2
    simp [h1, hs]
   ·rw [List.getElem?_eq_none (by omega), List.getElem?_eq_none (by simp; omega)]
  ·cases h
theorem tab_of {P : Program} {w : World} {n : String} {l : List (String × DataW Unit)} {ss : List (List UInt8)} {g : Nat} {t e : TypeId} {m : Nat}
  (hg : P.globalNamed n = some g) (hty : (P.globals[g]?).map (·.type) = some t) (ht : P.underlying t = some (.array m e)) (he : P.underlying e = some .string) (hce : P.cellsOf e = 1) (hct : P.cellsOf t = m)
  (h : laidMet P l w) (hin : (n, DataW.agg (ss.map fun s => .lit (.string s))) ∈ l) : g < w.heap.size ∧ ∀ i, i < ss.length → w.cell? ⟨g, i, none⟩ = some (.string ⟨(ss.getD i []).toArray⟩) := by
 obtain ⟨ps, hl, _⟩ := h
 obtain ⟨g', t', cs, fuel, p, h1, h2, h3, h4⟩ := laid_mem hl hin
 obtain rfl := Option.some.inj (hg.symm.trans h1)
 obtain rfl := Option.some.inj (hty.symm.trans h2)
 have hcs := strs_of ht he hce hct h4
 refine ⟨?_, fun i hi => ?_⟩
 ·simp only [World.var?, hg, Option.bind_some] at h3
  split at h3
  ·rename_i hh
   exact (Array.getElem?_eq_some_iff.1 hh).1
  ·cases h3
 ·rw [World.var?_cell hg h3 i]
  have : cs[i]? = cs.toList[i]? := by simp
  rw [this, hcs]
  simp [List.getD, hi]
theorem words_of {l : List (String × DataW Unit)} {w : World} (h : laidMet Tryz.prog l w) (hin : ("tillerman/say.words", DataW.agg ((List.range 12).map fun k => .lit (.string (wordL k)))) ∈ l) : Words w := by
 have h2 : ("tillerman/say.words", DataW.agg (((List.range 12).map wordL).map fun s => .lit (.string s))) ∈ l := by
  rw [List.map_map]; exact hin
 obtain ⟨h3, h4⟩ := tab_of (P := Tryz.prog) (g := 1) (t := 125) (e := 9) (m := 12) (by kernel_rfl) (by kernel_rfl) Tryz.underlying125 Tryz.underlying9 (by kernel_rfl) (by kernel_rfl) h h2
 refine ⟨h3, fun k hk => ?_⟩
 rw [h4 k (by simp; omega)]
 have : ((List.range 12).map wordL).getD k [] = wordL k := by
  simp [List.getD, show k < 12 by omega]
 rw [this]; rfl
theorem leads_of {l : List (String × DataW Unit)} {w : World} (h : laidMet Tryz.prog l w) (hin : ("tillerman/say.leads", DataW.agg ((List.range 5).map fun k => .lit (.string (leadL k)))) ∈ l) : Leads w := by
 have h2 : ("tillerman/say.leads", DataW.agg (((List.range 5).map leadL).map fun s => .lit (.string s))) ∈ l := by
  rw [List.map_map]; exact hin
 obtain ⟨h3, h4⟩ := tab_of (P := Tryz.prog) (g := 0) (t := 103) (e := 9) (m := 5) (by kernel_rfl) (by kernel_rfl) Tryz.underlying103 Tryz.underlying9 (by kernel_rfl) (by kernel_rfl) h h2
 refine ⟨h3, fun k hk => ?_⟩
 rw [h4 k (by simp; omega)]
 have : ((List.range 5).map leadL).getD k [] = leadL k := by
  simp [List.getD, show k < 5 by omega]
 rw [this]; rfl
theorem tabs_of {w : World} (h1 : Words w) (h2 : Leads w) : Tabs w w.heap.size := ⟨h1, h2, h1.room, h2.room⟩
structure OutAt (w wr : World) (B bO : Nat) (v1 v2 v3 : Value) (snt : List ByteArray) (ds : List Deed) (rows : PL) : Prop where
 o : RowTo wr bO 29 3 [v1, v2, v3]
 s : TLst wr B v1 snt
 d : DLst wr B v2 ds
 r : Lst wr B v3 rows
 bb : B ≤ wr.heap.size
 bel : Below w.heap.size w wr
theorem OutAt.below {w wr w' : World} {B bO : Nat} {v1 v2 v3 : Value} {snt : List ByteArray} {ds : List Deed} {rows : PL} (h : OutAt w wr B bO v1 v2 v3 snt ds rows) (hb : Below wr.heap.size wr w') : OutAt w w' B bO v1 v2 v3 snt ds rows := by
 have hbb := h.bb
 exact ⟨h.o.below hb h.o.lt, h.s.keep (nL _) (fun p hp => hb.cell (Nat.lt_of_lt_of_le hp hbb)), h.d.keep (nL _) (fun p hp => hb.cell (Nat.lt_of_lt_of_le hp hbb)), h.r.below (hb.mono hbb), Nat.le_trans hbb hb.size, bel_add' h.bel hb h.bel.size⟩
theorem OutAt.new {w w3 : World} {v1 v2 v3 : Value} {snt : List ByteArray} {ds : List Deed} {rows : PL} (h : OutV w3 v1 v2 v3 snt ds rows) (hb : Below w.heap.size w w3) : OutAt w (w3.alloc (.cells #[v1, v2, v3] 29)) w3.heap.size w3.heap.size v1 v2 v3 snt ds rows := by
 have n := (Below.refl w3.heap.size w3).alloc (nL _) (.cells #[v1, v2, v3] 29)
 exact ⟨RowTo.whole w3 #[v1, v2, v3] _, h.s.keep (nL _) (fun p hp => n.cell hp), h.d.keep (nL _) (fun p hp => n.cell hp), h.r.below n, n.size, bel_add' hb n hb.size⟩
theorem DLst.take {w : World} {B n c : Nat} {A : Option Addr} {l : List Deed} (h : DLst w B (.slice A n c) l) (hn : n = l.length) {k : Nat} (hk : k ≤ l.length) : DLst w B (.slice A k c) (l.take k) := by
 have hl : (l.take k).length = k := by rw [List.length_take]; omega
 obtain ⟨A', c', e, hc⟩ := h.form
 injection e with e1 e2 e3
 refine ⟨⟨A, c, by rw [hl], by omega⟩, by rw [hl]; have := h.small; omega, fun hp => ?_⟩
 rw [hl] at hp
 obtain ⟨b, off, c'', e, hb, hcell⟩ := h.cells (by omega)
 injection e with e1 e2 e3
 subst e1 e3
 refine ⟨b, off, c, by rw [hl], hb, fun i hi j u hu => hcell i (by omega) j u ?_⟩
 rw [List.getElem_take] at hu
 exact hu
end Go.Proofs.YtpbaobmegomfpabGreatDoor
namespace Go.Proofs.YtpbaobmegomfpabGreatDoor
open Go Go.RowKit
section
variable {P : Program} {ops : Array Oper} {Q : Exit → Go.Act → World → Prop} {md : Region.Mode} {z : Nat}
def prF (md : Region.Mode) (ops : Array Oper) (i : Nat) : List Nat := match ops[i]? with
 | some o => (o.after.toList.filter fun e => Region.binds md e).map (·.on)
 | none => []
def cloF (md : Region.Mode) (ops : Array Oper) : Nat → List Nat → List Nat
 | 0, L => L
 | k + 1, L => cloF md ops k ((List.range ops.size).filter fun j => L.contains j || L.any fun i => (prF md ops i).contains j)
theorem cloF_sub {D : Nat → Prop} (hD : ∀ i, D i → ∀ j ∈ prF md ops i, D j) : ∀ (k : Nat) (L : List Nat), (∀ i ∈ L, D i) → ∀ i ∈ cloF md ops k L, D i
 | 0, L, h => h
 | k + 1, L, h => cloF_sub hD k _ fun i hi => by
  have := (List.mem_filter.1 hi).2
  simp only [Bool.or_eq_true, List.any_eq_true] at this
  rcases this with h1 | ⟨x, hx, h1⟩
  ·exact h i (by simpa using h1)
  ·exact hD x (h x hx) i (by simpa using h1)
def putF (A : Go.Act) (vals : Nat → Value) : List (Nat × Nat) → Go.Act
 | [] => A
 | (j, d) :: l => putF (A.put (some d) (vals j)) vals l
theorem putF_defers (vals : Nat → Value) : ∀ (l : List (Nat × Nat)) (A : Go.Act), (putF A vals l).defers = A.defers
 | [], A => rfl
 | (j, d) :: l, A => by show (putF (A.put (some d) (vals j)) vals l).defers = _; rw [putF_defers vals l]; rfl
theorem putF_out (vals : Nat → Value) {t : Nat} : ∀ (l : List (Nat × Nat)) (A : Go.Act), (∀ x ∈ l, x.2 ≠ t) → (putF A vals l).tmps[t]? = A.tmps[t]?
 | [], A, _ => rfl
 | (j, d) :: l, A, h => by
  show (putF (A.put (some d) (vals j)) vals l).tmps[t]? = _
  rw [putF_out vals l _ (fun x hx => h x (List.mem_cons_of_mem _ hx))]
  have hne : d ≠ t := h (j, d) List.mem_cons_self
  simp [Act.put, Array.getElem?_setIfInBounds_ne hne]
theorem putF_in (vals : Nat → Value) {j t : Nat} : ∀ (l : List (Nat × Nat)) (A : Go.Act), t < A.tmps.size → (∀ x ∈ l, x.2 = t → x.1 = j) → (∃ x ∈ l, x.2 = t) → (putF A vals l).tmps[t]? = some (vals j)
 | [], A, _, _, h => by obtain ⟨x, hx, _⟩ := h; cases hx
 | (i, d) :: l, A, hs, hu, h => by
  show (putF (A.put (some d) (vals i)) vals l).tmps[t]? = _
  by_cases hl : ∃ x ∈ l, x.2 = t
  ·exact putF_in vals l _ (by simpa [Act.put] using hs) (fun x hx => hu x (List.mem_cons_of_mem _ hx)) hl
  ·rw [putF_out vals l _ (fun x hx e => hl ⟨x, hx, e⟩)]
   obtain ⟨x, hx, e⟩ := h
   rcases List.mem_cons.1 hx with rfl | hx
   ·obtain rfl : d = t := e
    have := hu (i, d) List.mem_cons_self rfl
    obtain rfl : i = j := this
    simp [Act.put, hs]
   ·exact absurd ⟨x, hx, e⟩ hl
def chkF (md : Region.Mode) (ops : Array Oper) (z : Nat) (fol : List Nat) (kill bef : List (Nat × Nat)) (D : List (Nat × Nat)) (pre : List (List (Nat × Nat))) (n : Nat) : Bool :=
 Region.noSelect ops && D.map (·.1) == List.range D.length && decide (D.length ≤ ops.size) && pre.length == D.length &&
 (D.all fun x => decide (x.2 < n) && (D.all fun y => y.2 != x.2 || y.1 == x.1)) &&
 ((List.range D.length).all fun i => match ops[i]?, D[i]?, pre[i]? with
  | some o, some x, some p => o.dst == some x.2 && ((prF md ops i).all fun j => decide (j < i)) && (p.all fun y => D.contains y && (prF md ops i).contains y.1) && (D.all fun y => !(o.looksAt ops).contains y.2 || p.contains y)
  | _, _, _ => false) &&
 ((List.range ops.size).all fun i => decide (i < D.length) || (List.range D.length).all fun j => (cloF md ops D.length (prF md ops i)).contains j || fol.contains j && (prF md ops j).all fun y => (cloF md ops D.length (prF md ops i)).contains y) &&
 (fol.all fun f => decide (f < D.length) && f != z && waitsFor md ops z f && Region.free md ops ((List.range ops.size).map fun j => (cloF md ops D.length (prF md ops f)).contains j).toArray f) &&
 (kill.all fun x => !fol.contains x.1 && (List.range D.length).all fun k => k == x.1 || !((pre.getD k []).any fun y => y.1 == x.2) || (cloF md ops D.length (prF md ops x.1)).contains k) &&
 (bef.all fun x => (cloF md ops D.length (prF md ops x.2)).contains x.1)
def ObF (P : Program) (ops : Array Oper) (V : Nat → Value → World → Prop) (Tr : Nat → World → World → Prop) (A : Go.Act) (i : Nat) (w : World) : Prop :=
 ∃ o, ops[i]? = some o ∧ ((Region.wanted o (yielded ops A.tmps) = true ∧ ((∃ v w', (execOp A.eval o).run P w = .ok (.value v) w' ∧ V i v w' ∧ Tr i w w') ∨
  ∃ g args, (execOp A.eval o).run P w = .ok (.enter g args) w ∧ Calls P g args w fun e w' => ∃ v, e = .returned v ∧ V i v w' ∧ Tr i w w')) ∨
  (Region.wanted o (yielded ops A.tmps) = false ∧ V i undef w))
def ObL (P : Program) (ops : Array Oper) (V : Nat → Value → World → Prop) (A : Go.Act) (i : Nat) (w : World) : Prop :=
 ∃ o v, ops[i]? = some o ∧ Region.wanted o (yielded ops A.tmps) = true ∧ (∀ w', (execOp A.eval o).run P w' = .ok (.value v) w') ∧ V i v w
theorem free_mono {md : Region.Mode} {ops : Array Oper} {l0 listed : Array Bool} {i : Nat} (hl : ∀ j, j < ops.size → l0.getD j true = true → listed.getD j true = true) (h : Region.free md ops l0 i = true) : Region.free md ops listed i = true := by
 unfold Region.free at *
 cases ho : ops[i]? with
 | none => rw [ho] at h; cases h
 | some oi =>
  rw [ho] at h
  simp only [List.all_eq_true, List.mem_range, Bool.or_eq_true] at h ⊢
  intro j hj
  rcases h j hj with (h1 | h1) | h1
  ·exact .inl (.inl h1)
  ·exact .inl (.inr (hl j hj h1))
  ·exact .inr h1
structure FJ (md : Region.Mode) (ops : Array Oper) (kill D : List (Nat × Nat)) (V : Nat → Value → World → Prop) (R : World → Prop) (A0 : Go.Act) (listed : Array Bool) (a : Go.Act) (w : World) (vals : Nat → Value) : Prop where
 sz : listed.size = ops.size
 hi : ∀ i, D.length ≤ i → listed.getD i false = false
 cl : ∀ i, listed.getD i false = true → ∀ j ∈ prF md ops i, listed.getD j false = true
 tm : ∀ x ∈ D, listed.getD x.1 false = true → a.tmps[x.2]? = some (vals x.1)
 rest : ∀ t, (∀ x ∈ D, listed.getD x.1 false = true → x.2 ≠ t) → a.tmps[t]? = A0.tmps[t]?
 df : a.defers = A0.defers
 fact : ∀ i, listed.getD i false = true → (∀ k, (k, i) ∈ kill → listed.getD k false = false) → V i (vals i) w
 r : R w
def unF (listed : Array Bool) (m : Nat) : Nat := (List.range m).countP fun i => !listed.getD i false
theorem countP_upd {f g : Nat → Bool} {i : Nat} : ∀ (l : List Nat), l.Nodup → i ∈ l → f i = true → g i = false → (∀ j, j ≠ i → g j = f j) → l.countP g + 1 = l.countP f
 | [], _, h, _, _, _ => by cases h
 | x :: l, hn, h, hf, hg, he => by
  have hn' := List.nodup_cons.1 hn
  rcases List.mem_cons.1 h with rfl | h
  ·rw [List.countP_cons_of_neg (by simp [hg]), List.countP_cons_of_pos hf]
   congr 1
   exact List.countP_congr fun j hj => by rw [he j (fun e => hn'.1 (e ▸ hj))]
  ·have hne : x ≠ i := fun e => hn'.1 (e ▸ h)
   have ih := countP_upd l hn'.2 h hf hg he
   rw [List.countP_cons, List.countP_cons, he x hne]
   omega
theorem getD_true_false {l : Array Bool} {i : Nat} (h : i < l.size) (d d' : Bool) : l.getD i d = l.getD i d' := by
 rw [Array.getD_eq_getD_getElem?, Array.getD_eq_getD_getElem?, Array.getElem?_eq_getElem h]; rfl
theorem getD_set_self {l : Array Bool} {i : Nat} (h : i < l.size) (d : Bool) : (l.setIfInBounds i true).getD i d = true := by
 rw [Array.getD_eq_getD_getElem?, Array.getElem?_setIfInBounds_self_of_lt h]; rfl
def lstF (m n : Nat) : Array Bool := (List.replicate m true ++ List.replicate (n - m) false).toArray
theorem act_ext {a b : Go.Act} (h1 : ∀ t : Nat, a.tmps[t]? = b.tmps[t]?) (h2 : a.defers = b.defers) : a = b := by
 obtain ⟨x, y⟩ := a
 obtain ⟨u, v⟩ := b
 simp only at h1 h2
 rw [h2, Array.ext_getElem? h1]
theorem free_main {fol : List Nat} {kill bef D : List (Nat × Nat)} {pre : List (List (Nat × Nat))} {A0 : Go.Act} (hchk : chkF md ops z fol kill bef D pre A0.tmps.size = true) (hQ : ∀ c (a : Go.Act) w (d : Nat) v, Q (.panic c) (a.put (some d) v) w → Q (.panic c) a w) (V : Nat → Value → World → Prop) (Tr : Nat → World → World → Prop) (R : World → Prop) (n0 : Nat) (Tr0 : ∀ i w, Tr i w w)
  (mono : ∀ k i v w w', (k, i) ∉ kill → (k, i) ∉ bef → k ≠ i → V i v w → Tr k w w' → V i v w') (monoR : ∀ k w w', R w → Tr k w w' → R w')
  (obl : ∀ i, i < D.length → i ∉ fol → ∀ (vals : Nat → Value) w, R w → (∀ x ∈ pre.getD i [], V x.1 (vals x.1) w) → ObF P ops V Tr (putF A0 vals (pre.getD i [])) i w)
  (obf : ∀ i ∈ fol, ∀ (vals : Nat → Value) w, R w → (∀ x ∈ pre.getD i [], V x.1 (vals x.1) w) → ObL P ops V (putF A0 vals (pre.getD i [])) i w)
  (fin : ∀ (vals : Nat → Value) w, R w → (∀ i < D.length, (∀ k, (k, i) ∉ kill) → V i (vals i) w) → wpAnyZ P md ops Q (fun _ => True) z n0 (lstF D.length ops.size) (putF A0 vals D) w) :
  ∀ (k : Nat) (listed : Array Bool) (a : Go.Act) (w : World) (vals : Nat → Value), unF listed D.length = k → FJ md ops kill D V R A0 listed a w vals → wpAnyZ P md ops Q (fun _ => True) z (n0 + k) listed a w := by
 unfold chkF at hchk
 simp only [Bool.and_eq_true, decide_eq_true_eq, beq_iff_eq] at hchk
 obtain ⟨⟨⟨⟨⟨⟨⟨⟨⟨hsel, hD⟩, hm⟩, hpl⟩, hd⟩, hop⟩, htail⟩, hfol⟩, hkill⟩, hbef⟩ := hchk
 have hsel' := Region.noSelect_spec hsel
 have hdx : ∀ x ∈ D, x.2 < A0.tmps.size ∧ ∀ y ∈ D, y.2 = x.2 → y.1 = x.1 := fun x hx => by
  have := List.all_eq_true.1 hd x hx
  simp only [Bool.and_eq_true, decide_eq_true_eq] at this
  refine ⟨this.1, fun y hy e => ?_⟩
  have := List.all_eq_true.1 this.2 y hy
  simpa [e] using this
 have hD1 : ∀ i, i < D.length → ∃ x, D[i]? = some x ∧ x.1 = i := fun i hi => by
  refine ⟨D[i], List.getElem?_eq_getElem hi, ?_⟩
  have h1 : (D.map (·.1))[i]? = (List.range D.length)[i]? := by rw [hD]
  rw [List.getElem?_map, List.getElem?_eq_getElem hi, List.getElem?_range hi] at h1
  simpa using h1
 have hDx : ∀ x ∈ D, x.1 < D.length ∧ D[x.1]? = some x := fun x hx => by
  obtain ⟨i, hi, rfl⟩ := List.mem_iff_getElem.1 hx
  obtain ⟨y, hy, e⟩ := hD1 i hi
  rw [List.getElem?_eq_getElem hi] at hy
  injection hy with hy
  subst hy
  rw [e]; exact ⟨hi, List.getElem?_eq_getElem hi⟩
 have hops : ∀ i, i < D.length → ∃ o x p, ops[i]? = some o ∧ D[i]? = some x ∧ pre[i]? = some p ∧ o.dst = some x.2 ∧ (∀ j ∈ prF md ops i, j < i) ∧ (∀ y ∈ p, y ∈ D ∧ y.1 ∈ prF md ops i) ∧ ∀ y ∈ D, y.2 ∈ o.looksAt ops → y ∈ p := fun i hi => by
  have := List.all_eq_true.1 hop i (List.mem_range.2 hi)
  split at this
  ·rename_i o x p h1 h2 h3
   simp only [Bool.and_eq_true, beq_iff_eq, List.all_eq_true, decide_eq_true_eq, List.contains_iff_mem, Bool.or_eq_true, Bool.not_eq_true'] at this
   refine ⟨o, x, p, h1, h2, h3, this.1.1.1, this.1.1.2, this.1.2, fun y hy hl => ?_⟩
   rcases this.2 y hy with h | h
   ·have := List.contains_iff_mem.2 hl
    rw [this] at h; cases h
   ·exact h
  ·cases this
 intro k
 induction k with
 | zero =>
  intro listed a w vals hk h
  have hall : ∀ i, i < D.length → listed.getD i false = true := fun i hi => by
   have := List.countP_eq_zero.1 hk i (List.mem_range.2 hi)
   simpa using this
  have e1 : listed = lstF D.length ops.size := by
   refine Array.ext_getElem? fun i => ?_
   unfold lstF
   show _ = (List.replicate D.length true ++ List.replicate (ops.size - D.length) false).toArray[i]?
   simp only [List.getElem?_toArray]
   have hlt' : listed.toList[i]? = listed[i]? := by simp
   try rw [hlt']
   rcases Nat.lt_or_ge i listed.size with hlt | hge
   ·have hb : listed[i]? = some (listed.getD i false) := by rw [Array.getD_eq_getD_getElem?, Array.getElem?_eq_getElem hlt]; rfl
    rw [hb]
    rcases Nat.lt_or_ge i D.length with h1 | h1
    ·rw [hall i h1, List.getElem?_append_left (by simpa using h1), List.getElem?_replicate, if_pos h1]
    ·rw [h.hi i h1, List.getElem?_append_right (by simpa using h1), List.getElem?_replicate, if_pos (by have := h.sz; simp; omega)]
   ·rw [Array.getElem?_eq_none hge, List.getElem?_eq_none]
    have := h.sz
    simp; omega
  have e2 : a = putF A0 vals D := by
   refine act_ext (fun t => ?_) (by rw [h.df, putF_defers])
   by_cases ht : ∃ x ∈ D, x.2 = t
   ·obtain ⟨x, hx, rfl⟩ := ht
    rw [h.tm x hx (hall _ (hDx x hx).1), putF_in (j := x.1) vals D A0 (hdx x hx).1 (fun y hy e => (hdx x hx).2 y hy e) ⟨x, hx, rfl⟩]
   ·rw [h.rest t (fun x hx _ e => ht ⟨x, hx, e⟩), putF_out vals D A0 (fun x hx e => ht ⟨x, hx, e⟩)]
  rw [e1, e2]
  exact fin vals w h.r (fun i hi hk => h.fact i (hall i hi) (fun k hk' => absurd hk' (hk k)))
 | succ k ih =>
  intro listed a w vals hk h
  have hex : ∃ i, i < D.length ∧ listed.getD i false = false := by
   apply Classical.byContradiction
   intro hno
   have : unF listed D.length = 0 := List.countP_eq_zero.2 fun i hi => by
    cases hb : listed.getD i false with
    | true => simp
    | false => exact absurd ⟨i, List.mem_range.1 hi, hb⟩ hno
   rw [this] at hk; cases hk
  have prl : ∀ i ∈ Region.ready md ops listed, ∀ x ∈ prF md ops i, listed.getD x false = true := fun i hi x hx => by
   obtain ⟨_, o, ho, haf⟩ := mem_ready.1 hi
   unfold prF at hx
   rw [ho] at hx
   obtain ⟨e, he, rfl⟩ := List.mem_map.1 hx
   have he2 := List.mem_filter.1 he
   exact haf e (by simpa using he2.1) (by simpa using he2.2)
  have ready_small : (∀ f ∈ fol, f ∉ Region.ready md ops listed) → ∀ i ∈ Region.ready md ops listed, i < D.length := fun hnf i hi => by
   apply Classical.byContradiction
   intro hge
   obtain ⟨hun, o, ho, haf⟩ := mem_ready.1 hi
   have hlt := (Array.getElem?_eq_some_iff.1 ho).1
   have := List.all_eq_true.1 htail i (List.mem_range.2 hlt)
   simp only [Bool.or_eq_true, decide_eq_true_eq, hge, false_or] at this
   obtain ⟨j, hj, hjf⟩ := hex
   have hjc := List.all_eq_true.1 this j (List.mem_range.2 hj)
   have hpr : ∀ x ∈ prF md ops i, listed.getD x false = true := fun x hx => by
    unfold prF at hx
    rw [ho] at hx
    obtain ⟨e, he, rfl⟩ := List.mem_map.1 hx
    have he2 := List.mem_filter.1 he
    exact haf e (by simpa using he2.1) (by simpa using he2.2)
   have hclo := cloF_sub (D := fun i => listed.getD i false = true) h.cl D.length (prF md ops i) hpr
   rcases Bool.or_eq_true _ _ ▸ hjc with hjc | hjc
   ·have := hclo j (by simpa using hjc)
    rw [hjf] at this; cases this
   ·simp only [Bool.and_eq_true, List.contains_iff_mem, List.all_eq_true] at hjc
    obtain ⟨oj, xj, pj, hj1, _⟩ := hops j hj
    refine hnf j hjc.1 (mem_ready.2 ⟨by rw [getD_true_false (by rw [h.sz]; omega) true false]; exact hjf, oj, hj1, fun e he hb => hclo _ (hjc.2 e.on ?_)⟩)
    unfold prF
    rw [hj1]
    exact List.mem_map.2 ⟨e, List.mem_filter.2 ⟨by simpa using he, by simpa using hb⟩, rfl⟩
  have at_i : ∀ i, i < D.length → i ∈ Region.ready md ops listed → ∃ o, ops[i]? = some o ∧ execOp a.eval o = execOp (putF A0 vals (pre.getD i [])).eval o ∧ Region.wanted o (yielded ops a.tmps) = Region.wanted o (yielded ops (putF A0 vals (pre.getD i [])).tmps) ∧
    (∀ x ∈ pre.getD i [], V x.1 (vals x.1) w) ∧ ∀ v w', V i v w' → Tr i w w' → (∃ d, o.dst = some d) ∧ wpAnyZ P md ops Q (fun _ => True) z (n0 + k) (listed.setIfInBounds i true) (a.put o.dst v) w' := fun i him hi => by
   obtain ⟨o, x, p, h1, h2, h3, h4, h5, h6, h7⟩ := hops i him
   have hxD : x ∈ D := List.mem_of_getElem? h2
   have hx1 : x.1 = i := by
    obtain ⟨y, hy, e⟩ := hD1 i him
    rw [h2] at hy; injection hy with hy; rw [hy]; exact e
   have hpre : pre.getD i [] = p := by rw [List.getD_eq_getElem?_getD, h3]; rfl
   have hilt : i < listed.size := by rw [h.sz]; omega
   have hifalse : listed.getD i false = false := by
    rw [← getD_true_false hilt true false]; exact (mem_ready.1 hi).1
   have hlive : ∀ y ∈ p, ∀ k, (k, y.1) ∈ kill → listed.getD k false = false := fun y hy k hk => by
    have h0 := List.all_eq_true.1 hkill (k, y.1) hk
    simp only [Bool.and_eq_true, List.all_eq_true, Bool.or_eq_true, beq_iff_eq] at h0
    have hi' := h0.2 i (List.mem_range.2 him)
    cases hb : listed.getD k false with
    | false => rfl
    | true =>
     exfalso
     rcases hi' with (hi' | hi') | hi'
     ·rw [← hi', hifalse] at hb; cases hb
     ·rw [hpre] at hi'
      have : (p.any fun u => u.1 == y.1) = true := List.any_eq_true.2 ⟨y, hy, by simp⟩
      rw [this] at hi'; cases hi'
     ·have := cloF_sub (D := fun i => listed.getD i false = true) h.cl D.length (prF md ops k) (h.cl k hb) i (by simpa using hi')
      rw [hifalse] at this; cases this
   -- the frame at hand and the one in which the operation was looked at
   have hsame : ∀ t, t ∈ o.looksAt ops → a.tmps[t]? = (putF A0 vals p).tmps[t]? := fun t ht => by
    by_cases hin : ∃ y ∈ D, y.2 = t
    ·obtain ⟨y, hy, rfl⟩ := hin
     have hyp := h7 y hy ht
     rw [h.tm y hy (prl i hi _ (h6 y hyp).2), putF_in (j := y.1) vals p A0 (hdx y hy).1 (fun u hu e => (hdx y hy).2 u (h6 u hu).1 e) ⟨y, hyp, rfl⟩]
    ·rw [h.rest t (fun y hy _ e => hin ⟨y, hy, e⟩), putF_out vals p A0 (fun y hy e => hin ⟨y, (h6 y hy).1, e⟩)]
   have hexec : execOp a.eval o = execOp (putF A0 vals p).eval o := execOp_congr o (fun cs b => hsel' i o cs b h1) fun y hy => by
    cases y with
    | tmp t =>
     have ht : t ∈ o.looksAt ops := List.mem_append_left _ (List.mem_filterMap.2 ⟨.tmp t, by simpa using hy, rfl⟩)
     show a.tmps.getD t undef = (putF A0 vals p).tmps.getD t undef
     rw [Array.getD_eq_getD_getElem?, Array.getD_eq_getD_getElem?, hsame t ht]
    | const _ => rfl
    | global _ => rfl
    | func _ => rfl
   have hwant : Region.wanted o (yielded ops a.tmps) = Region.wanted o (yielded ops (putF A0 vals p).tmps) := by
    unfold Region.wanted
    cases hg : o.guard with
    | none => rfl
    | some gw =>
     obtain ⟨g, want⟩ := gw
     have hy : yielded ops a.tmps g = yielded ops (putF A0 vals p).tmps g := by
      unfold yielded
      cases ht : (ops[g]?).bind (·.dst) with
      | none => rfl
      | some t =>
       have := hsame t (List.mem_append_right _ (by rw [hg]; simp [ht]))
       simp only [Option.bind_some, this]
     simp only [hy]
   -- behind it
   have next : ∀ v w', V i v w' → Tr i w w' → wpAnyZ P md ops Q (fun _ => True) z (n0 + k) (listed.setIfInBounds i true) (a.put o.dst v) w' := fun v w' hv hb => by
    refine ih (listed.setIfInBounds i true) (a.put o.dst v) w' (fun j => if j = i then v else vals j) ?_ ?_
    ·have := countP_upd (f := fun j => !listed.getD j false) (g := fun j => !(listed.setIfInBounds i true).getD j false) (i := i) (List.range D.length) List.nodup_range (List.mem_range.2 him) (by simp only [hifalse]; rfl) (by rw [getD_set_self hilt]; rfl) (fun j hj => by rw [getD_set_ne false (Ne.symm hj)])
     unfold unF at hk ⊢
     omega
    ·have hset : ∀ j, (listed.setIfInBounds i true).getD j false = true → j = i ∨ listed.getD j false = true := fun j hj => by
      by_cases e : j = i
      ·exact .inl e
      ·rw [getD_set_ne false (Ne.symm e)] at hj; exact .inr hj
     have hup : ∀ j, listed.getD j false = true → (listed.setIfInBounds i true).getD j false = true := fun j hj => by
      by_cases e : j = i
      ·subst e; exact getD_set_self hilt false
      ·rw [getD_set_ne false (Ne.symm e)]; exact hj
     have hin : i ≠ i → False := fun h => h rfl
     refine ⟨by simpa using h.sz, fun j hj => ?_, fun j hj y hy => ?_, fun y hy hl => ?_, fun t ht => ?_, ?_, fun j hj hjk => ?_, monoR i w w' h.r hb⟩
     ·rw [getD_set_ne false (show i ≠ j by omega)]; exact h.hi j hj
     ·rcases hset j hj with rfl | hj
      ·exact hup y (prl _ hi y hy)
      ·exact hup y (h.cl j hj y hy)
     ·rw [h4]
      by_cases e : y.1 = i
      ·rw [e]
       simp only [if_true]
       have hyx : y = x := by
        have := (hDx y hy).2
        rw [e, h2] at this
        injection this with this; exact this.symm
       rw [hyx]
       have htm : x.2 < a.tmps.size := by
        apply Classical.byContradiction
        intro hge
        have h0 := h.rest x.2 (fun u hu hl' e' => by
         have := (hdx x hxD).2 u hu e'
         rw [this, hx1, hifalse] at hl'; cases hl')
        rw [Array.getElem?_eq_none (by omega), Array.getElem?_eq_getElem (hdx x hxD).1] at h0
        cases h0
       simp [Act.put, htm]
      ·rw [if_neg e]
       have hl' : listed.getD y.1 false = true := (hset _ hl).resolve_left e
       have hne : x.2 ≠ y.2 := fun e' => e (by rw [← hx1]; exact (hdx x hxD).2 y hy e'.symm)
       have := h.tm y hy hl'
       simp [Act.put, Array.getElem?_setIfInBounds_ne hne, this]
     ·rw [h4]
      have hne : x.2 ≠ t := ht x hxD (by rw [hx1]; exact getD_set_self hilt false)
      have := h.rest t (fun y hy hl => ht y hy (hup _ hl))
      simp [Act.put, Array.getElem?_setIfInBounds_ne hne, this]
     ·rw [h4]; exact h.df
     ·by_cases e : j = i
      ·subst e; simp only [if_true]; exact hv
      ·simp only [if_neg e]; exact mono i j _ _ _ (fun hm => by have := hjk i hm; rw [getD_set_self hilt] at this; cases this) (fun hm => by
        have h0 := List.all_eq_true.1 hbef (i, j) hm
        have := cloF_sub (D := fun i => listed.getD i false = true) h.cl D.length (prF md ops j) (h.cl j ((hset j hj).resolve_left e)) i (by simpa using h0)
        rw [hifalse] at this; cases this) (Ne.symm e) (h.fact j ((hset j hj).resolve_left e) (fun k hk => by
        cases hb' : listed.getD k false with
        | false => rfl
        | true => have := hjk k hk; rw [hup k hb'] at this; cases this)) hb
   rw [hpre]
   exact ⟨o, h1, hexec, hwant, fun y hy => h.fact _ (prl i hi _ (h6 y hy).2) (hlive y hy), fun v w' h1' h2' => ⟨⟨_, h4⟩, next v w' h1' h2'⟩⟩
  by_cases hff : ∃ f ∈ fol, f ∈ Region.ready md ops listed
  ·obtain ⟨f, hf, hfr⟩ := hff
   have hc := List.all_eq_true.1 hfol f hf
   simp only [Bool.and_eq_true, decide_eq_true_eq, bne_iff_ne] at hc
   obtain ⟨o, h1, hexec, hwant, hpv, next⟩ := at_i f hc.1.1.1 hfr
   obtain ⟨o', v, h1', hw, hrun, hv⟩ := obf f hf vals w h.r hpv
   rw [h1] at h1'
   injection h1' with h1'
   subst h1'
   exact wpAnyZ_take (fuel := n0 + k) h1 hsel (free_mono (fun j hj hlj => by
    have e : ((List.range ops.size).map fun j => (cloF md ops D.length (prF md ops f)).contains j).toArray.getD j true = (cloF md ops D.length (prF md ops f)).contains j := by
     rw [Array.getD_eq_getD_getElem?, List.getElem?_toArray, List.getElem?_map, List.getElem?_range hj]; rfl
    rw [e] at hlj
    have hl2 := cloF_sub (D := fun i => listed.getD i false = true) h.cl D.length (prF md ops f) (prl f hfr) j (by simpa using hlj)
    rw [getD_true_false (by rw [h.sz]; exact hj) true false]; exact hl2) hc.2) (by simpa using hfr) (by simp [hc.1.2, hc.1.1.2]) (fun c a' w1 => by obtain ⟨d, hd'⟩ := (next v w hv (Tr0 _ _)).1; rw [hd']; exact hQ c a' w1 d _) (Or.inl ⟨by rw [hwant]; exact hw, fun w' _ => by rw [hexec]; exact hrun w'⟩) trivial (next v w hv (Tr0 _ _)).2
  have hnf : ∀ f ∈ fol, f ∉ Region.ready md ops listed := fun f hf hr => hff ⟨f, hf, hr⟩
  show wpAnyZ P md ops Q (fun _ => True) z ((n0 + k) + 1) listed a w
  refine ⟨fun hr => ?_, fun i hi => ?_⟩
  ·exfalso
   have : ∀ i, i < D.length → listed.getD i false = true := fun i => by
    induction i using Nat.strongRecOn with
    | _ i ihh =>
     intro hi
     obtain ⟨o, x, p, h1, _, _, _, hlt, _⟩ := hops i hi
     apply Classical.byContradiction
     intro hne
     have hmem : i ∈ Region.ready md ops listed := mem_ready.2 ⟨by rw [getD_true_false (by rw [h.sz]; omega) true false]; simpa using hne, o, h1, fun e he hb => by
      have hin : e.on ∈ prF md ops i := by
       unfold prF
       rw [h1]
       exact List.mem_map.2 ⟨e, List.mem_filter.2 ⟨by simpa using he, by simpa using hb⟩, rfl⟩
      exact ihh e.on (hlt _ hin) (Nat.lt_trans (hlt _ hin) hi)⟩
     rw [hr] at hmem; cases hmem
   obtain ⟨i, hi, hf⟩ := hex
   rw [this i hi] at hf; cases hf
  ·have him := ready_small hnf i hi
   have hnfi : i ∉ fol := fun hf => hnf i hf hi
   obtain ⟨o, h1, hexec, hwant, hpv, next⟩ := at_i i him hi
   obtain ⟨o', ho', hOb⟩ := obl i him hnfi vals w h.r hpv
   rw [h1] at ho'
   injection ho' with ho'
   subst ho'
   unfold wpOp
   rw [h1]
   simp only
   rw [hwant]
   rcases hOb with ⟨hw, hr⟩ | ⟨hw, hv⟩
   ·rw [if_pos hw]
    refine .inl ?_
    unfold Oper.wp
    rw [hexec]
    rcases hr with ⟨v, w', hrun, hv, hb⟩ | ⟨g, args, hrun, hc⟩
    ·rw [hrun]; exact ⟨fun _ => trivial, (next v w' hv hb).2⟩
    ·rw [hrun]
     refine Calls.mono hc ?_
     rintro e w' ⟨v, rfl, hv, hb⟩
     exact ⟨fun _ => trivial, (next v w' hv hb).2⟩
   ·rw [if_neg (by rw [hw]; simp)]
    exact ⟨fun _ => trivial, (next undef w hv (Tr0 _ _)).2⟩
theorem wp_free (z : Nat) (fol : List Nat) (kill bef D : List (Nat × Nat)) (pre : List (List (Nat × Nat))) (V : Nat → Value → World → Prop) (Tr : Nat → World → World → Prop) (R : World → Prop) (n0 : Nat) {id : Nat} {A0 : Go.Act} {w : World} (hm : P.follows .mixedOrders = true) (hn : ops.size = n0 + D.length)
  (hchk : chkF .any ops z fol kill bef D pre A0.tmps.size = true) (hQ : ∀ c (a : Go.Act) w (d : Nat) v, Q (.panic c) (a.put (some d) v) w → Q (.panic c) a w) (hR : R w.drew) (Tr0 : ∀ i w, Tr i w w)
  (mono : ∀ k i v w w', (k, i) ∉ kill → (k, i) ∉ bef → k ≠ i → V i v w → Tr k w w' → V i v w') (monoR : ∀ k w w', R w → Tr k w w' → R w')
  (obl : ∀ i, i < D.length → i ∉ fol → ∀ (vals : Nat → Value) w, R w → (∀ x ∈ pre.getD i [], V x.1 (vals x.1) w) → ObF P ops V Tr (putF A0 vals (pre.getD i [])) i w)
  (obf : ∀ i ∈ fol, ∀ (vals : Nat → Value) w, R w → (∀ x ∈ pre.getD i [], V x.1 (vals x.1) w) → ObL P ops V (putF A0 vals (pre.getD i [])) i w)
  (fin : ∀ (vals : Nat → Value) w, R w → (∀ i < D.length, (∀ k, (k, i) ∉ kill) → V i (vals i) w) → wpAnyZ P .any ops Q (fun _ => True) z n0 (lstF D.length ops.size) (putF A0 vals D) w) : (Code.region id ops true).wp P Q A0 w := by
 refine wp_region_any hm (wpAny_of_z (S := fun _ => True) (z := z) _ _ _ _ ?_)
 have hf : ∀ i, (Array.replicate ops.size false).getD i false = false := fun i => by
  rw [Array.getD_eq_getD_getElem?, Array.getElem?_replicate]; split <;> rfl
 have hu : unF (Array.replicate ops.size false) D.length = D.length := by
  unfold unF
  rw [List.countP_eq_length.2 (fun i _ => by rw [hf]; rfl), List.length_range]
 have := free_main (z := z) (Q := Q) hchk hQ V Tr R n0 Tr0 mono monoR obl obf fin D.length (Array.replicate ops.size false) A0 w.drew (fun _ => undef) hu
  ⟨by simp, fun i _ => hf i, (fun i hi => by rw [hf] at hi; cases hi), (fun x _ hl => by rw [hf] at hl; cases hl), fun t _ => rfl, rfl, (fun i hi _ => by rw [hf] at hi; cases hi), hR⟩
 rw [← hn] at this
 exact this
end
section
variable {P : Program} {ops : Array Oper} {Q : Exit → Go.Act → World → Prop}
end
end Go.Proofs.YtpbaobmegomfpabGreatDoor
namespace Go.Proofs.YtpbaobmegomfpabGreatDoor
open Go.RowKit
theorem aloneSame.laidFacts {W : World} (h : laidMetH Tryz.prog Rows.aloneSameRow.laid W) : Tabs W W.heap.size :=
 tabs_of (words_of h (by simp [Rows.aloneSameRow, Rows.laid_tillerman_say_words, List.range, List.range.loop, wordL])) (leads_of h (by simp [Rows.aloneSameRow, Rows.laid_tillerman_say_leads, List.range, List.range.loop, leadL]))
set_option maxHeartbeats 8000000 in
theorem walk_AloneSame (v : Value) (l : List Raw) (b : Bool) (srv : Int) (w : World) (hl : RLst w w.heap.size v l) (hs : (Lit.int .i64 srv).wf = true) (hT : Tabs w w.heap.size) :
  Calls Tryz.prog 4 #[v, .bool b, .int .i64 srv] w fun e w' => e = .returned (.bool true) ∧ Below w.heap.size w w' := by
 have hsb := i64_bd hs
 have hsr := pickI_bd srv (m := 4) (by omega)
 have hcr := pickI_bd srv (m := 6) (by omega)
 obtain ⟨c, hc⟩ : ∃ c : Nat, pickI srv 6 = c := ⟨(pickI srv 6).toNat, by omega⟩
 obtain ⟨n, hn⟩ : ∃ n : Nat, 1 + pickI srv 4 = n := ⟨(1 + pickI srv 4).toNat, by omega⟩
 have hc6 : c < 6 := by omega
 have HC6 := jD hc6
 have HN := jD (show 1 ≤ n ∧ n ≤ 4 by omega)
 have HS : Hid (∀ wc : World, Calls Tryz.prog 10 #[.int .i64 0, .int .i64 srv] wc fun e w' => e = .returned (.agg #[.int .i64 1, .int .i64 n]) ∧ Below wc.heap.size wc w') := jD (fun wc => by rw [← hn]; exact setup_any 0 srv wc (by omega) (by omega) hsb.1 hsb.2)
 have HP : Hid (∀ wc : World, Calls Tryz.prog 14 #[.int .i64 srv, .int .i64 6] wc fun e w' => e = .returned (.int .i64 c) ∧ wc = w') := jD (fun wc => by rw [← hc]; exact picked_any srv 6 wc hsb.1 hsb.2 (by omega) (by omega))
 have HL := jD hl
 have HT := jD hT
 have hmk : ∀ w : World, (Instr.makeSlice 37 (.int .i64 1) (.int .i64 1)).run Tryz.prog w = .ok (.slice (some ⟨w.heap.size, 0, none⟩) 1 1) (w.alloc (.cells (madeCells #[.int .i64 0, .slice none 0 0, .slice none 0 0, .slice none 0 0, .slice none 0 0] (1 * 5)) 115)) := fun w => make_sess 1 (by omega) w
 obtain ⟨E, e, rfl, he⟩ := hl.form
 have hby := hl.bytes
 clear hl hs hT hsb hsr hcr hc hn hc6
 go_enter Tryz.func4, Tryz.ntmps4
 go_wp2_with fail
 refine (HS.out _).mono ?_
 rintro e0 w0 ⟨rfl, hb0⟩
 have HB0 := jD hb0
 clear hb0 HS
 cases b
 case' false =>
  have HA0 : Hid (AlAt w (((w0.alloc (.cells #[.int .i64 1, .int .i64 n] 23)).alloc (.cells (madeCells #[.int .i64 0, .slice none 0 0, .slice none 0 0, .slice none 0 0, .slice none 0 0] (1 * 5)) 115)).alloc (.cells #[.slice none 0 0, .slice (some ⟨w0.heap.size + 1, 0, none⟩) 1 1] 39)) w0.heap.size (w0.heap.size + 1 + 1) (w0.heap.size + 1 + 1 + 1) 1 n (.slice none 0 0) (.slice none 0 0) (.slice none 0 0) (.slice (some ⟨w0.heap.size + 1, 0, none⟩) 1 1) (alA c l 0) (alT l 0) (alW l 0)) := by
   have a1 := (Below.refl w0.heap.size w0).alloc (nL _) (.cells #[.int .i64 1, .int .i64 n] 23)
   have a2 := (a1.alloc (by simp) (.cells (madeCells #[.int .i64 0, .slice none 0 0, .slice none 0 0, .slice none 0 0, .slice none 0 0] (1 * 5)) 115)).alloc (by simp; omega) (.cells #[.slice none 0 0, .slice (some ⟨w0.heap.size + 1, 0, none⟩) 1 1] 39)
   have y1 := ((RowTo.whole w0 #[.int .i64 1, .int .i64 n] 23).alloc (.cells (madeCells #[.int .i64 0, .slice none 0 0, .slice none 0 0, .slice none 0 0, .slice none 0 0] (1 * 5)) 115)).alloc (.cells #[.slice none 0 0, .slice (some ⟨w0.heap.size + 1, 0, none⟩) 1 1] 39)
   have y2 := RowTo.whole ((w0.alloc (.cells #[.int .i64 1, .int .i64 n] 23)).alloc (.cells (madeCells #[.int .i64 0, .slice none 0 0, .slice none 0 0, .slice none 0 0, .slice none 0 0] (1 * 5)) 115)) #[.slice none 0 0, .slice (some ⟨w0.heap.size + 1, 0, none⟩) 1 1] 39
   have y3 := two_start (w0.alloc (.cells #[.int .i64 1, .int .i64 n] 23)) (w0.heap.size + 1 + 1 + 1)
   simp only [World.size_alloc] at y2 y3
   have := HB0.out.size
   exact jD ⟨y1, y2, y3, bel_add' HB0.out a2 HB0.out.size, by omega, by omega, by simp, by omega, by omega, by omega⟩
  go_wp2
  clear hmk
  go_loopw [9, 10, 11] (fun a t j wr => ∃ k : Nat, k ≤ l.length ∧ k ≤ 40 ∧ j = .int .i64 k ∧ Hid (∃ md r s, (md = 1 ∨ md = 2) ∧ AlAt w wr w0.heap.size (w0.heap.size + 1 + 1) (w0.heap.size + 1 + 1 + 1) md n a t r s (alA c l k) (alT l k) (alW l k))) (fun _ _ j _ => l.length - (intOf j).toNat)
  case atStart => exact ⟨0, by omega, by omega, rfl, _, _, _, .inl rfl, HA0.out⟩
  clear HA0
 case' true =>
  have HA0 : Hid (AlAt w (((w0.alloc (.cells #[.int .i64 2, .int .i64 n] 23)).alloc (.cells (madeCells #[.int .i64 0, .slice none 0 0, .slice none 0 0, .slice none 0 0, .slice none 0 0] (1 * 5)) 115)).alloc (.cells #[.slice none 0 0, .slice (some ⟨w0.heap.size + 1, 0, none⟩) 1 1] 39)) w0.heap.size (w0.heap.size + 1 + 1) (w0.heap.size + 1 + 1 + 1) 2 n (.slice none 0 0) (.slice none 0 0) (.slice none 0 0) (.slice (some ⟨w0.heap.size + 1, 0, none⟩) 1 1) (alA c l 0) (alT l 0) (alW l 0)) := by
   have a1 := (Below.refl w0.heap.size w0).alloc (nL _) (.cells #[.int .i64 2, .int .i64 n] 23)
   have a2 := (a1.alloc (by simp) (.cells (madeCells #[.int .i64 0, .slice none 0 0, .slice none 0 0, .slice none 0 0, .slice none 0 0] (1 * 5)) 115)).alloc (by simp; omega) (.cells #[.slice none 0 0, .slice (some ⟨w0.heap.size + 1, 0, none⟩) 1 1] 39)
   have y1 := ((RowTo.whole w0 #[.int .i64 2, .int .i64 n] 23).alloc (.cells (madeCells #[.int .i64 0, .slice none 0 0, .slice none 0 0, .slice none 0 0, .slice none 0 0] (1 * 5)) 115)).alloc (.cells #[.slice none 0 0, .slice (some ⟨w0.heap.size + 1, 0, none⟩) 1 1] 39)
   have y2 := RowTo.whole ((w0.alloc (.cells #[.int .i64 2, .int .i64 n] 23)).alloc (.cells (madeCells #[.int .i64 0, .slice none 0 0, .slice none 0 0, .slice none 0 0, .slice none 0 0] (1 * 5)) 115)) #[.slice none 0 0, .slice (some ⟨w0.heap.size + 1, 0, none⟩) 1 1] 39
   have y3 := two_start (w0.alloc (.cells #[.int .i64 2, .int .i64 n] 23)) (w0.heap.size + 1 + 1 + 1)
   simp only [World.size_alloc] at y2 y3
   have := HB0.out.size
   exact jD ⟨y1, y2, y3, bel_add' HB0.out a2 HB0.out.size, by omega, by omega, by simp, by omega, by omega, by omega⟩
  go_wp2
  clear hmk
  go_loopw [9, 10, 11] (fun a t j wr => ∃ k : Nat, k ≤ l.length ∧ k ≤ 40 ∧ j = .int .i64 k ∧ Hid (∃ md r s, (md = 1 ∨ md = 2) ∧ AlAt w wr w0.heap.size (w0.heap.size + 1 + 1) (w0.heap.size + 1 + 1 + 1) md n a t r s (alA c l k) (alT l k) (alW l k))) (fun _ _ j _ => l.length - (intOf j).toNat)
  case atStart => exact ⟨0, by omega, by omega, rfl, _, _, _, .inr rfl, HA0.out⟩
  clear HA0
 all_goals
  obtain ⟨k, hk, hk40, rfl, HR⟩ := hrel
  obtain ⟨md, r, s, hmd, hR⟩ := HR.out
  clear HR
  by_cases hlt : k < l.length ∧ k < 40
  ·obtain ⟨hlt, hlt40⟩ := hlt
   have HS1 := jD (alA_step (c := c) hlt)
   have HS2 := jD (alT_step hlt)
   have HS3 := jD (alW_step hlt)
   have HOK := jD (alW_ok l k)
   have hla : (alA c l k).length = k := alA_len hk
   have hlt' : (alT l k).length = k := alT_len hk
   generalize alA c l k = al at *
   generalize alT l k = tl at *
   generalize alW l k = Wk at *
   have hwf := HL.out.wf l[k] (List.getElem_mem hlt)
   obtain ⟨bb, off, rfl, hb, l0, l1, l2, l3⟩ := HL.out.pt hlt
   generalize hx : l[k] = x at *
   clear hx
   have bl := hR.bel
   have d0 := (bl.cell (p := ⟨bb, off + k * 4, none⟩) hb).trans l0
   have d1 := (bl.cell (p := ⟨bb, off + k * 4 + 1, none⟩) hb).trans l1
   have d2 := (bl.cell (p := ⟨bb, off + k * 4 + 2, none⟩) hb).trans l2
   have d3 := (bl.cell (p := ⟨bb, off + k * 4 + 3, none⟩) hb).trans l3
   have hbw : bb < wr.heap.size := Nat.lt_of_lt_of_le hb bl.size
   obtain ⟨v1, v2, v3, v4⟩ := hwf
   obtain ⟨⟨Aa, ca, ea⟩, ⟨At, ct, et⟩, ⟨As, cs, es⟩, Ar, cr, er⟩ := hR.two.shape
   rw [hla] at ea
   rw [hlt'] at et
   subst ea et es er
   have HT2 : Hid (∀ wc : World, Calls Tryz.prog 11 #[.agg #[.int .i64 x.kd, .int .i64 x.a, .int .i64 x.b, .int .i64 x.c]] wc fun e w' => e = .returned (.agg #[.int .i64 (reqR x).k, .string (reqR x).key, .string (reqR x).val]) ∧ Below wc.heap.size wc w') := jD fun wc => stmt_any x.kd x.a x.b x.c wc v1 v2 v3 v4
   have HG := jD (reqR_ok x)
   generalize reqR x = q at *
   obtain ⟨R, HQ⟩ : ∃ R, Hid (doR Wk 0 q = R) := ⟨_, jD rfl⟩
   obtain ⟨st, HST⟩ : ∃ st, Hid ((R.1.at 0).st = st) := ⟨_, jD rfl⟩
   rw [HQ.out, HST.out] at HS2
   rw [HQ.out] at HS3
   have HAN : Hid (AnsOk R.2 ∧ 0 ≤ st ∧ st ≤ 2) := jD (by
    have h1 := doR_ok HOK.out.1 (i := 0) (by rw [HOK.out.2]; omega) HG.out
    have h2 := st_of h1.1 (i := 0) (by rw [h1.2, HOK.out.2]; omega)
    have h3 := doM_ans HOK.out.1 (i := 0) (by rw [HOK.out.2]; omega) q.k q.key q.val
    have h4 : doM Wk 0 q.k q.key q.val = R := HQ.out
    rw [HQ.out, HST.out] at h2
    rw [h4] at h3
    exact ⟨h3, h2⟩)
   have HRR := jD hR
   have HLT := jD (And.intro hlt hlt40)
   have HLL := jD (And.intro hla hlt')
   obtain ⟨x0, x1⟩ := cells2 hR.x
   have hXl := hR.x.lt
   clear hR bl l0 l1 l2 l3 v1 v2 v3 v4 hk hk40 hla hlt'
   go_wp2_with fail
   refine (HT2.out _).mono ?_
   rintro e1 w1 ⟨rfl, hb1⟩
   have n1 := ((Below.refl w1.heap.size w1).alloc (nL _) (.cells #[.int .i64 q.k, .string q.key, .string q.val] 41)).alloc (by simp) (.cells #[.int .i64 q.k, .string q.key, .string q.val] 41)
   have X9 := (RowTo.whole w1 #[.int .i64 q.k, .string q.key, .string q.val] 41).alloc (.cells #[.int .i64 q.k, .string q.key, .string q.val] 41)
   have S9 := RowTo.whole (w1.alloc (.cells #[.int .i64 q.k, .string q.key, .string q.val] 41)) #[.int .i64 q.k, .string q.key, .string q.val] 41
   rw [World.size_alloc] at S9
   have hX1 := HRR.out.x.below hb1 HRR.out.x.lt
   have hx1 := hX1.below n1 hX1.lt
   have hU1 := HRR.out.u.below hb1 HRR.out.u.lt
   have hu1 := hU1.below n1 hU1.lt
   have hB1 := bel_add' (bel_add' HRR.out.bel hb1 HRR.out.bel.size) n1 (bel_add' HRR.out.bel hb1 HRR.out.bel.size).size
   obtain ⟨Q, hQ, hfin⟩ := ((HRR.out.two.below hb1).below n1).opened
   have hz1 : w0.heap.size + 1 + 1 + 1 ≤ w1.heap.size := Nat.le_trans HRR.out.hB hb1.size
   have HSD := jD (said_new1 (t := 41) (k := q.k) (key := q.key) (val := q.val) HQ.out HST.out HOK.out.1 (i := 0) (by rw [HOK.out.2]; omega) HG.out _ _ _ _ hQ S9 (HT.out.below hB1).wo)
   have HF := jD (And.intro X9 (And.intro hx1 (And.intro hu1 (And.intro hB1 hfin))))
   obtain ⟨x0, x1⟩ := cells2 hX1
   have hXl := hX1.lt
   clear n1 X9 S9 hU1 hx1 hu1 hB1 hQ hfin hX1 hb1 d0 d1 d2 d3 HT2
   go_wp2_with fail
   refine HSD.out.mono ?_
   rintro e2 w2 ⟨D2, d2, A2, c2, rfl, hw2, hb2⟩
   have hz2 := hb2.size
   simp only [World.size_alloc] at hz2
   have n2 := ((Below.refl w2.heap.size w2).alloc (nL _) (.cells #[.slice D2 R.1.rows.length d2, .slice A2 R.1.ss.length c2] 39)).alloc (by simp) (.cells #[.int .i64 R.2.kind, .string R.2.text, .int .i64 st] 46)
   have N2 := (RowTo.whole w2 #[.slice D2 R.1.rows.length d2, .slice A2 R.1.ss.length c2] 39).alloc (.cells #[.int .i64 R.2.kind, .string R.2.text, .int .i64 st] 46)
   have two2 := (HF.out.2.2.2.2 w2 _ _ _ hb2 hw2).below n2
   have hX9 := HF.out.1.below hb2 HF.out.1.lt
   have hX2 := HF.out.2.1.below hb2 HF.out.2.1.lt
   have hU2 := HF.out.2.2.1.below hb2 HF.out.2.2.1.lt
   have hB2 := bel_add' HF.out.2.2.2.1 hb2 HF.out.2.2.2.1.size
   have HF2 := jD (And.intro two2 (And.intro N2 (And.intro (hX9.below n2 hX9.lt) (And.intro (hX2.below n2 hX2.lt) (And.intro (hU2.below n2 hU2.lt) (bel_add' hB2 n2 hB2.size))))))
   clear HSD HF n2 N2 two2 hX9 hX2 hU2 hB2 hw2 hb2 x0 x1 hXl
   have HTL := jD (tell_one R.2 st _ ((HT.out.below HF2.out.2.2.2.2.2).le) HAN.out)
   go_wp2_with fail
   refine HTL.out.mono ?_
   rintro e3 w3 ⟨rfl, hb3⟩
   obtain ⟨f1, f2, f3, f4, f5, f6⟩ := HF2.out
   have hz3 := hb3.size
   simp only [World.size_alloc] at hz3
   have g2 := f2.below hb3 f2.lt
   have g3 := f3.below hb3 f3.lt
   have g4 := f4.below hb3 f4.lt
   have g5 := f5.below hb3 f5.lt
   have g6 := bel_add' f6 hb3 f6.size
   have two4 := (f1.below hb3).set2 g4 HRR.out.xB (.slice D2 R.1.rows.length d2) (.slice A2 R.1.ss.length c2)
   obtain ⟨n0, n1⟩ := cells2 g2
   have hNl := g2.lt
   obtain ⟨x0, x1⟩ := cells2 g4
   have hXl := g4.lt
   have p0 := g4.frozen 0
   have p1 := g4.frozen 1
   have hzw : ((w3.setCell ⟨(w0.heap.size + 1 + 1), 0, none⟩ (.slice D2 R.1.rows.length d2)).setCell ⟨(w0.heap.size + 1 + 1), 1, none⟩ (.slice A2 R.1.ss.length c2)).heap.size = w3.heap.size := by simp [World.setCell]
   obtain ⟨tt, w5, hrun, two5, hb5, hty⟩ := two4.appT (tellT R.2.kind.toNat st.toNat R.2.text) (by rw [HLL.out.2]; have := HLT.out.2; omega) (by rw [hzw]; omega)
   have k3 := hty _ _ _ _ ((g3.oth2 (R := (w0.heap.size + 1 + 1)) (by omega) (.slice D2 R.1.rows.length d2) (.slice A2 R.1.ss.length c2))) (by decide)
   have j3 := (g3.oth2 (R := (w0.heap.size + 1 + 1)) (by omega) (.slice D2 R.1.rows.length d2) (.slice A2 R.1.ss.length c2)).same k3
   have j4 := (g4.set2 (.slice D2 R.1.rows.length d2) (.slice A2 R.1.ss.length c2)).below hb5 HRR.out.xB
   have j5 := (g5.oth2 (R := (w0.heap.size + 1 + 1)) (by omega) (.slice D2 R.1.rows.length d2) (.slice A2 R.1.ss.length c2)).below hb5 HRR.out.uB
   have j6 := (bel_set2 g6 HRR.out.wX (.slice D2 R.1.rows.length d2) (.slice A2 R.1.ss.length c2)).trans (hb5.mono HRR.out.wB)
   have hz5 := hb5.size
   rw [hzw] at hz5 hrun
   have HF5 := jD (And.intro two5 (And.intro j3 (And.intro j4 (And.intro j5 j6))))
   have HX := jD (And.intro HRR.out.uB (And.intro HRR.out.xB (And.intro HRR.out.wX (And.intro HRR.out.wB HRR.out.ne))))
   obtain ⟨_, ⟨At2, ct2, et2⟩, _, _⟩ := two5.shape
   rw [List.length_append, HLL.out.2] at et2
   subst et2
   clear HF2 HTL f1 f2 f3 f4 f5 f6 g2 g3 g4 g5 g6 hb3 two4 two5 hty hb5 k3 j3 j4 j5 j6 hzw HRR
   go_wp2_with (at_builtin; refine Lib.wpList_append_run _ rfl _ _ _ _ rfl _ _ rfl rfl _ _ hrun ?_)
   clear hrun n0 n1 hNl x0 x1 hXl p0 p1
   obtain ⟨y0, y1, y2⟩ := cells3 HF5.out.2.1
   have hyl := HF5.out.2.1.lt
   refine wp_free 8 [] [] [] [(0, 67), (1, 68), (2, 69), (3, 70), (4, 71), (5, 72), (6, 73)] [[], [], [(1, 68)], [], [(3, 70)], [(2, 69), (4, 71)], [(5, 72)]] (fun i v w => match i with | 0 => v = .slice Aa k ca | 1 => v = .int .i64 srv | 2 => v = .int .i64 c | 3 => v = .agg #[.int .i64 q.k, .string q.key, .string q.val] | 4 => v = .string (msg 81 (msgR q)) | 5 => v = .agg #[.int .i64 1, .int .i64 c, .string (msg 81 (msgR q))] | 6 => ∃ g, v = .slice (some ⟨g, 0, none⟩) 1 1 ∧ RowTo w g 54 3 [.int .i64 1, .int .i64 c, .string (msg 81 (msgR q))] | _ => True) (fun _ w w' => Below w.heap.size w w') (fun wc => Below w5.heap.size w5 wc) 2 (by kernel_rfl) (by rfl) (by kernel_rfl) (fun _ _ _ _ _ h => h) (Below.refl _ _).drew (fun _ _ => Below.refl _ _) ?_ (fun k w w' h hb => bel_trans h hb) ?_ ?_ ?_
   ·intro k i v w w' hk1 hk2 hk3 h hb
    rcases i with _ | _ | _ | _ | _ | _ | _ | i
    ·exact h
    ·exact h
    ·exact h
    ·exact h
    ·exact h
    ·exact h
    ·obtain ⟨g, e, hr⟩ := h; exact ⟨g, e, hr.below hb hr.lt⟩
    ·exact h
   ·intro i hi hnf vals wc hR hV
    rcases i with _ | _ | _ | _ | _ | _ | _ | i
    ·clear hV hnf hi
     refine ⟨_, rfl, Or.inl ⟨by rfl, Or.inl ⟨.slice Aa k ca, wc, ?_, rfl, (Below.refl _ _)⟩⟩⟩
     (try simp only [putF, List.getD_cons_succ, List.getD_cons_zero, Go.Act.put, sTA, sCZ, sCS])
     go_simp
     try rfl
    ·clear hV hnf hi
     refine ⟨_, rfl, Or.inl ⟨by rfl, Or.inl ⟨.int .i64 srv, wc, ?_, rfl, (Below.refl _ _)⟩⟩⟩
     (try simp only [putF, List.getD_cons_succ, List.getD_cons_zero, Go.Act.put, sTA, sCZ, sCS])
     go_simp
     try rfl
    ·have h1 : (vals 1) = .int .i64 srv := hV (1, 68) (by decide)
     clear hV hnf hi
     refine ⟨_, rfl, Or.inl ⟨by rfl, Or.inr ⟨14, #[.int .i64 srv, .int .i64 6], ?_, ?_⟩⟩⟩
     ·(try simp only [putF, List.getD_cons_succ, List.getD_cons_zero, Go.Act.put, sTA, sCZ, sCS, h1])
      go_simp
      try rfl
     ·refine (HP.out wc).mono ?_
      rintro e w' ⟨rfl, rfl⟩
      exact ⟨_, rfl, rfl, Below.refl _ _⟩
    ·clear hV hnf hi
     have q0 := (hR.cell (p := ⟨w1.heap.size, 0, none⟩) hyl).trans y0
     have q1 := (hR.cell (p := ⟨w1.heap.size, 1, none⟩) hyl).trans y1
     have q2 := (hR.cell (p := ⟨w1.heap.size, 2, none⟩) hyl).trans y2
     refine ⟨_, rfl, Or.inl ⟨by rfl, Or.inl ⟨.agg #[.int .i64 q.k, .string q.key, .string q.val], wc, ?_, rfl, (Below.refl _ _)⟩⟩⟩
     (try simp only [putF, List.getD_cons_succ, List.getD_cons_zero, Go.Act.put, sTA, sCZ, sCS])
     go_simp
     try rfl
    ·have h3 : (vals 3) = .agg #[.int .i64 q.k, .string q.key, .string q.val] := hV (3, 70) (by decide)
     clear hV hnf hi
     refine ⟨_, rfl, Or.inl ⟨by rfl, Or.inr ⟨15, #[.agg #[.int .i64 q.k, .string q.key, .string q.val]], ?_, ?_⟩⟩⟩
     ·(try simp only [putF, List.getD_cons_succ, List.getD_cons_zero, Go.Act.put, sTA, sCZ, sCS, h3])
      go_simp
      try rfl
     ·refine (message_any q HG.out wc (HT.out.below (bel_trans HF5.out.2.2.2.2 hR)).wo).mono ?_
      rintro e w' ⟨rfl, hb⟩
      exact ⟨_, rfl, rfl, hb⟩
    ·have h2 : (vals 2) = .int .i64 c := hV (2, 69) (by decide)
     have h4 : (vals 4) = .string (msg 81 (msgR q)) := hV (4, 71) (by decide)
     clear hV hnf hi
     refine ⟨_, rfl, Or.inl ⟨by rfl, Or.inl ⟨.agg #[.int .i64 1, .int .i64 c, .string (msg 81 (msgR q))], wc, ?_, rfl, (Below.refl _ _)⟩⟩⟩
     (try simp only [putF, List.getD_cons_succ, List.getD_cons_zero, Go.Act.put, sTA, sCZ, sCS, h2, h4])
     go_simp
     try rfl
    ·have h5 : (vals 5) = .agg #[.int .i64 1, .int .i64 c, .string (msg 81 (msgR q))] := hV (5, 72) (by decide)
     clear hV hnf hi
     refine ⟨_, rfl, Or.inl ⟨by rfl, Or.inl ⟨.slice (some ⟨wc.heap.size, 0, none⟩) 1 1, (wc.alloc (.cells #[.int .i64 1, .int .i64 c, .string (msg 81 (msgR q))] 54)), ?_, ⟨_, rfl, RowTo.whole wc _ _⟩, ((Below.refl _ _).alloc (nL _) _)⟩⟩⟩
     (try simp only [putF, List.getD_cons_succ, List.getD_cons_zero, Go.Act.put, sTA, sCZ, sCS, h5])
     go_simp
     try rfl
    ·exact absurd hi (by simp)
   ·intro i hi; cases hi
   ·intro vals wf hR hV
    have hS := True.intro
    have f0 : (vals 0) = .slice Aa k ca := hV 0 (by decide) (fun k hk => by simp at hk)
    have f6 : ∃ g, (vals 6) = .slice (some ⟨g, 0, none⟩) 1 1 ∧ RowTo wf g 54 3 [.int .i64 1, .int .i64 c, .string (msg 81 (msgR q))] := hV 6 (by decide) (fun k hk => by simp at hk)
    clear hV
    obtain ⟨g, e6, hg⟩ := f6
    (try simp only [putF, List.getD_cons_succ, List.getD_cons_zero, Go.Act.put, sTA, sCZ, sCS, f0, e6])
    obtain ⟨aa, w7, hrun, two7, hb7⟩ := (HF5.out.1.below hR).appA (actOf c q) (by rw [HLL.out.1]; have := HLT.out.2; omega) (by have := hR.size; omega) (b0 := g) (by show RowTo wf g _ 3 [.int .i64 1, .int .i64 c, .string (catQ [msgR q])]; rw [catQ_one]; exact hg)
    have b7 : Below (w0.heap.size + 1 + 1 + 1) w5 w7 := (hR.mono (by omega)).trans hb7
    have H7 := jD (And.intro two7 (And.intro (HF5.out.2.2.1.below b7 HX.out.2.1) (And.intro (HF5.out.2.2.2.1.below b7 HX.out.1) (HF5.out.2.2.2.2.trans (b7.mono HX.out.2.2.2.1)))))
    have hz7 := b7.size
    have HZ7 := jD (show (w0.heap.size + 1 + 1 + 1) ≤ w7.heap.size by omega)
    obtain ⟨⟨Aa2, ca2, ea2⟩, _, _, _⟩ := two7.shape
    rw [List.length_append, HLL.out.1] at ea2
    subst ea2
    clear two7 b7 hb7 hg hR y0 y1 y2 hyl hz7
    refine wpAnyZ_one (i := 7) rfl rfl (by kernel_rfl) (fun K hK => ?_)
    (try simp only [gTA, gCZ, gCS])
    refine Lib.wp_append_run _ _ _ _ _ rfl _ _ rfl rfl _ _ hrun ?_
    have hS2 := True.intro
    refine hK.out _ _ hS2 ?_
    clear hK K hS
    have hS := hS2
    clear hS2
    (try simp only [gTA, gCZ, gCS, Act.put, sTA, sCZ, sCS])
    clear hrun
    refine wpAnyZ_last rfl rfl (by kernel_rfl) (by kernel_rfl) (fun K hK => ?_)
    (try simp only [gTA, gCZ, gCS])
    go_simp
    refine hK.out _ _ ?_
    clear hK K
    (try simp only [gTA, gCZ, gCS, Act.put, sTA, sCZ, sCS])
    go_wp2
    go_roundw
    case rel => exact ⟨k + 1, Nat.succ_le_of_lt HLT.out.1, Nat.succ_le_of_lt HLT.out.2, by go_num, md, _, _, hmd, by rw [HS1.out, HS2.out, HS3.out]; exact ⟨H7.out.2.2.1, H7.out.2.1, H7.out.1, H7.out.2.2.2, HX.out.1, HX.out.2.1, HZ7.out, HX.out.2.2.1, HX.out.2.2.2.1, HX.out.2.2.2.2⟩⟩
    case measure => simp [intOf]; have := HLT.out.1; omega
  ·by_cases h1 : k < l.length
   case' pos =>
    have h40 : ¬ k < 40 := fun h => hlt ⟨h1, h⟩
    clear hlt
   case' neg => clear hlt
   all_goals
    have hla : (alA c l k).length = k := alA_len hk
    have hlt' : (alT l k).length = k := alT_len hk
    obtain ⟨⟨Aa, ca, ea⟩, ⟨At, ct, et⟩, ⟨As, cs, es⟩, Ar, cr, er⟩ := hR.two.shape
    rw [hla] at ea
    rw [hlt'] at et
    subst ea et es er
    have HTS := jD (And.intro (alT_size l k) hlt')
    have hls := hR.two.lists (by rw [hla]; omega) (fun x hx => Nat.le_trans (alA_size x hx) (by omega)) (fun x hx => Nat.le_trans (alT_size l k x hx) (by omega)) (by rw [hlt']; omega)
    have hE := run_E (mode := md) (s := n) (l := alA c l k) (by unfold setupE; have := HN.out; rw [if_neg (by omega), if_neg (by omega)]) (by rw [hla]; omega) (alA_E HC6.out)
    have HPP := jD (al_pool (mode := md) (by omega) HC6.out HN.out.1 (Nat.le_trans HN.out.2 (by omega)) hk)
    have HS6 := jD (ran_sent md (n := n) (Nat.le_trans HN.out.2 (by omega)) (alA_E (c := c) (l := l) (k := k) HC6.out))
    have HRUN : Hid (Calls Tryz.prog 7 #[.agg #[.int .i64 md, .int .i64 n], .slice Aa k ca] wr (RunPost wr (ranM md n (alA c l k)))) := jD (run_any md n _ _ wr hls.1 ((HT.out.below hR.bel).up hR.bel.size) hE)
    generalize ranM md n (alA c l k) = m1 at *
    have HLS := jD (And.intro hls.2 hR.bel)
    obtain ⟨x0, x1⟩ := cells2 hR.u
    have hUl := hR.u.lt
    have HX0 := jD hR.x
    clear hls hE hR hla
    go_wp2_with fail
    refine HRUN.out.mono ?_
    rintro e1 w1 ⟨o1, o2, o3, rfl, ho, hb1⟩
    have hbw := bel_add' HLS.out.2 hb1 HLS.out.2.size
    obtain ⟨A1, c1, rfl, _⟩ := ho.s.form
    obtain ⟨A2, c2, rfl, _⟩ := ho.d.form
    obtain ⟨A3, c3, rfl, _⟩ := ho.r.form
    have n1 := (Below.refl w1.heap.size w1).alloc (nL _) (.cells #[.slice A1 m1.sent.length c1, .slice A2 m1.deeds.length c2, .slice A3 m1.e.w.rows.length c3] 29)
    have HO := jD (OutAt.new ho hbw)
    have HX1 := jD ((HX0.out.below hb1 HX0.out.lt).below n1 (HX0.out.below hb1 HX0.out.lt).lt)
    have HW1 := jD (And.intro ((HLS.out.1.1.step hb1).step n1) ((HLS.out.1.2.step hb1).step n1))
    have hsl : ((m1.sent.length : Int) != 6) = false := by rw [HS6.out]; rfl
    clear ho hb1 hbw n1 HRUN HLS HX0 x0 x1 hUl
    obtain ⟨W, HW⟩ : ∃ u, Hid ((w1.alloc (.cells #[.slice A1 m1.sent.length c1, .slice A2 m1.deeds.length c2, .slice A3 m1.e.w.rows.length c3] 29)) = u) := ⟨_, jD rfl⟩
    obtain ⟨p0, p1, p2⟩ := cells3 HO.out.o
    go_wp2_with fail
    rw [HW.out] at HO HX1 HW1 p0 p1 p2 ⊢
    clear HW
    have h6 : c < m1.sent.length := by rw [HS6.out]; exact HC6.out
    have h6I : (c : Int) < (m1.sent.length : Int) := by omega
    obtain ⟨qs, us, rfl, hqs, cs⟩ := HO.out.s.pt h6
    have e0 : m1.sent[c] = catM (alT l k) := by have h := HPP.out.1; rw [List.getD_eq_getElem?_getD, List.getElem?_eq_getElem h6] at h; exact h
    rw [e0] at cs
    have hrw : m1.e.w.rows = (alW l k).rows := HPP.out.2.2
    have HDL := jD HPP.out.2.1
    have HAN := jD (fun wc => answers_any (alT l k) wc HTS.out.1 (by rw [HTS.out.2]; omega))
    rw [hrw] at HO p2
    have HOR := jD HO.out.r
    have hpl := HO.out.o.lt
    have hqW : qs < W.heap.size := Nat.lt_of_lt_of_le hqs HO.out.bb
    have hds : (m1.deeds.length : Int) = (k : Int) := by rw [HPP.out.2.1]
    clear e0 hrw HPP
    generalize (alW l k).rows = rws at *
    refine wp_free 11 [9] [] [] [(0, 90), (1, 91), (2, 92), (3, 93), (4, 94), (5, 95), (6, 96), (7, 89), (8, 97), (9, 98)] [[], [(0, 90)], [], [(2, 92)], [(1, 91), (3, 93)], [(4, 94)], [(5, 95)], [(6, 96)], [(7, 89)], [(7, 89)]] (fun i v w => match i with | 0 => v = .pointer (some ⟨w1.heap.size, 0, none⟩) | 1 => v = .slice (some ⟨qs, us, none⟩) m1.sent.length c1 | 2 => v = .int .i64 srv | 3 => v = .int .i64 c | 4 => v = .pointer (some ⟨qs, us + c, none⟩) | 5 => v = .string (catM (alT l k)) | 6 => ∃ va, v = .tuple #[va, .bool true] ∧ ∃ w0, w0.heap.size ≤ w.heap.size ∧ OwnT w0 w va (alT l k) | 7 => ∃ va, v = .tuple #[va, .bool true] ∧ ∃ w0, w0.heap.size ≤ w.heap.size ∧ OwnT w0 w va (alT l k) | 8 => ∃ w0, w0.heap.size ≤ w.heap.size ∧ OwnT w0 w v (alT l k) | 9 => v = .bool true | _ => True) (fun _ w w' => Below w.heap.size w w') (fun wc => Below W.heap.size W wc) 2 (by kernel_rfl) (by rfl) (by kernel_rfl) (fun _ _ _ _ _ h => h) (Below.refl _ _).drew (fun _ _ => Below.refl _ _) ?_ (fun k w w' h hb => bel_trans h hb) ?_ ?_ ?_
    ·intro k i v w w' hk1 hk2 hk3 h hb
     rcases i with _ | _ | _ | _ | _ | _ | _ | _ | _ | _ | i
     ·exact h
     ·exact h
     ·exact h
     ·exact h
     ·exact h
     ·exact h
     ·obtain ⟨va, e, w0, h0, ho⟩ := h; exact ⟨va, e, w0, Nat.le_trans h0 hb.size, ho.below hb⟩
     ·obtain ⟨va, e, w0, h0, ho⟩ := h; exact ⟨va, e, w0, Nat.le_trans h0 hb.size, ho.below hb⟩
     ·obtain ⟨w0, h0, ho⟩ := h; exact ⟨w0, Nat.le_trans h0 hb.size, ho.below hb⟩
     ·exact h
     ·exact h
    ·intro i hi hnf vals wc hR hV
     rcases i with _ | _ | _ | _ | _ | _ | _ | _ | _ | _ | i
     ·clear hV hnf hi
      refine ⟨_, rfl, Or.inl ⟨by rfl, Or.inl ⟨.pointer (some ⟨w1.heap.size, 0, none⟩), wc, ?_, rfl, (Below.refl _ _)⟩⟩⟩
      (try simp only [putF, List.getD_cons_succ, List.getD_cons_zero, Go.Act.put, sTA, sCZ, sCS])
      go_simp
      try rfl
     ·have h0 : (vals 0) = .pointer (some ⟨w1.heap.size, 0, none⟩) := hV (0, 90) (by decide)
      clear hV hnf hi
      have q0 := (hR.cell (p := ⟨w1.heap.size, 0, none⟩) hpl).trans p0
      refine ⟨_, rfl, Or.inl ⟨by rfl, Or.inl ⟨.slice (some ⟨qs, us, none⟩) m1.sent.length c1, wc, ?_, rfl, (Below.refl _ _)⟩⟩⟩
      (try simp only [putF, List.getD_cons_succ, List.getD_cons_zero, Go.Act.put, sTA, sCZ, sCS, h0])
      go_simp
      try rfl
     ·clear hV hnf hi
      refine ⟨_, rfl, Or.inl ⟨by rfl, Or.inl ⟨.int .i64 srv, wc, ?_, rfl, (Below.refl _ _)⟩⟩⟩
      (try simp only [putF, List.getD_cons_succ, List.getD_cons_zero, Go.Act.put, sTA, sCZ, sCS])
      go_simp
      try rfl
     ·have h2 : (vals 2) = .int .i64 srv := hV (2, 92) (by decide)
      clear hV hnf hi
      refine ⟨_, rfl, Or.inl ⟨by rfl, Or.inr ⟨14, #[.int .i64 srv, .int .i64 6], ?_, ?_⟩⟩⟩
      ·(try simp only [putF, List.getD_cons_succ, List.getD_cons_zero, Go.Act.put, sTA, sCZ, sCS, h2])
       go_simp
       try rfl
      ·refine (HP.out wc).mono ?_
       rintro e w' ⟨rfl, rfl⟩
       exact ⟨_, rfl, rfl, Below.refl _ _⟩
     ·have h1 : (vals 1) = .slice (some ⟨qs, us, none⟩) m1.sent.length c1 := hV (1, 91) (by decide)
      have h3 : (vals 3) = .int .i64 c := hV (3, 93) (by decide)
      clear hV hnf hi
      refine ⟨_, rfl, Or.inl ⟨by rfl, Or.inl ⟨.pointer (some ⟨qs, us + c, none⟩), wc, ?_, rfl, (Below.refl _ _)⟩⟩⟩
      (try simp only [putF, List.getD_cons_succ, List.getD_cons_zero, Go.Act.put, sTA, sCZ, sCS, h1, h3])
      go_simp
      try rfl
     ·have h4 : (vals 4) = .pointer (some ⟨qs, us + c, none⟩) := hV (4, 94) (by decide)
      clear hV hnf hi
      have q0 := (hR.cell (p := ⟨qs, us + c, none⟩) hqW).trans cs
      refine ⟨_, rfl, Or.inl ⟨by rfl, Or.inl ⟨.string (catM (alT l k)), wc, ?_, rfl, (Below.refl _ _)⟩⟩⟩
      (try simp only [putF, List.getD_cons_succ, List.getD_cons_zero, Go.Act.put, sTA, sCZ, sCS, h4])
      go_simp
      try rfl
     ·have h5 : (vals 5) = .string (catM (alT l k)) := hV (5, 95) (by decide)
      clear hV hnf hi
      refine ⟨_, rfl, Or.inl ⟨by rfl, Or.inr ⟨16, #[.string (catM (alT l k))], ?_, ?_⟩⟩⟩
      ·(try simp only [putF, List.getD_cons_succ, List.getD_cons_zero, Go.Act.put, sTA, sCZ, sCS, h5])
       go_simp
       try rfl
      ·refine (HAN.out wc).mono ?_
       rintro e w' ⟨va, rfl, ho, hb⟩
       exact ⟨_, rfl, ⟨va, rfl, wc, hb.size, ho⟩, hb⟩
     ·have h6 : ∃ va, (vals 6) = .tuple #[va, .bool true] ∧ ∃ w0, w0.heap.size ≤ wc.heap.size ∧ OwnT w0 wc va (alT l k) := hV (6, 96) (by decide)
      clear hV hnf hi
      refine ⟨_, rfl, Or.inl ⟨by rfl, Or.inl ⟨(vals 6), wc, ?_, h6, (Below.refl _ _)⟩⟩⟩
      (try simp only [putF, List.getD_cons_succ, List.getD_cons_zero, Go.Act.put, sTA, sCZ, sCS])
      go_simp
      try rfl
     ·have h7 : ∃ va, (vals 7) = .tuple #[va, .bool true] ∧ ∃ w0, w0.heap.size ≤ wc.heap.size ∧ OwnT w0 wc va (alT l k) := hV (7, 89) (by decide)
      clear hV hnf hi
      obtain ⟨va, e7, ho⟩ := h7
      refine ⟨_, rfl, Or.inl ⟨by rfl, Or.inl ⟨va, wc, ?_, ho, (Below.refl _ _)⟩⟩⟩
      (try simp only [putF, List.getD_cons_succ, List.getD_cons_zero, Go.Act.put, sTA, sCZ, sCS, e7])
      go_simp
      try rfl
     ·exact absurd (by decide) hnf
     ·exact absurd hi (by simp)
    ·intro i hi vals wc hR hV
     obtain rfl := List.mem_singleton.1 hi
     ·have h7 : ∃ va, (vals 7) = .tuple #[va, .bool true] ∧ ∃ w0, w0.heap.size ≤ wc.heap.size ∧ OwnT w0 wc va (alT l k) := hV (7, 89) (by decide)
      clear hV hi
      obtain ⟨va, e7, ho⟩ := h7
      refine ⟨_, .bool true, rfl, by rfl, fun w' => ?_, rfl⟩
      (try simp only [putF, List.getD_cons_succ, List.getD_cons_zero, Go.Act.put, sTA, sCZ, sCS, e7])
      go_simp
      try rfl
    ·intro vals wf hR hV
     have hS := True.intro
     have f8 : ∃ w0, w0.heap.size ≤ wf.heap.size ∧ OwnT w0 wf (vals 8) (alT l k) := hV 8 (by decide) (fun k hk => by simp at hk)
     have f9 : (vals 9) = .bool true := hV 9 (by decide) (fun k hk => by simp at hk)
     clear hV
     obtain ⟨w0', hw0', ho⟩ := f8
     obtain ⟨Ag, cg, eg, _⟩ := ho.shape
     rw [HTS.out.2] at eg
     rw [eg] at ho
     (try simp only [putF, List.getD_cons_succ, List.getD_cons_zero, Go.Act.put, sTA, sCZ, sCS, eg, f9])
     have HG9 := jD (ho.lst (fun t ht => Nat.le_trans (HTS.out.1 t ht) (by omega)) (by rw [HTS.out.2]; omega))
     have hpb := hR.cell (p := ⟨w1.heap.size, 2, none⟩) hpl
     have HOB := jD (HO.out.below hR)
     have HXB := jD (HX1.out.below hR HX1.out.lt)
     have HWB := jD (And.intro (HW1.out.1.step hR) (HW1.out.2.step hR))
     have HRB := jD ((HOR.out.below (hR.mono HO.out.bb)).more (Nat.le_trans HO.out.bb hR.size))
     clear ho hpb hR
     refine wpAnyZ_one (i := 10) rfl rfl (by kernel_rfl) (fun K hK => ?_)
     (try simp only [gTA, gCZ, gCS])
     go_simp
     have hS2 := True.intro
     refine hK.out _ _ hS2 ?_
     clear hK K hS
     have hS := hS2
     clear hS2
     (try simp only [gTA, gCZ, gCS, Act.put, sTA, sCZ, sCS])
     refine wpAnyZ_last rfl rfl (by kernel_rfl) (by kernel_rfl) (fun K hK => ?_)
     (try simp only [gTA, gCZ, gCS])
     go_simp
     refine hK.out _ _ ?_
     clear hK K
     (try simp only [gTA, gCZ, gCS, Act.put, sTA, sCZ, sCS])
     clear p0 p1 p2 cs hqW hpl h6 h6I HX1 HO HOR HAN
     obtain ⟨p0, p1, p2⟩ := cells3 HOB.out.o
     obtain ⟨x0, x1⟩ := cells2 HXB.out
     have hpl := HOB.out.o.lt
     have hxl := HXB.out.lt
     go_wp2_with fail
     refine (equalS_same _ _ (alT l k) _ _ HG9.out HWB.out.1).mono ?_
     rintro e8 w8 ⟨rfl, k1, rfl⟩
     have hnD := below_drewN (Below.refl wf.heap.size wf) k1
     obtain ⟨wD, HWD⟩ : ∃ u, Hid (wf.drewN k1 = u) := ⟨_, jD rfl⟩
     rw [HWD.out] at hnD ⊢
     have HOD := jD (HOB.out.below hnD)
     have HXD := jD (HXB.out.below hnD HXB.out.lt)
     have HRD := jD (HWB.out.2.step hnD)
     have HSD := jD (HRB.out.step hnD)
     clear p0 p1 p2 x0 x1 hpl hxl hnD HWD HG9 HWB HRB HXB HOB
     obtain ⟨p0, p1, p2⟩ := cells3 HOD.out.o
     obtain ⟨x0, x1⟩ := cells2 HXD.out
     have hpl := HOD.out.o.lt
     have hxl := HXD.out.lt
     go_wp2_with fail
     refine (equalP_same _ _ rws _ _ HSD.out HRD.out).mono ?_
     rintro e9 w9 ⟨rfl, k2, rfl⟩
     go_wp2
     go_ret
     exact ⟨rfl, below_drewN HOD.out.bel _⟩
end Go.Proofs.YtpbaobmegomfpabGreatDoor
