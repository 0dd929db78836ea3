/-
  Texts of the proof, one behind the other: Math, HouseG, HouseK, TopHd, SaidM, ContS, Say3, AnsW, WTopSaid.
-/
import Derived.WalkKit
import Derived.Test.YtpbaobmegomfpacGreatDoorM1
import Derived.Test.YtpbaobmegomfpacGreatDoorM35
import Derived.Test.YtpbaobmegomfpacGreatDoorM18
import Derived.Test.YtpbaobmegomfpacGreatDoorM31
import Derived.Test.YtpbaobmegomfpacGreatDoorM41
import Derived.Test.YtpbaobmegomfpacGreatDoorM43
import Derived.Test.YtpbaobmegomfpacGreatDoorM24
import Derived.Lib.IndexMore
import Derived.Shelf.Strings.Search3
import Derived.Test.YtpbaobmegomfpacGreatDoorProg
import Derived.Test.YtpbaobmegomfpacGreatDoorRows
import Derived.Test.YtpbaobmegomfpacGreatDoorM29
import Derived.Test.YtpbaobmegomfpacGreatDoorM27
import Derived.WalkSpells
import Derived.WalkLawsBesides
import Derived.Lib.Hide
import Derived.Test.YtpbaobmegomfpacGreatDoorM21
import Derived.Test.YtpbaobmegomfpacGreatDoorM38
import Derived.Lib.AppendZeros
import Derived.IntWalk
import Derived.MapKept
import Derived.Laws.StructEq
import Derived.WalkSmall
import Derived.Shelf.Vars
set_option linter.unusedVariables false
set_option linter.unusedSimpArgs false
set_option maxRecDepth 100000
open List renaming getElem_toArray → gTA, getElem_cons_zero → gCZ, getElem_cons_succ → gCS, setIfInBounds_toArray → sTA, set_cons_zero → sCZ, set_cons_succ → sCS
open Go.Lib renaming hid → jD
open Nat renaming le_refl → nL
namespace Go.Proofs.YtpbaobmegomfpacGreatDoor
open Go.RowKit
theorem msgs_zero (k : UInt8) (s m : ByteArray) (h : 0 < (msg k s ++ m).size) : (msg k s ++ m)[0] = k := by
 rw [get_toList]; simp [ByteArray.data_append, msg]
theorem msgs_one (k : UInt8) (s m : ByteArray) (h : 1 < (msg k s ++ m).size) : (msg k s ++ m)[1] = UInt8.ofNat s.size := by
 rw [get_toList]; simp [ByteArray.data_append, msg]
theorem msgs_text (k : UInt8) (s m : ByteArray) : (msg k s ++ m).extract 2 (2 + s.size) = s := by
 apply ba_ext
 rw [ByteArray.data_extract, Array.toList_extract, ByteArray.data_append, Array.toList_append, msg_toList]
 simp
section
variable {mode : Int} {m : Mach Wd} {c : Nat}
end
section
variable {E : Type} {o : Ops E} {mode : Int}
end
section
variable {mode : Int} {m : Mach Wd} {c : Nat}
theorem msg_rest (k : UInt8) (t y : ByteArray) : (msg k t ++ y).extract (2 + t.size) (msg k t ++ y).size = y := by
 rw [ext_app (by rw [msg_size]; omega)]
 have : (msg k t).extract (2 + t.size) (msg k t).size = ⟨#[]⟩ := ba_ext (by
  rw [ext_list, List.drop_eq_nil_of_le (by simp [msg_size]; omega)])
 rw [this]
 exact ba_ext (by simp)
end
structure Ent where
 own : Bool
 a : Ans
 st : Int
def Ent.text (e : Ent) : ByteArray := tellT e.a.kind.toNat e.st.toNat e.a.text
def isRef (a : Ans) : Prop := a.kind = 4 ∧ (a.text = tUnder ∨ a.text = tMode)
structure EntOk (e : Ent) : Prop where
 ok : AnsOk e.a
 lo : 0 ≤ e.st
 hi : e.st ≤ 2
 ref : if e.own then ¬ isRef e.a else isRef e.a
def catM : List ByteArray → ByteArray
 | [] => ⟨#[]⟩
 | t :: l => msg 82 t ++ catM l
theorem catM_snoc : ∀ (l : List ByteArray) (t : ByteArray), catM (l ++ [t]) = catM l ++ msg 82 t
 | [], t => by
  show msg 82 t ++ (⟨#[]⟩ : ByteArray) = (⟨#[]⟩ : ByteArray) ++ msg 82 t
  exact ba_ext (by simp)
 | a :: l, t => by
  show msg 82 a ++ catM (l ++ [t]) = (msg 82 a ++ catM l) ++ msg 82 t
  rw [catM_snoc l t, ByteArray.append_assoc]
def logM (l : List Ent) : ByteArray := catM (l.map Ent.text)
theorem logM_snoc (l : List Ent) (e : Ent) : logM (l ++ [e]) = logM l ++ msg 82 e.text := by unfold logM; rw [List.map_append]; exact catM_snoc _ _
def ownT (l : List Ent) : List ByteArray := (l.filter (·.own)).map Ent.text
def deedsT (l : List Deed) (c : Nat) : List ByteArray := (l.filter (fun x => x.c == c)).map Deed.told
theorem ref_no {t : ByteArray} (h1 : t ≠ tUnder) (h2 : t ≠ tMode) : ¬ isRef (no' t) := fun h => h.2.elim h1 h2
theorem ref_ok : ¬ isRef ok' := fun h => absurd h.1 (by show ¬ (1 : Int) = 4; decide)
theorem ref_fnd (o : Option ByteArray) : ¬ isRef (fnd' o) := fun h => by
 cases o with
 | none => exact absurd h.1 (by show ¬ (3 : Int) = 4; decide)
 | some v => exact absurd h.1 (by show ¬ (2 : Int) = 4; decide)
theorem ref_ite {c : Prop} [Decidable c] {a b : Wd × Ans} (ha : ¬ isRef a.2) (hb : ¬ isRef b.2) : ¬ isRef (if c then a else b).2 := by
 split
 ·exact ha
 ·exact hb
theorem ba_ne {a b : ByteArray} (h : a.data.toList ≠ b.data.toList) : a ≠ b := fun e => h (by rw [e])
theorem did1_ref (W : Wd) (i : Nat) (k : Int) (key val : ByteArray) : ¬ isRef (did1 W i k key val).2 := by
 unfold did1
 simp only
 repeat' first
  | exact ref_ok
  | exact ref_fnd _
  | exact ref_no (ba_ne (by decide)) (ba_ne (by decide))
  | refine ref_ite ?_ ?_
theorem didM_ref (W : Wd) (i : Nat) (k : Int) (key val : ByteArray) : ¬ isRef (didM W i k key val).2 := by
 unfold didM
 refine ref_ite (ref_ite (ref_no (ba_ne (by decide)) (ba_ne (by decide))) ?_) (did1_ref _ _ _ _ _)
 split
 ·exact ref_no (ba_ne (by decide)) (ba_ne (by decide))
 ·exact did1_ref _ _ _ _ _
theorem doM_ref (W : Wd) (i : Nat) (k : Int) (key val : ByteArray) : ¬ isRef (doM W i k key val).2 := by
 unfold doM
 simp only
 exact ref_ite (didM_ref _ _ _ _ _) (didM_ref _ _ _ _ _)
theorem refuse_ref {mode : Int} {r : Req} (h : refB mode r = true) : isRef ⟨4, refuse mode r⟩ := by
 unfold refB at h
 have h := of_decide_eq_true h
 refine ⟨rfl, ?_⟩
 show refuse mode r = tUnder ∨ refuse mode r = tMode
 unfold refuse
 by_cases h1 : r.k = 0
 ·rw [if_pos h1]; exact .inl rfl
 ·rw [if_neg h1, if_pos (h.resolve_left h1)]; exact .inr rfl
structure LogOf (d : D) (c : Nat) (l : List Ent) : Prop where
 sent : d.sent.getD c ⟨#[]⟩ = logM l
 own : ownT l = deedsT d.deeds c
 ok : ∀ e ∈ l, EntOk e
def SaidJ (n : Nat → Nat) (d : D) (b : Nat → ByteArray) (q : Nat → List Req) : Prop :=
 HOk d ∧ d.sent.length = 6 ∧ ∀ c, c < 6 → ∃ l, LogOf d c l ∧ l.length + (q c).length + (b c).size ≤ n c
theorem ownT_snoc (l : List Ent) (e : Ent) : ownT (l ++ [e]) = if e.own then ownT l ++ [e.text] else ownT l := by
 unfold ownT
 rw [List.filter_append, List.map_append]
 by_cases h : e.own = true
 ·rw [if_pos h]; simp [h]
 ·rw [if_neg h]; simp [h]
theorem deedsT_snoc (l : List Deed) (x : Deed) (c : Nat) : deedsT (l ++ [x]) c = if x.c = c then deedsT l c ++ [x.told] else deedsT l c := by
 unfold deedsT
 rw [List.filter_append, List.map_append]
 by_cases h : x.c = c
 ·rw [if_pos h]; simp [h]
 ·rw [if_neg h]; simp [h]
theorem one_sent {mode : Int} {d : D} {c : Nat} {r : Req} : (d.one mode c r).sent = d.sent.set c (d.sent.getD c ⟨#[]⟩ ++ if refB mode r then ansM ⟨4, refuse mode r⟩ (d.w.at c).st else ansM (doR d.w c r).2 ((doR d.w c r).1.at c).st) := by
 unfold D.one; split <;> rfl
theorem said_one {mode : Int} {n : Nat → Nat} (d : D) (b : Nat → ByteArray) (q : Nat → List Req) (c : Nat) (r : Req) (l : List Req) (hc : c < 6) (hq : q c = r :: l) (hr : r.fine) (h : SaidJ n d b q) : SaidJ n (d.one mode c r) b (upd q c l) := by
 obtain ⟨hd, h6, hl⟩ := h
 refine ⟨hok_one hc hr hd, by rw [one_sent]; simpa using h6, fun x hx => ?_⟩
 obtain ⟨lg, hL, hn⟩ := hl x hx
 by_cases e : c = x
 ·subst e
  have hst := sess_at hd.1 (i := c) (by rw [hd.2]; exact hc)
  by_cases hf : refB mode r = true
  ·refine ⟨lg ++ [⟨false, ⟨4, refuse mode r⟩, (d.w.at c).st⟩], ⟨?_, ?_, ?_⟩, ?_⟩
   ·rw [one_sent, getD_set, if_pos ⟨rfl, by omega⟩, if_pos hf, hL.sent, logM_snoc]; rfl
   ·rw [ownT_snoc, one_deeds, if_pos hf]; exact hL.own
   ·intro e he
    rcases List.mem_append.1 he with he | he
    ·exact hL.ok e he
    ·rw [List.mem_singleton.1 he]
     exact ⟨ref_ans hf, hst.lo, hst.hi, refuse_ref hf⟩
   ·rw [hq] at hn
    unfold upd
    rw [if_pos rfl]
    simp at hn ⊢
    omega
  ·have hok := fine_ok hr hf
   have hcl : c < d.w.ss.length := by rw [hd.2]; exact hc
   have h2 := doR_ok hd.1 hcl hok
   have hst2 := sess_at h2.1 (i := c) (by rw [h2.2]; exact hcl)
   refine ⟨lg ++ [⟨true, (doR d.w c r).2, ((doR d.w c r).1.at c).st⟩], ⟨?_, ?_, ?_⟩, ?_⟩
   ·rw [one_sent, getD_set, if_pos ⟨rfl, by omega⟩, if_neg hf, hL.sent, logM_snoc]; rfl
   ·rw [ownT_snoc, one_deeds, if_neg hf, deedsT_snoc, if_pos rfl, if_pos rfl, hL.own]; rfl
   ·intro e he
    rcases List.mem_append.1 he with he | he
    ·exact hL.ok e he
    ·rw [List.mem_singleton.1 he]
     exact ⟨doM_ans hd.1 hcl _ _ _, hst2.lo, hst2.hi, doM_ref _ _ _ _ _⟩
   ·rw [hq] at hn
    unfold upd
    rw [if_pos rfl]
    simp at hn ⊢
    omega
 ·refine ⟨lg, ⟨?_, ?_, hL.ok⟩, ?_⟩
  ·rw [one_sent, getD_set, if_neg (fun hh => e hh.1)]; exact hL.sent
  ·rw [one_deeds]
   split
   ·exact hL.own
   ·rw [deedsT_snoc, if_neg e]; exact hL.own
  ·unfold upd
   rw [if_neg (fun e' => e e'.symm)]; exact hn
theorem said_kept {mode : Int} (n : Nat → Nat) : Kept mode (SaidJ n) := by
 refine ⟨fun d b q c r l hc hq hr h => said_one d b q c r l hc hq hr h, fun d b q c k t j hc hp _ h => ?_, fun d b q c hc h => ?_⟩
 ·obtain ⟨hd, h6, hl⟩ := h
  refine ⟨hd, h6, fun x hx => ?_⟩
  obtain ⟨lg, hL, hn⟩ := hl x hx
  refine ⟨lg, hL, ?_⟩
  have hj := pull_j hp
  unfold upd
  by_cases e : x = c
  ·subst e
   rw [if_pos rfl, if_pos rfl, ext_size]
   simp
   omega
  ·rw [if_neg e, if_neg e]; exact hn
 ·obtain ⟨hd, h6, hl⟩ := h
  refine ⟨hok_leave hc hd, h6, fun x hx => ?_⟩
  obtain ⟨lg, hL, hn⟩ := hl x hx
  refine ⟨lg, ⟨hL.sent, hL.own, hL.ok⟩, ?_⟩
  unfold upd
  by_cases e : x = c
  ·rw [if_pos e, if_pos e]
   show lg.length + 0 + 0 ≤ n x
   omega
  ·rw [if_neg e, if_neg e]; exact hn
section
variable {mode : Int} {m : Mach Wd}
def dataN (l : List Act) (c : Nat) : Nat := ((l.filter (fun a => a.c == (c : Int))).map (fun a => a.data.size)).sum
theorem said_act {n : Nat → Nat} (h : MOk mode m) (hj : m.has (SaidJ n)) {a : Act} (ha : actE a = 0) : (m.act houseO mode a).has (SaidJ (fun c => n c + dataN [a] c)) := by
 obtain ⟨hc, hcc⟩ := act_lt ha
 have hc' : a.c.toNat < m.cl.length := by rw [h.n6]; exact hc
 have up : ∀ d b q, SaidJ n d b q → SaidJ (fun c => n c + dataN [a] c) d b q := fun d b q hh => ⟨hh.1, hh.2.1, fun c hc => by
  obtain ⟨l, hl, hn⟩ := hh.2.2 c hc
  exact ⟨l, hl, by show _ ≤ n c + _; omega⟩⟩
 unfold Mach.act
 split
 ·refine (said_kept _).all (h.deliver hc _) ?_
  unfold Mach.deliver
  refine (said_kept _).feed' (h.bytes hc _) hc ?_ _
  unfold Mach.has
  rw [set_b hc', set_q hc']
  obtain ⟨h1, h2, h3⟩ := hj
  refine ⟨h1, h2, fun c hc2 => ?_⟩
  obtain ⟨l, hl, hn⟩ := h3 c hc2
  refine ⟨l, hl, ?_⟩
  show l.length + (upd m.q a.c.toNat (m.q a.c.toNat) c).length + (upd m.b a.c.toNat (m.b a.c.toNat ++ a.data) c).size ≤ n c + dataN [a] c
  rw [upd_self]
  unfold upd dataN
  by_cases e : c = a.c.toNat
  ·subst e
   rw [if_pos rfl, hcc, ByteArray.size_append]
   simp
   omega
  ·rw [if_neg e]
   omega
 ·exact (said_kept _).all (h.leave hc) ((said_kept _).leave' h hc (up _ _ _ hj))
theorem said_run : ∀ {l : List Act} {m : Mach Wd} {n : Nat → Nat}, MOk mode m → m.has (SaidJ n) → actsE l = 0 → (m.run houseO mode l).has (SaidJ (fun c => n c + dataN l c))
 | [], m, n, h, hj, _ => by
  have e : (fun c => n c + dataN [] c) = n := by funext c; simp [dataN]
  rw [e]; exact hj
 | a :: l, m, n, h, hj, hl => by
  have := said_run (l := l) (h.act (actsE_cons hl).1) (said_act h hj (actsE_cons hl).1) (actsE_cons hl).2
  have e : (fun c => n c + dataN [a] c + dataN l c) = (fun c => n c + dataN (a :: l) c) := by
   funext c
   unfold dataN
   by_cases e : a.c == (c : Int)
   ·simp [e]; omega
   ·simp [e]
  rw [← e]; exact this
theorem said_start (k : Nat) : (Mach.start houseStart k).has (SaidJ (fun _ => 0)) := by
 refine ⟨hok_start k, by simp [Mach.start, Mach.d], fun c hc => ⟨[], ⟨?_, rfl, fun e he => by cases he⟩, ?_⟩⟩
 ·show (List.replicate 6 (⟨#[]⟩ : ByteArray)).getD c ⟨#[]⟩ = _
  rw [List.getD_eq_getElem?_getD, List.getElem?_replicate]; split <;> rfl
 ·show 0 + ((Mach.start houseStart k).get c).wait.length + ((Mach.start houseStart k).get c).bytes.size ≤ 0
  have : (Mach.start houseStart k).get c = Cl.new := by
   unfold Mach.get Mach.start; simp only; rw [List.getD_eq_getElem?_getD, List.getElem?_replicate]; split <;> rfl
  rw [this]; exact nL _
theorem top_said {k : Nat} {l : List Act} (hl : actsE l = 0) {c : Nat} (hc : c < 6) : ∃ lg, LogOf ((Mach.start houseStart k).run houseO mode l).d c lg ∧ lg.length ≤ dataN l c := by
 obtain ⟨lg, h1, h2⟩ := (said_run (start_ok houseStart k mode) (said_start k) hl).2.2 c hc
 exact ⟨lg, h1, by simp only at h2; omega⟩
end
structure OutAt (w wr : World) (B bO : Nat) (v1 v2 v3 : Value) (snt : List ByteArray) (ds : List Deed) (rows : PL) : Prop where
 o : RowTo wr bO 27 3 [v1, v2, v3]
 s : TLst wr B v1 snt
 d : DLst wr B v2 ds
 r : Lst wr B v3 rows
 bb : B ≤ wr.heap.size
 bel : Below w.heap.size w wr
theorem OutAt.below {w wr w' : World} {B bO : Nat} {v1 v2 v3 : Value} {snt : List ByteArray} {ds : List Deed} {rows : PL} (h : OutAt w wr B bO v1 v2 v3 snt ds rows) (hb : Below wr.heap.size wr w') : OutAt w w' B bO v1 v2 v3 snt ds rows := by
 have hbb := h.bb
 exact ⟨h.o.below hb h.o.lt, h.s.keep (nL _) (fun p hp => hb.cell (Nat.lt_of_lt_of_le hp hbb)), h.d.keep (nL _) (fun p hp => hb.cell (Nat.lt_of_lt_of_le hp hbb)), h.r.below (hb.mono hbb), Nat.le_trans hbb hb.size, bel_add' h.bel hb h.bel.size⟩
theorem OutAt.new {w w3 : World} {v1 v2 v3 : Value} {snt : List ByteArray} {ds : List Deed} {rows : PL} (h : OutV w3 v1 v2 v3 snt ds rows) (hb : Below w.heap.size w w3) : OutAt w (w3.alloc (.cells #[v1, v2, v3] 27)) w3.heap.size w3.heap.size v1 v2 v3 snt ds rows := by
 have n := (Below.refl w3.heap.size w3).alloc (nL _) (.cells #[v1, v2, v3] 27)
 exact ⟨RowTo.whole w3 #[v1, v2, v3] _, h.s.keep (nL _) (fun p hp => n.cell hp), h.d.keep (nL _) (fun p hp => n.cell hp), h.r.below n, n.size, bel_add' hb n hb.size⟩
theorem DLst.take {w : World} {B n c : Nat} {A : Option Addr} {l : List Deed} (h : DLst w B (.slice A n c) l) (hn : n = l.length) {k : Nat} (hk : k ≤ l.length) : DLst w B (.slice A k c) (l.take k) := by
 have hl : (l.take k).length = k := by rw [List.length_take]; omega
 obtain ⟨A', c', e, hc⟩ := h.form
 injection e with e1 e2 e3
 refine ⟨⟨A, c, by rw [hl], by omega⟩, by rw [hl]; have := h.small; omega, fun hp => ?_⟩
 rw [hl] at hp
 obtain ⟨b, off, c'', e, hb, hcell⟩ := h.cells (by omega)
 injection e with e1 e2 e3
 subst e1 e3
 refine ⟨b, off, c, by rw [hl], hb, fun i hi j u hu => hcell i (by omega) j u ?_⟩
 rw [List.getElem_take] at hu
 exact hu
theorem markAt_one' : ∀ c, c < 3 → ∀ d, d < 3 → (markAt c).data.toList.head? = (markAt d).data.toList.head? → c = d := by decide
theorem tell_list' (k st : Nat) (x : ByteArray) : (tellT k st x).data.toList = (markAt st).data.toList ++ (leadL k ++ x.data.toList) := by
 unfold tellT leadAt; simp [ByteArray.data_append]
theorem mark_len' : ∀ st, (markAt st).data.toList.length = 1
 | 0 => rfl
 | 1 => rfl
 | (_ + 2) => rfl
theorem txt_head' (k : Nat) (hk : 1 ≤ k) (hk4 : k ≤ 4) (x : ByteArray) : ∃ r, leadL k ++ x.data.toList = (leadL k).headD 0 :: r ∧ r = (leadL k).tail ++ x.data.toList := by
 obtain rfl | rfl | rfl | rfl : k = 1 ∨ k = 2 ∨ k = 3 ∨ k = 4 := by omega
 all_goals exact ⟨_, rfl, rfl⟩
theorem lead_apart' : ∀ k, k ≤ 4 → ∀ l, l ≤ 4 → 1 ≤ k → 1 ≤ l → (leadL k).headD 0 = (leadL l).headD 0 → k = l := by decide
theorem tell_inj' {k l c d : Nat} {x y : ByteArray} (hk : 1 ≤ k) (hk4 : k ≤ 4) (hl : 1 ≤ l) (hl4 : l ≤ 4) (hc : c < 3) (hd : d < 3) (h : tellT k c x = tellT l d y) : k = l ∧ c = d ∧ x = y := by
 have h1 := congrArg (fun s : ByteArray => s.data.toList) h
 simp only [tell_list'] at h1
 obtain ⟨h2, h3⟩ := List.append_inj h1 (by rw [mark_len', mark_len'])
 have hcd : c = d := markAt_one' c hc d hd (by rw [h2])
 obtain ⟨r, e1, e2⟩ := txt_head' k hk hk4 x
 obtain ⟨r', e3, e4⟩ := txt_head' l hl hl4 y
 rw [e1, e3] at h3
 injection h3 with h4 h5
 have hkl := lead_apart' k hk4 l hl4 hk hl h4
 subst hkl
 rw [e2, e4] at h5
 exact ⟨rfl, hcd, ba_ext (List.append_cancel_left h5)⟩
theorem ent_ne {e f : Ent} (h : EntOk e) (h' : EntOk f) (ho : e.own = true) (ho' : f.own = false) : e.text ≠ f.text := fun he => by
 have r1 := h.ref
 have r2 := h'.ref
 rw [if_pos ho] at r1
 rw [if_neg (by rw [ho']; simp)] at r2
 have b1 := h.ok.lo; have b2 := h.ok.hi; have b3 := h'.ok.lo; have b4 := h'.ok.hi
 have c1 := h.lo; have c2 := h.hi; have c3 := h'.lo; have c4 := h'.hi
 obtain ⟨k1, _, k3⟩ := tell_inj' (by omega) (by omega) (by omega) (by omega) (by omega) (by omega) he
 refine r1 ⟨?_, ?_⟩
 ·have := r2.1; omega
 ·rw [k3]; exact r2.2
def cUnd : ByteArray := ⟨#[33, 110, 111, 116, 32, 117, 110, 100, 101, 114, 115, 116, 111, 111, 100]⟩
def cMod : ByteArray := ⟨#[33, 110, 111, 116, 32, 105, 110, 32, 116, 104, 105, 115, 32, 109, 111, 100, 101]⟩
theorem ref_und : ∀ st, st < 3 → Lib.contains (tellT 4 st tUnder).data.toList cUnd.data.toList = true := by decide +kernel
theorem ref_mod : ∀ st, st < 3 → Lib.contains (tellT 4 st tMode).data.toList cMod.data.toList = true := by decide +kernel
theorem ref_text {e : Ent} (h : EntOk e) (ho : e.own = false) : Lib.contains e.text.data.toList cUnd.data.toList = true ∨ Lib.contains e.text.data.toList cMod.data.toList = true := by
 have r := h.ref
 rw [if_neg (by rw [ho]; simp)] at r
 have c3 := h.lo; have c4 := h.hi
 have hk : e.a.kind.toNat = 4 := by rw [r.1]; rfl
 unfold Ent.text
 rw [hk]
 rcases r.2 with ht | ht
 ·rw [ht]; exact .inl (ref_und _ (by omega))
 ·rw [ht]; exact .inr (ref_mod _ (by omega))
theorem ent_size {e : Ent} (h : EntOk e) : e.text.size ≤ 200 := by
 have b1 := h.ok.lo; have b2 := h.ok.hi; have b5 := h.ok.len
 have c3 := h.lo; have c4 := h.hi
 unfold Ent.text tellT
 have h1 : ∀ k, k ≤ 4 → (leadAt k).size ≤ 60 := by decide
 have h2 : ∀ k, k < 3 → (markAt k).size ≤ 60 := by decide
 rw [ByteArray.size_append, ByteArray.size_append]
 have := h1 e.a.kind.toNat (by omega)
 have := h2 e.st.toNat (by omega)
 omega
def DeedsOk (d : D) : Prop := HOk d ∧ ∀ x ∈ d.deeds, AnsOk x.a ∧ 0 ≤ x.st ∧ x.st ≤ 2
theorem deedsOk_run {mode : Int} {k : Nat} {l : List Act} (hl : actsE l = 0) : DeedsOk ((Mach.start houseStart k).run houseO mode l).d := by
 refine run_keeps (I := DeedsOk) (fun d c r hc hr h => ⟨hok_one hc hr h.1, fun x hx => ?_⟩) (fun d c hc h => ⟨hok_leave hc h.1, h.2⟩) (start_ok houseStart k mode) ⟨hok_start k, fun x hx => by cases hx⟩ hl
 rw [one_deeds] at hx
 by_cases hf : refB mode r = true
 ·rw [if_pos hf] at hx; exact h.2 x hx
 ·rw [if_neg hf] at hx
  rcases List.mem_append.1 hx with hx | hx
  ·exact h.2 x hx
  ·rw [List.mem_singleton.1 hx]
   have hcl : c < d.w.ss.length := by rw [h.1.2]; exact hc
   have h2 := doR_ok h.1.1 hcl (fine_ok hr hf)
   have hst2 := sess_at h2.1 (i := c) (by rw [h2.2]; exact hcl)
   exact ⟨doM_ans h.1.1 hcl _ _ _, hst2.lo, hst2.hi⟩
theorem said_pool {mode : Int} {n : Nat} (hn : n ≤ 8) {l : List Act} (hl : actsE l = 0) :
  (∀ x ∈ (ranM mode n l).deeds, AnsOk x.a ∧ 0 ≤ x.st ∧ x.st ≤ 2) ∧ ∀ c, c < 6 → ∃ lg : List Ent, (ranM mode n l).sent.getD c ⟨#[]⟩ = catM (lg.map Ent.text) ∧ ownT lg = deedsT (ranM mode n l).deeds c ∧ (∀ e ∈ lg, EntOk e) ∧ lg.length ≤ dataN l c := by
 have a1 := pool_house hn mode hl
 unfold ranM
 rw [a1.sent, a1.deeds]
 refine ⟨(deedsOk_run hl).2, fun c hc => ?_⟩
 obtain ⟨lg, h1, h2⟩ := top_said (mode := mode) (k := n) hl hc
 exact ⟨lg, h1.sent, h1.own, h1.ok, h2⟩
end Go.Proofs.YtpbaobmegomfpacGreatDoor
namespace Go.Proofs.YtpbaobmegomfpacGreatDoor
open Go.Shelf Go.Proofs
def Tryz.lays144_ren : Go.Shelf.Ren := ⟨fun | 144 => 18 | 143 => 36 | 219 => 53 | 217 => 66 | 225 => 67 | 224 => 68 | 267 => 69 | 266 => 82 | 314 => 83 | n => n, fun | 9 => 9 | 4 => 4 | 3 => 3 | 5 => 5 | 46 => 97 | 146 => 118 | 51 => 117 | n => n, fun | 1 => 2 | n => n⟩
theorem Tryz.lays144 : Go.Proofs.Lays.n144 Tryz.prog Tryz.lays144_ren := {
 mixed := by kernel_rfl
 f143 := Tryz.func36.trans (congrArg some (by kernel_rfl))
 f144 := Tryz.func18.trans (congrArg some (by kernel_rfl))
 f217 := Tryz.func66.trans (congrArg some (by kernel_rfl))
 f219 := Tryz.func53.trans (congrArg some (by kernel_rfl))
 f224 := Tryz.func68.trans (congrArg some (by kernel_rfl))
 f225 := Tryz.func67.trans (congrArg some (by kernel_rfl))
 f266 := Tryz.func82.trans (congrArg some (by kernel_rfl))
 f267 := Tryz.func69.trans (congrArg some (by kernel_rfl))
 f314 := Tryz.func83.trans (congrArg some (by kernel_rfl))
 t3 := Tryz.underlying3
 a3 := Tryz.isAgg3
 z3 := Tryz.sizeOf3
 v3 := Tryz.zeroValue3
 t4 := Tryz.underlying4
 a4 := Tryz.isAgg4
 z4 := Tryz.sizeOf4
 v4 := Tryz.zeroValue4
 t5 := Tryz.underlying5
 a5 := Tryz.isAgg5
 z5 := Tryz.sizeOf5
 v5 := Tryz.zeroValue5
 t9 := Tryz.underlying9
 a9 := Tryz.isAgg9
 z9 := Tryz.sizeOf9
 v9 := Tryz.zeroValue9
 t46 := Tryz.underlying97
 a46 := Tryz.isAgg97
 z46 := Tryz.sizeOf97
 v46 := Tryz.zeroValue97
 t51 := Tryz.underlying117
 a51 := Tryz.isAgg117
 z51 := Tryz.sizeOf117
 v51 := Tryz.zeroValue117
 t146 := Tryz.underlying118
 a146 := Tryz.isAgg118
 z146 := Tryz.sizeOf118
 v146 := Tryz.zeroValue118
 g1 := by kernel_rfl }
open Go.RowKit Go.Lib in
theorem Tryz.strings_Contains (s sub : ByteArray) (m : Int) (w : World) (hs : s.size < 4294967281) (hm : w.cell? ⟨2, 0, none⟩ = some (.int .i64 m)) :
  Calls Tryz.prog 18 #[.string s, .string sub] w fun e w' => e = .returned (.bool (Lib.contains s.data.toList sub.data.toList)) ∧ w' = w := Any.strings_Contains Tryz.lays144 s sub m w hs hm
end Go.Proofs.YtpbaobmegomfpacGreatDoor
namespace Go.Proofs.YtpbaobmegomfpacGreatDoor
open Go.RowKit
theorem unpack_msg (k : UInt8) (T m : ByteArray) (w : World) (hT : T.size ≤ 255) (hm : m.size ≤ 140737488351232) :
  Calls Tryz.prog 17 #[.string (msg k T ++ m)] w fun e w' => e = .returned (.tuple #[.int .u8 k.toNat, .string T, .int .i64 ((2 : Int) + (T.size : Int))]) ∧ Below w.heap.size w w' := by
 have hz : (msg k T ++ m).size = T.size + 2 + m.size := by rw [ByteArray.size_append, msg_size]
 have h1 : (msg k T ++ m)[1].toNat = T.size := by
  have := u8_size hT
  rw [msgs_one]; omega
 refine (unpack_ok (msg k T ++ m) w (by unfold maxLen; omega) (by omega) (by omega)).mono fun e w' ⟨he, hb⟩ => ⟨?_, hb⟩
 rw [he, h1, msgs_zero, msgs_text]
theorem strT_row : (Tryz.prog.info? 9).map (fun i => (i.zero, i.size, i.bytes)) = some (some (.string ⟨#[]⟩), 1, 16) := by kernel_rfl
def OwnT (w0 w : World) (v : Value) (l : List ByteArray) : Prop := ∃ g, Sl w 9 1 v g l.length (l.map .string) ∧ ∀ b, g = some b → w0.heap.size ≤ b
theorem OwnT.below {w0 w w' : World} {v : Value} {l : List ByteArray} (h : OwnT w0 w v l) (hb : Below w.heap.size w w') : OwnT w0 w' v l := by
 obtain ⟨g, h1, h2⟩ := h
 exact ⟨g, h1.below hb, h2⟩
theorem OwnT.nil (w0 w : World) : OwnT w0 w (.slice none 0 0) [] := ⟨none, Sl.nil_ _ _ _, fun b hb => by cases hb⟩
theorem OwnT.shape {w0 w : World} {v : Value} {l : List ByteArray} (h : OwnT w0 w v l) : ∃ A c, v = .slice A l.length c ∧ l.length ≤ c := by
 obtain ⟨g, h1, _⟩ := h
 exact h1.shape
theorem OwnT.lst {w0 w : World} {v : Value} {l : List ByteArray} (h : OwnT w0 w v l) (hs : ∀ t ∈ l, t.size ≤ 100000000) (hl : l.length ≤ 1000000) : TLst w w.heap.size v l := by
 refine ⟨h.shape, hl, hs, fun hn => ?_⟩
 obtain ⟨g, h1, _⟩ := h
 obtain ⟨b, off, cap, rfl, rfl, hc, hcell⟩ := h1.at hn
 refine ⟨b, off, cap, rfl, h1.lt rfl, fun i hi => ?_⟩
 rw [hcell i (by simpa using hi), List.getElem_map]
theorem run_app1 {w0 w : World} {v : Value} {l : List ByteArray} {t : ByteArray} (h : OwnT w0 w v l) (hl : l.length ≤ 1000000) (hw : w0.heap.size ≤ w.heap.size) :
  ∃ v' w', (Builtin.append_ #[23, 23] 23 #[v, .slice (some ⟨w.heap.size, 0, none⟩) 1 1]).run Tryz.prog (w.alloc (.cells #[.string t] 9)) = .ok v' w' ∧ OwnT w0 w' v' (l ++ [t]) ∧ ∀ wb, Below w0.heap.size wb w → Below w0.heap.size wb w' := by
 obtain ⟨i0, hi, hz0, hz1, hz2⟩ := info_parts strT_row
 have nb := (Below.refl w.heap.size w).alloc (nL _) (.cells #[.string t] 9)
 have hX := RowTo.whole w #[.string t] 9
 obtain ⟨g, h1, h2⟩ := h.below nb
 obtain ⟨b, off, cap, w', hrun, hs, hgr, hb⟩ := h1.append (P := Tryz.prog) 23 23 i0 _ 16 Tryz.underlying23 hi hz0 hz1 hz2 rfl (by omega) ⟨w.heap.size, 0, none⟩ 1 [.string t] rfl (fun j u hu => by
   have hj := (List.getElem?_eq_some_iff.1 hu).1
   have hj0 : j = 0 := by simpa using hj
   subst hj0
   injection hu with hu
   subst hu
   exact hX.cell (j := 0) (by simp)) (fun u hu => by rw [List.mem_singleton.1 hu]; rfl) (by unfold maxLen; omega) (by omega)
 refine ⟨_, w', hrun, ⟨some b, by rw [List.length_append, List.map_append]; exact hs, fun x hx => ?_⟩, fun wb hwb => ?_⟩
 ·injection hx with hx
  subst hx
  exact hb.elim (fun e => h2 _ e) (fun e => Nat.le_trans (Nat.le_trans hw nb.size) e.1)
 ·exact (hwb.trans (nb.mono hw)).grown hgr (Nat.le_trans hw nb.size) h2
theorem toL_ne {s x : ByteArray} (h : ¬ s = x) : (s.toList == x.toList) = false := by
 rw [← beq_toListBytes]
 cases hb : (s == x) with
 | false => rfl
 | true => exact absurd ((Go.MapKept.bytes_beq s x).1 hb) h
theorem toL_emp {s : ByteArray} (h : ¬ s = ⟨#[]⟩) : s.toList.isEmpty = false := by
 have h1 := toL_ne h
 have e : (⟨#[]⟩ : ByteArray).toList = [] := by first | rfl | simp | (unfold ByteArray.toList ByteArray.toList.loop; simp)
 rw [e] at h1
 cases hs : s.toList with
 | nil => rw [hs] at h1; cases h1
 | cons a l => rfl
def strSz : Value → Nat
 | .string b => b.size
 | _ => 0
theorem catM_size {ts : List ByteArray} (h : ∀ t ∈ ts, t.size ≤ 200) : (catM ts).size ≤ 202 * ts.length := by
 induction ts with
 | nil => exact nL _
 | cons t l ih =>
  show (msg 82 t ++ catM l).size ≤ _
  rw [ByteArray.size_append, msg_size]
  have h1 := h t List.mem_cons_self
  have h2 := ih (fun x hx => h x (List.mem_cons_of_mem _ hx))
  simp only [List.length_cons]
  omega
theorem topSaid.laidFacts {W : World} (h : laidMetH Tryz.prog Rows.topSaidRow.laid W) : Tabs W W.heap.size :=
 tabs_of (words_of h (by simp [Rows.topSaidRow, Rows.laid_tillerman_say_words, List.range, List.range.loop, wordL])) (leads_of h (by simp [Rows.topSaidRow, Rows.laid_tillerman_say_leads, List.range, List.range.loop, leadL]))
def SomeMax (w : World) : Prop := 2 < w.heap.size ∧ ∃ m, w.cell? ⟨2, 0, none⟩ = some (.int .i64 m)
theorem SomeMax.below {w w' : World} (h : SomeMax w) (hb : Below w.heap.size w w') : SomeMax w' := by
 obtain ⟨hl, m, hm⟩ := h
 exact ⟨Nat.lt_of_lt_of_le hl hb.size, m, (hb.cell (p := ⟨2, 0, none⟩) hl).trans hm⟩
theorem topSaid.maxFacts {W : World} (h : W.ShapedOpen Tryz.prog) : SomeMax W := by
 have h0 : ((begin Tryz.prog (fun _ _ => 0) default).world.heap[2]?).bind Obj.row? = some (#[.int .i64 0], 3) := by kernel_rfl
 have hg : 2 < Tryz.prog.globals.size := of_decide_eq_true (by kernel_rfl)
 refine ⟨?_, cell_of_shapedOpen_int h hg h0 rfl (by kernel_rfl) (by kernel_rfl) Tryz.underlying3⟩
 obtain ⟨cs, hh, _, _⟩ := h.1 _ _ _ hg h0
 exact (Array.getElem?_eq_some_iff.1 hh).1
theorem contains_any (s sub : ByteArray) (w : World) (hs : s.size < 4294967281) (hm : SomeMax w) : Calls Tryz.prog 18 #[.string s, .string sub] w fun e w' => e = .returned (.bool (Lib.contains s.data.toList sub.data.toList)) ∧ w = w' := by
 obtain ⟨_, m, hm⟩ := hm
 exact (Tryz.strings_Contains s sub m w hs hm).mono fun e w' h => ⟨h.1, h.2.symm⟩
theorem tell_ans (x : Deed) (w : World) (hL : Leads w) (h : AnsOk x.a ∧ 0 ≤ x.st ∧ x.st ≤ 2) :
  Calls Tryz.prog 16 #[.agg #[.int .i64 x.a.kind, .string x.a.text, .int .i64 x.st]] w fun e w' => e = .returned (.tuple #[.string x.told, .int .i64 0]) ∧ Below w.heap.size w w' := by
 obtain ⟨hk, hk'⟩ : (x.a.kind.toNat : Int) = x.a.kind ∧ (x.st.toNat : Int) = x.st := ⟨by have := h.1.lo; omega, by omega⟩
 have h1 := tell_ok x.a.kind.toNat x.st.toNat x.a.text w hL (by rw [hk, hk']; have := h.1.lo; have := h.1.hi; omega) (by rw [hk]; rw [h.1.ne]; have := h.1.len; simp; omega)
 rw [hk, hk'] at h1
 exact h1
theorem dataN_snoc {l : List Act} {k : Nat} (hk : k < l.length) (c : Nat) : dataN (l.take (k + 1)) c = dataN (l.take k) c + if l[k].c = (c : Int) then l[k].data.size else 0 := by
 unfold dataN
 rw [List.take_succ_eq_append_getElem hk, List.filter_append, List.map_append, List.sum_append]
 by_cases h : l[k].c = (c : Int)
 ·rw [if_pos h]; simp [h]
 ·rw [if_neg h]; simp [h]
theorem dataN_le {l : List Act} (hs : ∀ a ∈ l, a.data.size ≤ 1000) (c : Nat) : dataN l c ≤ 1000 * l.length := by
 induction l with
 | nil => simp [dataN]
 | cons a l ih =>
  have h1 := ih (fun x hx => hs x (List.mem_cons_of_mem _ hx))
  have h2 := hs a List.mem_cons_self
  unfold dataN at h1 ⊢
  rw [List.filter_cons]
  split
  ·simp only [List.map_cons, List.sum_cons, List.length_cons]; omega
  ·simp only [List.length_cons]; omega
theorem ownT_cons (e : Ent) (l : List Ent) : ownT (e :: l) = if e.own then e.text :: ownT l else ownT l := by
 unfold ownT
 by_cases h : e.own = true
 ·rw [if_pos h]; simp [h]
 ·rw [if_neg h]; simp [h]
theorem deedsT_take {l : List Deed} {k : Nat} (hk : k < l.length) (c : Nat) : deedsT (l.take (k + 1)) c = if l[k].c = c then deedsT (l.take k) c ++ [l[k].told] else deedsT (l.take k) c := by
 rw [List.take_succ_eq_append_getElem hk]; exact deedsT_snoc _ _ _
theorem OwnT.cut {w0 w : World} {b off cap : Nat} {t : ByteArray} {l : List ByteArray} (h : OwnT w0 w (.slice (some ⟨b, off, none⟩) (l.length + 1) cap) (t :: l)) : OwnT w0 w (cutv b off 1 l.length cap) l := by
 obtain ⟨g, h1, h2⟩ := h
 refine ⟨g, ?_, h2⟩
 have := Sl.cut h1
 simpa using this
set_option maxHeartbeats 4000000 in
theorem walk_TopSaid (v : Value) (l : List Raw) (mode srv : Int) (w : World) (hl : RLst w w.heap.size v l) (hm : (Lit.int .i64 mode).wf = true) (hs : (Lit.int .i64 srv).wf = true) (hT : Tabs w w.heap.size) (hMX : SomeMax w) :
  Calls Tryz.prog 4 #[v, .int .i64 mode, .int .i64 srv] w fun e w' => e = .returned (.bool true) ∧ Below w.heap.size w w' := by
 have hmb := i64_bd hm
 have hsb := i64_bd hs
 have hae := actsR_E (l := l) (most := 60) (n := 5) (by omega) (by omega)
 have hl1 := actsR_len (l := l) (most := 60) (n := 5)
 have hu := setupR_E mode srv
 have hsr := pickI_bd srv (m := 4) (by omega)
 have hE1 := run_E hu (Nat.le_trans hl1 (by omega)) hae
 have hpp := said_pool (mode := 1 + pickI mode 3) (n := (1 + pickI srv 4).toNat) (by omega) hae
 have hse := setup_any mode srv
 have HS := jD (fun wc => hse wc hmb.1 hmb.2 hsb.1 hsb.2)
 have HA1 := jD (acts_any v l 60 5 w hl hT.wo (by omega) (by omega) (by omega))
 have HP1 := jD (fun (out : Value) (wc : World) (h : ALst wc wc.heap.size out (actsR l 60 5)) (hb : Below w.heap.size w wc) => playedT_any (1 + pickI mode 3) (1 + pickI srv 4) out _ wc h ((hT.below hb).up hb.size) hE1)
 have HAL := jD (fun (out : Value) (w0 wc : World) (h : ActsAt w0 wc out (actsR l 60 5)) => h.alst (Nat.le_trans actsR_len (by omega)) (actsR_size (n := 5)))
 have HZ1 := jD (actsR_size (l := l) (most := 60) (n := 5))
 have HT := jD hT
 have HMX := jD hMX
 have HS6 := jD (ran_sent (1 + pickI mode 3) (n := (1 + pickI srv 4).toNat) (by omega) hae)
 obtain ⟨E, e, rfl, he⟩ := hl.form
 have HPP := jD hpp
 generalize ranM (1 + pickI mode 3) (1 + pickI srv 4).toNat (actsR l 60 5) = m1 at *
 have HL1 := jD hl1
 generalize actsR l 60 5 = al at *
 generalize 1 + pickI mode 3 = md at *
 generalize 1 + pickI srv 4 = sv at *
 clear hmb hsb hae hl1 hu hsr hE1 hpp hse hl hm hs hT hMX
 go_enter Tryz.func4, Tryz.ntmps4
 go_wp2_with fail
 refine HA1.out.mono ?_
 rintro e1 w1 ⟨out, rfl, hA⟩
 have HB1 := jD hA.bel
 have ha := HAL.out _ _ _ hA
 obtain ⟨A0, c0, rfl, _⟩ := ha.form
 have HA0 := jD ha
 clear hA ha HA1 HAL
 go_wp2_with fail
 refine (HS.out _).mono ?_
 rintro e2 w2 ⟨rfl, hb2⟩
 have HA2 := jD (HA0.out.step hb2)
 have HB2 := jD (bel_add' HB1.out hb2 HB1.out.size)
 clear hb2 HS HA0 HB1
 go_wp2_with fail
 refine (HP1.out _ _ HA2.out HB2.out).mono ?_
 rintro e3 w3 ⟨v1, v2, v3, rfl, ho, hb3⟩
 obtain ⟨A1, c1, rfl, _⟩ := ho.s.form
 obtain ⟨A2, c2, rfl, _⟩ := ho.d.form
 obtain ⟨A3, c3, rfl, _⟩ := ho.r.form
 have n3 := (Below.refl w3.heap.size w3).alloc (nL _) (.cells #[.slice A1 m1.sent.length c1, .slice A2 m1.deeds.length c2, .slice A3 m1.e.w.rows.length c3] 27)
 have HO := jD (OutAt.new ho (bel_add' HB2.out hb3 HB2.out.size))
 have HA3 := jD ((HA2.out.step hb3).step n3)
 clear ho hb3 n3 HP1 HA2 HB2
 go_wp2_with fail
 obtain ⟨WB, HW⟩ : ∃ u, Hid ((w3.alloc (.cells #[.slice A1 m1.sent.length c1, .slice A2 m1.deeds.length c2, .slice A3 m1.e.w.rows.length c3] 27)) = u) := ⟨_, jD rfl⟩
 rw [HW.out] at HO HA3 ⊢
 clear HW
 have HBW := jD (HO.out.bel)
 have HTB := jD (HT.out.below HBW.out)
 have HMB := jD (HMX.out.below HBW.out)
 clear HT HMX
 go_loopw [36] (fun i wr => ∃ c : Nat, c ≤ 6 ∧ i = .int .i64 c ∧ Hid (Below WB.heap.size WB wr)) (fun i _ => 6 - (intOf i).toNat)
 case atStart => exact ⟨0, by omega, rfl, Below.refl _ _⟩
 case round =>
  obtain ⟨c, hc, rfl, HC⟩ := hrel
  by_cases hlt : c < 6
  ·obtain ⟨lg, hsent, hown, hok, hmany⟩ := HPP.out.2 c hlt
   have HLG := jD (And.intro hsent (And.intro hown (And.intro hok hmany)))
   have HLT := jD hlt
   clear hsent hown hok hmany
   have hd6 : decide ((c : Int) < 6) = true := decide_eq_true (by omega)
   go_wp2_with fail
   go_loopw [11, 41] (fun s j wr1 => ∃ k : Nat, k ≤ al.length ∧ j = .int .i64 k ∧ (∃ d : ByteArray, s = .string d ∧ Hid (d.size = dataN (al.take k) c)) ∧ Hid (Below WB.heap.size WB wr1)) (fun _ j _ => al.length - (intOf j).toNat)
   case atStart => exact ⟨0, by omega, rfl, ⟨⟨#[]⟩, rfl, (show (0 : Nat) = _ by simp [dataN])⟩, HC.out⟩
   case round =>
    obtain ⟨k, hk, rfl, ⟨d, rfl, HD⟩, HC1⟩ := hrel
    rename World => wr1
    by_cases hka : k < al.length
    ·have HKA := jD hka
     obtain ⟨b, off, rfl, hb, x0, x1, x2⟩ := (HA3.out.step HC1.out).pt hka
     have HSN := jD (dataN_snoc hka c)
     have hdl : (al.take k).length ≤ 60 := by rw [List.length_take]; have := HL1.out; omega
     have hd1 : d.size ≤ 60000 := by rw [HD.out]; refine Nat.le_trans (dataN_le (fun a ha => HZ1.out a (List.mem_of_mem_take ha)) c) ?_; omega
     have hx1 : al[k].data.size ≤ 1000 := HZ1.out _ (List.getElem_mem hka)
     have hkI : k < 60 := by have := HL1.out; omega
     generalize al[k] = x at *
     have hsum := fun W => run_string_add_sum (P := Tryz.prog) W d x.data (by omega)
     have nb := (Below.refl wr1.heap.size wr1).alloc (nL _) (.cells #[.int .i64 x.kind, .int .i64 x.c, .string x.data] 45)
     have HN := jD (bel_add' HC1.out nb HC1.out.size)
     by_cases hxc : x.c = (c : Int)
     ·have e1 : (x.c == (c : Int)) = true := by rw [hxc]; simp
      have HSZ := jD (show (d ++ x.data).size = dataN (al.take (k + 1)) c by rw [HSN.out, if_pos hxc, ByteArray.size_append, HD.out])
      clear hxc nb hdl
      go_wp2
      go_roundw
      case rel => exact ⟨k + 1, Nat.succ_le_of_lt HKA.out, by go_num, ⟨_, rfl, HSZ.out⟩, HN.out⟩
      case measure => have := HKA.out; simp [intOf]; omega
     ·have e1 : (x.c == (c : Int)) = false := by simp [hxc]
      have HSZ := jD (show d.size = dataN (al.take (k + 1)) c by rw [HSN.out, if_neg hxc, HD.out]; rfl)
      clear hxc nb hdl
      go_wp2
      go_roundw
      case rel => exact ⟨k + 1, Nat.succ_le_of_lt HKA.out, by go_num, ⟨_, rfl, HSZ.out⟩, HN.out⟩
      case measure => have := HKA.out; simp [intOf]; omega
    ·obtain rfl : k = al.length := by omega
     have HDZ := jD (show d.size = dataN al c by have h := HD.out; rw [List.take_length] at h; exact h)
     have HO1 := jD (HO.out.below HC1.out)
     obtain ⟨p0, p1, p2⟩ := cells3 HO1.out.o
     have pl := HO1.out.o.lt
     clear HD hka hk
     go_wp2_with fail
     have hsm := HO.out.d.small
     go_loopw [14, 57] (fun o j wr2 => ∃ k : Nat, k ≤ m1.deeds.length ∧ j = .int .i64 k ∧ Hid (OwnT WB wr2 o (deedsT (m1.deeds.take k) c) ∧ Below WB.heap.size WB wr2)) (fun _ j _ => m1.deeds.length - (intOf j).toNat)
     case atStart => exact ⟨0, by omega, rfl, OwnT.nil _ _, HC1.out⟩
     case round =>
      obtain ⟨k, hk, rfl, HC2⟩ := hrel
      rename World => wr2
      clear p0 p1 p2 pl
      by_cases hkd : k < m1.deeds.length
      ·have HKD := jD hkd
       have HO2 := HO.out.below HC2.out.2
       obtain ⟨b, off, rfl, hb, l0, l1, l2, l3, l4, l5, l6⟩ := HO2.d.pt hkd
       have HDS := jD (deedsT_take hkd c)
       have HAX := jD (HPP.out.1 _ (List.getElem_mem hkd))
       have hol : (deedsT (m1.deeds.take k) c).length ≤ 1000000 := by
        unfold deedsT
        rw [List.length_map]
        exact Nat.le_trans (List.length_filter_le _ _) (by rw [List.length_take]; omega)
       generalize m1.deeds[k] = x at *
       generalize deedsT (m1.deeds.take k) c = ol at *
       have nd := (Below.refl wr2.heap.size wr2).alloc (nL _) (.cells #[.int .i64 x.c, .int .i64 x.r.k, .string x.r.key, .string x.r.val, .int .i64 x.a.kind, .string x.a.text, .int .i64 x.st] 40)
       have HN := jD (And.intro (HC2.out.1.below nd) (bel_add' HC2.out.2 nd HC2.out.2.size))
       have hbl : b < wr2.heap.size := Nat.lt_of_lt_of_le hb HO2.bb
       clear HO2
       by_cases hxc : x.c = c
       ·have e1 : ((x.c : Int) == (c : Int)) = true := by rw [hxc]; simp
        have HTL := jD (tell_ans x _ ((HTB.out.below (HN.out.2.mono HBW.out.size)).le) HAX.out)
        have HDS2 := jD (show deedsT (m1.deeds.take (k + 1)) c = ol ++ [x.told] by rw [HDS.out, if_pos hxc])
        clear hxc nd HC2
        go_wp2_with fail
        refine HTL.out.mono ?_
        rintro eq wq ⟨rfl, hbq⟩
        have HQ := jD (And.intro (HN.out.1.below hbq) (bel_add' HN.out.2 hbq HN.out.2.size))
        obtain ⟨v', w', hrun, hown', hbb⟩ := run_app1 (t := x.told) HQ.out.1 hol HQ.out.2.size
        obtain ⟨Ao, ao, hvo, _⟩ := HQ.out.1.shape
        rw [hvo] at hrun ⊢
        have HN2 := jD (And.intro hown' (hbb WB HQ.out.2))
        clear hown' hbb hvo HQ hbq HTL HN hol
        go_wp2_with (at_builtin; refine Lib.wpList_append_run _ rfl _ _ _ _ rfl _ _ rfl rfl _ _ hrun ?_)
        go_roundw
        case rel => exact ⟨k + 1, Nat.succ_le_of_lt HKD.out, by go_num, by rw [HDS2.out]; exact HN2.out⟩
        case measure => have := HKD.out; simp [intOf]; omega
       ·have e1 : ((x.c : Int) == (c : Int)) = false := by simp; omega
        have HDS2 := jD (show deedsT (m1.deeds.take (k + 1)) c = ol by rw [HDS.out, if_neg hxc])
        clear hxc nd HC2
        go_wp2
        go_roundw
        case rel => exact ⟨k + 1, Nat.succ_le_of_lt HKD.out, by go_num, by rw [HDS2.out]; exact HN.out⟩
        case measure => have := HKD.out; simp [intOf]; omega
      ·obtain rfl : k = m1.deeds.length := by omega
       have HW2 := jD (show OwnT WB wr2 _ (ownT (lg.drop 0)) ∧ Below WB.heap.size WB wr2 by have h := HC2.out; rw [List.take_length, ← HLG.out.2.1] at h; exact h)
       have hc6 : c < m1.sent.length := by rw [HS6.out]; exact HLT.out
       have HO2 := HO.out.below HC2.out.2
       obtain ⟨qs, us, rfl, hqs, cs⟩ := HO2.s.pt hc6
       have e0 : m1.sent[c] = catM ((lg.drop 0).map Ent.text) := by have h := HLG.out.1; rw [List.getD_eq_getElem?_getD, List.getElem?_eq_getElem hc6] at h; exact h
       rw [e0] at cs
       have hqb : qs < wr2.heap.size := Nat.lt_of_lt_of_le hqs HO2.bb
       obtain ⟨p0, p1, p2⟩ := cells3 HO2.o
       have pl := HO2.o.lt
       have hcI : (c : Int) < (m1.sent.length : Int) := by omega
       have HCS := jD cs
       clear e0 HC2 HO2 hkd hk cs
       have cs := HCS.out
       generalize hs0 : catM ((lg.drop 0).map Ent.text) = s0 at *
       have HS0 := jD hs0
       clear hs0
       go_wp2_with fail
       go_loopw [14, 19, 20] (fun o mm s wr3 => ∃ j : Nat, j ≤ lg.length ∧ mm = .int .i64 j ∧ s = .string (catM ((lg.drop j).map Ent.text)) ∧ Hid (OwnT WB wr3 o (ownT (lg.drop j)) ∧ Below WB.heap.size WB wr3)) (fun _ _ s _ => strSz s)
       case atStart => exact ⟨0, by omega, rfl, by rw [HS0.out], HW2.out⟩
       case round =>
        obtain ⟨j, hj, rfl, rfl, HC3⟩ := hrel
        rename World => wr3
        clear p0 p1 p2 pl cs hqb HW2
        have hlg : lg.length ≤ 60000 := Nat.le_trans HLG.out.2.2.2 (Nat.le_trans (dataN_le HZ1.out c) (by have := HL1.out; omega))
        by_cases hjl : j < lg.length
        ·obtain ⟨en, HEN⟩ : ∃ q, Hid (lg[j] = q) := ⟨_, jD rfl⟩
         have hek := HLG.out.2.2.1 en (by rw [← HEN.out]; exact List.getElem_mem hjl)
         have hdr : lg.drop j = en :: lg.drop (j + 1) := by rw [List.drop_eq_getElem_cons hjl, HEN.out]
         obtain ⟨tt, HTT⟩ : ∃ q, Hid (en.text = q) := ⟨_, jD rfl⟩
         obtain ⟨mr, HMR⟩ : ∃ q, Hid (catM ((lg.drop (j + 1)).map Ent.text) = q) := ⟨_, jD rfl⟩
         have he : catM ((lg.drop j).map Ent.text) = msg 82 tt ++ mr := by rw [hdr, ← HTT.out, ← HMR.out]; rfl
         have htz : tt.size ≤ 200 := by rw [← HTT.out]; exact ent_size hek
         have hmz : mr.size ≤ 20000000 := by
          rw [← HMR.out]
          refine Nat.le_trans (catM_size fun x hx => ?_) ?_
          ·obtain ⟨f, hf, rfl⟩ := List.mem_map.1 hx
           exact ent_size (HLG.out.2.2.1 f (List.mem_of_mem_drop hf))
          ·rw [List.length_map, List.length_drop]; omega
         have hsz : (msg 82 tt ++ mr).size = tt.size + 2 + mr.size := by rw [ByteArray.size_append, msg_size]
         have HU := jD (fun wc => unpack_msg 82 tt mr wc (by omega) (by omega))
         have HRE := jD (msg_rest 82 tt mr)
         obtain ⟨jn, hjn⟩ : ∃ q : Nat, q = 2 + tt.size := ⟨_, rfl⟩
         have hjI : (2 : Int) + (tt.size : Int) = (jn : Int) := by omega
         rw [← hjn] at HRE
         rw [hjI] at HU
         rw [he]
         have hnee : ¬ (msg 82 tt ++ mr) = ⟨#[]⟩ := fun h => by have := congrArg ByteArray.size h; rw [hsz] at this; have h0 : (⟨#[]⟩ : ByteArray).size = 0 := rfl; omega
         have hne : (msg 82 tt ++ mr).toList.isEmpty = false := toL_emp hnee
         have HZS := jD hsz
         have hjs : jn ≤ (msg 82 tt ++ mr).size := by omega
         have HJ := jD hjn
         have HJL := jD hjl
         have HEK := jD hek
         generalize msg 82 tt ++ mr = s at *
         have hj0 : ((jn : Int) == 0) = false := beq_eq_false_iff_ne.2 (by omega)
         have hOT := ownT_cons en (lg.drop (j + 1))
         rw [← hdr] at hOT
         have hmem : ∀ u ∈ ownT (lg.drop (j + 1)), ∃ f, EntOk f ∧ f.own = true ∧ f.text = u := fun u hu => by
          unfold ownT at hu
          obtain ⟨f, hf, rfl⟩ := List.mem_map.1 hu
          have hf2 := List.mem_filter.1 hf
          exact ⟨f, HLG.out.2.2.1 f (List.mem_of_mem_drop hf2.1), by simpa using hf2.2, rfl⟩
         clear he hsz hjI hjn hnee hdr hek
         cases how : en.own with
         | true =>
          rw [if_pos how, HTT.out] at hOT
          rw [hOT] at HC3
          obtain ⟨r, HR⟩ : ∃ q, Hid (ownT (lg.drop (j + 1)) = q) := ⟨_, jD rfl⟩
          rw [HR.out] at HC3
          clear hOT hmem how
          go_wp2_with fail
          refine (HU.out _).mono ?_
          rintro eu wu ⟨rfl, hbu⟩
          have HO3 := jD (And.intro (HC3.out.1.below hbu) (bel_add' HC3.out.2 hbu HC3.out.2.size))
          obtain ⟨g, h1, h2⟩ := HO3.out.1
          obtain ⟨b3, off3, cap, rfl, hv3, hcap, hcell⟩ := h1.at (by simp)
          have hv3' : _ = Value.slice (some ⟨b3, off3, none⟩) (r.length + 1) cap := hv3
          have HCUT := jD (OwnT.cut (hv3' ▸ HO3.out.1))
          have q0 : wu.cell? ⟨b3, off3, none⟩ = some (.string tt) := by have := hcell 0 (by simp); simpa using this
          have hb3 : b3 < wu.heap.size := h1.lt rfl
          have hcap' : r.length + 1 ≤ cap := hcap
          rw [hv3']
          have HBU := jD HO3.out.2
          clear hbu HU HC3 HO3 h1 h2 hv3 hv3' hcell hcap
          generalize r.length = nr at *
          by_cases hcp : cap = 1
          ·subst hcp
           obtain rfl : nr = 0 := by omega
           have HCU2 := jD (show OwnT WB wu (.slice (some ⟨b3, off3, none⟩) 0 0) r from HCUT.out)
           clear HCUT
           go_wp2
           go_roundw
           case rel => exact ⟨j + 1, Nat.succ_le_of_lt HJL.out, by go_num, by rw [HMR.out]; simp [HRE.out], by rw [HR.out]; exact ⟨HCU2.out, HBU.out⟩⟩
           case measure => simp [strSz, HRE.out]; have := HZS.out; have := HJ.out; omega
          ·have HCU2 := jD (show OwnT WB wu (.slice (some ⟨b3, off3 + 1, none⟩) nr (cap - 1)) r by have h := HCUT.out; unfold cutv at h; rw [if_neg hcp] at h; exact h)
           have hcp2 : cap - 1 ≠ 0 := by omega
           have hcp3 : ¬ cap ≤ 1 := by omega
           clear HCUT
           go_wp2
           go_roundw
           case rel => exact ⟨j + 1, Nat.succ_le_of_lt HJL.out, by go_num, by rw [HMR.out]; simp [HRE.out], by rw [HR.out]; exact ⟨HCU2.out, HBU.out⟩⟩
           case measure => simp [strSz, HRE.out]; have := HZS.out; have := HJ.out; omega
         | false =>
          rw [if_neg (by rw [how]; simp)] at hOT
          rw [hOT] at HC3
          have HRT := jD (ref_text HEK.out how)
          rw [HTT.out] at HRT
          have hdif : ∀ u ∈ ownT (lg.drop (j + 1)), (u.toList == tt.toList) = false := fun u hu => by
           obtain ⟨f, hf, hfo, rfl⟩ := hmem u hu
           rw [← HTT.out]
           exact toL_ne (ent_ne hf HEK.out hfo how)
          obtain ⟨r, HR⟩ : ∃ q, Hid (ownT (lg.drop (j + 1)) = q) := ⟨_, jD rfl⟩
          rw [HR.out] at HC3 hdif
          have HCT := jD (fun (wc : World) (sub : ByteArray) (hb : Below WB.heap.size WB wc) => contains_any tt sub wc (by omega) (HMB.out.below hb))
          clear hOT hmem how
          go_wp2_with fail
          refine (HU.out _).mono ?_
          rintro eu wu ⟨rfl, hbu⟩
          have HO3 := jD (And.intro (HC3.out.1.below hbu) (bel_add' HC3.out.2 hbu HC3.out.2.size))
          clear hbu HU HC3
          cases r with
          | nil =>
           obtain ⟨Ao, ao, hvo, _⟩ := HO3.out.1.shape
           have hvo' : _ = Value.slice Ao 0 ao := hvo
           subst hvo'
           clear hdif hvo
           by_cases hb1 : Lib.contains tt.data.toList cUnd.data.toList = true
           ·have HC1 := jD (HCT.out wu cUnd HO3.out.2)
            rw [hb1] at HC1
            unfold cUnd at HC1
            clear HCT HRT hb1
            go_wp2_with fail
            refine HC1.out.mono ?_
            rintro ec wc ⟨rfl, rfl⟩
            clear HC1
            go_wp2
            go_roundw
            case rel => exact ⟨j + 1, Nat.succ_le_of_lt HJL.out, by go_num, by rw [HMR.out]; simp [HRE.out], by rw [HR.out]; exact HO3.out⟩
            case measure => simp [strSz, HRE.out]; have := HZS.out; have := HJ.out; omega
           ·have hb2 := HRT.out.resolve_left hb1
            rw [Bool.not_eq_true] at hb1
            have HC1 := jD (HCT.out wu cUnd HO3.out.2)
            have HC2' := jD (HCT.out wu cMod HO3.out.2)
            rw [hb1] at HC1
            rw [hb2] at HC2'
            unfold cUnd at HC1
            unfold cMod at HC2'
            clear HCT HRT hb1 hb2
            go_wp2_with fail
            refine HC1.out.mono ?_
            rintro ec wc ⟨rfl, rfl⟩
            clear HC1
            go_wp2_with fail
            refine HC2'.out.mono ?_
            rintro ec wc ⟨rfl, rfl⟩
            clear HC2'
            go_wp2
            go_roundw
            case rel => exact ⟨j + 1, Nat.succ_le_of_lt HJL.out, by go_num, by rw [HMR.out]; simp [HRE.out], by rw [HR.out]; exact HO3.out⟩
            case measure => simp [strSz, HRE.out]; have := HZS.out; have := HJ.out; omega
          | cons u r1 =>
           obtain ⟨g, h1, h2⟩ := HO3.out.1
           obtain ⟨b3, off3, cap, rfl, hv3, hcap, hcell⟩ := h1.at (by simp)
           have hv3' : _ = Value.slice (some ⟨b3, off3, none⟩) (r1.length + 1) cap := hv3
           have q0 : wu.cell? ⟨b3, off3, none⟩ = some (.string u) := by have := hcell 0 (by simp); simpa using this
           have hb3 : b3 < wu.heap.size := h1.lt rfl
           have hune := hdif u List.mem_cons_self
           clear h1 h2 hcell hcap hdif hv3
           subst hv3'
           obtain ⟨nr, HNR⟩ : ∃ q, Hid (r1.length = q) := ⟨_, jD rfl⟩
           rw [HNR.out] at HO3 ⊢
           by_cases hb1 : Lib.contains tt.data.toList cUnd.data.toList = true
           ·have HC1 := jD (HCT.out wu cUnd HO3.out.2)
            rw [hb1] at HC1
            unfold cUnd at HC1
            clear HCT HRT hb1
            go_wp2_with fail
            refine HC1.out.mono ?_
            rintro ec wc ⟨rfl, rfl⟩
            clear HC1
            go_wp2
            go_roundw
            case rel => exact ⟨j + 1, Nat.succ_le_of_lt HJL.out, by go_num, by rw [HMR.out]; simp [HRE.out], by rw [HR.out]; exact HO3.out⟩
            case measure => simp [strSz, HRE.out]; have := HZS.out; have := HJ.out; omega
           ·have hb2 := HRT.out.resolve_left hb1
            rw [Bool.not_eq_true] at hb1
            have HC1 := jD (HCT.out wu cUnd HO3.out.2)
            have HC2' := jD (HCT.out wu cMod HO3.out.2)
            rw [hb1] at HC1
            rw [hb2] at HC2'
            unfold cUnd at HC1
            unfold cMod at HC2'
            clear HCT HRT hb1 hb2
            go_wp2_with fail
            refine HC1.out.mono ?_
            rintro ec wc ⟨rfl, rfl⟩
            clear HC1
            go_wp2_with fail
            refine HC2'.out.mono ?_
            rintro ec wc ⟨rfl, rfl⟩
            clear HC2'
            go_wp2
            go_roundw
            case rel => exact ⟨j + 1, Nat.succ_le_of_lt HJL.out, by go_num, by rw [HMR.out]; simp [HRE.out], by rw [HR.out]; exact HO3.out⟩
            case measure => simp [strSz, HRE.out]; have := HZS.out; have := HJ.out; omega
        ·obtain rfl : j = lg.length := by omega
         have he : catM ((lg.drop lg.length).map Ent.text) = ⟨#[]⟩ := by rw [List.drop_length]; rfl
         rw [he]
         rw [List.drop_length] at HC3
         obtain ⟨Ao, ao, hvo, _⟩ := HC3.out.1.shape
         have hvo' : _ = Value.slice Ao 0 ao := hvo
         have HBF := jD HC3.out.2
         have hmd : decide ((d.size : Int) < (lg.length : Int)) = false := decide_eq_false (by have h1 := HDZ.out; have h2 := HLG.out.2.2.2; omega)
         have hmd2 : decide (d.size < lg.length) = false := decide_eq_false (by have h1 := HDZ.out; have h2 := HLG.out.2.2.2; omega)
         clear hvo HC3 he
         subst hvo'
         have hc6' : c < 6 := HLT.out
         go_wp2
         go_roundw
         case rel => exact ⟨c + 1, by omega, by go_num, HBF.out⟩
         case measure => simp [intOf]; omega
  ·go_wp2
   go_ret
   exact ⟨rfl, bel_add' HBW.out HC.out HBW.out.size⟩
end Go.Proofs.YtpbaobmegomfpacGreatDoor
