/-
  Texts of the proof, one behind the other: Math, HouseG, HouseL, TopHd, PickW, GoneM, EqP, SlN, AppA, ConcA.
-/
import Derived.WalkKit
import Derived.Test.YtpbaobmegomfpacGreatDoorM1
import Derived.Test.YtpbaobmegomfpacGreatDoorM35
import Derived.Test.YtpbaobmegomfpacGreatDoorM18
import Derived.Test.YtpbaobmegomfpacGreatDoorM41
import Derived.Test.YtpbaobmegomfpacGreatDoorM43
import Derived.Test.YtpbaobmegomfpacGreatDoorM24
import Derived.Test.YtpbaobmegomfpacGreatDoorM27
import Derived.Test.YtpbaobmegomfpacGreatDoorM2
import Derived.Test.YtpbaobmegomfpacGreatDoorRows
import Derived.Deep.QuietTactic
import Derived.BigQuiet
import Derived.IntWalk
import Derived.WalkSmall
import Derived.Test.YtpbaobmegomfpacGreatDoorM21
import Derived.Test.YtpbaobmegomfpacGreatDoorM42
import Derived.Deep.Upon
import Derived.Lib.AppendZeros
import Derived.Laws.AppendOwn
set_option linter.unusedVariables false
set_option linter.unusedSimpArgs false
set_option maxRecDepth 100000
open List renaming getElem_toArray → gTA, getElem_cons_zero → gCZ, getElem_cons_succ → gCS, setIfInBounds_toArray → sTA, set_cons_zero → sCZ, set_cons_succ → sCS
open Go.Lib renaming hid → jD
open Nat renaming le_refl → nL
namespace Go.Proofs.YtpbaobmegomfpacGreatDoor
open Go.RowKit
theorem msgs_zero (k : UInt8) (s m : ByteArray) (h : 0 < (msg k s ++ m).size) : (msg k s ++ m)[0] = k := by
 rw [get_toList]; simp [ByteArray.data_append, msg]
theorem msgs_one (k : UInt8) (s m : ByteArray) (h : 1 < (msg k s ++ m).size) : (msg k s ++ m)[1] = UInt8.ofNat s.size := by
 rw [get_toList]; simp [ByteArray.data_append, msg]
theorem msgs_text (k : UInt8) (s m : ByteArray) : (msg k s ++ m).extract 2 (2 + s.size) = s := by
 apply ba_ext
 rw [ByteArray.data_extract, Array.toList_extract, ByteArray.data_append, Array.toList_append, msg_toList]
 simp
section
variable {mode : Int} {m : Mach Wd} {c : Nat}
structure Out (m : Mach Wd) (c : Nat) : Prop where
 cl : m.get c = Cl.new
 ses : m.e.at c = Sess.zero
theorem Out.step (h : MOk mode m) (hd : HOk m.d) (ho : Out m c) : Out (m.step houseO mode).2 c ∧ HOk (m.step houseO mode).2.d := by
 have K := step_has (J := fun d _ _ => HOk d) (fun d b q c r l hc _ hr hi => hok_one hc hr hi) h hd
 refine ⟨?_, K⟩
 unfold Mach.step
 cases hf : m.firstR mode with
 | some x =>
  obtain ⟨hx, hr⟩ := first_some hf
  obtain ⟨r, l, hw, _⟩ := ready_wait hr
  have hc' : x < m.cl.length := by rw [h.n6]; exact hx
  have hne : x ≠ c := fun e => by rw [e, ho.cl] at hw; cases hw
  refine ⟨by show (m.proc houseO mode x).get c = _; rw [proc_cl hc' hw, if_neg hne]; exact ho.cl, ?_⟩
  show (m.proc houseO mode x).e.at c = _
  have e : (m.proc houseO mode x).e = (m.d.one mode x r).w := congrArg D.w (proc_d hw)
  rw [e, one_w]
  split
  ·exact ho.ses
  ·rw [other_at hd.1 (by rw [hd.2]; exact hx) r (fun e => hne e.symm)]; exact ho.ses
 | none =>
  show Out (m.enq.assign houseO).2 c
  have hoq : Out m.enq c := ⟨ho.cl, ho.ses⟩
  unfold Mach.assign
  cases hl : m.enq.line with
  | nil => exact hoq
  | cons x l =>
   simp only
   split
   ·have hq := (h.enq hf).line x (by rw [hl]; exact List.mem_cons_self)
    have hne : x ≠ c := fun e => by
     have := hq.2.2.1
     rw [e] at this
     exact this (by show (m.get c).wait = []; rw [ho.cl]; rfl)
    refine ⟨?_, ho.ses⟩
    show (m.cl.set x _).getD c Cl.new = _
    rw [getD_set, if_neg (fun hh => hne hh.1)]
    exact ho.cl
   ·exact hoq
theorem Out.all (h : MOk mode m) (hd : HOk m.d) (ho : Out m c) : Out (m.all houseO mode) c ∧ HOk (m.all houseO mode).d :=
 all_ind (fun m => Out m c ∧ HOk m.d) (fun _ r => Out r c ∧ HOk r.d) (fun m h hj _ => ⟨hj.1.step h hj.2, fun r hr => hr⟩) (fun m h hj _ => hj.1.step h hj.2) _ m (nL _) h ⟨ho, hd⟩
theorem leave_out (h : MOk mode m) (hd : HOk m.d) (hc : c < 6) : Out (m.leave houseO c) c :=
 ⟨by rw [leave_get h hc, if_pos rfl], by rw [leave_at h (Nat.lt_of_lt_of_eq hc hd.2.symm), if_pos rfl]⟩
theorem leave_keeps (h : MOk mode m) (hd : HOk m.d) (hc : c < 6) {x : Nat} (ho : Out m x) : Out (m.leave houseO c) x := by
 refine ⟨?_, ?_⟩
 ·rw [leave_get h hc]; split; rfl; exact ho.cl
 ·rw [leave_at h (Nat.lt_of_lt_of_eq hc hd.2.symm)]; split; rfl; exact ho.ses
def closes (n : Nat) : List Act := (List.range n).map fun (i : Nat) => ⟨2, (i : Int), ⟨#[]⟩⟩
theorem close_E {i : Nat} (h : i < 6) : actE ⟨2, i, ⟨#[]⟩⟩ = 0 := by
 unfold actE
 rw [if_neg (by simp), if_neg (by simp only; omega), if_neg (by show ¬ (1000 < 0); omega)]
theorem closes_E {n : Nat} (h : n ≤ 6) : actsE (closes n) = 0 := actsE_all fun a ha => by
 obtain ⟨i, hi, rfl⟩ := List.mem_map.1 ha
 exact close_E (by have := List.mem_range.1 hi; omega)
theorem closes_succ (n : Nat) : closes (n + 1) = closes n ++ [⟨2, n, ⟨#[]⟩⟩] := by unfold closes; rw [List.range_succ, List.map_append]; rfl
theorem hok_run (h : MOk mode m) (hd : HOk m.d) {l : List Act} (hl : actsE l = 0) : HOk (m.run houseO mode l).d :=
 run_keeps (I := HOk) (fun d c r hc hr hi => hok_one hc hr hi) (fun d c hc hi => hok_leave hc hi) h hd hl
theorem closes_out (h : MOk mode m) (hd : HOk m.d) : ∀ {n : Nat}, n ≤ 6 → MOk mode (m.run houseO mode (closes n)) ∧ HOk (m.run houseO mode (closes n)).d ∧ ∀ x, x < n → Out (m.run houseO mode (closes n)) x
 | 0, _ => ⟨h, hd, fun x hx => by omega⟩
 | n + 1, hn => by
  obtain ⟨i1, i2, i3⟩ := closes_out h hd (n := n) (by omega)
  rw [closes_succ, run_app]
  have e : ∀ q : Mach Wd, q.run houseO mode [⟨2, n, ⟨#[]⟩⟩] = (q.leave houseO n).all houseO mode := fun q => by
   show q.act houseO mode ⟨2, n, ⟨#[]⟩⟩ = _
   unfold Mach.act; rw [if_neg (by simp)]; simp
  rw [e]
  have hl := i1.leave (o := houseO) (c := n) (by omega)
  have hdl : HOk ((m.run houseO mode (closes n)).leave houseO n).d := hok_leave (by omega) i2
  refine ⟨hl.all, ?_, fun x hx => ?_⟩
  ·exact ((leave_out i1 i2 (by omega)).all hl hdl).2
  ·by_cases ex : x = n
   ·subst ex; exact ((leave_out i1 i2 (by omega)).all hl hdl).1
   ·exact ((leave_keeps i1 i2 (by omega) (i3 x (by omega))).all hl hdl).1
theorem all_out (h : MOk mode m) (ho : ∀ x, x < 6 → Out m x) : Calm mode m ∧ (∀ s : Nat, m.busy[s]? ≠ some true) ∧ ∀ x, m.b x = ⟨#[]⟩ := by
 have hg : ∀ x, m.get x = Cl.new := fun x => by
  rcases Nat.lt_or_ge x 6 with h' | h'
  ·exact (ho x h').cl
  ·exact get_ge (by rw [h.n6]; exact h')
 refine ⟨⟨h, List.eq_nil_iff_forall_not_mem.2 fun x hx => ?_, fun x => by rw [hg]; rfl⟩, fun s hs => ?_, fun x => by show (m.get x).bytes = _; rw [hg]; rfl⟩
 ·have := (h.line x hx).2.2.1
  rw [hg] at this; exact this rfl
 ·obtain ⟨x, hx⟩ := h.own s hs
  rw [hg] at hx; cases hx
theorem run_len {E : Type} {o : Ops E} {mode : Int} : ∀ {l : List Act} {m : Mach E}, (∀ (m : Mach E) a, (m.act o mode a).busy.length = m.busy.length) → (m.run o mode l).busy.length = m.busy.length
 | [], m, _ => rfl
 | a :: l, m, h => (run_len (l := l) h).trans (h m a)
end
section
variable {E : Type} {o : Ops E} {mode : Int}
end
section
variable {mode : Int} {m : Mach Wd} {c : Nat}
theorem gone_can {n : Nat} (hn : 1 ≤ n) {l : List Act} (hl : actsE l = 0) : Calm mode ((Mach.start houseStart n).run houseO mode (l ++ closes 6)) ∧ HOk ((Mach.start houseStart n).run houseO mode (l ++ closes 6)).d ∧ (∀ x, x < 6 → Out ((Mach.start houseStart n).run houseO mode (l ++ closes 6)) x) ∧ ∀ c, canServe ((Mach.start houseStart n).run houseO mode (l ++ closes 6)) c := by
 have h1 := (start_ok houseStart n mode).run (o := houseO) hl
 have d1 := hok_run (start_ok houseStart n mode) (hok_start n) hl
 rw [run_app]
 obtain ⟨i1, i2, i3⟩ := closes_out h1 d1 (n := 6) (nL _)
 obtain ⟨j1, j2, j3⟩ := all_out i1 i3
 refine ⟨j1, i2, i3, fun c => .inr ?_⟩
 have hlen : (((Mach.start houseStart n).run houseO mode l).run houseO mode (closes 6)).busy.length = n := by
  rw [run_len act_len, run_len act_len]; simp [Mach.start]
 have h0 : 0 < (((Mach.start houseStart n).run houseO mode l).run houseO mode (closes 6)).busy.length := by omega
 have := j2 0
 rw [List.getElem?_eq_getElem h0] at this
 cases e : (((Mach.start houseStart n).run houseO mode l).run houseO mode (closes 6)).busy[0] with
 | true => rw [e] at this; exact absurd rfl this
 | false => rw [← e]; exact List.getElem_mem h0
theorem pull_msg (k : UInt8) (t y : ByteArray) (h : t.size < 256) : pull (msg k t ++ y) = some (k, t, 2 + t.size) := by
 have hs : (msg k t ++ y).size = t.size + 2 + y.size := by rw [ByteArray.size_append, msg_size]
 have e1 : ((msg k t ++ y)[1]'(by omega)).toNat = t.size := by
  rw [msgs_one k t y (by omega)]; simp; omega
 unfold pull
 rw [dif_pos (by omega)]
 simp only [e1]
 rw [if_pos (by omega), msgs_zero k t y (by omega), msgs_text]
theorem msg_rest (k : UInt8) (t y : ByteArray) : (msg k t ++ y).extract (2 + t.size) (msg k t ++ y).size = y := by
 rw [ext_app (by rw [msg_size]; omega)]
 have : (msg k t).extract (2 + t.size) (msg k t).size = ⟨#[]⟩ := ba_ext (by
  rw [ext_list, List.drop_eq_nil_of_le (by simp [msg_size]; omega)])
 rw [this]
 exact ba_ext (by simp)
theorem pullsA_msg {k : UInt8} {t y : ByteArray} (h : t.size < 256) (hk : k ≠ 88) : pullsA (msg k t ++ y) = (reqOf k t :: (pullsA y).1, (pullsA y).2.1, (pullsA y).2.2) := by
 rw [pullsA_some (pull_msg k t y h) hk, msg_rest]
theorem pull_empty : pull ⟨#[]⟩ = none := by unfold pull; rw [dif_neg (by decide)]
theorem pullsA_empty : pullsA ⟨#[]⟩ = ([], ⟨#[]⟩, false) := pullsA_none pull_empty
theorem reqOf_text {k : Nat} {key v : ByteArray} (h : checkE k key v = 0) : reqOf 81 (textOf k key v) = ⟨k, key, v⟩ := by
 obtain ⟨h1, h2, h3, h4⟩ := read_text h
 unfold reqOf
 rw [if_pos ⟨rfl, h4⟩, h1, h2, h3]
end
theorem one_did {mode : Int} {d : D} {c : Nat} {r : Req} {W : Wd} {a : Ans} {st : Int} (hf : refB mode r = false) (h : doR d.w c r = (W, a)) (hs : (W.at c).st = st) : d.one mode c r = ⟨W, d.sent.set c (d.sent.getD c ⟨#[]⟩ ++ ansM a st), d.deeds ++ [⟨c, r, a, st⟩]⟩ := by
 have h' : doM d.w c r.k r.key r.val = (W, a) := h
 unfold D.one
 rw [if_neg (by rw [hf]; simp), h', hs]
 rfl
theorem msg_app_nil (x : ByteArray) : (⟨#[]⟩ : ByteArray) ++ x = x := ba_ext (by simp)
theorem app_nil (x : ByteArray) : x ++ (⟨#[]⟩ : ByteArray) = x := ba_ext (by simp)
def catQ : List ByteArray → ByteArray
 | [] => ⟨#[]⟩
 | t :: l => msg 81 t ++ catQ l
theorem pullsA_catQ : ∀ (l : List ByteArray), (∀ t ∈ l, t.size < 256) → pullsA (catQ l) = (l.map (reqOf 81), ⟨#[]⟩, false)
 | [], _ => pullsA_empty
 | t :: l, h => by
  show pullsA (msg 81 t ++ catQ l) = _
  rw [pullsA_msg (h t List.mem_cons_self) (by decide), pullsA_catQ l (fun x hx => h x (List.mem_cons_of_mem _ hx))]
  rfl
section
variable {mode : Int} {m : Mach Wd} {c : Nat}
theorem so_msgs {s : So} {l : List ByteArray} (hb : s.b c = ⟨#[]⟩) (h : ∀ t ∈ l, t.size < 256) : So.act mode s ⟨1, (c : Int), catQ l⟩ = ⟨(l.map (reqOf 81)).foldl (D.one mode c) s.d, s.b⟩ := by
 unfold So.act
 rw [if_pos rfl]
 simp only [Int.toNat_natCast]
 rw [hb, msg_app_nil, pullsA_catQ l h]
 simp only [Bool.false_eq_true, if_false]
 refine so_ext rfl ?_
 show upd s.b c ⟨#[]⟩ = s.b
 rw [← hb]; exact upd_self _ _
def kA : ByteArray := ⟨#[97]⟩
def tGetA : ByteArray := ⟨#[103, 101, 116, 32, 97]⟩
def tExeA : ByteArray := ⟨#[101, 120, 101, 99, 32, 97]⟩
theorem kA_name : bndB 97 122 8 kA = true := by decide
theorem get_check {key : ByteArray} (h : bndB 97 122 8 key = true) {k : Nat} (hk : 6 ≤ k ∧ k ≤ 8) : checkE k key ⟨#[]⟩ = 0 := by
 refine checkE_ok (by omega) (by rw [keyB_yes (by omega)]; exact h) ?_
 unfold valueB; rw [if_neg (by omega), plainV_no (by omega)]; exact empty_of rfl
theorem req_getA : reqOf 81 tGetA = ⟨6, kA, ⟨#[]⟩⟩ := reqOf_text (k := 6) (key := kA) (v := ⟨#[]⟩) (get_check kA_name (by omega))
theorem req_exeA : reqOf 81 tExeA = ⟨8, kA, ⟨#[]⟩⟩ := reqOf_text (k := 8) (key := kA) (v := ⟨#[]⟩) (get_check kA_name (by omega))
theorem get_zero {W : Wd} (h : W.at c = Sess.zero) (key : ByteArray) : doR W c ⟨6, key, ⟨#[]⟩⟩ = (W, ⟨3, ⟨#[]⟩⟩) := by
 simp [doR, doM, didM, did1, h, Sess.zero, atL, fnd']
theorem exe_zero {W : Wd} (h : W.at c = Sess.zero) (key : ByteArray) : doR W c ⟨8, key, ⟨#[]⟩⟩ = (W, ⟨4, tNotPrep⟩) := by
 simp [doR, doM, didM, did1, h, Sess.zero, atL, no']
def tInone : ByteArray := ⟨#[73, 110, 111, 110, 101]⟩
def tIprep : ByteArray := ⟨#[73, 33, 110, 111, 116, 32, 112, 114, 101, 112, 97, 114, 101, 100]⟩
theorem ans_none : ansM ⟨3, ⟨#[]⟩⟩ 0 = msg 82 tInone := rfl
theorem ans_prep : ansM ⟨4, tNotPrep⟩ 0 = msg 82 tIprep := rfl
theorem top_gone {n : Nat} (hn : 1 ≤ n) {l : List Act} (hl : actsE l = 0) (hc : c < 6) :
  ((Mach.start houseStart n).run houseO mode ((l ++ closes 6) ++ [⟨1, c, catQ [tGetA, tExeA]⟩])).d.sent.getD c ⟨#[]⟩ = (((Mach.start houseStart n).run houseO mode (l ++ closes 6)).d.sent.getD c ⟨#[]⟩ ++ msg 82 tInone) ++ msg 82 tIprep ∧
  ((Mach.start houseStart n).run houseO mode ((l ++ closes 6) ++ [⟨1, c, catQ [tGetA, tExeA]⟩])).d.w.rows = ((Mach.start houseStart n).run houseO mode (l ++ closes 6)).d.w.rows := by
 obtain ⟨h1, h2, h3, h4⟩ := gone_can (mode := mode) hn hl
 have hb : ((Mach.start houseStart n).run houseO mode (l ++ closes 6)).b c = ⟨#[]⟩ := (all_out h1.ok h3).2.2 c
 rw [run_app]
 generalize (Mach.start houseStart n).run houseO mode (l ++ closes 6) = m at *
 have ha : actE ⟨1, (c : Int), catQ [tGetA, tExeA]⟩ = 0 := by
  unfold actE
  rw [if_neg (by simp), if_neg (by simp only; omega), if_neg (by show ¬ 1000 < (catQ [tGetA, tExeA]).size; decide)]
 obtain ⟨A, _⟩ := act_after h1 h2 ha (h4 _)
 have e : (m.run houseO mode [⟨1, (c : Int), catQ [tGetA, tExeA]⟩]).d = (So.act mode m.so ⟨1, (c : Int), catQ [tGetA, tExeA]⟩).d := congrArg So.d A.so
 rw [e, so_msgs (s := m.so) hb (by intro t ht; simp only [List.mem_cons, List.not_mem_nil, or_false] at ht; rcases ht with rfl | rfl <;> decide)]
 simp only [List.map_cons, List.map_nil, req_getA, req_exeA, List.foldl_cons, List.foldl_nil]
 have hz : m.e.at c = Sess.zero := (h3 c hc).ses
 have hs : c < m.sent.length := by rw [h1.ok.s6]; exact hc
 rw [one_did (mode := mode) (d := m.so.d) (W := m.e) (a := ⟨3, ⟨#[]⟩⟩) (st := 0) (refB_no (by show (6 : Int) ≠ 0; decide) (fun h => absurd h (by show ¬ (6 : Int) = 1; decide))) (get_zero hz kA) (by rw [hz]; rfl)]
 rw [one_did (mode := mode) (W := m.e) (a := ⟨4, tNotPrep⟩) (st := 0) (refB_no (by show (8 : Int) ≠ 0; decide) (fun h => absurd h (by show ¬ (8 : Int) = 1; decide))) (exe_zero hz kA) (by rw [hz]; rfl)]
 refine ⟨?_, rfl⟩
 show ((m.sent.set c (m.sent.getD c ⟨#[]⟩ ++ ansM ⟨3, ⟨#[]⟩⟩ 0)).set c ((m.sent.set c (m.sent.getD c ⟨#[]⟩ ++ ansM ⟨3, ⟨#[]⟩⟩ 0)).getD c ⟨#[]⟩ ++ ansM ⟨4, tNotPrep⟩ 0)).getD c ⟨#[]⟩ = (m.sent.getD c ⟨#[]⟩ ++ _) ++ _
 rw [getD_set, if_pos ⟨rfl, by simpa using hs⟩, getD_set, if_pos ⟨rfl, hs⟩, ans_none, ans_prep]
end
section
variable {mode : Int} {m : Mach Wd} {c : Nat}
end
structure OutAt (w wr : World) (B bO : Nat) (v1 v2 v3 : Value) (snt : List ByteArray) (ds : List Deed) (rows : PL) : Prop where
 o : RowTo wr bO 27 3 [v1, v2, v3]
 s : TLst wr B v1 snt
 d : DLst wr B v2 ds
 r : Lst wr B v3 rows
 bb : B ≤ wr.heap.size
 bel : Below w.heap.size w wr
theorem OutAt.below {w wr w' : World} {B bO : Nat} {v1 v2 v3 : Value} {snt : List ByteArray} {ds : List Deed} {rows : PL} (h : OutAt w wr B bO v1 v2 v3 snt ds rows) (hb : Below wr.heap.size wr w') : OutAt w w' B bO v1 v2 v3 snt ds rows := by
 have hbb := h.bb
 exact ⟨h.o.below hb h.o.lt, h.s.keep (nL _) (fun p hp => hb.cell (Nat.lt_of_lt_of_le hp hbb)), h.d.keep (nL _) (fun p hp => hb.cell (Nat.lt_of_lt_of_le hp hbb)), h.r.below (hb.mono hbb), Nat.le_trans hbb hb.size, bel_add' h.bel hb h.bel.size⟩
theorem OutAt.new {w w3 : World} {v1 v2 v3 : Value} {snt : List ByteArray} {ds : List Deed} {rows : PL} (h : OutV w3 v1 v2 v3 snt ds rows) (hb : Below w.heap.size w w3) : OutAt w (w3.alloc (.cells #[v1, v2, v3] 27)) w3.heap.size w3.heap.size v1 v2 v3 snt ds rows := by
 have n := (Below.refl w3.heap.size w3).alloc (nL _) (.cells #[v1, v2, v3] 27)
 exact ⟨RowTo.whole w3 #[v1, v2, v3] _, h.s.keep (nL _) (fun p hp => n.cell hp), h.d.keep (nL _) (fun p hp => n.cell hp), h.r.below n, n.size, bel_add' hb n hb.size⟩
theorem DLst.take {w : World} {B n c : Nat} {A : Option Addr} {l : List Deed} (h : DLst w B (.slice A n c) l) (hn : n = l.length) {k : Nat} (hk : k ≤ l.length) : DLst w B (.slice A k c) (l.take k) := by
 have hl : (l.take k).length = k := by rw [List.length_take]; omega
 obtain ⟨A', c', e, hc⟩ := h.form
 injection e with e1 e2 e3
 refine ⟨⟨A, c, by rw [hl], by omega⟩, by rw [hl]; have := h.small; omega, fun hp => ?_⟩
 rw [hl] at hp
 obtain ⟨b, off, c'', e, hb, hcell⟩ := h.cells (by omega)
 injection e with e1 e2 e3
 subst e1 e3
 refine ⟨b, off, c, by rw [hl], hb, fun i hi j u hu => hcell i (by omega) j u ?_⟩
 rw [List.getElem_take] at hu
 exact hu
set_option maxHeartbeats 400000 in
theorem pickedW_any (n m : Int) (w : World) (hn : -9223372036854775808 ≤ n) (hn2 : n ≤ 9223372036854775807) (hm : 0 < m) (hm2 : m ≤ 9223372036854775807) :
  Calls Tryz.prog 21 #[.int .i64 n, .int .i64 m] w fun e w' => e = .returned (.int .i64 (pickI n m)) ∧ w = w' := by
 have HP := jD (fun wc => picked_any n m wc hn hn2 hm hm2)
 clear hn hn2 hm hm2
 go_enter Tryz.func21, Tryz.ntmps21
 go_wp2_with fail
 refine (HP.out _).mono ?_
 rintro e w1 ⟨rfl, rfl⟩
 go_wp2
 go_ret
 exact ⟨rfl, rfl⟩
def cInone : ByteArray := ⟨#[82, 5, 73, 110, 111, 110, 101]⟩
def cIprep : ByteArray := ⟨#[82, 14, 73, 33, 110, 111, 116, 32, 112, 114, 101, 112, 97, 114, 101, 100]⟩
theorem catQ_two (a b : ByteArray) : catQ [a, b] = msg 81 a ++ msg 81 b := by
 show msg 81 a ++ (msg 81 b ++ (⟨#[]⟩ : ByteArray)) = _
 rw [app_nil]
theorem gone_E {l : List Act} (hl : actsE l = 0) {c : Nat} (hc : c < 6) : actsE ((l ++ closes 6) ++ [⟨1, (c : Int), msg 81 tGetA ++ msg 81 tExeA⟩]) = 0 := by
 refine actsE_app.2 ⟨actsE_app.2 ⟨hl, closes_E (nL _)⟩, actsE_all fun a ha => ?_⟩
 rw [List.mem_singleton.1 ha]
 unfold actE
 rw [if_neg (by simp), if_neg (by simp only; omega), if_neg (by show ¬ 1000 < (msg 81 tGetA ++ msg 81 tExeA).size; decide)]
theorem gone_pool {mode : Int} {n : Nat} (h1 : 1 ≤ n) (h8 : n ≤ 8) {l : List Act} (hl : actsE l = 0) {c : Nat} (hc : c < 6) :
  (ranM mode n ((l ++ closes 6) ++ [⟨1, (c : Int), msg 81 tGetA ++ msg 81 tExeA⟩])).sent.getD c ⟨#[]⟩ = ((ranM mode n (l ++ closes 6)).sent.getD c ⟨#[]⟩ ++ cInone) ++ cIprep ∧
  (ranM mode n ((l ++ closes 6) ++ [⟨1, (c : Int), msg 81 tGetA ++ msg 81 tExeA⟩])).e.w.rows = (ranM mode n (l ++ closes 6)).e.w.rows := by
 have a1 := pool_house h8 mode (gone_E hl hc)
 have a2 := pool_house h8 mode (actsE_app.2 ⟨hl, closes_E (nL 6)⟩)
 have hm := top_gone (mode := mode) h1 hl hc
 rw [catQ_two] at hm
 unfold ranM
 rw [a1.sent, a2.sent, a1.rows, a2.rows]
 have e1 : msg 82 tInone = cInone := by decide
 have e2 : msg 82 tIprep = cIprep := by decide
 rw [e1, e2] at hm
 exact hm
set_option maxHeartbeats 400000 in
theorem equalP_same (v v' : Value) (l : PL) (w : World) (B : Nat) (hl : Lst w B v l) (hl' : Lst w B v' l) :
  Calls Tryz.prog 25 #[v, v'] w fun e w' => e = .returned (.bool true) ∧ ∃ n, w' = w.drewN n := by
 obtain ⟨A, c, rfl, hc⟩ := hl.form
 obtain ⟨A', c', rfl, hc'⟩ := hl'.form
 have hby := hl.bytes
 have HL := jD hl
 have HL' := jD hl'
 have hne : ((l.length : Int) != (l.length : Int)) = false := by simp
 clear hl hl'
 go_enter Tryz.func25, Tryz.ntmps25
 go_wp2
 go_loopw [13] (fun i wr => ∃ k : Nat, k ≤ l.length ∧ i = .int .i64 k ∧ ∃ n, wr = w.drewN n) (fun i _ => l.length - (intOf i).toNat)
 case atStart => exact ⟨0, by omega, rfl, 0, rfl⟩
 case round =>
  obtain ⟨k, hk, rfl, n, rfl⟩ := hrel
  by_cases hlt : k < l.length
  ·obtain ⟨b, off, rfl, hb, c0, c1⟩ := HL.out.pt hlt
   obtain ⟨b', off', rfl, hb', c0', c1'⟩ := HL'.out.pt hlt
   go_wp2
   go_quiet (fail)
   go_wp2
   go_roundw
   case rel => exact ⟨k + 1, by omega, by go_num, n + nq, rfl⟩
   case measure => simp [intOf]; omega
  ·go_wp2
   go_ret
   exact ⟨rfl, _, rfl⟩
section
variable {w w' : World} {t size n : Nat} {v : Value} {g : Option Nat} {xs : List Value}
theorem Sl.appendN {P : Program} (k : Nat) (hk : 0 < k) (h : Sl w t size v g n xs) (ts ty : TypeId) (i : TypeInfo) (z : Value) (bytes : Nat) (ht : P.underlying ts = some (.slice t)) (hi : P.info? t = some i) (hz : i.zero = some z)
  (hsize : i.size = size) (hby : i.bytes = bytes) (hzs : z.cells.size = size) (hsz : 0 < size) (ad : Addr) (c : Nat) (news : List Value) (hl : news.length = k * size) (hnews : ∀ j u, news[j]? = some u → w.cell? (ad.add j) = some u) (h1 : ∀ u ∈ news, u.oneCell' = true)
  (h63 : n + k ≤ maxLen) (hbytes : (n + k) * bytes ≤ 140737488355328) :
  ∃ b off cap w', (Builtin.append_ #[ts, ts] ty #[v, .slice (some ad) k c]).run P w = .ok (.slice (some ⟨b, off, none⟩) (n + k) cap) w' ∧ Sl w' t size (.slice (some ⟨b, off, none⟩) (n + k) cap) (some b) (n + k) (xs ++ news) ∧
   w.grownBy w' g ∧ (g = some b ∨ (w.heap.size ≤ b ∧ b < w'.heap.size)) := by
 have hl1 : news.length = k * i.size := by rw [hl, hsize]
 rcases h.form with ⟨rfl, rfl, rfl⟩ | ⟨b, off, cap, tot, rfl, rfl, hc, hr, hfit, hcell⟩
 ·have hx : xs = [] := List.eq_nil_of_length_eq_zero (by simpa using h.len)
  subst hx
  obtain ⟨v', w', hrun, hown, hgr, _⟩ := run_append_own (P := P) w w.heap.size ts ty t i z size bytes ht hi hz hsize hby hzs hsz _ 0 [] (World.ownsRow_nil w w.heap.size t size) ad k c news hl hnews h1 h63 hbytes (nL _)
  obtain ⟨b, cap, rfl, hb, hlt, hs⟩ := ownsRow_sl hown (by omega)
  exact ⟨b, 0, cap, w', hrun, hs, hgr, .inr ⟨hb, hlt⟩⟩
 ·by_cases hroom : n + k ≤ cap
  ·have hfit0 := hfit
   have hfit := hfit.resolve_left (by omega)
   have hmul : (n + k) * size ≤ cap * size := Nat.mul_le_mul_right _ hroom
   rw [Nat.add_mul] at hmul
   have hin : ∀ j, j < news.length → off + n * i.size + j < tot := fun j hj => by rw [hsize]; omega
   have hrun := run_append_room_cells (P := P) w ts ty t i ht hi b off n cap ad k c news hl1 hnews h1 hroom (fun j hj => by obtain ⟨u, hu⟩ := hr.any (hin j hj); rw [hu]; rfl) (fun j hj => hr.frozen _)
   rw [hsize] at hrun
   refine ⟨b, off, cap, _, hrun, ⟨?_, .inr ⟨b, off, cap, tot, rfl, rfl, hroom, sl_setCells hr, hfit0, fun j hj => ?_⟩⟩, ⟨?_, ?_, ?_, ?_, fun k hk hne => ?_⟩, .inl rfl⟩
   ·rw [List.length_append, h.len, hl, Nat.add_mul]
   ·have hlen := h.len
    by_cases hj' : j < xs.length
    ·rw [World.cell?_setCells_out b _ _ _ _ (fun _ _ => Or.inl (by show off + j < off + n * size; omega)), hcell j hj', List.getElem_append_left hj']
    ·have hj2 : j - xs.length < news.length := by rw [List.length_append] at hj; omega
     have := World.cell?_setCells_in b news (off + n * size) w (fun k hk => by obtain ⟨u, hu⟩ := hr.any (j := off + n * size + k) (by rw [hsize] at hin; exact hin k hk); rw [hu]; rfl) (j - xs.length) hj2
     rw [show off + n * size + (j - xs.length) = off + j by omega] at this
     rw [this, List.getElem_append_right (by omega)]
   ·exact (setCells_keeps b news _ w).1
   ·exact (setCells_keeps b news _ w).2.1
   ·exact (setCells_keeps b news _ w).2.2.1
   ·exact Nat.le_of_eq (setCells_keeps b news _ w).2.2.2.symm
   ·exact World.heap_setCells_other w b _ news hk (fun e => hne (by rw [e]))
  ·obtain ⟨v', w', hrun, hown, hgr⟩ := run_append_arg_grows (P := P) w ts ty t i z size bytes ht hi hz hsize hby hzs hsz ⟨b, off, none⟩ n cap xs h.len (fun j u hu => by
    have hj := (List.getElem?_eq_some_iff.1 hu).1
    rw [Addr.add_lit, hcell j hj]
    rw [List.getElem?_eq_getElem hj] at hu
    exact hu) ad k c news hl hnews (by omega) h63 hbytes
   obtain ⟨b', cap', rfl, hb, hlt, hs⟩ := ownsRow_sl hown (by omega)
   exact ⟨b', 0, cap', w', hrun, hs, ⟨hgr.os, hgr.tape, hgr.output, hgr.size, fun k hk _ => hgr.block k hk (by simp)⟩, .inr ⟨hb, hlt⟩⟩
end
theorem actV_ln (l : List Act) : (l.map actV).flatten.length = l.length * 3 := by
 induction l with
 | nil => rfl
 | cons a l ih => rw [List.map_cons, List.flatten_cons, List.length_append, ih, List.length_cons]; show 3 + _ = _; omega
theorem actV_cell (l : List Act) : ∀ u ∈ (l.map actV).flatten, u.oneCell' = true := fun u hu => by
 obtain ⟨x, hx, hux⟩ := List.mem_flatten.1 hu
 obtain ⟨a, _, rfl⟩ := List.mem_map.1 hx
 unfold actV at hux
 simp at hux
 rcases hux with rfl | rfl | rfl <;> rfl
theorem app_acts {w : World} {v v2 : Value} {g g2 : Option Nat} {al bl : List Act} (h : Sl w 45 3 v g al.length (al.map actV).flatten) (h2 : Sl w 45 3 v2 g2 bl.length (bl.map actV).flatten) (ha : al.length ≤ 1000) (hb : bl.length ≤ 1000) :
  ∃ v' w' g', (Builtin.append_ #[33, 33] 33 #[v, v2]).run Tryz.prog w = .ok v' w' ∧ Sl w' 45 3 v' g' (al ++ bl).length ((al ++ bl).map actV).flatten ∧ w.grownBy w' g ∧ ∀ b, g' = some b → g = some b ∨ w.heap.size ≤ b := by
 obtain ⟨i0, hi, hz0, hz1, hz2⟩ := info_parts act_row
 have hl2 := actV_ln bl
 rw [List.length_append, List.map_append, List.flatten_append]
 rcases Nat.eq_zero_or_pos bl.length with h0 | hpos
 ·have hbl : bl = [] := List.eq_nil_of_length_eq_zero h0
  subst hbl
  have hs : Src Tryz.prog i0.size 33 v2 0 [] w := by
   rcases h2.form with ⟨_, rfl, _⟩ | ⟨b, off, cap, tot, _, rfl, _, _, _, _⟩
   ·exact Src.ofNil w Tryz.underlying33 0
   ·exact Src.ofSlice w Tryz.underlying33 ⟨b, off, none⟩ 0 cap [] (by simp) (fun j u hu => by simp at hu) (fun u hu => by cases hu)
  obtain ⟨A, c, hv, hle⟩ := h.shape
  have hrun := run_append_nothing (P := Tryz.prog) w 33 33 33 45 i0 Tryz.underlying33 hi A al.length c hle v2 hs
  rw [← hv] at hrun
  refine ⟨v, w, g, hrun, ?_, ⟨rfl, rfl, rfl, nL _, fun _ _ _ => rfl⟩, fun b hb => .inl hb⟩
  simpa using h
 ·obtain ⟨b2, off2, cap2, rfl, rfl, _, hc2⟩ := h2.at hpos
  obtain ⟨b', off', cap', w', hrun, hs, hgr, hb'⟩ := h.appendN (P := Tryz.prog) bl.length hpos 33 33 i0 _ 32 Tryz.underlying33 hi hz0 hz1 hz2 rfl (by omega) ⟨b2, off2, none⟩ cap2 (bl.map actV).flatten hl2 (fun j u hu => by
   have hj := (List.getElem?_eq_some_iff.1 hu).1
   rw [Addr.add_lit, hc2 j hj]
   rw [List.getElem?_eq_getElem hj] at hu
   exact hu) (actV_cell bl) (by unfold maxLen; omega) (by omega)
  exact ⟨_, w', some b', hrun, hs, hgr, fun b hb => by injection hb with hb; subst hb; exact hb'.imp (fun h => h) (fun h => h.1)⟩
def OwnA (w0 w : World) (v : Value) (l : List Act) : Prop := ∃ g, Sl w 45 3 v g l.length (l.map actV).flatten ∧ ∀ b, g = some b → w0.heap.size ≤ b
theorem OwnA.below {w0 w w' : World} {v : Value} {l : List Act} (h : OwnA w0 w v l) (hb : Below w.heap.size w w') : OwnA w0 w' v l := by
 obtain ⟨g, h1, h2⟩ := h
 exact ⟨g, h1.below hb, h2⟩
theorem OwnA.nil (w0 w : World) : OwnA w0 w (.slice none 0 0) [] := ⟨none, Sl.nil_ _ _ _, fun b hb => by cases hb⟩
set_option maxHeartbeats 800000 in
theorem growA_any (n : Nat) (w : World) (hn : n ≤ 100000) : Calls Tryz.prog 40 #[.slice none 0 0, .int .i64 n] w fun e w' => ∃ v, e = .returned v ∧ OwnA w w' v [] ∧ Below w.heap.size w w' := by
 rcases Nat.eq_zero_or_pos n with h0 | hpos
 ·subst h0
  go_enter Tryz.func40, Tryz.ntmps40
  go_wp2
  go_ret
  exact ⟨_, rfl, OwnA.nil w w, Below.refl _ _⟩
 ·obtain ⟨i0, hi, hz0, hz1, hz2⟩ := info_parts act_row
  have hrun := Lib.run_append_nil_zeros (P := Tryz.prog) w 33 3 33 45 i0 _ .i64 .i64 Tryz.underlying33 Tryz.underlying3 hi hz0 n hpos (by rw [hz1]; omega) (by omega) (by rw [hz2]; omega)
  have hge := grownCap_ge w n 0 45
  have hz : (Builtin.zeroCells (Value.agg #[.int .i64 0, .int .i64 0, .string ⟨#[]⟩]).cells n ++ Builtin.zeroCells (Value.agg #[.int .i64 0, .int .i64 0, .string ⟨#[]⟩]).cells (grownCap w n 0 45 - n)).size = grownCap w n 0 45 * 3 := by
   rw [Array.size_append, size_zeroCells, size_zeroCells, show (Value.agg #[.int .i64 0, .int .i64 0, .string ⟨#[]⟩]).cells.size = 3 from rfl]
   omega
  obtain ⟨G, hG⟩ : ∃ G, G = grownCap w n 0 45 := ⟨_, rfl⟩
  rw [← hG] at hrun hge hz
  obtain ⟨cs, hcs⟩ : ∃ cs, cs = Builtin.zeroCells (Value.agg #[.int .i64 0, .int .i64 0, .string ⟨#[]⟩]).cells n ++ Builtin.zeroCells (Value.agg #[.int .i64 0, .int .i64 0, .string ⟨#[]⟩]).cells (G - n) := ⟨_, rfl⟩
  rw [← hcs] at hrun hz
  have nn := (((Below.refl w.heap.size w).drew).alloc (nL _) (.cells cs 45))
  have hr := RowTo.new w.drew cs 45
  rw [hz] at hr
  have HF := jD (show OwnA w (w.drew.alloc (.cells cs 45)) (.slice (some ⟨w.heap.size, 0, none⟩) 0 G) [] ∧ Below w.heap.size w (w.drew.alloc (.cells cs 45)) from
   ⟨⟨some w.heap.size, ⟨rfl, .inr ⟨_, 0, G, G * 3, rfl, rfl, Nat.zero_le _, hr, .inr (by omega), fun j h => by cases h⟩⟩, fun b hb => by injection hb with hb; omega⟩, nn⟩)
  have hnI : (0 : Int) < (n : Int) := by omega
  have hnI2 : (n : Int) ≤ 100000 := by omega
  have hGI : n ≤ G := hge
  clear hG hcs hr nn hz hge hi hz0 hz1 hz2
  go_enter Tryz.func40, Tryz.ntmps40
  go_wp2_with (at_builtin; refine Lib.wpList_append_run _ rfl _ _ _ _ rfl _ _ rfl rfl _ _ hrun ?_)
  go_ret
  exact ⟨_, rfl, HF.out⟩
def CatAt (w : World) (g : Nat) (ls : List (Value × List Act)) : Prop := g < w.heap.size ∧ ∀ i (h : i < ls.length), w.cell? ⟨g, i, none⟩ = some ls[i].1 ∧ ∃ q, Sl w 45 3 ls[i].1 q ls[i].2.length (ls[i].2.map actV).flatten
theorem CatAt.below {w w' : World} {g : Nat} {ls : List (Value × List Act)} (h : CatAt w g ls) (hb : Below w.heap.size w w') : CatAt w' g ls :=
 ⟨Nat.lt_of_lt_of_le h.1 hb.size, fun i hi => ⟨(hb.cell (p := ⟨g, i, none⟩) h.1).trans (h.2 i hi).1, (h.2 i hi).2.imp fun q hq => hq.below hb⟩⟩
def catS (ls : List (Value × List Act)) : Nat := (ls.map fun x => x.2.length).sum
theorem catS_take {ls : List (Value × List Act)} {k : Nat} (hk : k < ls.length) : catS (ls.take (k + 1)) = catS (ls.take k) + ls[k].2.length := by
 unfold catS
 rw [List.take_succ_eq_append_getElem hk, List.map_append, List.sum_append]
 simp
theorem catL_take {ls : List (Value × List Act)} {k : Nat} (hk : k < ls.length) : (ls.take (k + 1)).flatMap (·.2) = (ls.take k).flatMap (·.2) ++ ls[k].2 := by
 rw [List.take_succ_eq_append_getElem hk, List.flatMap_append]
 simp
theorem catL_len (ls : List (Value × List Act)) : (ls.flatMap (·.2)).length = catS ls := by
 simp [catS, List.length_flatMap]
set_option maxHeartbeats 2000000 in
theorem concA_any (g c : Nat) (ls : List (Value × List Act)) (w : World) (h : CatAt w g ls) (hs : ∀ x ∈ ls, x.2.length ≤ 50) (h10 : ls.length ≤ 10) :
  Calls Tryz.prog 24 #[.slice (some ⟨g, 0, none⟩) ls.length c] w fun e w' => ∃ v, e = .returned v ∧ OwnA w w' v (ls.flatMap (·.2)) ∧ Below w.heap.size w w' := by
 have hle : ∀ k, catS (ls.take k) ≤ 500 := fun k => by
  have : ∀ (l : List (Value × List Act)), (∀ x ∈ l, x.2.length ≤ 50) → catS l ≤ 50 * l.length := fun l => by
   induction l with
   | nil => intro _; simp [catS]
   | cons x l ih =>
    intro h
    have h1 := h x List.mem_cons_self
    have h2 := ih (fun y hy => h y (List.mem_cons_of_mem _ hy))
    have e : catS (x :: l) = x.2.length + catS l := by simp [catS]
    rw [e, List.length_cons]; omega
  have h1 := this (ls.take k) (fun x hx => hs x (List.mem_of_mem_take hx))
  have h2 : (ls.take k).length ≤ 10 := by rw [List.length_take]; omega
  omega
 have HL := jD h
 have HLE := jD hle
 have HS := jD hs
 have hgl := h.1
 clear h hle hs
 go_enter Tryz.func24, Tryz.ntmps24
 go_wp2
 go_loopw [3, 11] (fun s i wr => ∃ k : Nat, k ≤ ls.length ∧ i = .int .i64 k ∧ s = .int .i64 (catS (ls.take k)) ∧ wr = w) (fun _ i _ => ls.length - (intOf i).toNat)
 case atStart => exact ⟨0, by omega, rfl, by simp [catS], rfl⟩
 case round =>
  obtain ⟨k, hk, rfl, rfl, rfl⟩ := hrel
  by_cases hlt : k < ls.length
  ·obtain ⟨c0, q, hq⟩ := HL.out.2 k hlt
   obtain ⟨A, cc, hv, hcc⟩ := hq.shape
   rw [hv] at c0
   have hb1 := HLE.out (k + 1)
   have hb0 := HLE.out k
   have HSUM := jD (catS_take hlt)
   have hbs : catS (List.take k ls) + ls[k].2.length ≤ 500 := by have := HSUM.out; omega
   have c0' : wr.cell? ⟨g, 0 + k, none⟩ = some (.slice A ls[k].2.length cc) := by rw [Nat.zero_add]; exact c0
   clear hq hv hb1
   go_wp2
   go_roundw
   case rel => exact ⟨k + 1, by omega, by go_num, by rw [HSUM.out]; go_num, trivial⟩
   case measure => simp [intOf]; omega
  ·obtain rfl : k = ls.length := by omega
   rename World => W0
   have hb0 := HLE.out ls.length
   have HG := jD (growA_any (catS (ls.take ls.length)) W0 (by omega))
   clear hlt hk
   generalize catS (ls.take ls.length) = n at *
   go_wp2_with fail
   refine HG.out.mono ?_
   rintro e1 w1 ⟨v1, rfl, ho, hb⟩
   have HO := jD (show OwnA W0 w1 v1 ((ls.take 0).flatMap (·.2)) ∧ Below W0.heap.size W0 w1 from ⟨ho, hb⟩)
   clear ho hb HG hb0
   go_wp2_with fail
   go_loopw [6, 27] (fun o i w2 => ∃ k : Nat, k ≤ ls.length ∧ i = .int .i64 k ∧ Hid (OwnA W0 w2 o ((ls.take k).flatMap (·.2)) ∧ Below W0.heap.size W0 w2)) (fun _ i _ => ls.length - (intOf i).toNat)
   case atStart => exact ⟨0, by omega, rfl, HO.out⟩
   case round =>
    obtain ⟨k, hk, rfl, HZ⟩ := hrel
    rename World => w2
    clear HO
    by_cases hlt : k < ls.length
    ·obtain ⟨c0, q, hq⟩ := (HL.out.below HZ.out.2).2 k hlt
     obtain ⟨go, hso, hgo⟩ := HZ.out.1
     have hcl : ((ls.take k).flatMap (·.2)).length ≤ 1000 := by rw [catL_len]; have := HLE.out k; omega
     obtain ⟨v', w', g', hrun, hs', hgr, hg'⟩ := app_acts hso hq hcl (Nat.le_trans (HS.out _ (List.getElem_mem hlt)) (by omega))
     have HN := jD (show OwnA W0 w' v' ((ls.take (k + 1)).flatMap (·.2)) ∧ Below W0.heap.size W0 w' by
      rw [catL_take hlt]
      exact ⟨⟨g', hs', fun b hb => (hg' b hb).elim (fun h => hgo b h) (fun h => Nat.le_trans HZ.out.2.size h)⟩, HZ.out.2.grown hgr HZ.out.2.size hgo⟩)
     obtain ⟨A, cc, hv, hcc⟩ := hq.shape
     rw [hv] at c0 hrun
     have hgl2 : g < w2.heap.size := Nat.lt_of_lt_of_le hgl HZ.out.2.size
     have c0' : w2.cell? ⟨g, 0 + k, none⟩ = some (.slice A ls[k].2.length cc) := by rw [Nat.zero_add]; exact c0
     clear hso hq hgo hs' hgr hg' hcl hv
     go_wp2_with (at_builtin; refine Lib.wpList_append_run _ rfl _ _ _ _ rfl _ _ rfl rfl _ _ hrun ?_)
     go_roundw
     case rel => exact ⟨k + 1, by omega, by go_num, HN.out⟩
     case measure => simp [intOf]; omega
    ·obtain rfl : k = ls.length := by omega
     have HE := jD (show OwnA W0 w2 _ (ls.flatMap (·.2)) ∧ Below W0.heap.size W0 w2 by have h := HZ.out; rw [List.take_length] at h; exact h)
     go_wp2
     go_ret
     exact ⟨_, rfl, HE.out⟩
end Go.Proofs.YtpbaobmegomfpacGreatDoor
