/-
  Texts of the proof, one behind the other: PStep, HouseS, HouseT, HouseG, PAll.
-/
import Derived.Test.YtpbaobmegomfpacGreatDoorM34
import Derived.Test.YtpbaobmegomfpacGreatDoorM24
import Derived.Test.YtpbaobmegomfpacGreatDoorM18
import Derived.Sort.WalkB12
set_option linter.unusedVariables false
set_option linter.unusedSimpArgs false
set_option maxRecDepth 100000
open List renaming getElem_toArray → gTA, getElem_cons_zero → gCZ, getElem_cons_succ → gCS, setIfInBounds_toArray → sTA, set_cons_zero → sCZ, set_cons_succ → sCS
open Go.Lib renaming hid → jD
open Nat renaming le_refl → nL
namespace Go.Proofs.YtpbaobmegomfpacGreatDoor
open Go.RowKit
section
variable {base P : Nat} {f : Nat → Value} {G : Nat → Option Nat} {mode : Int} {m : Mach PE} {N : Nat}
theorem first_is {c : Nat} (hc : c < 6) (h0 : ∀ d, d < c → readyB mode (m.get d) = false) (h1 : readyB mode (m.get c) = true) : m.firstR mode = some c := by
 cases hf : m.firstR mode with
 | none => have := first_none hf hc; rw [h1] at this; cases this
 | some d =>
  obtain ⟨hd, hr⟩ := first_some hf
  rcases Nat.lt_trichotomy d c with h | h | h
  ·rw [h0 d h] at hr; cases hr
  ·rw [h]
  ·unfold Mach.firstR at hf
   rw [List.find?_eq_some_iff_append] at hf
   obtain ⟨_, xs, ys, e, ha⟩ := hf
   have hm : c ∈ xs := by
    have hcr : c ∈ List.range 6 := List.mem_range.2 hc
    have hs : List.Pairwise (· < ·) (List.range 6) := List.pairwise_lt_range
    rw [e] at hcr hs
    rcases List.mem_append.1 hcr with hh | hh
    ·exact hh
    ·rcases List.mem_cons.1 hh with hh | hh
     ·omega
     ·have := (List.pairwise_cons.1 (List.pairwise_append.1 hs).2.1).1 c hh
      omega
   have := ha c hm
   rw [h1] at this
   cases this
theorem first_no (h0 : ∀ d, d < 6 → readyB mode (m.get d) = false) : m.firstR mode = none := by
 cases hf : m.firstR mode with
 | none => rfl
 | some d => obtain ⟨hd, hr⟩ := first_some hf; rw [h0 d hd] at hr; cases hr
set_option maxHeartbeats 1000000 in
theorem step_any (w : World) (h : PMem 0 w base P f G mode m) (hT : Tabs w base) (hI : Inv mode m N) (hN : N ≤ 300000) (hbl : m.busy.length ≤ 8) :
  Calls Tryz.prog 76 #[ptr P 0] w (PPostB w base P mode (m.step poolO mode)) := by
 have hbP := (h.lo 0 P h.p0).1
 have H0 := jD (And.intro h (And.intro hT hI))
 have hPw := h.row.lt
 clear h hT hI
 unfold ptr
 go_enter Tryz.func76, Tryz.ntmps76
 go_wp2
 go_loopw [4] (fun i wr => ∃ k : Nat, k ≤ 6 ∧ i = .int .i64 k ∧ Hid ((∀ d, d < k → readyB mode (m.get d) = false) ∧ Below w.heap.size w wr)) (fun i _ => 6 - (intOf i).toNat)
 case atStart => exact ⟨0, by omega, rfl, (fun d hd => absurd hd (by omega)), Below.refl _ _⟩
 case round =>
  obtain ⟨k, hk, rfl, HZ⟩ := hrel
  have HM := jD (H0.out.1.below HZ.out.2)
  have HB := jD (HZ.out.2.mono (Nat.le_trans hbP (Nat.le_of_lt hPw)))
  have HT := jD (H0.out.2.1.below HB.out)
  by_cases hlt : k < 6
  ·have HR := jD (ready_any wr HM.out hlt)
   unfold ptr at HR
   cases hq : readyB mode (m.get k) with
   | true =>
    rw [hq] at HR
    have HE := jD (show m.step poolO mode = (true, m.proc poolO mode k) by unfold Mach.step; rw [first_is hlt HZ.out.1 hq])
    have HQ := jD hq
    clear hq
    go_wp2_with fail
    refine HR.out.mono ?_
    rintro e w1 ⟨rfl, hb1⟩
    have HP := jD (process_any w1 (HM.out.below hb1) (HT.out.below (hb1.mono (Nat.le_trans hbP (Nat.le_of_lt HM.out.row.lt)))) H0.out.2.2 hN hlt HQ.out)
    have HB1 := jD (HB.out.trans (hb1.mono (Nat.le_trans hbP (Nat.le_of_lt HM.out.row.lt))))
    unfold ptr at HP
    clear hb1 HR
    go_wp2_with fail
    refine HP.out.mono ?_
    rintro e w2 ⟨f2, G2, rfl, hM2, hB2⟩
    have HF := jD (And.intro hM2 (HB1.out.trans hB2))
    clear hM2 hB2 HP
    go_wp2
    go_ret
    rw [HE.out]
    exact ⟨f2, G2, rfl, HF.out.1, HF.out.2⟩
   | false =>
    rw [hq] at HR
    have HF := jD (show ∀ d, d < k + 1 → readyB mode (m.get d) = false from fun d hd => by
     rcases Nat.lt_or_ge d k with h' | h'
     ·exact HZ.out.1 d h'
     ·obtain rfl : d = k := by omega
      exact hq)
    have HZ2 := jD HZ.out.2
    clear hq HZ
    go_wp2_with fail
    refine HR.out.mono ?_
    rintro e w1 ⟨rfl, hb1⟩
    have HB1 := jD (bel_add' HZ2.out hb1 HZ2.out.size)
    clear hb1 HR
    go_wp2
    go_roundw
    case rel => exact ⟨k + 1, by omega, by go_num, HF.out, HB1.out⟩
    case measure => simp [intOf]; omega
  ·obtain rfl : k = 6 := by omega
   have hfn := first_no HZ.out.1
   have HE := jD (show m.step poolO mode = m.enq.assign poolO by unfold Mach.step; rw [hfn])
   have HQ := jD (enqueue_any wr HM.out H0.out.2.2.line)
   have HIE := jD (H0.out.2.2.enq hfn)
   unfold ptr at HQ
   clear hfn HZ
   go_wp2_with fail
   refine HQ.out.mono ?_
   rintro e w1 ⟨f1, G1, rfl, hM1, hB1⟩
   have HA := jD (assign_any w1 hM1 (HT.out.below hB1) HIE.out hbl)
   have HB1 := jD (HB.out.trans hB1)
   unfold ptr at HA
   clear hM1 hB1 HQ
   go_wp2_with fail
   refine HA.out.mono ?_
   rintro e w2 ⟨f2, G2, rfl, hM2, hB2⟩
   have HF := jD (And.intro hM2 (HB1.out.trans hB2))
   clear hM2 hB2 HA
   go_wp2
   go_ret
   rw [HE.out]
   exact ⟨f2, G2, rfl, HF.out.1, HF.out.2⟩
end
def pulls : Nat → ByteArray → List Req × ByteArray × Bool
 | 0, b => ([], b, false)
 | n + 1, b => match pull b with
  | none => ([], b, false)
  | some (k, t, j) => if k = 88 then ([], b, true) else (reqOf k t :: (pulls n (b.extract j b.size)).1, (pulls n (b.extract j b.size)).2.1, (pulls n (b.extract j b.size)).2.2)
def pullsA (b : ByteArray) : List Req × ByteArray × Bool := pulls (b.size + 1) b
section
variable {E : Type} {o : Ops E} {mode : Int} {m : Mach E} {c : Nat}
theorem set_same (hc : c < m.cl.length) : m.set c (m.get c) = m := by
 unfold Mach.set; rw [get_lt hc, List.set_getElem_self]
theorem set_twice (x y : Cl) : (m.set c x).set c y = m.set c y := by unfold Mach.set; simp
theorem feed_eq (n : Nat) : ∀ {m : Mach E}, c < m.cl.length → m.feed o mode n c =
  if (pulls n (m.get c).bytes).2.2 then ((m.set c { m.get c with bytes := (pulls n (m.get c).bytes).2.1, wait := (m.get c).wait ++ (pulls n (m.get c).bytes).1 }).all o mode).leave o c
  else m.set c { m.get c with bytes := (pulls n (m.get c).bytes).2.1, wait := (m.get c).wait ++ (pulls n (m.get c).bytes).1 } := by
 induction n with
 | zero => intro m hc; unfold Mach.feed pulls; simp [set_same hc]
 | succ n ih =>
  intro m hc
  unfold Mach.feed pulls
  cases hp : pull (m.get c).bytes with
  | none => simp [set_same hc]
  | some q =>
   obtain ⟨k, t, j⟩ := q
   simp only
   by_cases hk : k = 88
   ·rw [if_pos hk, if_pos hk]; simp [set_same hc]
   ·rw [if_neg hk, if_neg hk]
    have hc2 : c < (m.set c { m.get c with bytes := (m.get c).bytes.extract j (m.get c).bytes.size, wait := (m.get c).wait ++ [reqOf k t] }).cl.length := by simpa [Mach.set] using hc
    rw [ih hc2, get_set hc, if_pos rfl]
    simp only [set_twice, List.append_assoc, List.singleton_append]
end
structure Calm (mode : Int) (m : Mach Wd) : Prop where
 ok : MOk mode m
 line : m.line = []
 wait : ∀ c, (m.get c).wait = []
structure So where
 d : D
 b : Nat → ByteArray
def D.gone (d : D) (c : Nat) : D := ⟨d.w.put c Sess.zero, d.sent, d.deeds⟩
def So.act (mode : Int) (s : So) (a : Act) : So :=
 if a.kind = 1 then
  (if (pullsA (s.b a.c.toNat ++ a.data)).2.2 then ⟨((pullsA (s.b a.c.toNat ++ a.data)).1.foldl (D.one mode a.c.toNat) s.d).gone a.c.toNat, upd s.b a.c.toNat ⟨#[]⟩⟩
  else ⟨(pullsA (s.b a.c.toNat ++ a.data)).1.foldl (D.one mode a.c.toNat) s.d, upd s.b a.c.toNat (pullsA (s.b a.c.toNat ++ a.data)).2.1⟩)
 else ⟨s.d.gone a.c.toNat, upd s.b a.c.toNat ⟨#[]⟩⟩
def So.run (mode : Int) (s : So) (l : List Act) : So := l.foldl (So.act mode) s
def Mach.so (m : Mach Wd) : So := ⟨m.d, m.b⟩
section
variable {mode : Int} {m : Mach Wd} {c : Nat}
theorem so_ext {a b : So} (h1 : a.d = b.d) (h2 : a.b = b.b) : a = b := by cases a; cases b; simp at h1 h2; rw [h1, h2]
def Holds (m : Mach Wd) : Prop := ∀ x, (m.get x).srv.isSome = true → (m.e.at x).st ≠ 0
structure After (mode : Int) (m : Mach Wd) (c : Nat) (r : Mach Wd) (s : So) : Prop where
 calm : Calm mode r
 so : r.so = s
 oth : ∀ x, x ≠ c → r.get x = m.get x
 len : r.busy.length = m.busy.length
 hold : mode ≠ 1 → Holds m → Holds r
theorem leave_get (h : MOk mode m) (hc : c < 6) (x : Nat) : (m.leave houseO c).get x = if c = x then Cl.new else m.get x :=
 get_cl (m := m) (by rw [h.n6]; exact hc)
theorem leave_len : (m.leave houseO c).busy.length = m.busy.length := by
 unfold Mach.leave; simp only; split <;> simp
theorem leave_at (h : MOk mode m) (hc : c < m.e.ss.length) (x : Nat) : (m.leave houseO c).e.at x = if c = x then Sess.zero else m.e.at x := set_at (W := m.e) hc m.e.rows Sess.zero x
theorem leave_can (h : MOk mode m) (hc : c < 6) (hcan : canServe m c) : false ∈ (m.leave houseO c).busy := by
 unfold Mach.leave
 simp only
 cases hs : (m.get c).srv with
 | none =>
  rcases hcan with h1 | h1
  ·rw [hs] at h1; cases h1
  ·exact h1
 | some s =>
  have hb := h.srv c s hs
  exact List.mem_iff_getElem?.2 ⟨s, List.getElem?_set_self (List.getElem?_eq_some_iff.1 hb).1⟩
theorem leave_after (h : Calm mode m) (hc : c < 6) (h6 : m.e.ss.length = 6) (hcan : canServe m c) : After mode m c ((m.leave houseO c).all houseO mode) ⟨m.d.gone c, upd m.b c ⟨#[]⟩⟩ := by
 have hl := h.ok.leave (o := houseO) hc
 have hg := fun x => leave_get h.ok hc x
 have hw : ∀ x, ((m.leave houseO c).get x).wait = [] := fun x => by rw [hg]; split; rfl; exact h.wait x
 have lone : Lone (m.leave houseO c) c := ⟨by show m.line.filter _ = []; rw [h.line]; rfl, fun d _ => hw d, .inr (leave_can h.ok hc hcan)⟩
 have S := lone_all hc hl lone
 have Sd : ((m.leave houseO c).all houseO mode).d = m.d.gone c := by rw [S.d, hw]; rfl
 have hget : ∀ x, ((m.leave houseO c).all houseO mode).get x = if c = x then ((m.leave houseO c).all houseO mode).get c else m.get x := fun x => by
  by_cases e : c = x
  ·rw [if_pos e, e]
  ·rw [if_neg e, S.oth x (fun e' => e e'.symm), hg, if_neg e]
 have hoth : ∀ x, x ≠ c → ((m.leave houseO c).all houseO mode).get x = m.get x := fun x hx => by rw [hget, if_neg (fun e => hx e.symm)]
 refine ⟨⟨hl.all, S.line, S.wait⟩, so_ext Sd ?_, hoth, by rw [S.len, leave_len], fun hm hh x hx => ?_⟩
 ·show ((m.leave houseO c).all houseO mode).b = _
  funext x
  show (((m.leave houseO c).all houseO mode).get x).bytes = if x = c then (⟨#[]⟩ : ByteArray) else (m.get x).bytes
  by_cases e : x = c
  ·subst e; rw [if_pos rfl, S.bytes, hg, if_pos rfl]; rfl
  ·rw [if_neg e, hoth x e]
 ·by_cases e : x = c
  ·subst e
   refine S.back hm (fun hs => ?_) hx
   rw [hg, if_pos rfl] at hs; cases hs
  ·have he : ((m.leave houseO c).all houseO mode).e = (m.leave houseO c).e := congrArg D.w Sd
   rw [he, leave_at h.ok (by rw [h6]; exact hc), if_neg (fun e' => e e'.symm)]
   rw [hoth x e] at hx
   exact hh x hx
theorem ones_len {mode : Int} {c : Nat} (hc : c < 6) : ∀ {l : List Req} {d : D}, (∀ r ∈ l, r.fine) → HOk d → HOk (l.foldl (D.one mode c) d)
 | [], d, _, h => h
 | r :: l, d, hr, h => ones_len (l := l) hc (fun q hq => hr q (List.mem_cons_of_mem _ hq)) (hok_one hc (hr r List.mem_cons_self) h)
theorem ones_other {mode : Int} {c x : Nat} (hc : c < 6) (hx : x ≠ c) : ∀ {l : List Req} {d : D}, (∀ r ∈ l, r.fine) → HOk d → (l.foldl (D.one mode c) d).w.at x = d.w.at x
 | [], d, _, h => rfl
 | r :: l, d, hr, h => by
  have h1 := hok_one (mode := mode) hc (hr r List.mem_cons_self) h
  show (l.foldl (D.one mode c) (d.one mode c r)).w.at x = _
  rw [ones_other (l := l) hc hx (fun q hq => hr q (List.mem_cons_of_mem _ hq)) h1, one_w]
  split
  ·rfl
  ·exact other_at h.1 (by rw [h.2]; exact hc) r hx
theorem pulls_fine : ∀ (n : Nat) (b : ByteArray), ∀ r ∈ (pulls n b).1, r.fine
 | 0, b, r, h => by cases h
 | n + 1, b, r, h => by
  unfold pulls at h
  cases hp : pull b with
  | none => rw [hp] at h; cases h
  | some q =>
   obtain ⟨k, t, j⟩ := q
   rw [hp] at h
   simp only at h
   split at h
   ·cases h
   ·rcases List.mem_cons.1 h with e | h
    ·rw [e]; exact reqOf_fine k t
    ·exact pulls_fine n _ r h
theorem deliver_after (h : Calm mode m) (hd : HOk m.d) (hc : c < 6) (hcan : canServe m c) (data : ByteArray) : After mode m c ((m.deliver houseO mode c data).all houseO mode) (So.act mode m.so ⟨1, c, data⟩) := by
 have hc' : c < m.cl.length := by rw [h.ok.n6]; exact hc
 have hb := h.ok.bytes hc ((m.get c).bytes ++ data)
 have hfuel : (m.get c).bytes.size + data.size + 1 = ((m.get c).bytes ++ data).size + 1 := by simp
 have hdel : m.deliver houseO mode c data = if (pullsA ((m.get c).bytes ++ data)).2.2 then ((m.set c { m.get c with bytes := (pullsA ((m.get c).bytes ++ data)).2.1, wait := (pullsA ((m.get c).bytes ++ data)).1 }).all houseO mode).leave houseO c
   else m.set c { m.get c with bytes := (pullsA ((m.get c).bytes ++ data)).2.1, wait := (pullsA ((m.get c).bytes ++ data)).1 } := by
  unfold Mach.deliver
  rw [hfuel, feed_eq _ (by simpa [Mach.set] using hc'), get_set hc', if_pos rfl]
  simp only [set_twice, h.wait c, List.nil_append]
  rfl
 have hfine := pulls_fine (((m.get c).bytes ++ data).size + 1) ((m.get c).bytes ++ data)
 rw [hdel]
 have hact : So.act mode m.so ⟨1, c, data⟩ = if (pullsA ((m.get c).bytes ++ data)).2.2 then ⟨((pullsA ((m.get c).bytes ++ data)).1.foldl (D.one mode c) m.d).gone c, upd m.b c ⟨#[]⟩⟩ else ⟨(pullsA ((m.get c).bytes ++ data)).1.foldl (D.one mode c) m.d, upd m.b c (pullsA ((m.get c).bytes ++ data)).2.1⟩ := by
  unfold So.act
  rw [if_pos rfl]; rfl
 rw [hact]
 clear hact hdel hfuel
 have hrs : ∀ r ∈ (pullsA ((m.get c).bytes ++ data)).1, r.fine := hfine
 clear hfine
 generalize pullsA ((m.get c).bytes ++ data) = p at *
 obtain ⟨rs, rest, gone⟩ := p
 simp only at hrs ⊢
 have hm1 : MOk mode (m.set c { m.get c with bytes := rest, wait := rs }) := h.ok.turn hc hrs rfl (fun hl => by rw [h.line] at hl; cases hl)
 have hg1 := fun x => get_set (m := m) (d := x) (x := { m.get c with bytes := rest, wait := rs }) hc'
 have lone : Lone (m.set c { m.get c with bytes := rest, wait := rs }) c := ⟨h.line, fun d hd => by rw [hg1, if_neg (fun e => hd e.symm)]; exact h.wait d, by
  rcases hcan with h1 | h1
  ·left; rw [hg1, if_pos rfl]; exact h1
  ·right; exact h1⟩
 have S := lone_all hc hm1 lone
 generalize hr : (m.set c { m.get c with bytes := rest, wait := rs }).all houseO mode = r at *
 have hok : MOk mode r := by rw [← hr]; exact hm1.all
 have Sd : r.d = rs.foldl (D.one mode c) m.d := by rw [S.d, hg1, if_pos rfl]; rfl
 have hoth : ∀ x, x ≠ c → r.get x = m.get x := fun x hx => by rw [S.oth x hx, hg1, if_neg (fun e => hx e.symm)]
 have hbb : r.b = upd m.b c rest := by
  funext x
  show (r.get x).bytes = if x = c then rest else (m.get x).bytes
  by_cases e : x = c
  ·subst e; rw [if_pos rfl, S.bytes, hg1, if_pos rfl]
  ·rw [if_neg e, hoth x e]
 have hold : mode ≠ 1 → Holds m → Holds r := fun hm hh x hx => by
  by_cases e : x = c
  ·subst e
   refine S.back hm (fun hs => .inl ?_) hx
   rw [hg1, if_pos rfl] at hs
   exact hh x hs
  ·rw [hoth x e] at hx
   have : r.e.at x = m.e.at x := by
    have e1 : r.e = (rs.foldl (D.one mode c) m.d).w := congrArg D.w Sd
    rw [e1]; exact ones_other hc e hrs hd
   rw [this]; exact hh x hx
 have hd' : HOk r.d := by rw [Sd]; exact ones_len hc hrs hd
 cases gone with
 | false =>
  simp only [Bool.false_eq_true, if_false]
  rw [hr]
  exact ⟨⟨hok, S.line, S.wait⟩, so_ext Sd hbb, hoth, S.len, hold⟩
 | true =>
  simp only [if_true]
  have L := leave_after ⟨hok, S.line, S.wait⟩ hc hd'.2 S.can
  refine ⟨L.calm, ?_, fun x hx => (L.oth x hx).trans (hoth x hx), L.len.trans S.len, fun hm hh => L.hold hm (hold hm hh)⟩
  rw [L.so, Sd, hbb]
  refine so_ext rfl ?_
  funext x
  show (if x = c then _ else if x = c then rest else m.b x) = (if x = c then _ else m.b x)
  by_cases e : x = c
  ·rw [if_pos e, if_pos e]
  ·rw [if_neg e, if_neg e, if_neg e]
theorem act_after (h : Calm mode m) (hd : HOk m.d) {a : Act} (ha : actE a = 0) (hcan : canServe m a.c.toNat) : After mode m a.c.toNat (m.act houseO mode a) (So.act mode m.so a) ∧ HOk (m.act houseO mode a).d := by
 obtain ⟨hc, hcc⟩ := act_lt ha
 have A : After mode m a.c.toNat (m.act houseO mode a) (So.act mode m.so a) := by
  unfold Mach.act
  by_cases hk : a.kind = 1
  ·rw [if_pos hk]
   have := deliver_after h hd hc hcan a.data
   have e : So.act mode m.so ⟨1, (a.c.toNat : Int), a.data⟩ = So.act mode m.so a := by unfold So.act; simp only [hk, Int.toNat_natCast]
   rw [e] at this; exact this
  ·rw [if_neg hk]
   have := leave_after h hc hd.2 hcan
   have e : So.act mode m.so a = ⟨m.d.gone a.c.toNat, upd m.b a.c.toNat ⟨#[]⟩⟩ := by unfold So.act; rw [if_neg hk]; rfl
   rw [e]; exact this
 refine ⟨A, ?_⟩
 exact Kept.act (fun _ => fun d _ _ => HOk d) (fun _ => ⟨fun d b q c r l hc _ hr hi => hok_one hc hr hi, fun d b q c k t j _ _ _ hi => hi, fun d b q c hc hi => hok_leave hc hi⟩) (fun T d b q c data _ hi => hi) (fun T d b q hi => hi) (T := 0) h.ok hd ha
end
section
variable {mode : Int} {m : Mach Wd} {c : Nat}
theorem can4 (h : MOk mode m) (h4 : m.busy.length = 4) (hn : ∀ x, 4 ≤ x → (m.get x).srv = none) (hc : c < 4) : canServe m c := by
 apply Classical.byContradiction
 intro hno
 have hs : (m.get c).srv = none := by
  cases e : (m.get c).srv with
  | none => rfl
  | some s => exact absurd (.inl (by rw [e]; rfl)) hno
 have hf : false ∉ m.busy := fun hh => hno (.inr hh)
 have hb : ∀ s, s < 4 → ∃ x, x < 4 ∧ x ≠ c ∧ (m.get x).srv = some s := fun s hs4 => by
  have hlt : s < m.busy.length := by rw [h4]; exact hs4
  have ht : m.busy[s]? = some true := by
   rw [List.getElem?_eq_getElem hlt]
   cases e : m.busy[s] with
   | true => rfl
   | false => exact absurd (by rw [← e]; exact List.getElem_mem hlt) hf
  obtain ⟨x, hx⟩ := h.own s ht
  refine ⟨x, ?_, fun e => ?_, hx⟩
  ·rcases Nat.lt_or_ge x 4 with h' | h'
   ·exact h'
   ·rw [hn x h'] at hx; cases hx
  ·rw [e, hs] at hx; cases hx
 obtain ⟨x0, l0, n0, e0⟩ := hb 0 (by omega)
 obtain ⟨x1, l1, n1, e1⟩ := hb 1 (by omega)
 obtain ⟨x2, l2, n2, e2⟩ := hb 2 (by omega)
 obtain ⟨x3, l3, n3, e3⟩ := hb 3 (by omega)
 have d : ∀ {a b s t : Nat}, (m.get a).srv = some s → (m.get b).srv = some t → s ≠ t → a ≠ b := fun ha hb' hst e => by
  rw [e, hb'] at ha; injection ha with ha; exact hst ha.symm
 have d01 := d e0 e1 (by decide)
 have d02 := d e0 e2 (by decide)
 have d03 := d e0 e3 (by decide)
 have d12 := d e1 e2 (by decide)
 have d13 := d e1 e3 (by decide)
 have d23 := d e2 e3 (by decide)
 omega
theorem run_solo4 : ∀ {l : List Act} {m : Mach Wd}, Calm mode m → HOk m.d → m.busy.length = 4 → (∀ x, 4 ≤ x → (m.get x).srv = none) → actsE l = 0 → (∀ a ∈ l, a.c < 4) → (m.run houseO mode l).so = So.run mode m.so l
 | [], m, _, _, _, _, _, _ => rfl
 | a :: l, m, h, hd, h4, hn, ha, hl => by
  obtain ⟨hc, hcc⟩ := act_lt (actsE_cons ha).1
  have hc4 := hl a List.mem_cons_self
  obtain ⟨A, hd'⟩ := act_after h hd (actsE_cons ha).1 (can4 h.ok h4 hn (by omega))
  have := run_solo4 (l := l) A.calm hd' (A.len.trans h4) (fun x hx => by rw [A.oth x (by omega)]; exact hn x hx) (actsE_cons ha).2 (fun b hb => hl b (List.mem_cons_of_mem _ hb))
  show ((m.act houseO mode a).run houseO mode l).so = So.run mode (So.act mode m.so a) l
  rw [this, A.so]
theorem start_calm (n : Nat) : Calm mode (Mach.start houseStart n) :=
 ⟨start_ok _ _ _, rfl, fun c => by unfold Mach.get Mach.start; simp only; rw [List.getD_eq_getElem?_getD, List.getElem?_replicate]; split <;> rfl⟩
theorem start_srv (n x : Nat) : ((Mach.start houseStart n).get x).srv = none := by
 unfold Mach.get Mach.start; simp only; rw [List.getD_eq_getElem?_getD, List.getElem?_replicate]; split <;> rfl
theorem start_solo4 {l : List Act} (ha : actsE l = 0) (hl : ∀ a ∈ l, a.c < 4) : ((Mach.start houseStart 4).run houseO mode l).so = So.run mode (Mach.start houseStart 4).so l :=
 run_solo4 (start_calm 4) (hok_start 4) (by simp [Mach.start]) (fun x _ => start_srv 4 x) ha hl
theorem refB_12 (r : Req) : refB 1 r = refB 2 r := by unfold refB; simp
theorem refuse_12 (r : Req) : refuse 1 r = refuse 2 r := by unfold refuse; simp
theorem one_12 : D.one 1 c = D.one 2 c := by
 funext d r; unfold D.one; rw [refB_12, refuse_12]
theorem act_12 : So.act 1 = So.act 2 := by
 funext s a; unfold So.act; rw [one_12]
theorem top_modes {l : List Act} (ha : actsE l = 0) (hl : ∀ a ∈ l, a.c < 4) : ((Mach.start houseStart 4).run houseO 1 l).d = ((Mach.start houseStart 4).run houseO 2 l).d := by
 have h1 := start_solo4 (mode := 1) ha hl
 have h2 := start_solo4 (mode := 2) ha hl
 have e : So.run 1 (Mach.start houseStart 4).so l = So.run 2 (Mach.start houseStart 4).so l := by unfold So.run; rw [act_12]
 exact congrArg So.d (h1.trans (e.trans h2.symm))
end
def No88 (b : ByteArray) : Prop := ∀ x ∈ b.data.toList, x ≠ 88
theorem no88_app {a b : ByteArray} : No88 (a ++ b) ↔ No88 a ∧ No88 b := by
 unfold No88
 simp only [ByteArray.data_append, Array.toList_append, List.mem_append]
 exact ⟨fun h => ⟨fun x hx => h x (.inl hx), fun x hx => h x (.inr hx)⟩, fun h x hx => hx.elim (h.1 x) (h.2 x)⟩
theorem ext_list (b : ByteArray) (i j : Nat) : (b.extract i j).data.toList = (b.data.toList.take j).drop i := by
 simp [List.drop_take]
theorem no88_ext {b : ByteArray} (h : No88 b) (i j : Nat) : No88 (b.extract i j) := fun x hx => by
 rw [ext_list] at hx
 exact h x (List.mem_of_mem_take (List.mem_of_mem_drop hx))
theorem pull_some {b : ByteArray} {k : UInt8} {t : ByteArray} {j : Nat} (h : pull b = some (k, t, j)) : ∃ h2 : 2 ≤ b.size, k = b[0] ∧ j = 2 + b[1].toNat ∧ t = b.extract 2 j ∧ j ≤ b.size := by
 unfold pull at h
 split at h
 ·rename_i h2
  split at h
  ·rename_i h3
   injection h with h
   injection h with e1 e2
   injection e2 with e2 e3
   exact ⟨h2, e1.symm, e3.symm, by rw [← e3]; exact e2.symm, by omega⟩
  ·cases h
 ·cases h
theorem pull_app {b y : ByteArray} {k : UInt8} {t : ByteArray} {j : Nat} (h : pull b = some (k, t, j)) : pull (b ++ y) = some (k, t, j) := by
 obtain ⟨h2, rfl, rfl, rfl, hj⟩ := pull_some h
 have hs : (b ++ y).size = b.size + y.size := by simp
 have g0 : (b ++ y)[0]'(by omega) = b[0] := ByteArray.getElem_append_left (by omega)
 have g1 : (b ++ y)[1]'(by omega) = b[1] := ByteArray.getElem_append_left (by omega)
 unfold pull
 rw [dif_pos (by omega), g1, if_pos (by omega), g0]
 have : (b ++ y).extract 2 (2 + b[1].toNat) = b.extract 2 (2 + b[1].toNat) := ba_ext (by
  rw [ext_list, ext_list]
  simp only [ByteArray.data_append, Array.toList_append]
  rw [List.take_append_of_le_length (by simpa using hj)])
 rw [this]
theorem ext_app {b y : ByteArray} {j : Nat} (hj : j ≤ b.size) : (b ++ y).extract j (b ++ y).size = b.extract j b.size ++ y := ba_ext (by
 rw [ext_list, ByteArray.data_append, Array.toList_append, ByteArray.data_append, Array.toList_append, ext_list]
 have h1 : (b ++ y).size = (b.data.toList ++ y.data.toList).length := by simp
 rw [h1, List.take_length, List.take_of_length_le (by simp), List.drop_append_of_le_length (by simpa using hj)])
theorem ext_size {b : ByteArray} {j : Nat} : (b.extract j b.size).size = b.size - j := by simp
theorem pulls_more : ∀ (n k : Nat) (b : ByteArray), b.size < n → b.size < k → pulls n b = pulls k b
 | 0, k, b, h, _ => absurd h (by omega)
 | n + 1, 0, b, _, h => absurd h (by omega)
 | n + 1, k + 1, b, hn, hk => by
  unfold pulls
  cases hp : pull b with
  | none => rfl
  | some q =>
   obtain ⟨kk, t, j⟩ := q
   obtain ⟨h2, _, hj, _, _⟩ := pull_some hp
   simp only
   rw [pulls_more n k (b.extract j b.size) (by rw [ext_size]; omega) (by rw [ext_size]; omega)]
theorem pullsA_none {b : ByteArray} (h : pull b = none) : pullsA b = ([], b, false) := by unfold pullsA pulls; rw [h]
theorem pullsA_some {b : ByteArray} {k : UInt8} {t : ByteArray} {j : Nat} (h : pull b = some (k, t, j)) (hk : k ≠ 88) : pullsA b = (reqOf k t :: (pullsA (b.extract j b.size)).1, (pullsA (b.extract j b.size)).2.1, (pullsA (b.extract j b.size)).2.2) := by
 obtain ⟨h2, _, hj, _, hle⟩ := pull_some h
 have e : pulls b.size (b.extract j b.size) = pullsA (b.extract j b.size) := pulls_more _ _ _ (by rw [ext_size]; omega) (by omega)
 unfold pullsA
 rw [show pulls (b.size + 1) b = _ from by unfold pulls; rw [h]]
 simp only
 rw [if_neg hk, e]; rfl
theorem pull_88 {b : ByteArray} (hb : No88 b) {k : UInt8} {t : ByteArray} {j : Nat} (h : pull b = some (k, t, j)) : k ≠ 88 := by
 obtain ⟨h2, e, _⟩ := pull_some h
 rw [e]
 exact hb _ (by rw [get_toList b 0 (by omega)]; exact List.getElem_mem _)
theorem pullsA_app : ∀ (n : Nat) (b y : ByteArray), b.size < n → No88 b →
  (pullsA b).2.2 = false ∧ No88 (pullsA b).2.1 ∧ pullsA (b ++ y) = ((pullsA b).1 ++ (pullsA ((pullsA b).2.1 ++ y)).1, (pullsA ((pullsA b).2.1 ++ y)).2.1, (pullsA ((pullsA b).2.1 ++ y)).2.2)
 | 0, b, y, h, _ => absurd h (by omega)
 | n + 1, b, y, h, h8 => by
  cases hp : pull b with
  | none => rw [pullsA_none hp]; exact ⟨rfl, h8, rfl⟩
  | some q =>
   obtain ⟨k, t, j⟩ := q
   obtain ⟨h2, _, hj, _, hle⟩ := pull_some hp
   have hk := pull_88 h8 hp
   obtain ⟨i1, i2, i3⟩ := pullsA_app n (b.extract j b.size) y (by rw [ext_size]; omega) (no88_ext h8 _ _)
   rw [pullsA_some hp hk]
   refine ⟨i1, i2, ?_⟩
   rw [pullsA_some (pull_app hp) hk, ext_app hle, i3]
   rfl
theorem upd_upd {α : Type} (f : Nat → α) (c : Nat) (x y : α) : upd (upd f c x) c y = upd f c y := by
 funext z; unfold upd; split <;> rfl
theorem upd_here {α : Type} (f : Nat → α) (c : Nat) (x : α) : upd f c x c = x := by unfold upd; rw [if_pos rfl]
section
variable {mode : Int}
theorem so_one {s : So} {c : Int} {data : ByteArray} (h : No88 (s.b c.toNat ++ data)) : So.act mode s ⟨1, c, data⟩ = ⟨(pullsA (s.b c.toNat ++ data)).1.foldl (D.one mode c.toNat) s.d, upd s.b c.toNat (pullsA (s.b c.toNat ++ data)).2.1⟩ := by
 have := (pullsA_app _ (s.b c.toNat ++ data) ⟨#[]⟩ (Nat.lt_succ_self _) h).1
 unfold So.act
 rw [if_pos rfl]
 simp only
 rw [this, if_neg (by simp)]
def SoNo (s : So) : Prop := ∀ c, No88 (s.b c)
theorem so_no {s : So} (h : SoNo s) {c : Int} {data : ByteArray} (hd : No88 data) : SoNo (So.act mode s ⟨1, c, data⟩) := by
 have h1 : No88 (s.b c.toNat ++ data) := no88_app.2 ⟨h _, hd⟩
 rw [so_one h1]
 intro x
 show No88 (upd s.b c.toNat _ x)
 unfold upd
 split
 ·exact (pullsA_app _ (s.b c.toNat ++ data) ⟨#[]⟩ (Nat.lt_succ_self _) h1).2.1
 ·exact h x
theorem so_cut {s : So} (h : SoNo s) {c : Int} {x y : ByteArray} (hx : No88 x) (hy : No88 y) : So.act mode (So.act mode s ⟨1, c, x⟩) ⟨1, c, y⟩ = So.act mode s ⟨1, c, x ++ y⟩ := by
 have hs := so_no (mode := mode) h (c := c) hx
 have h1 : No88 (s.b c.toNat ++ x) := no88_app.2 ⟨h _, hx⟩
 have h2 : No88 (s.b c.toNat ++ (x ++ y)) := no88_app.2 ⟨h _, no88_app.2 ⟨hx, hy⟩⟩
 rw [so_one (s := So.act mode s ⟨1, c, x⟩) (no88_app.2 ⟨hs _, hy⟩), so_one h2, so_one h1]
 simp only [upd_here, upd_upd]
 have e : s.b c.toNat ++ (x ++ y) = (s.b c.toNat ++ x) ++ y := by rw [ByteArray.append_assoc]
 obtain ⟨_, _, i3⟩ := pullsA_app _ (s.b c.toNat ++ x) y (Nat.lt_succ_self _) h1
 rw [e, i3]
 simp only [List.foldl_append]
theorem so_cuts : ∀ {l : List (Int × ByteArray × ByteArray)} {s : So}, SoNo s → (∀ t ∈ l, No88 t.2.1 ∧ No88 t.2.2) →
  So.run mode s (l.map fun t => ⟨1, t.1, t.2.1 ++ t.2.2⟩) = So.run mode s (l.flatMap fun t => [⟨1, t.1, t.2.1⟩, ⟨1, t.1, t.2.2⟩])
 | [], s, _, _ => rfl
 | t :: l, s, hs, hl => by
  obtain ⟨h1, h2⟩ := hl t List.mem_cons_self
  have := so_cuts (l := l) (s := So.act mode s ⟨1, t.1, t.2.1 ++ t.2.2⟩) (so_no hs (no88_app.2 ⟨h1, h2⟩)) (fun q hq => hl q (List.mem_cons_of_mem _ hq))
  show So.run mode (So.act mode s ⟨1, t.1, t.2.1 ++ t.2.2⟩) _ = So.run mode (So.act mode (So.act mode s ⟨1, t.1, t.2.1⟩) ⟨1, t.1, t.2.2⟩) _
  rw [so_cut hs h1 h2]
  exact this
theorem start_no (n : Nat) : SoNo (Mach.start houseStart n).so := fun c => by
 show No88 ((Mach.start houseStart n).get c).bytes
 have : ((Mach.start houseStart n).get c).bytes = ⟨#[]⟩ := by
  unfold Mach.get Mach.start; simp only; rw [List.getD_eq_getElem?_getD, List.getElem?_replicate]; split <;> rfl
 rw [this]; intro x hx; cases hx
theorem top_cuts {l : List (Int × ByteArray × ByteArray)} (h8 : ∀ t ∈ l, No88 t.2.1 ∧ No88 t.2.2) (hc : ∀ t ∈ l, t.1 < 4) (h1 : actsE (l.map fun t => ⟨1, t.1, t.2.1 ++ t.2.2⟩) = 0) (h2 : actsE (l.flatMap fun t => [⟨1, t.1, t.2.1⟩, ⟨1, t.1, t.2.2⟩]) = 0) :
  ((Mach.start houseStart 4).run houseO mode (l.map fun t => ⟨1, t.1, t.2.1 ++ t.2.2⟩)).d = ((Mach.start houseStart 4).run houseO mode (l.flatMap fun t => [⟨1, t.1, t.2.1⟩, ⟨1, t.1, t.2.2⟩])).d := by
 have e1 := start_solo4 (mode := mode) h1 (fun a ha => by obtain ⟨t, ht, rfl⟩ := List.mem_map.1 ha; exact hc t ht)
 have e2 := start_solo4 (mode := mode) h2 (fun a ha => by
  obtain ⟨t, ht, ha⟩ := List.mem_flatMap.1 ha
  simp only [List.mem_cons, List.not_mem_nil, or_false] at ha
  rcases ha with rfl | rfl <;> exact hc t ht)
 exact congrArg So.d (e1.trans ((so_cuts (start_no 4) h8).trans e2.symm))
end
structure More (a d : D) : Prop where
 len : d.sent.length = a.sent.length
 sent : ∀ c, ∃ x, d.sent.getD c ⟨#[]⟩ = a.sent.getD c ⟨#[]⟩ ++ x
 deeds : ∃ l, d.deeds = a.deeds ++ l
theorem More.refl (a : D) : More a a := ⟨rfl, fun c => ⟨⟨#[]⟩, (app_empty (empty_of rfl)).symm⟩, [], by simp⟩
theorem More.tell {a d : D} (h : More a d) (c : Nat) (x : Ans) (st : Int) : More a (d.tell c x st) := by
 refine ⟨by simp [D.tell, h.len], fun e => ?_, h.deeds⟩
 obtain ⟨y, hy⟩ := h.sent e
 show ∃ x_1, (d.sent.set c (d.sent.getD c ⟨#[]⟩ ++ ansM x st)).getD e ⟨#[]⟩ = _
 rw [getD_set]
 split
 ·rename_i hh
  obtain ⟨rfl, _⟩ := hh
  exact ⟨y ++ ansM x st, by rw [hy, ByteArray.append_assoc]⟩
 ·exact ⟨y, hy⟩
theorem More.one {a d : D} (h : More a d) (mode : Int) (c : Nat) (r : Req) : More a (d.one mode c r) := by
 unfold D.one
 split
 ·exact h.tell _ _ _
 ·obtain ⟨l, hl⟩ := h.deeds
  exact More.tell (d := ⟨_, d.sent, d.deeds ++ [_]⟩) ⟨h.len, h.sent, l ++ [_], by show d.deeds ++ _ = _; rw [hl, List.append_assoc]⟩ _ _ _
theorem run_more {mode : Int} {m : Mach Wd} (h : MOk mode m) {l : List Act} (hl : actsE l = 0) : More m.d (m.run houseO mode l).d :=
 run_keeps (I := More m.d) (fun d c r _ _ hi => hi.one mode c r) (fun d c _ hi => ⟨hi.len, hi.sent, hi.deeds⟩) h (More.refl _) hl
theorem actsE_app : ∀ {l k : List Act}, actsE (l ++ k) = 0 ↔ actsE l = 0 ∧ actsE k = 0
 | [], k => by simp [actsE]
 | a :: l, k => by
  constructor
  ·intro h
   obtain ⟨h1, h2⟩ := actsE_cons h
   obtain ⟨h3, h4⟩ := actsE_app.1 h2
   exact ⟨by unfold actsE; rw [h1]; simpa using h3, h4⟩
  ·intro ⟨h, hk⟩
   obtain ⟨h1, h2⟩ := actsE_cons h
   show actsE (a :: (l ++ k)) = 0
   unfold actsE; rw [h1]; simpa using actsE_app.2 ⟨h2, hk⟩
theorem run_app {E : Type} {o : Ops E} {mode : Int} {m : Mach E} {l k : List Act} : m.run o mode (l ++ k) = (m.run o mode l).run o mode k := List.foldl_append ..
theorem top_twice {mode : Int} {n : Nat} {l k : List Act} (h : actsE (l ++ k) = 0) : More ((Mach.start houseStart n).run houseO mode l).d ((Mach.start houseStart n).run houseO mode (l ++ k)).d := by
 obtain ⟨h1, h2⟩ := actsE_app.1 h
 rw [run_app]
 exact run_more ((start_ok _ _ _).run h1) h2
section
variable {mode : Int} {m : Mach Wd} {c : Nat}
end
section
variable {mode : Int} {m : Mach Wd} {c : Nat}
theorem actsE_all {l : List Act} (h : ∀ a ∈ l, actE a = 0) : actsE l = 0 := by
 induction l with
 | nil => rfl
 | cons a l ih => unfold actsE; rw [h a List.mem_cons_self]; simpa using ih (fun b hb => h b (List.mem_cons_of_mem _ hb))
end
section
variable {E : Type} {o : Ops E} {mode : Int}
theorem proc_len (m : Mach E) (c : Nat) : (m.proc o mode c).busy.length = m.busy.length := by
 unfold Mach.proc
 split
 ·rfl
 ·simp only
  split
  ·rfl
  ·split
   ·simp [Mach.release, Mach.tell, Mach.set]
   ·rfl
theorem step_len (m : Mach E) : (m.step o mode).2.busy.length = m.busy.length := by
 unfold Mach.step
 cases m.firstR mode with
 | some c => exact proc_len m c
 | none =>
  show ((m.enq.assign o).2).busy.length = _
  unfold Mach.assign
  split
  ·rfl
  ·split
   ·simp [Mach.enq]
   ·rfl
theorem iter_len : ∀ (n : Nat) (m : Mach E), (m.iter o mode n).busy.length = m.busy.length
 | 0, m => rfl
 | n + 1, m => by
  unfold Mach.iter
  split
  ·rw [iter_len n, step_len]
  ·exact step_len m
theorem all_len' (m : Mach E) : (m.all o mode).busy.length = m.busy.length := iter_len _ m
theorem leave_len' (m : Mach E) (c : Nat) : (m.leave o c).busy.length = m.busy.length := by
 unfold Mach.leave; simp only; split <;> simp
theorem feed_len : ∀ (n : Nat) (m : Mach E) (c : Nat), (m.feed o mode n c).busy.length = m.busy.length
 | 0, m, c => rfl
 | n + 1, m, c => by
  unfold Mach.feed
  split
  ·rfl
  ·split
   ·rw [leave_len', all_len']
   ·exact feed_len n _ c
theorem act_len (m : Mach E) (a : Act) : (m.act o mode a).busy.length = m.busy.length := by
 unfold Mach.act
 rw [all_len']
 split
 ·exact feed_len _ _ _
 ·exact leave_len' m _
end
section
variable {mode : Int} {m : Mach Wd} {c : Nat}
end
section
variable {base P : Nat} {f : Nat → Value} {G : Nat → Option Nat} {mode : Int} {m : Mach PE} {N : Nat}
set_option maxHeartbeats 1000000 in
theorem all_any (w : World) (h : PMem 0 w base P f G mode m) (hT : Tabs w base) (hI : Inv mode m N) (hN : N ≤ 300000) (hbl : m.busy.length ≤ 8) :
  Calls Tryz.prog 59 #[ptr P 0] w (PPost w base P mode (m.all poolO mode)) := by
 have H0 := jD (And.intro h (And.intro hT hI))
 clear h hT hI
 unfold ptr
 go_enter Tryz.func59, Tryz.ntmps59
 go_wp2_with fail
 go_loopg [2, 3] m.mu (fun gg _ _ wr => Hid (∃ m1 f1 G1, m1.mu ≤ gg ∧ PMem 0 wr base P f1 G1 mode m1 ∧ Inv mode m1 N ∧ m1.all poolO mode = m.all poolO mode ∧ m1.busy.length ≤ 8 ∧ Below base w wr))
 case atStart => exact ⟨m, f, G, nL _, H0.out.1, H0.out.2.2, rfl, hbl, Below.refl _ _⟩
 case round =>
  obtain ⟨m1, f1, G1, hmu, hM, hI, hall, hb8, hB⟩ := hrel.out
  have HS := jD (step_any wr hM (H0.out.2.1.below hB) hI hN hb8)
  unfold ptr at HS
  have HI := jD (And.intro hI (And.intro hall (And.intro hb8 hB)))
  clear hM hI hall hb8 hB hrel
  cases hq : (m1.step poolO mode).1 with
  | true =>
   have HQ := jD hq
   clear hq
   go_wp2_with fail
   refine HS.out.mono ?_
   rintro e w1 ⟨f2, G2, rfl, hM2, hB2⟩
   have HF := jD (And.intro hM2 (HI.out.2.2.2.trans hB2))
   have hmu2 := (HI.out.1.ok.step (o := poolO)).2 HQ.out
   rw [HQ.out]
   clear hM2 hB2 HS
   go_wp2
   go_roundg ((m1.step poolO mode).2.mu)
   case measure => omega
   case rel => exact ⟨_, f2, G2, nL _, HF.out.1, HI.out.1.step, (all_step HI.out.1.ok HQ.out).symm.trans HI.out.2.1, by rw [step_len]; exact HI.out.2.2.1, HF.out.2⟩
  | false =>
   have HQ := jD hq
   clear hq
   go_wp2_with fail
   refine HS.out.mono ?_
   rintro e w1 ⟨f2, G2, rfl, hM2, hB2⟩
   have HF := jD (And.intro hM2 (HI.out.2.2.2.trans hB2))
   rw [HQ.out]
   clear hM2 hB2 HS
   go_wp2
   go_end0
   have e := (all_stop HQ.out).symm.trans HI.out.2.1
   rw [← e]
   exact ⟨f2, G2, rfl, HF.out.1, HF.out.2⟩
end
end Go.Proofs.YtpbaobmegomfpacGreatDoor
