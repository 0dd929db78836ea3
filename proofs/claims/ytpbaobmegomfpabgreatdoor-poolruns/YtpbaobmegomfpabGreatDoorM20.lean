/-
  Texts of the proof, one behind the other: InP, WOff, Math4, PoolM, PoolM2.
-/
import Derived.Test.YtpbaobmegomfpabGreatDoorM2
import Derived.Test.YtpbaobmegomfpabGreatDoorM19
import Derived.Test.YtpbaobmegomfpabGreatDoorM1
import Derived.Test.YtpbaobmegomfpabGreatDoorM18
set_option linter.unusedVariables false
set_option linter.unusedSimpArgs false
set_option maxRecDepth 100000
open List renaming getElem_toArray → gTA, getElem_cons_zero → gCZ, getElem_cons_succ → gCS, setIfInBounds_toArray → sTA, set_cons_zero → sCZ, set_cons_succ → sCS
open Nat renaming le_refl → nL
namespace Go.Proofs.YtpbaobmegomfpabGreatDoor
open Go.RowKit
def InP (P : Nat → Prop) (v : Value) (l : PL) : Prop := 0 < l.length → ∀ b off n c, v = .slice (some ⟨b, off, none⟩) n c → P b
theorem Lst.keepP {w w' : World} {B B' : Nat} {v : Value} {l : PL} {P : Nat → Prop} (h : Lst w B v l) (hp : InP P v l) (hk : ∀ b, P b → w'.heap[b]? = w.heap[b]?) (hB : ∀ b, P b → b < B') : Lst w' B' v l := by
 refine ⟨h.form, h.bytes, h.sizes, fun hn => ?_, h.nil⟩
 obtain ⟨b, off, c, e, hb, hc⟩ := h.cells hn
 have hP := hp hn b off _ c e
 exact ⟨b, off, c, e, hB b hP, fun i hi => ⟨(World.cell?_of_block (hk b hP)).trans (hc i hi).1, (World.cell?_of_block (hk b hP)).trans (hc i hi).2⟩⟩
theorem InP.mono {P Q : Nat → Prop} {v : Value} {l : PL} (h : InP P v l) (hpq : ∀ b, P b → Q b) : InP Q v l := fun hn b off n c e => hpq b (h hn b off n c e)
theorem Lst.inP {w : World} {B : Nat} {v : Value} {l : PL} (h : Lst w B v l) : InP (· < B) v l := fun hn b off n c e => by
 obtain ⟨b', off', c', e', hb, _⟩ := h.cells hn
 rw [e'] at e
 injection e with e
 injection e with e
 injection e with e
 rw [← e]; exact hb
theorem InP.and {P Q : Nat → Prop} {v : Value} {l : PL} (h : InP P v l) (h2 : InP Q v l) : InP (fun b => P b ∧ Q b) v l := fun hn b off n c e => ⟨h hn b off n c e, h2 hn b off n c e⟩
theorem InP.nil_ (P : Nat → Prop) (v : Value) : InP P v [] := fun h => absurd h (by simp)
theorem own_lt {w : World} {B : Nat} {v : Value} {l : PL} {P : Nat → Prop} (h : Lst w B v l) (hp : InP P v l) : InP (fun b => P b ∧ b < B) v l := hp.and h.inP
def NoSes (w : World) (R : Nat) : Prop := ∀ o st A n c, w.cell? ⟨R, o, none⟩ = some (.int .i64 st) → w.cell? ⟨R, o + 1, none⟩ ≠ some (.slice A n c)
theorem noSes_answer {w : World} {R : Nat} {x y : Int} {s : ByteArray} (h : RowTo w R 46 3 [.int .i64 x, .string s, .int .i64 y]) : NoSes w R := by
 intro o st A n c h1 h2
 have r1 := h.cell (j := 1) (by simp)
 have r2 := h.cell (j := 2) (by simp)
 simp only [gCZ, gCS] at r1 r2
 rcases Nat.lt_or_ge (o + 1) 3 with hj | hj
 ·obtain rfl | rfl : o = 0 ∨ o = 1 := by omega
  ·rw [r1] at h2; cases h2
  ·rw [r2] at h2; cases h2
 ·rw [h.out_ hj] at h2; cases h2
theorem noSes_world {w : World} {R t : Nat} {a b : Option Addr} {n m c d : Nat} (h : RowTo w R t 2 [.slice a n c, .slice b m d]) : NoSes w R := by
 intro o st A n' c' h1 h2
 have r0 := h.cell (j := 0) (by simp)
 have r1 := h.cell (j := 1) (by simp)
 simp only [gCZ, gCS] at r0 r1
 rcases Nat.lt_or_ge o 2 with hj | hj
 ·obtain rfl | rfl : o = 0 ∨ o = 1 := by omega
  ·rw [r0] at h1; cases h1
  ·rw [r1] at h1; cases h1
 ·rw [h.out_ hj] at h1; cases h1
theorem Sss.off {w w' : World} {B R : Nat} {v : Value} {ss : List Sess} (h : Sss w B v ss) (h2 : NoTwo w R) (hs : NoSes w R) (hk : ∀ b, b ≠ R → w'.heap[b]? = w.heap[b]?) : Sss w' B v ss := by
 refine ⟨h.form, h.bytes, fun hn => ?_⟩
 obtain ⟨b, off, c, e, hb, hc⟩ := h.cells hn
 have hne : b ≠ R := by
  rintro rfl
  obtain ⟨v1, v2, v3, v4, q⟩ := hc 0 hn
  obtain ⟨A, c', hv, _⟩ := q.l1.form
  have := q.c1
  rw [hv] at this
  exact hs _ _ _ _ _ q.c0 this
 refine ⟨b, off, c, e, hb, fun i hi => ?_⟩
 obtain ⟨v1, v2, v3, v4, q⟩ := hc i hi
 have cs : ∀ j, w'.cell? ⟨b, j, none⟩ = w.cell? ⟨b, j, none⟩ := fun j => World.cell?_of_block (hk b hne)
 exact ⟨v1, v2, v3, v4, (cs _).trans q.c0, (cs _).trans q.c1, (cs _).trans q.c2, (cs _).trans q.c3, (cs _).trans q.c4, q.l1.offN h2 hk, q.l2.offN h2 hk, q.l3.offN h2 hk, q.l4.offN h2 hk⟩
theorem Wld.off {w w' : World} {B R : Nat} {r s : Value} {W : Wd} (h : Wld w B r s W) (h2 : NoTwo w R) (hs : NoSes w R) (hk : ∀ b, b ≠ R → w'.heap[b]? = w.heap[b]?) : Wld w' B r s W := ⟨h.rows.offN h2 hk, h.sess.off h2 hs hk⟩
theorem Wld.set2 {w : World} {R t : Nat} {a b : Option Addr} {n m c d : Nat} {r s : Value} {W : Wd} (h : Wld w w.heap.size r s W) (hR : RowTo w R t 2 [.slice a n c, .slice b m d]) (x y : Value) : Wld ((w.setCell ⟨R, 0, none⟩ x).setCell ⟨R, 1, none⟩ y) ((w.setCell ⟨R, 0, none⟩ x).setCell ⟨R, 1, none⟩ y).heap.size r s W := by
 have : ((w.setCell ⟨R, 0, none⟩ x).setCell ⟨R, 1, none⟩ y).heap.size = w.heap.size := by simp [World.setCell]
 rw [this]
 exact h.off (noTwo_world hR) (noSes_world hR) fun b hb => by rw [Below.heap_setCell _ _ _ _ hb, Below.heap_setCell _ _ _ _ hb]
theorem Wld.set3 {w : World} {R : Nat} {x y : Int} {z : ByteArray} {r s : Value} {W : Wd} (h : Wld w w.heap.size r s W) (hR : RowTo w R 46 3 [.int .i64 x, .string z, .int .i64 y]) (a b c : Value) : Wld (((w.setCell ⟨R, 0, none⟩ a).setCell ⟨R, 1, none⟩ b).setCell ⟨R, 2, none⟩ c) (((w.setCell ⟨R, 0, none⟩ a).setCell ⟨R, 1, none⟩ b).setCell ⟨R, 2, none⟩ c).heap.size r s W := by
 have : (((w.setCell ⟨R, 0, none⟩ a).setCell ⟨R, 1, none⟩ b).setCell ⟨R, 2, none⟩ c).heap.size = w.heap.size := by simp [World.setCell]
 rw [this]
 exact h.off (noTwo_answer hR) (noSes_answer hR) fun b hb => by rw [Below.heap_setCell _ _ _ _ hb, Below.heap_setCell _ _ _ _ hb, Below.heap_setCell _ _ _ _ hb]
theorem RowTo.set2 {w : World} {R t : Nat} {a b : Value} (h : RowTo w R t 2 [a, b]) (x y : Value) : RowTo ((w.setCell ⟨R, 0, none⟩ x).setCell ⟨R, 1, none⟩ y) R t 2 [x, y] := (h.put (j := 0) (by simp) x).put (j := 1) (by simp) y
theorem RowTo.set3 {w : World} {R t : Nat} {a b c : Value} (h : RowTo w R t 3 [a, b, c]) (x y z : Value) : RowTo (((w.setCell ⟨R, 0, none⟩ x).setCell ⟨R, 1, none⟩ y).setCell ⟨R, 2, none⟩ z) R t 3 [x, y, z] := ((h.put (j := 0) (by simp) x).put (j := 1) (by simp) y).put (j := 2) (by simp) z
theorem RowTo.oth2 {w : World} {R g t n : Nat} {xs : List Value} (h : RowTo w g t n xs) (hne : R ≠ g) (x y : Value) : RowTo ((w.setCell ⟨R, 0, none⟩ x).setCell ⟨R, 1, none⟩ y) g t n xs := (h.other (p := ⟨R, 0, none⟩) hne x).other (p := ⟨R, 1, none⟩) hne y
theorem RowTo.oth3 {w : World} {R g t n : Nat} {xs : List Value} (h : RowTo w g t n xs) (hne : R ≠ g) (x y z : Value) : RowTo (((w.setCell ⟨R, 0, none⟩ x).setCell ⟨R, 1, none⟩ y).setCell ⟨R, 2, none⟩ z) g t n xs := ((h.other (p := ⟨R, 0, none⟩) hne x).other (p := ⟨R, 1, none⟩) hne y).other (p := ⟨R, 2, none⟩) hne z
theorem bel_set2 {B R : Nat} {a w : World} (h : Below B a w) (hR : B ≤ R) (x y : Value) : Below B a ((w.setCell ⟨R, 0, none⟩ x).setCell ⟨R, 1, none⟩ y) := (h.setCell (p := ⟨R, 0, none⟩) hR x).setCell (p := ⟨R, 1, none⟩) hR y
theorem bel_set3 {B R : Nat} {a w : World} (h : Below B a w) (hR : B ≤ R) (x y z : Value) : Below B a (((w.setCell ⟨R, 0, none⟩ x).setCell ⟨R, 1, none⟩ y).setCell ⟨R, 2, none⟩ z) := ((h.setCell (p := ⟨R, 0, none⟩) hR x).setCell (p := ⟨R, 1, none⟩) hR y).setCell (p := ⟨R, 2, none⟩) hR z
theorem cells2 {w : World} {g t n : Nat} {a b : Value} (h : RowTo w g t n [a, b]) : w.cell? ⟨g, 0, none⟩ = some a ∧ w.cell? ⟨g, 1, none⟩ = some b := ⟨h.cell (j := 0) (by simp), h.cell (j := 1) (by simp)⟩
theorem cells3 {w : World} {g t n : Nat} {a b c : Value} (h : RowTo w g t n [a, b, c]) : w.cell? ⟨g, 0, none⟩ = some a ∧ w.cell? ⟨g, 1, none⟩ = some b ∧ w.cell? ⟨g, 2, none⟩ = some c := ⟨h.cell (j := 0) (by simp), h.cell (j := 1) (by simp), h.cell (j := 2) (by simp)⟩
def leadL : Nat → List UInt8
 | 1 => [111, 107]
 | 2 => [61]
 | 3 => [110, 111, 110, 101]
 | 4 => [33]
 | _ => []
def leadAt (k : Nat) : ByteArray := ⟨(leadL k).toArray⟩
def markAt : Nat → ByteArray
 | 0 => ⟨#[73]⟩
 | 1 => ⟨#[84]⟩
 | _ => ⟨#[70]⟩
def tellT (k st : Nat) (x : ByteArray) : ByteArray := (markAt st ++ leadAt k) ++ x
structure Req where
 k : Int
 key : ByteArray
 val : ByteArray
def Req.none_ : Req := ⟨0, ⟨#[]⟩, ⟨#[]⟩⟩
def Req.fine (r : Req) : Prop := r = Req.none_ ∨ checkE r.k r.key r.val = 0
structure Deed where
 c : Nat
 r : Req
 a : Ans
 st : Int
structure Cl where
 bytes : ByteArray
 wait : List Req
 srv : Option Nat
def Cl.new : Cl := ⟨⟨#[]⟩, [], none⟩
structure Ops (E : Type) where
 exec : E → Nat → Nat → Req → E × Ans × Int
 state : E → Nat → Option Nat → Int
 grant : E → Nat → Nat → E
 free : E → Nat → Nat → E
 leave : E → Nat → Option Nat → E
structure Mach (E : Type) where
 e : E
 cl : List Cl
 busy : List Bool
 line : List Nat
 sent : List ByteArray
 deeds : List Deed
def tUnder : ByteArray := ⟨#[110, 111, 116, 32, 117, 110, 100, 101, 114, 115, 116, 111, 111, 100]⟩
def tMode : ByteArray := ⟨#[110, 111, 116, 32, 105, 110, 32, 116, 104, 105, 115, 32, 109, 111, 100, 101]⟩
def refuse (mode : Int) (r : Req) : ByteArray := if r.k = 0 then tUnder else if r.k = 1 ∧ mode = 3 then tMode else ⟨#[]⟩
def refB (mode : Int) (r : Req) : Bool := decide (r.k = 0 ∨ (r.k = 1 ∧ mode = 3))
def readyB (mode : Int) (x : Cl) : Bool := match x.wait with
 | [] => false
 | r :: _ => x.srv.isSome || refB mode r
section
variable {E : Type} (o : Ops E) (mode : Int)
def Mach.get (m : Mach E) (c : Nat) : Cl := m.cl.getD c Cl.new
def Mach.set (m : Mach E) (c : Nat) (x : Cl) : Mach E := { m with cl := m.cl.set c x }
def ansM (a : Ans) (st : Int) : ByteArray := msg 82 (tellT a.kind.toNat st.toNat a.text)
def Mach.tell (m : Mach E) (c : Nat) (a : Ans) (st : Int) : Mach E := { m with sent := m.sent.set c (m.sent.getD c ⟨#[]⟩ ++ ansM a st) }
def Mach.release (m : Mach E) (c s : Nat) : Mach E := { m with e := o.free m.e c s, busy := m.busy.set s false, cl := m.cl.set c { m.get c with srv := none } }
def Mach.proc (m : Mach E) (c : Nat) : Mach E := match (m.get c).wait with
 | [] => m
 | r :: rest =>
  if refB mode r then (m.set c { m.get c with wait := rest }).tell c ⟨4, refuse mode r⟩ (o.state m.e c (m.get c).srv)
  else
   let x := o.exec m.e c ((m.get c).srv.getD 0) r
   let m2 := Mach.tell { m.set c { m.get c with wait := rest } with e := x.1, deeds := m.deeds ++ [⟨c, r, x.2.1, x.2.2⟩] } c x.2.1 x.2.2
   if mode ≠ 1 ∧ x.2.2 = 0 then m2.release o c ((m.get c).srv.getD 0) else m2
def enqL (m : Mach E) (l : List Nat) (c : Nat) : List Nat := if (m.get c).wait ≠ [] ∧ ¬ c ∈ l then l ++ [c] else l
def Mach.enq (m : Mach E) : Mach E := { m with line := (List.range 6).foldl (enqL m) m.line }
def Mach.assign (m : Mach E) : Bool × Mach E := match m.line with
 | [] => (false, m)
 | c :: l => if m.busy.idxOf false < m.busy.length then (true, { m with line := l, busy := m.busy.set (m.busy.idxOf false) true, cl := m.cl.set c { m.get c with srv := some (m.busy.idxOf false) }, e := o.grant m.e c (m.busy.idxOf false) }) else (false, m)
def Mach.firstR (m : Mach E) : Option Nat := (List.range 6).find? (fun c => readyB mode (m.get c))
def Mach.step (m : Mach E) : Bool × Mach E := match m.firstR mode with
 | some c => (true, m.proc o mode c)
 | none => m.enq.assign o
def Mach.iter : Nat → Mach E → Mach E
 | 0, m => m
 | n + 1, m => if (m.step o mode).1 then Mach.iter n (m.step o mode).2 else (m.step o mode).2
def waits (l : List Cl) : Nat := (l.map fun x => x.wait.length).sum
def bare (l : List Cl) : Nat := l.countP fun x => x.srv.isNone
def Mach.mu (m : Mach E) : Nat := 2 * waits m.cl + bare m.cl
def Mach.all (m : Mach E) : Mach E := m.iter o mode (m.mu + 1)
def Mach.leave (m : Mach E) (c : Nat) : Mach E :=
 { m with e := o.leave m.e c (m.get c).srv, busy := match (m.get c).srv with
   | some s => m.busy.set s false
   | none => m.busy, line := m.line.filter (fun n => n != c), cl := m.cl.set c Cl.new }
def pull (b : ByteArray) : Option (UInt8 × ByteArray × Nat) := if h : 2 ≤ b.size then (if 2 + b[1].toNat ≤ b.size then some (b[0], b.extract 2 (2 + b[1].toNat), 2 + b[1].toNat) else none) else none
def reqOf (k : UInt8) (t : ByteArray) : Req := if k = 81 ∧ readE t = 0 then ⟨kindN (cutA t), cutA (cutB t), cutB (cutB t)⟩ else Req.none_
def Mach.feed : Nat → Mach E → Nat → Mach E
 | 0, m, _ => m
 | n + 1, m, c => match pull (m.get c).bytes with
  | none => m
  | some (k, t, j) => if k = 88 then (m.all o mode).leave o c else Mach.feed n (m.set c { m.get c with bytes := (m.get c).bytes.extract j (m.get c).bytes.size, wait := (m.get c).wait ++ [reqOf k t] }) c
def Mach.deliver (m : Mach E) (c : Nat) (data : ByteArray) : Mach E := (m.set c { m.get c with bytes := (m.get c).bytes ++ data }).feed o mode ((m.get c).bytes.size + data.size + 1) c
structure Act where
 kind : Int
 c : Int
 data : ByteArray
def Mach.act (m : Mach E) (a : Act) : Mach E := (if a.kind = 1 then m.deliver o mode a.c.toNat a.data else m.leave o a.c.toNat).all o mode
def Mach.run (m : Mach E) (l : List Act) : Mach E := l.foldl (fun m a => m.act o mode a) m
def Mach.start (e : E) (n : Nat) : Mach E := ⟨e, List.replicate 6 Cl.new, List.replicate n false, [], List.replicate 6 ⟨#[]⟩, []⟩
end
def setupE (mode servers : Int) : Int := if mode < 1 ∨ 3 < mode then 3 else if servers < 1 ∨ 4 < servers then 2 else 0
def actE (a : Act) : Int := if ¬ (a.kind = 1 ∨ a.kind = 2) then 3 else if a.c < 0 ∨ 6 ≤ a.c then 2 else if 1000 < a.data.size then 1 else 0
def actsE : List Act → Int
 | [] => 0
 | a :: l => if actE a ≠ 0 then actE a else actsE l
def runE (mode servers : Int) (l : List Act) : Int := if setupE mode servers ≠ 0 then setupE mode servers else if 300 < l.length then 1 else actsE l
structure PE where
 w : Wd
 kept : List (PL × PL)
def PE.of (e : PE) (c : Nat) : PL × PL := e.kept.getD c ([], [])
def pairB (p q : ByteArray × ByteArray) : Bool := eqB p.1 q.1 && eqB p.2 q.2
def without (l o : PL) : PL := l.filter fun q => !o.any fun p => pairB p q
def doW (w : Wd) (s : Nat) (k : Int) (l : PL) : Wd := l.foldl (fun w q => (doM w s k q.1 q.2).1) w
def restoreW (w : Wd) (s : Nat) (p : PL × PL) : Wd :=
 let w1 := if (without (w.at s).set p.1).length > 0 ∨ (without (w.at s).prep p.2).length > 0 then (doM w s 4 ⟨#[]⟩ ⟨#[]⟩).1 else w
 doW (doW w1 s 9 (without p.1 (w1.at s).set)) s 11 (without p.2 (w1.at s).prep)
def PE.free (e : PE) (c s : Nat) : PE := ⟨e.w, e.kept.set c ((e.w.at s).set, (e.w.at s).prep)⟩
def PE.state (e : PE) (srv : Option Nat) : Int := match srv with
 | none => 0
 | some s => (e.w.at s).st
def poolO : Ops PE where
 exec e c s r := let x := doM e.w s r.k r.key r.val; (⟨x.1, e.kept⟩, x.2, (x.1.at s).st)
 state e _ srv := e.state srv
 grant e c s := ⟨restoreW e.w s (e.of c), e.kept⟩
 free e c s := e.free c s
 leave e c srv := match srv with
  | none => ⟨e.w, e.kept.set c ([], [])⟩
  | some s => ⟨if (e.w.at s).st ≠ 0 then (doM e.w s 3 ⟨#[]⟩ ⟨#[]⟩).1 else e.w, e.kept.set c ([], [])⟩
def Sess.zero : Sess := ⟨0, [], [], [], []⟩
def houseO : Ops Wd where
 exec e c _ r := let x := doM e c r.k r.key r.val; (x.1, x.2, (x.1.at c).st)
 state e c _ := (e.at c).st
 grant e _ _ := e
 free e _ _ := e
 leave e c _ := e.put c Sess.zero
def poolStart (n : Nat) : PE := ⟨⟨[], List.replicate n Sess.zero⟩, List.replicate 6 ([], [])⟩
def houseStart : Wd := ⟨[], List.replicate 6 Sess.zero⟩
theorem waits_set : ∀ {l : List Cl} {c : Nat} {x : Cl} (h : c < l.length), waits (l.set c x) + l[c].wait.length = waits l + x.wait.length
 | a :: l, 0, x, _ => by simp [waits]; omega
 | a :: l, c + 1, x, h => by
  have := waits_set (l := l) (c := c) (x := x) (by simpa using h)
  simp only [waits, sCS, List.map_cons, List.sum_cons, gCS] at this ⊢
  omega
theorem bare_set : ∀ {l : List Cl} {c : Nat} {x : Cl} (h : c < l.length), bare (l.set c x) + l[c].srv.isNone.toNat = bare l + x.srv.isNone.toNat
 | a :: l, 0, x, _ => by
  simp only [bare, sCZ, List.countP_cons, gCZ]
  cases a.srv.isNone <;> cases x.srv.isNone <;> simp
 | a :: l, c + 1, x, h => by
  have := bare_set (l := l) (c := c) (x := x) (by simpa using h)
  simp only [bare, sCS, List.countP_cons, gCS] at this ⊢
  omega
section
variable {E : Type} {o : Ops E} {mode : Int} {m : Mach E}
theorem get_lt {c : Nat} (h : c < m.cl.length) : m.get c = m.cl[c] := by
 unfold Mach.get; rw [List.getD_eq_getElem?_getD, List.getElem?_eq_getElem h]; rfl
theorem get_ge {c : Nat} (h : m.cl.length ≤ c) : m.get c = Cl.new := by
 unfold Mach.get; rw [List.getD_eq_getElem?_getD, List.getElem?_eq_none h]; rfl
theorem getD_set {α : Type} (l : List α) (c d : Nat) (x z : α) : (l.set c x).getD d z = if c = d ∧ c < l.length then x else l.getD d z := by
 rw [List.getD_eq_getElem?_getD, List.getD_eq_getElem?_getD, List.getElem?_set]
 by_cases h : c = d
 ·subst h
  by_cases h2 : c < l.length
  ·simp [h2]
  ·simp [h2]
 ·simp [h]
theorem get_set {c d : Nat} {x : Cl} (h : c < m.cl.length) : (m.set c x).get d = if c = d then x else m.get d := by
 unfold Mach.get Mach.set; simp only; rw [getD_set]; by_cases e : c = d <;> simp [e, h]; intro hh; omega
theorem get_cl {c d : Nat} {x : Cl} (h : c < m.cl.length) : (m.cl.set c x).getD d Cl.new = if c = d then x else m.get d := get_set h
structure MOk (mode : Int) (m : Mach E) : Prop where
 n6 : m.cl.length = 6
 s6 : m.sent.length = 6
 line : ∀ c ∈ m.line, c < 6 ∧ (m.get c).srv = none ∧ (m.get c).wait ≠ [] ∧ readyB mode (m.get c) = false
 nodup : m.line.Nodup
 fine : ∀ c r, r ∈ (m.get c).wait → r.fine
 srv : ∀ c s, (m.get c).srv = some s → m.busy[s]? = some true
 inj : ∀ c d s, (m.get c).srv = some s → (m.get d).srv = some s → c = d
 own : ∀ s, m.busy[s]? = some true → ∃ c, (m.get c).srv = some s
theorem srv_lt {c s : Nat} (h : (m.get c).srv = some s) : c < m.cl.length := by
 rcases Nat.lt_or_ge c m.cl.length with h' | h'
 ·exact h'
 ·rw [get_ge h'] at h; cases h
theorem ready_wait {x : Cl} (h : readyB mode x = true) : ∃ r l, x.wait = r :: l ∧ (x.srv.isSome || refB mode r) = true := by
 unfold readyB at h
 cases hx : x.wait with
 | nil => rw [hx] at h; cases h
 | cons r l => rw [hx] at h; exact ⟨r, l, rfl, h⟩
theorem first_some {c : Nat} (h : m.firstR mode = some c) : c < 6 ∧ readyB mode (m.get c) = true := by
 unfold Mach.firstR at h
 have h2 := List.find?_some (p := fun c => readyB mode (m.get c)) h
 exact ⟨List.mem_range.1 (List.mem_of_find?_eq_some h), h2⟩
theorem first_none (h : m.firstR mode = none) {c : Nat} (hc : c < 6) : readyB mode (m.get c) = false := by
 unfold Mach.firstR at h
 have := List.find?_eq_none.1 h c (List.mem_range.2 hc)
 simpa using this
theorem MOk.turn (h : MOk mode m) {c : Nat} (hc : c < 6) {x : Cl} (hf : ∀ r ∈ x.wait, r.fine) (hs : x.srv = (m.get c).srv) (hl : c ∈ m.line → x.wait ≠ [] ∧ readyB mode x = false) : MOk mode (m.set c x) := by
 have hc' : c < m.cl.length := by rw [h.n6]; exact hc
 have hsrv : ∀ d, ((m.set c x).get d).srv = (m.get d).srv := fun d => by
  rw [get_set hc']
  by_cases e : c = d
  ·subst e; rw [if_pos rfl]; exact hs
  ·rw [if_neg e]
 refine ⟨by simp [Mach.set, h.n6], h.s6, fun d hd => ?_, h.nodup, fun d r hr => ?_, fun d s hd => ?_, fun d d' s h1 h2 => ?_, fun s hb => ?_⟩
 ·obtain ⟨h1, h2, h3, h4⟩ := h.line d hd
  refine ⟨h1, (hsrv d).trans h2, ?_⟩
  rw [get_set hc']
  by_cases e : c = d
  ·subst e; rw [if_pos rfl]; exact hl hd
  ·rw [if_neg e]; exact ⟨h3, h4⟩
 ·rw [get_set hc'] at hr
  by_cases e : c = d
  ·rw [if_pos e] at hr; exact hf r hr
  ·rw [if_neg e] at hr; exact h.fine d r hr
 ·rw [hsrv] at hd; exact h.srv d s hd
 ·rw [hsrv] at h1 h2; exact h.inj d d' s h1 h2
 ·obtain ⟨d, hd⟩ := h.own s hb
  exact ⟨d, (hsrv d).trans hd⟩
theorem MOk.same (h : MOk mode m) {m' : Mach E} (h1 : m'.cl = m.cl) (h2 : m'.busy = m.busy) (h3 : m'.line = m.line) (h4 : m'.sent.length = 6) : MOk mode m' := by
 have hg : ∀ c, m'.get c = m.get c := fun c => by unfold Mach.get; rw [h1]
 exact ⟨by rw [h1]; exact h.n6, h4, fun c hc => by rw [h3] at hc; rw [hg]; exact h.line c hc, by rw [h3]; exact h.nodup, fun c r hr => by rw [hg] at hr; exact h.fine c r hr,
  fun c s hs => by rw [hg] at hs; rw [h2]; exact h.srv c s hs, fun c d s a b => by rw [hg] at a b; exact h.inj c d s a b, fun s hs => by rw [h2] at hs; obtain ⟨c, hc⟩ := h.own s hs; exact ⟨c, by rw [hg]; exact hc⟩⟩
theorem MOk.tell (h : MOk mode m) (c : Nat) (a : Ans) (st : Int) : MOk mode (m.tell c a st) := h.same rfl rfl rfl (by simp [Mach.tell, h.s6])
theorem MOk.release (h : MOk mode m) {c s : Nat} (hs : (m.get c).srv = some s) : MOk mode (m.release o c s) := by
 have hc' := srv_lt hs
 have hc : c < 6 := by rw [h.n6] at hc'; exact hc'
 have hg : ∀ d, (m.release o c s).get d = if c = d then { m.get c with srv := none } else m.get d := fun d => get_set (m := m) hc'
 have hn : c ∉ m.line := fun hl => by have := (h.line c hl).2.1; rw [hs] at this; cases this
 refine ⟨by simp [Mach.release, h.n6], h.s6, fun d hd => ?_, h.nodup, fun d r hr => ?_, fun d s' hd => ?_, fun d d' s' h1 h2 => ?_, fun s' hb => ?_⟩
 ·have e : c ≠ d := fun e => hn (by rw [e]; exact hd)
  rw [hg, if_neg e]; exact h.line d hd
 ·rw [hg] at hr
  by_cases e : c = d
  ·rw [if_pos e] at hr; exact h.fine c r hr
  ·rw [if_neg e] at hr; exact h.fine d r hr
 ·rw [hg] at hd
  by_cases e : c = d
  ·rw [if_pos e] at hd; cases hd
  ·rw [if_neg e] at hd
   have hne : s ≠ s' := fun e' => e (h.inj c d s hs (by rw [e']; exact hd))
   show (m.busy.set s false)[s']? = _
   rw [List.getElem?_set_ne hne]; exact h.srv d s' hd
 ·rw [hg] at h1 h2
  by_cases e : c = d
  ·rw [if_pos e] at h1; cases h1
  ·by_cases e' : c = d'
   ·rw [if_pos e'] at h2; cases h2
   ·rw [if_neg e] at h1; rw [if_neg e'] at h2; exact h.inj d d' s' h1 h2
 ·have hb : (m.busy.set s false)[s']? = some true := hb
  by_cases e : s = s'
  ·subst e
   rw [List.getElem?_set_self (List.getElem?_eq_some_iff.1 (h.srv c s hs)).1] at hb; cases hb
  ·rw [List.getElem?_set_ne e] at hb
   obtain ⟨d, hd⟩ := h.own s' hb
   refine ⟨d, ?_⟩
   rw [hg, if_neg (fun e' => e (by rw [← e', hs] at hd; injection hd))]; exact hd
theorem release_mu (h : MOk mode m) {c s : Nat} (hs : (m.get c).srv = some s) : (m.release o c s).mu = m.mu + 1 := by
 have hc' := srv_lt hs
 have e := get_lt (m := m) hc'
 have h1 := waits_set (x := { m.get c with srv := none }) hc'
 have h2 := bare_set (x := { m.get c with srv := none }) hc'
 rw [← e] at h1 h2
 rw [hs] at h2
 simp only [Option.isNone_some, Option.isNone_none, Bool.toNat_false, Bool.toNat_true, Nat.add_zero] at h2
 simp only at h1
 unfold Mach.mu Mach.release
 simp only
 omega
theorem proc_line (h : MOk mode m) {c : Nat} (hr : readyB mode (m.get c) = true) : c ∉ m.line := fun hl => by
 have := (h.line c hl).2.2.2; rw [hr] at this; cases this
theorem MOk.proc (h : MOk mode m) {c : Nat} (hc : c < 6) (hr : readyB mode (m.get c) = true) : MOk mode (m.proc o mode c) ∧ (m.proc o mode c).mu < m.mu := by
 have hc' : c < m.cl.length := by rw [h.n6]; exact hc
 have hn := proc_line h hr
 obtain ⟨r, l, hw, hs⟩ := ready_wait hr
 have h1 : MOk mode (m.set c { m.get c with wait := l }) := h.turn hc (fun q hq => h.fine c q (by rw [hw]; exact List.mem_cons_of_mem _ hq)) rfl (fun hl => absurd hl hn)
 have e := get_lt (m := m) hc'
 have q1 := waits_set (x := { m.get c with wait := l }) hc'
 have q2 := bare_set (x := { m.get c with wait := l }) hc'
 rw [← e] at q1 q2
 rw [hw] at q1
 simp only [List.length_cons] at q1 q2
 have q3 : (m.set c { m.get c with wait := l }).mu + 2 = m.mu := by unfold Mach.mu Mach.set; simp only; omega
 unfold Mach.proc
 simp only [hw]
 by_cases hf : refB mode r = true
 ·rw [if_pos hf]
  exact ⟨h1.tell _ _ _, by show (m.set c { m.get c with wait := l }).mu < _; omega⟩
 ·rw [if_neg hf]
  have hsv : (m.get c).srv.isSome = true := by rw [Bool.or_eq_true] at hs; exact hs.resolve_right hf
  obtain ⟨s, hs⟩ := Option.isSome_iff_exists.1 hsv
  have h2 : MOk mode (Mach.tell { m.set c { m.get c with wait := l } with e := (o.exec m.e c ((m.get c).srv.getD 0) r).1, deeds := m.deeds ++ [⟨c, r, (o.exec m.e c ((m.get c).srv.getD 0) r).2.1, (o.exec m.e c ((m.get c).srv.getD 0) r).2.2⟩] } c (o.exec m.e c ((m.get c).srv.getD 0) r).2.1 (o.exec m.e c ((m.get c).srv.getD 0) r).2.2) :=
   h1.same rfl rfl rfl (by simp [Mach.tell, Mach.set, h.s6])
  split
  ·refine ⟨h2.release (by show ((m.set c _).get c).srv = _; rw [get_set hc', if_pos rfl, hs]; rfl), ?_⟩
   rw [release_mu h2 (by show ((m.set c _).get c).srv = _; rw [get_set hc', if_pos rfl, hs]; rfl)]
   show (m.set c { m.get c with wait := l }).mu + 1 < _; omega
  ·exact ⟨h2, by show (m.set c { m.get c with wait := l }).mu < _; omega⟩
theorem enqL_mem {l : List Nat} {c d : Nat} : d ∈ enqL m l c ↔ d ∈ l ∨ (d = c ∧ (m.get c).wait ≠ []) := by
 unfold enqL
 by_cases h : (m.get c).wait ≠ [] ∧ ¬ c ∈ l
 ·rw [if_pos h]; simp only [List.mem_append, List.mem_singleton]; exact ⟨fun hh => hh.imp_right fun e => ⟨e, h.1⟩, fun hh => hh.imp_right And.left⟩
 ·rw [if_neg h]
  refine ⟨.inl, fun hh => ?_⟩
  rcases hh with hh | ⟨rfl, hw⟩
  ·exact hh
  ·exact Classical.byContradiction fun hn => h ⟨hw, hn⟩
theorem enqL_nodup {l : List Nat} {c : Nat} (h : l.Nodup) : (enqL m l c).Nodup := by
 unfold enqL
 split
 ·rename_i hh
  rw [List.nodup_append]
  exact ⟨h, by simp, fun a ha b hb e => by rw [List.mem_singleton] at hb; subst hb; subst e; exact hh.2 ha⟩
 ·exact h
theorem enq_mem : ∀ {cs l : List Nat} {d : Nat}, d ∈ cs.foldl (enqL m) l ↔ d ∈ l ∨ (d ∈ cs ∧ (m.get d).wait ≠ [])
 | [], l, d => by simp
 | c :: cs, l, d => by
  rw [List.foldl_cons, enq_mem, enqL_mem]
  constructor
  ·rintro ((h | ⟨rfl, h⟩) | ⟨h1, h2⟩)
   ·exact .inl h
   ·exact .inr ⟨List.mem_cons_self, h⟩
   ·exact .inr ⟨List.mem_cons_of_mem _ h1, h2⟩
  ·rintro (h | ⟨h1, h2⟩)
   ·exact .inl (.inl h)
   ·rcases List.mem_cons.1 h1 with rfl | h1
    ·exact .inl (.inr ⟨rfl, h2⟩)
    ·exact .inr ⟨h1, h2⟩
theorem enq_nodup : ∀ {cs l : List Nat}, l.Nodup → (cs.foldl (enqL m) l).Nodup
 | [], l, h => h
 | c :: cs, l, h => by rw [List.foldl_cons]; exact enq_nodup (enqL_nodup h)
theorem MOk.enq (h : MOk mode m) (hr : m.firstR mode = none) : MOk mode m.enq := by
 refine ⟨h.n6, h.s6, fun d hd => ?_, enq_nodup h.nodup, h.fine, h.srv, h.inj, h.own⟩
 rcases enq_mem.1 hd with hd | ⟨h1, h2⟩
 ·exact h.line d hd
 ·have h6 := List.mem_range.1 h1
  have hn := first_none hr h6
  refine ⟨h6, ?_, h2, hn⟩
  cases hx : (m.get d).wait with
  | nil => exact absurd hx h2
  | cons r l =>
   unfold readyB at hn
   rw [hx] at hn
   simp only [Bool.or_eq_false_iff] at hn
   have : (m.get d).srv = none := Option.not_isSome_iff_eq_none.1 (by rw [hn.1]; simp)
   exact this
theorem idx_free {l : List Bool} (h : l.idxOf false < l.length) : l[l.idxOf false]? = some false := by
 rw [List.getElem?_eq_getElem h]
 have := List.getElem_idxOf h
 rw [this]
theorem MOk.assign (h : MOk mode m) (ht : (m.assign o).1 = true) : MOk mode (m.assign o).2 ∧ (m.assign o).2.mu < m.mu := by
 unfold Mach.assign at ht ⊢
 cases hl : m.line with
 | nil => rw [hl] at ht; cases ht
 | cons c l =>
  rw [hl] at ht
  simp only at ht ⊢
  by_cases hb : m.busy.idxOf false < m.busy.length
  ·rw [if_pos hb]
   obtain ⟨hc, hs, hw, hr⟩ := h.line c (by rw [hl]; exact List.mem_cons_self)
   have hc' : c < m.cl.length := by rw [h.n6]; exact hc
   have hnd := h.nodup
   rw [hl, List.nodup_cons] at hnd
   generalize hs0 : m.busy.idxOf false = s at *
   have hfree : m.busy[s]? = some false := by rw [← hs0]; exact idx_free (by rw [hs0]; exact hb)
   have hg : ∀ (q : Mach E) d, q.cl = m.cl.set c { m.get c with srv := some s } → q.get d = if c = d then { m.get c with srv := some s } else m.get d := fun q d hq => by
    unfold Mach.get; rw [hq]; exact get_cl hc'
   have hns : ∀ d, (m.get d).srv ≠ some s := fun d hd => by rw [h.srv d s hd] at hfree; cases hfree
   refine ⟨⟨by simp [h.n6], h.s6, fun d hd => ?_, hnd.2, fun d r hr => ?_, fun d s' hd => ?_, fun d d' s' h1 h2 => ?_, fun s' hb' => ?_⟩, ?_⟩
   ·have e : c ≠ d := fun e => hnd.1 (by rw [e]; exact hd)
    rw [hg _ d rfl, if_neg e]
    exact h.line d (by rw [hl]; exact List.mem_cons_of_mem _ hd)
   ·rw [hg _ d rfl] at hr
    by_cases e : c = d
    ·rw [if_pos e] at hr; exact h.fine c r hr
    ·rw [if_neg e] at hr; exact h.fine d r hr
   ·rw [hg _ d rfl] at hd
    by_cases e : c = d
    ·rw [if_pos e] at hd; injection hd with hd; subst hd
     show (m.busy.set s true)[s]? = _
     rw [List.getElem?_set_self hb]
    ·rw [if_neg e] at hd
     have hne : s ≠ s' := fun e' => hns d (by rw [e']; exact hd)
     show (m.busy.set s true)[s']? = _
     rw [List.getElem?_set_ne hne]; exact h.srv d s' hd
   ·rw [hg _ d rfl] at h1
    rw [hg _ d' rfl] at h2
    by_cases e : c = d <;> by_cases e' : c = d'
    ·rw [← e, ← e']
    ·rw [if_pos e] at h1; rw [if_neg e'] at h2; injection h1 with h1; exact absurd (by rw [h1]; exact h2) (hns d')
    ·rw [if_neg e] at h1; rw [if_pos e'] at h2; injection h2 with h2; exact absurd (by rw [h2]; exact h1) (hns d)
    ·rw [if_neg e] at h1; rw [if_neg e'] at h2; exact h.inj d d' s' h1 h2
   ·have hb' : (m.busy.set s true)[s']? = some true := hb'
    by_cases e : s = s'
    ·subst e
     exact ⟨c, by rw [hg _ c rfl, if_pos rfl]⟩
    ·rw [List.getElem?_set_ne e] at hb'
     obtain ⟨d, hd⟩ := h.own s' hb'
     exact ⟨d, by rw [hg _ d rfl, if_neg (fun e' => by rw [← e', hs] at hd; cases hd)]; exact hd⟩
   ·have e := get_lt (m := m) hc'
    have q1 := waits_set (x := { m.get c with srv := some s }) hc'
    have q2 := bare_set (x := { m.get c with srv := some s }) hc'
    rw [← e] at q1 q2
    rw [hs] at q2
    simp only [Option.isNone_some, Option.isNone_none, Bool.toNat_false, Bool.toNat_true, Nat.add_zero] at q2
    simp only at q1
    unfold Mach.mu
    simp only
    omega
  ·rw [if_neg hb] at ht; cases ht
theorem assign_no (h : (m.assign o).1 = false) : (m.assign o).2 = m := by
 unfold Mach.assign at h ⊢
 cases hl : m.line with
 | nil => rfl
 | cons c l =>
  rw [hl] at h
  simp only at h ⊢
  by_cases hb : m.busy.idxOf false < m.busy.length
  ·rw [if_pos hb] at h; cases h
  ·rw [if_neg hb]
theorem MOk.step (h : MOk mode m) : MOk mode (m.step o mode).2 ∧ ((m.step o mode).1 = true → (m.step o mode).2.mu < m.mu) := by
 unfold Mach.step
 cases hf : m.firstR mode with
 | some c =>
  obtain ⟨hc, hr⟩ := first_some hf
  have := h.proc (o := o) hc hr
  exact ⟨this.1, fun _ => this.2⟩
 | none =>
  have he := h.enq hf
  simp only
  cases ha : (m.enq.assign o).1 with
  | true => have := he.assign ha; exact ⟨this.1, fun _ => this.2⟩
  | false => rw [assign_no ha]; exact ⟨he, fun hh => by cases hh⟩
theorem iter_enough : ∀ (n k : Nat) (m : Mach E), MOk mode m → m.mu < n → m.mu < k → m.iter o mode n = m.iter o mode k
 | n + 1, k + 1, m, h, hn, hk => by
  simp only [Mach.iter]
  cases ht : (m.step o mode).1 with
  | false => simp
  | true =>
   have h1 := h.step (o := o)
   have h2 := h1.2 ht
   simp only [if_true]
   exact iter_enough n k _ h1.1 (by omega) (by omega)
theorem all_step (h : MOk mode m) (ht : (m.step o mode).1 = true) : m.all o mode = (m.step o mode).2.all o mode := by
 have h1 := h.step (o := o)
 have h2 := h1.2 ht
 unfold Mach.all
 rw [Mach.iter, if_pos ht]
 exact iter_enough _ _ _ h1.1 (by omega) (by omega)
theorem all_stop (ht : (m.step o mode).1 = false) : m.all o mode = (m.step o mode).2 := by
 unfold Mach.all
 rw [Mach.iter, if_neg (by rw [ht]; simp)]
theorem all_ind (P : Mach E → Prop) (Q : Mach E → Mach E → Prop) (hstep : ∀ m, MOk mode m → P m → (m.step o mode).1 = true → P (m.step o mode).2 ∧ ∀ r, Q (m.step o mode).2 r → Q m r) (hstop : ∀ m, MOk mode m → P m → (m.step o mode).1 = false → Q m (m.step o mode).2) :
  ∀ (n : Nat) (m : Mach E), m.mu ≤ n → MOk mode m → P m → Q m (m.all o mode)
 | 0, m, hn, h, hp => by
  cases ht : (m.step o mode).1 with
  | false => rw [all_stop ht]; exact hstop m h hp ht
  | true => have := (h.step (o := o)).2 ht; omega
 | n + 1, m, hn, h, hp => by
  cases ht : (m.step o mode).1 with
  | false => rw [all_stop ht]; exact hstop m h hp ht
  | true =>
   have h1 := h.step (o := o)
   have h2 := h1.2 ht
   have h3 := hstep m h hp ht
   rw [all_step h ht]
   exact h3.2 _ (all_ind P Q hstep hstop n _ (by omega) h1.1 h3.1)
theorem MOk.all (h : MOk mode m) : MOk mode (m.all o mode) :=
 all_ind (fun _ => True) (fun _ r => MOk mode r) (fun m h _ _ => ⟨trivial, fun r hr => hr⟩) (fun m h _ _ => (h.step (o := o)).1) _ m (nL _) h trivial
theorem MOk.leave (h : MOk mode m) {c : Nat} (hc : c < 6) : MOk mode (m.leave o c) := by
 have hc' : c < m.cl.length := by rw [h.n6]; exact hc
 have hg : ∀ d, (m.leave o c).get d = if c = d then Cl.new else m.get d := fun d => get_set (m := m) hc'
 have hm : ∀ d, d ∈ (m.leave o c).line ↔ d ∈ m.line ∧ d ≠ c := fun d => by
  show d ∈ m.line.filter _ ↔ _
  rw [List.mem_filter]; simp
 refine ⟨by simp [Mach.leave, h.n6], h.s6, fun d hd => ?_, h.nodup.filter _, fun d r hr => ?_, fun d s hd => ?_, fun d d' s h1 h2 => ?_, fun s hb => ?_⟩
 ·obtain ⟨h1, h2⟩ := (hm d).1 hd
  rw [hg, if_neg (fun e => h2 e.symm)]; exact h.line d h1
 ·rw [hg] at hr
  by_cases e : c = d
  ·rw [if_pos e] at hr; cases hr
  ·rw [if_neg e] at hr; exact h.fine d r hr
 ·rw [hg] at hd
  by_cases e : c = d
  ·rw [if_pos e] at hd; cases hd
  ·rw [if_neg e] at hd
   have := h.srv d s hd
   unfold Mach.leave
   simp only
   cases hx : (m.get c).srv with
   | none => exact this
   | some s' =>
    simp only
    rw [List.getElem?_set_ne (fun e' => e (h.inj c d s (by rw [hx, e']) hd))]; exact this
 ·rw [hg] at h1 h2
  by_cases e : c = d
  ·rw [if_pos e] at h1; cases h1
  ·by_cases e' : c = d'
   ·rw [if_pos e'] at h2; cases h2
   ·rw [if_neg e] at h1; rw [if_neg e'] at h2; exact h.inj d d' s h1 h2
 ·unfold Mach.leave at hb
  simp only at hb
  cases hx : (m.get c).srv with
  | none =>
   rw [hx] at hb
   obtain ⟨d, hd⟩ := h.own s hb
   exact ⟨d, by rw [hg, if_neg (fun e => by rw [← e, hx] at hd; cases hd)]; exact hd⟩
  | some s' =>
   rw [hx] at hb
   simp only at hb
   by_cases e : s' = s
   ·subst e
    rw [List.getElem?_set_self (List.getElem?_eq_some_iff.1 (h.srv c s' hx)).1] at hb; cases hb
   ·rw [List.getElem?_set_ne e] at hb
    obtain ⟨d, hd⟩ := h.own s hb
    exact ⟨d, by rw [hg, if_neg (fun e' => e (by rw [← e', hx] at hd; injection hd))]; exact hd⟩
theorem reqOf_fine (k : UInt8) (t : ByteArray) : (reqOf k t).fine := by
 unfold reqOf
 split
 ·rename_i h; exact .inr (text_read h.2).1
 ·exact .inl rfl
theorem fine_app {l : List Req} {r : Req} (h : ∀ q ∈ l, q.fine) (hr : r.fine) : ∀ q ∈ l ++ [r], q.fine := fun q hq => by
 rcases List.mem_append.1 hq with hq | hq
 ·exact h q hq
 ·rw [List.mem_singleton] at hq; rw [hq]; exact hr
theorem ready_app {x : Cl} {r : Req} {b : ByteArray} (hw : x.wait ≠ []) (hr : readyB mode x = false) : readyB mode { x with bytes := b, wait := x.wait ++ [r] } = false := by
 unfold readyB at hr ⊢
 cases hx : x.wait with
 | nil => exact absurd hx hw
 | cons q l => rw [hx] at hr; exact hr
theorem MOk.feed (h : MOk mode m) {c : Nat} (hc : c < 6) (n : Nat) : MOk mode (m.feed o mode n c) := by
 induction n generalizing m with
 | zero => exact h
 | succ n ih =>
  unfold Mach.feed
  cases hp : pull (m.get c).bytes with
  | none => exact h
  | some q =>
   obtain ⟨k, t, j⟩ := q
   simp only
   split
   ·exact h.all.leave hc
   ·refine ih (h.turn hc (fine_app (fun q hq => h.fine c q hq) (reqOf_fine k t)) rfl fun hl => ⟨by simp, ?_⟩)
    obtain ⟨_, _, h3, h4⟩ := h.line c hl
    exact ready_app h3 h4
theorem MOk.bytes (h : MOk mode m) {c : Nat} (hc : c < 6) (b : ByteArray) : MOk mode (m.set c { m.get c with bytes := b }) :=
 h.turn hc (fun r hr => h.fine c r hr) rfl fun hl => ⟨(h.line c hl).2.2.1, (h.line c hl).2.2.2⟩
theorem MOk.deliver (h : MOk mode m) {c : Nat} (hc : c < 6) (d : ByteArray) : MOk mode (m.deliver o mode c d) := (h.bytes hc _).feed hc _
theorem MOk.act (h : MOk mode m) {a : Act} (ha : actE a = 0) : MOk mode (m.act o mode a) := by
 have hc : a.c.toNat < 6 := by
  unfold actE at ha
  split at ha
  ·cases ha
  split at ha
  ·cases ha
  omega
 unfold Mach.act
 split
 ·exact (h.deliver hc _).all
 ·exact (h.leave hc).all
theorem actsE_cons {a : Act} {l : List Act} (h : actsE (a :: l) = 0) : actE a = 0 ∧ actsE l = 0 := by
 unfold actsE at h
 split at h
 ·rename_i hh; exact absurd h hh
 ·rename_i hh; exact ⟨Classical.byContradiction hh, h⟩
theorem MOk.run (h : MOk mode m) {l : List Act} (hl : actsE l = 0) : MOk mode (m.run o mode l) := by
 induction l generalizing m with
 | nil => exact h
 | cons a l ih => exact ih (h.act (actsE_cons hl).1) (actsE_cons hl).2
end
theorem start_ok {E : Type} (e : E) (n : Nat) (mode : Int) : MOk mode (Mach.start e n) := by
 have hg : ∀ c, (Mach.start e n).get c = Cl.new := fun c => by
  unfold Mach.get Mach.start
  simp only
  rw [List.getD_eq_getElem?_getD, List.getElem?_replicate]
  split <;> rfl
 refine ⟨by simp [Mach.start], by simp [Mach.start], (fun c hc => by cases hc), List.nodup_nil, (fun c r hr => by rw [hg] at hr; cases hr), (fun c s hs => by rw [hg] at hs; cases hs), (fun c d s h1 _ => by rw [hg] at h1; cases h1), fun s hs => ?_⟩
 have : (List.replicate n false)[s]? = some true := hs
 rw [List.getElem?_replicate] at this
 split at this <;> cases this
end Go.Proofs.YtpbaobmegomfpabGreatDoor
