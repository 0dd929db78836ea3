/-
  Plain mathematics: clients that share servers (P3.2 to P3.4), over whatever serves them.
-/
import Derived.Test.YtpbaobmegomfpabBackKeep
import Derived.Test.YtpbaobmegomfpabMath4
namespace Go.Proofs.Ytpbaobmegomfpab
open Go.RowKit
set_option linter.unusedVariables false

/-- a request; one of kind 0 is not understood -/
structure Req where
  k : Int
  key : ByteArray
  val : ByteArray
def Req.none_ : Req := ⟨0, ⟨#[]⟩, ⟨#[]⟩⟩
/-- what may wait -/
def Req.fine (r : Req) : Prop := r = Req.none_ ∨ checkE r.k r.key r.val = 0
structure Deed where
  c : Nat
  r : Req
  a : Ans
  st : Int
/-- a client -/
structure Cl where
  bytes : ByteArray
  wait : List Req
  srv : Option Nat
def Cl.new : Cl := ⟨⟨#[]⟩, [], none⟩
/-- what serves: a statement of a client that has a server, the state of its session, a server handed out, one given back, a client that goes -/
structure Ops (E : Type) where
  exec : E → Nat → Nat → Req → E × Ans × Int
  state : E → Nat → Option Nat → Int
  grant : E → Nat → Nat → E
  free : E → Nat → Nat → E
  leave : E → Nat → Option Nat → E
structure Mach (E : Type) where
  e : E
  cl : List Cl
  busy : List Bool
  line : List Nat
  sent : List ByteArray
  deeds : List Deed

def tUnder : ByteArray := ⟨#[110, 111, 116, 32, 117, 110, 100, 101, 114, 115, 116, 111, 111, 100]⟩
def tMode : ByteArray := ⟨#[110, 111, 116, 32, 105, 110, 32, 116, 104, 105, 115, 32, 109, 111, 100, 101]⟩
/-- why a request needs no server; empty: it needs one -/
def refuse (mode : Int) (r : Req) : ByteArray := if r.k = 0 then tUnder else if r.k = 1 ∧ mode = 3 then tMode else ⟨#[]⟩
def refB (mode : Int) (r : Req) : Bool := decide (r.k = 0 ∨ (r.k = 1 ∧ mode = 3))
def readyB (mode : Int) (x : Cl) : Bool := match x.wait with
  | [] => false
  | r :: _ => x.srv.isSome || refB mode r

section
variable {E : Type} (o : Ops E) (mode : Int)
def Mach.get (m : Mach E) (c : Nat) : Cl := m.cl.getD c Cl.new
def Mach.set (m : Mach E) (c : Nat) (x : Cl) : Mach E := { m with cl := m.cl.set c x }
/-- a message with an answer -/
def ansM (a : Ans) (st : Int) : ByteArray := msg 82 (tellT a.kind.toNat st.toNat a.text)
def Mach.tell (m : Mach E) (c : Nat) (a : Ans) (st : Int) : Mach E := { m with sent := m.sent.set c (m.sent.getD c ⟨#[]⟩ ++ ansM a st) }
def Mach.release (m : Mach E) (c s : Nat) : Mach E := { m with e := o.free m.e c s, busy := m.busy.set s false, cl := m.cl.set c { m.get c with srv := none } }
/-- the first request of a client -/
def Mach.proc (m : Mach E) (c : Nat) : Mach E := match (m.get c).wait with
  | [] => m
  | r :: rest =>
    if refB mode r then (m.set c { m.get c with wait := rest }).tell c ⟨4, refuse mode r⟩ (o.state m.e c (m.get c).srv)
    else
      let x := o.exec m.e c ((m.get c).srv.getD 0) r
      let m2 := Mach.tell { m.set c { m.get c with wait := rest } with e := x.1, deeds := m.deeds ++ [⟨c, r, x.2.1, x.2.2⟩] } c x.2.1 x.2.2
      if mode ≠ 1 ∧ x.2.2 = 0 then m2.release o c ((m.get c).srv.getD 0) else m2
/-- who has requests waits in line -/
def enqL (m : Mach E) (l : List Nat) (c : Nat) : List Nat := if (m.get c).wait ≠ [] ∧ ¬ c ∈ l then l ++ [c] else l
def Mach.enq (m : Mach E) : Mach E := { m with line := (List.range 6).foldl (enqL m) m.line }
/-- the first in line gets the first free server -/
def Mach.assign (m : Mach E) : Bool × Mach E := match m.line with
  | [] => (false, m)
  | c :: l => if m.busy.idxOf false < m.busy.length then (true, { m with line := l, busy := m.busy.set (m.busy.idxOf false) true, cl := m.cl.set c { m.get c with srv := some (m.busy.idxOf false) }, e := o.grant m.e c (m.busy.idxOf false) }) else (false, m)
def Mach.firstR (m : Mach E) : Option Nat := (List.range 6).find? (fun c => readyB mode (m.get c))
def Mach.step (m : Mach E) : Bool × Mach E := match m.firstR mode with
  | some c => (true, m.proc o mode c)
  | none => m.enq.assign o
def Mach.iter : Nat → Mach E → Mach E
  | 0, m => m
  | n + 1, m => if (m.step o mode).1 then Mach.iter n (m.step o mode).2 else (m.step o mode).2
def waits (l : List Cl) : Nat := (l.map fun x => x.wait.length).sum
def bare (l : List Cl) : Nat := l.countP fun x => x.srv.isNone
def Mach.mu (m : Mach E) : Nat := 2 * waits m.cl + bare m.cl
/-- P3.3: everything possible -/
def Mach.all (m : Mach E) : Mach E := m.iter o mode (m.mu + 1)
/-- P3.4 -/
def Mach.leave (m : Mach E) (c : Nat) : Mach E :=
  { m with e := o.leave m.e c (m.get c).srv, busy := match (m.get c).srv with
      | some s => m.busy.set s false
      | none => m.busy, line := m.line.filter (fun n => n != c), cl := m.cl.set c Cl.new }
/-- the first message of bytes: its kind, its text, its length -/
def pull (b : ByteArray) : Option (UInt8 × ByteArray × Nat) := if h : 2 ≤ b.size then (if 2 + b[1].toNat ≤ b.size then some (b[0], b.extract 2 (2 + b[1].toNat), 2 + b[1].toNat) else none) else none
/-- what a message asks -/
def reqOf (k : UInt8) (t : ByteArray) : Req := if k = 81 ∧ readE t = 0 then ⟨kindN (cutA t), cutA (cutB t), cutB (cutB t)⟩ else Req.none_
/-- what a client has sent becomes requests, up to a farewell -/
def Mach.feed : Nat → Mach E → Nat → Mach E
  | 0, m, _ => m
  | n + 1, m, c => match pull (m.get c).bytes with
    | none => m
    | some (k, t, j) => if k = 88 then (m.all o mode).leave o c else Mach.feed n (m.set c { m.get c with bytes := (m.get c).bytes.extract j (m.get c).bytes.size, wait := (m.get c).wait ++ [reqOf k t] }) c
def Mach.deliver (m : Mach E) (c : Nat) (data : ByteArray) : Mach E := (m.set c { m.get c with bytes := (m.get c).bytes ++ data }).feed o mode ((m.get c).bytes.size + data.size + 1) c
structure Act where
  kind : Int
  c : Int
  data : ByteArray
def Mach.act (m : Mach E) (a : Act) : Mach E := (if a.kind = 1 then m.deliver o mode a.c.toNat a.data else m.leave o a.c.toNat).all o mode
/-- P3.2 -/
def Mach.run (m : Mach E) (l : List Act) : Mach E := l.foldl (fun m a => m.act o mode a) m
def Mach.start (e : E) (n : Nat) : Mach E := ⟨e, List.replicate 6 Cl.new, List.replicate n false, [], List.replicate 6 ⟨#[]⟩, []⟩
end

/-- the errors of Run -/
def setupE (mode servers : Int) : Int := if mode < 1 ∨ 3 < mode then 3 else if servers < 1 ∨ 4 < servers then 2 else 0
def actE (a : Act) : Int := if ¬ (a.kind = 1 ∨ a.kind = 2) then 3 else if a.c < 0 ∨ 6 ≤ a.c then 2 else if 1000 < a.data.size then 1 else 0
def actsE : List Act → Int
  | [] => 0
  | a :: l => if actE a ≠ 0 then actE a else actsE l
def runE (mode servers : Int) (l : List Act) : Int := if setupE mode servers ≠ 0 then setupE mode servers else if 300 < l.length then 1 else actsE l

/-- servers that clients share: the world, and the lists of each client while no server has them -/
structure PE where
  w : Wd
  kept : List (PL × PL)
def PE.of (e : PE) (c : Nat) : PL × PL := e.kept.getD c ([], [])
/-- the pairs of a list that another does not have -/
def pairB (p q : ByteArray × ByteArray) : Bool := eqB p.1 q.1 && eqB p.2 q.2
def without (l o : PL) : PL := l.filter fun q => !o.any fun p => pairB p q
def doW (w : Wd) (s : Nat) (k : Int) (l : PL) : Wd := l.foldl (fun w q => (doM w s k q.1 q.2).1) w
def restoreW (w : Wd) (s : Nat) (p : PL × PL) : Wd :=
  let w1 := if (without (w.at s).set p.1).length > 0 ∨ (without (w.at s).prep p.2).length > 0 then (doM w s 4 ⟨#[]⟩ ⟨#[]⟩).1 else w
  doW (doW w1 s 9 (without p.1 (w1.at s).set)) s 11 (without p.2 (w1.at s).prep)
def PE.free (e : PE) (c s : Nat) : PE := ⟨e.w, e.kept.set c ((e.w.at s).set, (e.w.at s).prep)⟩
def PE.state (e : PE) (srv : Option Nat) : Int := match srv with
  | none => 0
  | some s => (e.w.at s).st
def poolO : Ops PE where
  exec e c s r := let x := doM e.w s r.k r.key r.val; (⟨x.1, e.kept⟩, x.2, (x.1.at s).st)
  state e _ srv := e.state srv
  grant e c s := ⟨restoreW e.w s (e.of c), e.kept⟩
  free e c s := e.free c s
  leave e c srv := match srv with
    | none => ⟨e.w, e.kept.set c ([], [])⟩
    | some s => ⟨if (e.w.at s).st ≠ 0 then (doM e.w s 3 ⟨#[]⟩ ⟨#[]⟩).1 else e.w, e.kept.set c ([], [])⟩
/-- each client has a session of its own -/
def Sess.zero : Sess := ⟨0, [], [], [], []⟩
def houseO : Ops Wd where
  exec e c _ r := let x := doM e c r.k r.key r.val; (x.1, x.2, (x.1.at c).st)
  state e c _ := (e.at c).st
  grant e _ _ := e
  free e _ _ := e
  leave e c _ := e.put c Sess.zero
def poolStart (n : Nat) : PE := ⟨⟨[], List.replicate n Sess.zero⟩, List.replicate 6 ([], [])⟩
def houseStart : Wd := ⟨[], List.replicate 6 Sess.zero⟩

end Go.Proofs.Ytpbaobmegomfpab
