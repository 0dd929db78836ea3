/-
  Plain mathematics: what a statement does in a session of a world (P2.2 to P2.4).
-/
import Derived.Test.YtpbaobmegomfpabBackM4
import Derived.Test.YtpbaobmegomfpabBackM5
import Derived.Test.YtpbaobmegomfpabMath5
namespace Go.Proofs.Ytpbaobmegomfpab
open Go.RowKit
set_option linter.unusedVariables false

/-- the texts of errors -/
def tFailed : ByteArray := ⟨#[102, 97, 105, 108, 101, 100, 32, 97, 108, 114, 101, 97, 100, 121]⟩
def tBegun : ByteArray := ⟨#[98, 101, 103, 117, 110, 32, 97, 108, 114, 101, 97, 100, 121]⟩
def tNoTx : ByteArray := ⟨#[110, 111, 32, 116, 114, 97, 110, 115, 97, 99, 116, 105, 111, 110]⟩
def tNotIn : ByteArray := ⟨#[110, 111, 116, 32, 105, 110, 32, 97, 32, 116, 114, 97, 110, 115, 97, 99, 116, 105, 111, 110]⟩
def tAsked : ByteArray := ⟨#[97, 115, 32, 97, 115, 107, 101, 100]⟩
def tNotPrep : ByteArray := ⟨#[110, 111, 116, 32, 112, 114, 101, 112, 97, 114, 101, 100]⟩
def tFull : ByteArray := ⟨#[102, 117, 108, 108]⟩
def tHeld : ByteArray := ⟨#[104, 101, 108, 100]⟩
/-- what is answered: its kind and its text -/
structure Ans where
  kind : Int
  text : ByteArray
def no' (t : ByteArray) : Ans := ⟨4, t⟩
def ok' : Ans := ⟨1, ⟨#[]⟩⟩
def fnd' (o : Option ByteArray) : Ans := match o with
  | some v => ⟨2, v⟩
  | none => ⟨3, ⟨#[]⟩⟩
/-- the session i, and a world with another session there -/
def Wd.at (W : Wd) (i : Nat) : Sess := W.ss.getD i ⟨0, [], [], [], []⟩
def Wd.put (W : Wd) (i : Nat) (s : Sess) : Wd := ⟨W.rows, W.ss.set i s⟩
/-- all pairs of a list stored in another -/
def plusF (rows l : PL) : PL := l.foldl (fun a p => plusL a p.1 p.2) rows
/-- a statement that is no Exec -/
def did1 (W : Wd) (i : Nat) (k : Int) (key val : ByteArray) : Wd × Ans :=
  let s := W.at i
  if s.st = 2 ∧ ¬ (k = 2 ∨ k = 3) then (W, no' tFailed)
  else if k = 1 then (if s.st = 0 then (W.put i { s with st := 1, sav := s.set }, ok') else (W, no' tBegun))
  else if k = 2 ∨ k = 3 then
    (if s.st = 0 then (W, no' tNoTx)
     else if k = 2 ∧ s.st = 1 then (⟨plusF W.rows s.wr, W.ss.set i { s with st := 0, sav := [], wr := [] }⟩, ok')
     else (W.put i { s with st := 0, set := s.sav, sav := [], wr := [] }, ok'))
  else if k = 4 then (if s.st = 0 then (W.put i { s with set := [], prep := [] }, ok') else (W, no' tNotIn))
  else if k = 6 then (W, fnd' (atL s.set key))
  else if k = 7 then (W, fnd' (match atL s.wr key with | some v => some v | none => atL W.rows key))
  else if k = 9 then (if fndL s.set key = false ∧ 6 ≤ s.set.length then (W, no' tFull) else (W.put i { s with set := plusL s.set key val }, ok'))
  else if k = 10 then
    (if heldB W.ss i key = true then (W, no' tHeld)
     else if fndL (allL W) key = false ∧ 100 ≤ (allL W).length then (W, no' tFull)
     else if s.st = 1 then (W.put i { s with wr := plusL s.wr key val }, ok')
     else (⟨plusL W.rows key val, W.ss⟩, ok'))
  else if k = 11 then (if fndL s.prep key = false ∧ 6 ≤ s.prep.length then (W, no' tFull) else (W.put i { s with prep := plusL s.prep key val }, ok'))
  else (W, no' tAsked)
/-- a statement -/
def didM (W : Wd) (i : Nat) (k : Int) (key val : ByteArray) : Wd × Ans :=
  if k = 8 then
    (if (W.at i).st = 2 then (W, no' tFailed)
     else match atL (W.at i).prep key with
      | none => (W, no' tNotPrep)
      | some t => did1 W i (kindN (cutA t)) (cutA (cutB t)) (cutB (cutB t)))
  else did1 W i k key val
/-- P2.2: an Error in a transaction fails it -/
def doM (W : Wd) (i : Nat) (k : Int) (key val : ByteArray) : Wd × Ans :=
  let r := didM W i k key val
  if r.2.kind = 4 ∧ (r.1.at i).st = 1 then (r.1.put i { r.1.at i with st := 2, wr := [] }, r.2) else r
/-- the errors of Do -/
def doE (W : Wd) (i : Int) (k : Int) (key val : ByteArray) : Int :=
  if worldB W = false then 5 else if i < 0 ∨ (W.ss.length : Int) ≤ i then 6 else checkE k key val

/-- an Error has left the world as it was -/
def Keeps (W : Wd) (r : Wd × Ans) : Prop := r.2.kind = 4 → r.1 = W
theorem keeps_ite {W : Wd} {c : Prop} [Decidable c] {a b : Wd × Ans} (ha : Keeps W a) (hb : Keeps W b) : Keeps W (if c then a else b) := by
  split
  · exact ha
  · exact hb
theorem keeps_same (W : Wd) (a : Ans) : Keeps W (W, a) := fun _ => rfl
theorem keeps_ok (W V : Wd) : Keeps W (V, ok') := fun h => absurd h (by show ¬ ((1 : Int) = 4); decide)
theorem did1_keeps (W : Wd) (i : Nat) (k : Int) (key val : ByteArray) : Keeps W (did1 W i k key val) := by
  unfold did1
  simp only
  repeat' first
    | exact keeps_same _ _
    | exact keeps_ok _ _
    | refine keeps_ite ?_ ?_
theorem didM_keeps (W : Wd) (i : Nat) (k : Int) (key val : ByteArray) : Keeps W (didM W i k key val) := by
  unfold didM
  refine keeps_ite (keeps_ite (keeps_same _ _) ?_) (did1_keeps _ _ _ _ _)
  split
  · exact keeps_same _ _
  · exact did1_keeps _ _ _ _ _

/-- the strings and the lists of a world that may be are short -/
def Sz60 (l : PL) : Prop := l.length ≤ 100 ∧ ∀ p ∈ l, p.1.size ≤ 8 ∧ p.2.size ≤ 60
theorem pairsB_sz {l : PL} {most : Nat} {kind : Int} (hm : most ≤ 100) (h : pairsB l most kind = true) : Sz60 l := by
  obtain ⟨_, h2, h3⟩ := pairsB_rising h
  refine ⟨by omega, fun p hp => ?_⟩
  have hg := good_of (h3 p hp)
  exact ⟨hg.key8, hg.v60⟩

end Go.Proofs.Ytpbaobmegomfpab
