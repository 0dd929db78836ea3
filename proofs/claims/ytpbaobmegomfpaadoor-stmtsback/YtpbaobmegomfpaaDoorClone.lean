/-
  strings.Clone: it returns the same bytes (by the library's contract of internal/stringslite.Clone).
-/
import Derived.Test.YtpbaobmegomfpaaDoorRows
import Derived.WalkKit
import Derived.Shelf.Pu.Clone
namespace Go.Proofs.YtpbaobmegomfpaaDoor
open Go.RowKit
set_option linter.unusedVariables false
set_option maxRecDepth 100000

def cloneRen : Go.Shelf.Ren := ⟨fun | 25 => 51 | n => n, fun | 0 => 0 | 3 => 3 | 4 => 4 | 5 => 5 | 9 => 9 | 37 => 65 | 47 => 91 | n => n, fun n => n⟩
theorem cloneLays : LaysPu.n25 Tryd.prog cloneRen :=
  { mixed := (by kernel_rfl), f25 := (by kernel_rfl),
    t0 := (by kernel_rfl), a0 := (fun _ => by kernel_rfl), z0 := (fun _ => by kernel_rfl), v0 := (fun _ => by kernel_rfl), i0 := (by kernel_rfl),
    t3 := (by kernel_rfl), a3 := (fun _ => by kernel_rfl), z3 := (fun _ => by kernel_rfl), v3 := (fun _ => by kernel_rfl), i3 := (by kernel_rfl),
    t4 := (by kernel_rfl), a4 := (fun _ => by kernel_rfl), z4 := (fun _ => by kernel_rfl), v4 := (fun _ => by kernel_rfl), i4 := (by kernel_rfl),
    t5 := (by kernel_rfl), a5 := (fun _ => by kernel_rfl), z5 := (fun _ => by kernel_rfl), v5 := (fun _ => by kernel_rfl), i5 := (by kernel_rfl),
    t9 := (by kernel_rfl), a9 := (fun _ => by kernel_rfl), z9 := (fun _ => by kernel_rfl), v9 := (fun _ => by kernel_rfl), i9 := (by kernel_rfl),
    t37 := (by kernel_rfl), a37 := (fun _ => by kernel_rfl), z37 := (fun _ => by kernel_rfl), v37 := (fun _ => by kernel_rfl), i37 := (by kernel_rfl),
    t47 := (by kernel_rfl), a47 := (fun _ => by kernel_rfl), z47 := (fun _ => by kernel_rfl), v47 := (fun _ => by kernel_rfl), i47 := (by kernel_rfl) }

theorem clone_any (s : ByteArray) (w : World) (hs : s.size ≤ 281474976710656) :
    Calls Tryd.prog 31 #[.string s] w fun e w' => e = .returned (.string s) ∧ Below w.heap.size w w' := by
  go_enter Tryd.func31, Tryd.ntmps31
  go_wp2_with fail
  refine (AnyPu.stringslite_Clone cloneLays s _ hs).mono ?_
  rintro e w1 ⟨rfl, hb⟩
  go_wp2
  go_ret
  exact ⟨rfl, hb⟩

end Go.Proofs.YtpbaobmegomfpaaDoor
