/-
  What the walk of the law TellsApart needs.
-/
import Derived.Test.YtpbaobmegomfpaaDoorSay13
import Derived.Test.YtpbaobmegomfpaaDoorLaidLeads
import Derived.Test.YtpbaobmegomfpaaDoorPicked
namespace Go.Proofs.YtpbaobmegomfpaaDoor
open Go.RowKit
set_option linter.unusedVariables false

theorem tellsApart.laidFacts {W : World} (h : laidMetH Tryd.prog Rows.tellsApartRow.laid W) : Leads W := leads_of h (by simp [Rows.tellsApartRow, Rows.laid_tillerman_say_leads, List.range, List.range.loop, leadL])

theorem pick_nat (n : Int) (m : Nat) (hm : 0 < m) : ∃ p : Nat, pickI n m = (p : Int) ∧ p < m := by
  have := pickI_bd n (m := (m : Int)) (by omega)
  exact ⟨(pickI n m).toNat, by omega, by omega⟩

/-- "x", and at most twenty bytes of a string -/
def cutX (s : ByteArray) : ByteArray := if s.size ≤ 20 then ⟨#[120]⟩ ++ s else ⟨#[120]⟩ ++ s.extract 0 20
theorem cutX_short {s : ByteArray} (h : s.size ≤ 20) : cutX s = ⟨#[120]⟩ ++ s := by unfold cutX; rw [if_pos h]
theorem cutX_long {s : ByteArray} (h : ¬ s.size ≤ 20) : cutX s = ⟨#[120]⟩ ++ s.extract 0 20 := by unfold cutX; rw [if_neg h]
theorem cutX_size (s : ByteArray) : 1 ≤ (cutX s).size ∧ (cutX s).size ≤ 21 := by
  by_cases h : s.size ≤ 20
  · rw [cutX_short h, ByteArray.size_append]; show 1 ≤ 1 + _ ∧ 1 + _ ≤ _; omega
  · rw [cutX_long h, ByteArray.size_append, ByteArray.size_extract]; show 1 ≤ 1 + _ ∧ 1 + _ ≤ _; omega
/-- the text of an answer of a kind -/
def txt (k : Nat) (x : ByteArray) : ByteArray := if k = 2 ∨ k = 4 then cutX x else ⟨#[]⟩
theorem txt_good (k : Nat) (x : ByteArray) : ¬ ((decide ((k : Int) = 2 ∨ (k : Int) = 4) == (txt k x).toList.isEmpty) = true ∨ 60 < (txt k x).size) := by
  by_cases h : k = 2 ∨ k = 4
  · have h1 := cutX_size x
    unfold txt
    rw [if_pos h, full_of h1.1, decide_eq_true (by omega)]
    simp; omega
  · unfold txt
    rw [if_neg h, empty_of (by rfl), decide_eq_false (by omega)]
    simp; decide
theorem markAt_one : ∀ c, c < 3 → ∀ d, d < 3 → (markAt c).data.toList.head? = (markAt d).data.toList.head? → c = d := by decide
theorem tell_list (k st : Nat) (x : ByteArray) : (tellT k st x).data.toList = (markAt st).data.toList ++ (leadL k ++ x.data.toList) := by
  unfold tellT leadAt; simp [ByteArray.data_append]
theorem mark_len : ∀ st, (markAt st).data.toList.length = 1
  | 0 => rfl
  | 1 => rfl
  | (_ + 2) => rfl
theorem txt_head (k : Nat) (hk : 1 ≤ k) (hk4 : k ≤ 4) (x : ByteArray) : ∃ r, leadL k ++ x.data.toList = (leadL k).headD 0 :: r ∧ r = (leadL k).tail ++ x.data.toList := by
  obtain rfl | rfl | rfl | rfl : k = 1 ∨ k = 2 ∨ k = 3 ∨ k = 4 := by omega
  all_goals exact ⟨_, rfl, rfl⟩
theorem lead_apart : ∀ k, k ≤ 4 → ∀ l, l ≤ 4 → 1 ≤ k → 1 ≤ l → (leadL k).headD 0 = (leadL l).headD 0 → k = l := by decide
theorem tell_okI (k st : Int) (x : ByteArray) (w : World) (hL : Leads w) (h : ¬ (k < 1 ∨ 4 < k ∨ st < 0 ∨ 2 < st)) (h2 : ¬ ((decide (k = 2 ∨ k = 4) == x.toList.isEmpty) = true ∨ 60 < x.size)) :
    Calls Tryd.prog 17 #[.agg #[.int .i64 k, .string x, .int .i64 st]] w fun e w' => e = .returned (.tuple #[.string (tellT k.toNat st.toNat x), .int .i64 0]) ∧ Below w.heap.size w w' := by
  obtain ⟨k, rfl⟩ : ∃ n : Nat, k = n := ⟨k.toNat, by omega⟩
  obtain ⟨st, rfl⟩ : ∃ n : Nat, st = n := ⟨st.toNat, by omega⟩
  rw [Int.toNat_natCast, Int.toNat_natCast]
  exact tell_ok k st x w hL h h2
/-- different answers have different texts -/
theorem tell_inj {k l c d : Nat} {x y : ByteArray} (hk : 1 ≤ k) (hk4 : k ≤ 4) (hl : 1 ≤ l) (hl4 : l ≤ 4) (hc : c < 3) (hd : d < 3) (h : tellT k c x = tellT l d y) : k = l ∧ c = d ∧ x = y := by
  have h1 := congrArg (fun s : ByteArray => s.data.toList) h
  simp only [tell_list] at h1
  obtain ⟨h2, h3⟩ := List.append_inj h1 (by rw [mark_len, mark_len])
  have hcd : c = d := markAt_one c hc d hd (by rw [h2])
  obtain ⟨r, e1, e2⟩ := txt_head k hk hk4 x
  obtain ⟨r', e3, e4⟩ := txt_head l hl hl4 y
  rw [e1, e3] at h3
  injection h3 with h4 h5
  have hkl := lead_apart k hk4 l hl4 hk hl h4
  subst hkl
  rw [e2, e4] at h5
  exact ⟨rfl, hcd, ba_ext (List.append_cancel_left h5)⟩
theorem tell_eq (k l c d : Nat) (x y : ByteArray) (hk : 1 ≤ k) (hk4 : k ≤ 4) (hl : 1 ≤ l) (hl4 : l ≤ 4) (hc : c < 3) (hd : d < 3) :
    ((tellT k c x).toList == (tellT l d y).toList) = ((k : Int) == (l : Int) && (x.toList == y.toList && (c : Int) == (d : Int))) := by
  rw [Bool.eq_iff_iff]
  simp only [beq_iff_eq, Bool.and_eq_true]
  constructor
  · intro h
    rw [Lib.toList_data, Lib.toList_data] at h
    obtain ⟨h1, h2, h3⟩ := tell_inj hk hk4 hl hl4 hc hd (ba_ext h)
    exact ⟨by omega, by rw [h3], by omega⟩
  · rintro ⟨h1, h2, h3⟩
    rw [Lib.toList_data, Lib.toList_data] at h2
    have := ba_ext h2
    obtain rfl : k = l := by omega
    obtain rfl : c = d := by omega
    rw [this]
theorem tell_eqI (k l c d : Int) (x y : ByteArray) (hk : 1 ≤ k) (hk4 : k ≤ 4) (hl : 1 ≤ l) (hl4 : l ≤ 4) (hc0 : 0 ≤ c) (hc : c < 3) (hd0 : 0 ≤ d) (hd : d < 3) :
    ((tellT k.toNat c.toNat x).toList == (tellT l.toNat d.toNat y).toList) = ((k == l) && ((x.toList == y.toList) && (c == d))) := by
  obtain ⟨k, rfl⟩ : ∃ n : Nat, k = n := ⟨k.toNat, by omega⟩
  obtain ⟨l, rfl⟩ : ∃ n : Nat, l = n := ⟨l.toNat, by omega⟩
  obtain ⟨c, rfl⟩ : ∃ n : Nat, c = n := ⟨c.toNat, by omega⟩
  obtain ⟨d, rfl⟩ : ∃ n : Nat, d = n := ⟨d.toNat, by omega⟩
  simp only [Int.toNat_natCast]
  exact tell_eq k l c d x y (by omega) (by omega) (by omega) (by omega) (by omega) (by omega)

theorem two_ans (w w' : World) (A B : Array Value) (t : TypeId) (hb : Below ((w.alloc (.cells A t)).alloc (.cells B t)).heap.size ((w.alloc (.cells A t)).alloc (.cells B t)) w') :
    (∀ i, w'.cell? ⟨w.heap.size, i, none⟩ = A[i]?) ∧ (∀ i, w'.cell? ⟨w.heap.size + 1, i, none⟩ = B[i]?) := by
  refine ⟨fun i => (hb.cell (p := ⟨w.heap.size, i, none⟩) (by simp; omega)).trans ?_, fun i => (hb.cell (p := ⟨w.heap.size + 1, i, none⟩) (by simp)).trans ?_⟩
  · rw [World.cell?_alloc_past _ _ _ (by simp), World.cell?_alloc_at _ _ _ _ rfl]
  · rw [World.cell?_alloc_at _ _ _ _ (by simp)]

end Go.Proofs.YtpbaobmegomfpaaDoor
