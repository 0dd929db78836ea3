/-
  Plain mathematics: a map that counts the writers of each row.
-/
import Derived.Test.YtpbaobmegomfpaaDoorBackM3
import Derived.Maps.OwnSet
import Derived.Maps.Views
namespace Go.Proofs.YtpbaobmegomfpaaDoor
open Go.RowKit Go.Maps
set_option linter.unusedVariables false

/-- a key as the map has it -/
def kl (s : ByteArray) : Lit := .string s.data.toList
theorem kl_ne {a b : ByteArray} (h : a ≠ b) : kl a ≠ kl b := fun e => h (by
  unfold kl at e
  injection e with e
  exact ba_ext e)
/-- how often a key occurs -/
def cntL (l : PL) (key : ByteArray) : Nat := (l.filter fun p => eqB p.1 key).length
theorem cntL_cons (p : ByteArray × ByteArray) (l : PL) (key : ByteArray) : cntL (p :: l) key = (if eqB p.1 key then 1 else 0) + cntL l key := by
  unfold cntL
  rw [List.filter_cons]
  split
  · rw [List.length_cons]; omega
  · omega
theorem cntL_append (l m : PL) (key : ByteArray) : cntL (l ++ m) key = cntL l key + cntL m key := by unfold cntL; rw [List.filter_append, List.length_append]
theorem cntL_le (l : PL) (key : ByteArray) : cntL l key ≤ l.length := by unfold cntL; exact List.length_filter_le _ _
theorem cntL_nil (key : ByteArray) : cntL [] key = 0 := rfl

structure MapOk (D : DataW Unit) (R : PL) (cnt : ByteArray → Nat) : Prop where
  size : Maps.size D = R.length
  has : ∀ key, Maps.has D (kl key) = (atL R key).isSome
  at_ : ∀ key, D.atKey (kl key) (.lit (.int .i64 0)) = .lit (.int .i64 (cnt key))
theorem mapOk_empty : MapOk (.map []) [] (fun _ => 0) := ⟨rfl, fun _ => rfl, fun _ => rfl⟩
theorem mapOk_put {D : DataW Unit} {R : PL} {cnt : ByteArray → Nat} {k v : ByteArray} {c : Nat} (h : MapOk D R cnt) (ht : Tidy D) (hr : risingB R = true) (hk : WideAt.IsKeyLit (kl k)) :
    MapOk (D.put (kl k) (.lit (.int .i64 c))) (insL R k v) (fun key => if eqB k key then c else cnt key) := by
  refine ⟨?_, fun key => ?_, fun key => ?_⟩
  · rw [size_put ht, h.has, ins_length hr, h.size]
  · rw [at_ins hr]
    cases e : eqB k key
    · rw [has_put_other (fun e' => kl_ne (eqB_false.1 e) e'.symm), h.has]; rfl
    · rw [← eqB_iff.1 e, has_put_same ht.isMap hk]; rfl
  · cases e : eqB k key
    · rw [atKey_put_other (fun e' => kl_ne (eqB_false.1 e) e'.symm), h.at_]; rfl
    · rw [← eqB_iff.1 e, atKey_put_same ht.isMap hk]; rfl
theorem MapOk.cnt {D : DataW Unit} {R : PL} {cnt cnt' : ByteArray → Nat} (h : MapOk D R cnt) (e : ∀ key, cnt key = cnt' key) : MapOk D R cnt' := ⟨h.size, h.has, fun key => by rw [h.at_, e]⟩
theorem ins_last {l : PL} {k v : ByteArray} (h : ∀ q ∈ l, ltB q.1 k = true) : insL l k v = l ++ [(k, v)] := by
  induction l with
  | nil => rfl
  | cons p l ih => rw [insL_lt (h p (by simp)), ih (fun q hq => h q (by simp [hq]))]; rfl
theorem ins_take {l : PL} (h : risingB l = true) {k : Nat} (hk : k < l.length) : insL (l.take k) l[k].1 l[k].2 = l.take (k + 1) := by
  rw [ins_last, List.take_succ_eq_append_getElem hk]
  intro q hq
  obtain ⟨j, hj, rfl⟩ := List.getElem_of_mem hq
  simp only [List.length_take] at hj
  rw [List.getElem_take]
  exact rising_lt h j k (by omega) hk
theorem rising_take {l : PL} (h : risingB l = true) (k : Nat) : risingB (l.take k) = true := by
  rw [risingB_iff] at h ⊢
  intro j hj
  simp only [List.length_take] at hj
  rw [List.getElem_take, List.getElem_take]
  exact h j (by omega)
theorem allF_ins {R : PL} (h : risingB R = true) (p : ByteArray × ByteArray) : plusL R p.1 ⟨#[]⟩ = insL R p.1 ⟨#[]⟩ := plus_ins h
end Go.Proofs.YtpbaobmegomfpaaDoor
