/-
  From an argument's reading to what lies in memory: lists of pairs, sessions, worlds.
-/
import Derived.Test.YtpbaobmegomfpaaDoorWld
import Derived.Test.YtpbaobmegomfpaaDoorRows
import Derived.Deep.Slices
import Derived.Deep.SlicePairs
import Derived.SizedLaws
import Derived.ProofKit
import Derived.Lib.SmallJoins
namespace Go.Proofs.YtpbaobmegomfpaaDoor
open Go.RowKit Go.ChangeShapes Go.WideShapes Go.Deep Go.Joins
set_option linter.unusedVariables false
set_option maxRecDepth 100000

theorem weightsAll_mem {H : Type} {P : Program} {e : TypeId} {d : DataW H} {n : Nat} : ∀ {l : List (DataW H)}, d ∈ l → n ∈ d.weights P e → n ∈ DataW.weightsAll P e l
  | x :: l, hd, hn => by
    simp only [DataW.weightsAll, List.mem_append]
    rcases List.mem_cons.1 hd with rfl | h
    · exact .inl hn
    · exact .inr (weightsAll_mem h hn)
theorem spot_none {w : World} {a : Addr} {u : Value} (h : w.cell? a = some u) : a = ⟨a.block, a.off, none⟩ := by
  obtain ⟨b, o, s⟩ := a
  cases s with
  | none => rfl
  | some x => unfold World.cell? at h; simp at h; split at h <;> simp at h

section
variable {H : Type} {enc : TypeId × Value → H} {w : World} {base : Nat} {spare : Nat → Bool} {held : Bool}
theorem open_lst {fuel : Nat} {v : Value} {x : DataW H × List MemPlace} (h : DataW.trod enc Tryd.prog w base spare held fuel 46 [v] = some x)
    (hz : ∀ n ∈ x.1.weights Tryd.prog 46, n ≤ reachBytes) : ∃ l : PL, Lst w w.heap.size v l := by
  rcases open_slice_pairs Tryd.underlying46 Tryd.underlying81 (show Tryd.prog.cellsOf 81 = 2 by kernel_rfl) rfl rfl (show Tryd.prog.cellsOf 9 = 1 by kernel_rfl) (show Tryd.prog.cellsOf 9 = 1 by kernel_rfl) h with ⟨hcs, hx⟩ | ⟨a, len, cap, m, n, V0, V1, D0, D1, P0, P1, hcs, hb, hl, hm, hmm, rfl, hi⟩
  · obtain rfl : v = .slice none 0 0 := by simpa using hcs
    exact ⟨[], ⟨none, 0, rfl, Nat.le_refl _⟩, by simp, by simp, fun h => absurd h (by simp), fun n c h => by injection h with _ _ h; exact h.symm⟩
  · obtain rfl : v = .slice (some a) len cap := by simpa using hcs
    have hlm : len ≤ m := by rw [hmm]; split <;> omega
    have each : ∀ i, i < len → ∃ p : ByteArray × ByteArray, w.cell? (a.add (i * 2)) = some (.string p.1) ∧ w.cell? (a.add (i * 2 + 1)) = some (.string p.2) ∧ p.1.size ≤ 140737488351232 ∧ p.2.size ≤ 140737488351232 := by
      intro i hil
      obtain ⟨c0, c1, t0, t1⟩ := hi i (by omega)
      obtain ⟨s0, e0, d0, _⟩ := DataW.trod_string Tryd.underlying9 t0
      obtain ⟨s1, e1, d1, _⟩ := DataW.trod_string Tryd.underlying9 t1
      have e1' : V1 i = .string s1 := by simpa using e1
      have e0' : V0 i = .string s0 := by simpa using e0
      simp only [Prod.mk.injEq] at d0 d1
      have hw : ∀ n, n = s0.data.toList.length ∨ n = s1.data.toList.length → n ≤ reachBytes := fun n hn => hz n (by
        simp only [DataW.weights, Tryd.underlying46, List.mem_cons, List.mem_append]
        refine .inr (.inl (weightsAll_mem (d := .agg [D0 i, D1 i]) (List.mem_map.2 ⟨i, List.mem_range.2 hil, rfl⟩) ?_))
        rw [d0.1, d1.1]
        simp only [DataW.weights, Tryd.underlying81, List.map_cons, List.map_nil, DataW.weightsEach, List.mem_append, List.mem_singleton, List.not_mem_nil, or_false]
        exact hn)
      have z0 := hw _ (.inl rfl)
      have z1 := hw _ (.inr rfl)
      exact ⟨(s0, s1), by rw [c0, e0'], by rw [c1, e1'], by simpa [reachBytes] using z0, by simpa [reachBytes] using z1⟩
    obtain ⟨f, hf⟩ := choose_lt each
    have hby := hz ((len + (m - len)) * 32) (by
      simp only [DataW.weights, Tryd.underlying46, List.mem_cons, List.length_map, List.length_range]
      exact .inl (by rw [show Tryd.prog.bytesOf 81 = 32 by kernel_rfl]))
    have hll : ((List.range len).map f).length = len := by simp
    refine ⟨(List.range len).map f, ⟨some a, cap, by rw [hll], by rw [hll]; exact hl⟩, by rw [hll]; unfold reachBytes at hby; omega, ?_, fun hn => ?_, fun n c h => by cases h⟩
    · intro p hp
      obtain ⟨i, hil, rfl⟩ := List.mem_map.1 hp
      exact ⟨(hf i (List.mem_range.1 hil)).2.2.1, (hf i (List.mem_range.1 hil)).2.2.2⟩
    · rw [hll] at hn
      have h0 := (hf 0 hn).1
      rw [Nat.zero_mul, show a.add 0 = a from rfl] at h0
      have ha := spot_none h0
      refine ⟨a.block, a.off, cap, by rw [hll, ← ha], World.block_lt_of_cell? w a h0, fun i hil => ?_⟩
      rw [hll] at hil
      obtain ⟨g0, g1, _⟩ := hf i hil
      rw [ha, add_plain] at g0 g1
      simp only [List.getElem_map, List.getElem_range]
      exact ⟨g0, g1⟩

theorem sess_cells {n : Nat} {cs : List Value} {x : DataW H × List MemPlace} (h : DataW.trod enc Tryd.prog w base spare held n 77 cs = some x) (hz : ∀ n ∈ x.1.weights Tryd.prog 77, n ≤ reachBytes) :
    ∃ (s : Sess) (v1 v2 v3 v4 : Value), cs = [.int .i64 s.st, v1, v2, v3, v4] ∧ Lst w w.heap.size v1 s.set ∧ Lst w w.heap.size v2 s.prep ∧ Lst w w.heap.size v3 s.sav ∧ Lst w w.heap.size v4 s.wr := by
  obtain ⟨xs, k, _, rfl, hl, hxl, hf⟩ := DataW.trod_struct Tryd.underlying77 h
  rw [show Tryd.prog.cellsOf 77 = 5 by kernel_rfl] at hl
  match xs, hxl, cs, hl with
  | [y0, y1, y2, y3, y4], _, [c0, c1, c2, c3, c4], _ =>
    have ei : Tryd.prog.cellsOf 3 = 1 := by kernel_rfl
    have ep : Tryd.prog.cellsOf 46 = 1 := by kernel_rfl
    have g0 : DataW.trod enc Tryd.prog w base spare held k 3 ((([c0, c1, c2, c3, c4] : List Value).drop 0).take (Tryd.prog.cellsOf 3)) = some y0 := hf 0 _ rfl
    rw [ei] at g0
    have g0 : DataW.trod enc Tryd.prog w base spare held k 3 [c0] = some y0 := g0
    have g1 : DataW.trod enc Tryd.prog w base spare held k 46 ((([c0, c1, c2, c3, c4] : List Value).drop 1).take (Tryd.prog.cellsOf 46)) = some y1 := hf 1 _ rfl
    rw [ep] at g1
    have g1 : DataW.trod enc Tryd.prog w base spare held k 46 [c1] = some y1 := g1
    have g2 : DataW.trod enc Tryd.prog w base spare held k 46 ((([c0, c1, c2, c3, c4] : List Value).drop 2).take (Tryd.prog.cellsOf 46)) = some y2 := hf 2 _ rfl
    rw [ep] at g2
    have g2 : DataW.trod enc Tryd.prog w base spare held k 46 [c2] = some y2 := g2
    have g3 : DataW.trod enc Tryd.prog w base spare held k 46 ((([c0, c1, c2, c3, c4] : List Value).drop 3).take (Tryd.prog.cellsOf 46)) = some y3 := hf 3 _ rfl
    rw [ep] at g3
    have g3 : DataW.trod enc Tryd.prog w base spare held k 46 [c3] = some y3 := g3
    have g4 : DataW.trod enc Tryd.prog w base spare held k 46 ((([c0, c1, c2, c3, c4] : List Value).drop 4).take (Tryd.prog.cellsOf 46)) = some y4 := hf 4 _ rfl
    rw [ep] at g4
    have g4 : DataW.trod enc Tryd.prog w base spare held k 46 [c4] = some y4 := g4
    obtain ⟨st, e0, _, _⟩ := DataW.trod_int Tryd.underlying3 g0
    obtain rfl : c0 = .int .i64 st := by simpa using e0
    have hz' : ∀ n, n ∈ y1.1.weights Tryd.prog 46 ∨ n ∈ y2.1.weights Tryd.prog 46 ∨ n ∈ y3.1.weights Tryd.prog 46 ∨ n ∈ y4.1.weights Tryd.prog 46 → n ≤ reachBytes := fun n hn => hz n (by
      simp only [DataW.weights, Tryd.underlying77, List.map_cons, List.map_nil, DataW.weightsEach, List.mem_append]
      rcases hn with h | h | h | h
      · exact .inr (.inl h)
      · exact .inr (.inr (.inl h))
      · exact .inr (.inr (.inr (.inl h)))
      · exact .inr (.inr (.inr (.inr (.inl h)))))
    obtain ⟨l1, h1⟩ := open_lst g1 (fun n hn => hz' n (.inl hn))
    obtain ⟨l2, h2⟩ := open_lst g2 (fun n hn => hz' n (.inr (.inl hn)))
    obtain ⟨l3, h3⟩ := open_lst g3 (fun n hn => hz' n (.inr (.inr (.inl hn))))
    obtain ⟨l4, h4⟩ := open_lst g4 (fun n hn => hz' n (.inr (.inr (.inr hn))))
    exact ⟨⟨st, l1, l2, l3, l4⟩, _, _, _, _, rfl, h1, h2, h3, h4⟩

theorem open_sss {fuel : Nat} {v : Value} {x : DataW H × List MemPlace} (h : DataW.trod enc Tryd.prog w base spare held fuel 47 [v] = some x)
    (hz : ∀ n ∈ x.1.weights Tryd.prog 47, n ≤ reachBytes) : ∃ ss : List Sess, Sss w w.heap.size v ss := by
  rcases open_slice Tryd.underlying47 h with ⟨hcs, hx⟩ | ⟨a, len, cap, m, n, D, Pl, hcs, hb, hl, hm, hmm, rfl, hi⟩
  · obtain rfl : v = .slice none 0 0 := by simpa using hcs
    exact ⟨[], ⟨none, 0, rfl, Nat.le_refl _⟩, by simp, fun h => absurd h (by simp)⟩
  · obtain rfl : v = .slice (some a) len cap := by simpa using hcs
    have hlm : len ≤ m := by rw [hmm]; split <;> omega
    have each : ∀ i, i < len → ∃ s : Sess, ∃ v1 v2 v3 v4, (∀ j, j < 5 → w.cell? (a.add (i * 5 + j)) = [Value.int .i64 s.st, v1, v2, v3, v4][j]?) ∧ Lst w w.heap.size v1 s.set ∧ Lst w w.heap.size v2 s.prep ∧ Lst w w.heap.size v3 s.sav ∧ Lst w w.heap.size v4 s.wr := by
      intro i hil
      obtain ⟨cs, hc, ht⟩ := hi i (by omega)
      rw [show Tryd.prog.cellsOf 77 = 5 by kernel_rfl] at hc
      obtain ⟨_, _, hcell⟩ := World.cells?_some hc
      obtain ⟨s, v1, v2, v3, v4, rfl, h1, h2, h3, h4⟩ := sess_cells ht (fun n hn => hz n (by
        simp only [DataW.weights, Tryd.underlying47, List.mem_cons, List.mem_append]
        exact .inr (.inl (weightsAll_mem (d := D i) (List.mem_map.2 ⟨i, List.mem_range.2 hil, rfl⟩) hn))))
      refine ⟨s, v1, v2, v3, v4, fun j hj => ?_, h1, h2, h3, h4⟩
      have := hcell j hj
      rwa [Go.Deep.add_add] at this
    have : Inhabited Sess := ⟨⟨0, [], [], [], []⟩⟩
    obtain ⟨f, hf⟩ := choose_lt each
    have hby := hz ((len + (m - len)) * 104) (by
      simp only [DataW.weights, Tryd.underlying47, List.mem_cons, List.length_map, List.length_range]
      exact .inl (by rw [show Tryd.prog.bytesOf 77 = 104 by kernel_rfl]))
    have hll : ((List.range len).map f).length = len := by simp
    refine ⟨(List.range len).map f, ⟨some a, cap, by rw [hll], by rw [hll]; exact hl⟩, by rw [hll]; unfold reachBytes at hby; omega, fun hn => ?_⟩
    rw [hll] at hn
    obtain ⟨_, _, _, _, h0, _⟩ := hf 0 hn
    have h00 := h0 0 (by omega)
    rw [show a.add (0 * 5 + 0) = a from rfl] at h00
    have ha := spot_none (h00.trans rfl)
    refine ⟨a.block, a.off, cap, by rw [hll, ← ha], World.block_lt_of_cell? w a (h00.trans rfl), fun i hil => ?_⟩
    rw [hll] at hil
    obtain ⟨v1, v2, v3, v4, hc, h1, h2, h3, h4⟩ := hf i hil
    rw [ha] at hc
    simp only [add_plain] at hc
    simp only [List.getElem_map, List.getElem_range]
    have q0 := hc 0 (by omega)
    have q1 := hc 1 (by omega)
    have q2 := hc 2 (by omega)
    have q3 := hc 3 (by omega)
    have q4 := hc 4 (by omega)
    exact ⟨v1, v2, v3, v4, q0, q1, q2, q3, q4, h1, h2, h3, h4⟩
end

section
variable {H : Type} {enc : TypeId × Value → H} {w : World} {base : Nat} {spare : Nat → Bool} {held : Bool}
theorem open_world {r : Reach} {b0 : Nat} {v : Value} {d : DataW H} {p : List MemPlace} (hv : Value.okWide Tryd.prog w r b0 49 v) (h : DataW.Trod enc Tryd.prog w base spare held 49 v d p)
    (hz : ∀ n ∈ d.weights Tryd.prog 49, n ≤ reachBytes) : ∃ (a b : Value) (W : Wd), v = .agg #[a, b] ∧ Wld w w.heap.size a b W := by
  obtain ⟨c0, c1, y0, y1, m, rfl, rfl, rfl, h0, h1⟩ := open_agg2 Tryd.underlying49 (by kernel_rfl) (show Tryd.prog.cellsOf 49 = 2 by kernel_rfl) hv h
  have hz' : ∀ n, n ∈ y0.1.weights Tryd.prog 46 ∨ n ∈ y1.1.weights Tryd.prog 47 → n ≤ reachBytes := fun n hn => hz n (by
    simp only [DataW.weights, Tryd.underlying49, List.map_cons, List.map_nil, DataW.weightsEach, List.mem_append]
    rcases hn with h | h
    · exact .inl h
    · exact .inr (.inl h))
  obtain ⟨l, hl⟩ := open_lst h0 (fun n hn => hz' n (.inl hn))
  obtain ⟨ss, hs⟩ := open_sss h1 (fun n hn => hz' n (.inr hn))
  exact ⟨c0, c1, ⟨l, ss⟩, rfl, hl, hs⟩
end
end Go.Proofs.YtpbaobmegomfpaaDoor
