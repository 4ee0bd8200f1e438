/- The cells of a list of blocks, as one row; a row of blocks of the call's own. -/
import Derived.Test.YtnfcgafkkjakiaaFacts
import Derived.Test.YtnfcgafkkjakiaaMore
import Derived.Deep.AppendLies
namespace Go.Proofs.Ytnfcgafkkjakiaa
open Go.RowKit

theorem blk_info : (Try.prog.info? 55).map (fun i => (i.zero, i.size, i.bytes)) = some (some (.agg #[.slice none 0 0, .slice none 0 0, .int .i64 0, .int .i64 0, .slice none 0 0, .int .i64 0]), 6, 96) := by kernel_rfl

theorem six_cases {n j : Nat} (h : j < n * 6) : ∃ k r, k < n ∧ j = k * 6 + r ∧ (r = 0 ∨ r = 1 ∨ r = 2 ∨ r = 3 ∨ r = 4 ∨ r = 5) := ⟨j / 6, j % 6, by omega, by omega, by omega⟩

theorem blocks_cells {w : World} {B : Nat} {v : Value} {bs : List BlockM} (h : BlocksR w B v bs) (hne : 0 < bs.length) :
    ∃ (b off c : Nat) (xs : List Value), v = .slice (some ⟨b, off, none⟩) bs.length c ∧ b < B ∧ xs.length = bs.length * 6 ∧ (∀ j u, xs[j]? = some u → w.cell? ⟨b, off + j, none⟩ = some u) ∧ (∀ u ∈ xs, u.oneCell' = true) ∧
      ∀ j, j < bs.length * 6 → xs[j]? = w.cell? ⟨b, off + j, none⟩ := by
  obtain ⟨A, c, rfl, hm, hx⟩ := h
  obtain ⟨b, off, _, _, _, rfl, hb, _⟩ := hx 0 _ (List.getElem?_eq_getElem hne)
  have each : ∀ j, j < bs.length * 6 → ∃ u, w.cell? ⟨b, off + j, none⟩ = some u ∧ u.oneCell' = true := by
    intro j hj
    obtain ⟨k, r, hk, rfl, hr⟩ := six_cases hj
    obtain ⟨b', off', pv, cv, tv, he, _, e0, e1, e2, e3, e4, e5, hp, hc, ht, _⟩ := hx k _ (List.getElem?_eq_getElem hk)
    injection he with he
    injection he with h1 h2
    subst h1 h2
    obtain ⟨_, _, rfl, _⟩ := hp
    obtain ⟨_, _, rfl, _⟩ := hc
    obtain ⟨_, _, rfl, _⟩ := ht
    rcases hr with rfl | rfl | rfl | rfl | rfl | rfl
    · exact ⟨_, e0, rfl⟩
    · exact ⟨_, by rw [← Nat.add_assoc]; exact e1, rfl⟩
    · exact ⟨_, by rw [← Nat.add_assoc]; exact e2, rfl⟩
    · exact ⟨_, by rw [← Nat.add_assoc]; exact e3, rfl⟩
    · exact ⟨_, by rw [← Nat.add_assoc]; exact e4, rfl⟩
    · exact ⟨_, by rw [← Nat.add_assoc]; exact e5, rfl⟩
  have hget : ∀ j, j < bs.length * 6 → ((List.range (bs.length * 6)).map fun j => (w.cell? ⟨b, off + j, none⟩).getD (.bool false))[j]? = w.cell? ⟨b, off + j, none⟩ := by
    intro j hj
    obtain ⟨u, hu, _⟩ := each j hj
    rw [List.getElem?_map, List.getElem?_range hj, hu]
    simp [hu]
  refine ⟨b, off, c, (List.range (bs.length * 6)).map fun j => (w.cell? ⟨b, off + j, none⟩).getD (.bool false), rfl, hb, by simp, ?_, ?_, hget⟩
  · intro j u hu
    have hj : j < bs.length * 6 := by have := (List.getElem?_eq_some_iff.1 hu).1; simpa using this
    rw [hget j hj] at hu
    exact hu
  · intro u hu
    obtain ⟨j, hj, rfl⟩ := List.mem_map.1 hu
    obtain ⟨u, hu, h1⟩ := each j (List.mem_range.1 hj)
    rw [hu]
    exact h1

/-- a copy of the row, with a further block behind it, is a list of blocks -/
theorem blocks_copy {w W : World} {B g cap gi : Nat} {v : Value} {bs : List BlockM} {k n : Int} {xs news : List Value} {b off c : Nat} (h : BlocksR w B v bs) (hv : v = .slice (some ⟨b, off, none⟩) bs.length c) (hk : Keeps B w W)
    (hxl : xs.length = bs.length * 6) (hxc : ∀ j, j < bs.length * 6 → xs[j]? = w.cell? ⟨b, off + j, none⟩)
    (hr : ∀ j u, (xs ++ news)[j]? = some u → W.cell? ⟨g, 0 + j, none⟩ = some u) (hn : news = [.slice none 0 0, .slice (some ⟨gi, 0, none⟩) 1 1, .int .i64 4, .int .i64 (-1), .slice none 0 0, .int .i64 0])
    (hi : W.heap[gi]? = some (.cells #[.int .i64 1, .int .i64 k, .slice none 0 0, .int .i64 n] 49 (0, 0))) (hB : B ≤ W.heap.size) (hg : g < W.heap.size) (hl : bs.length ≤ 500) (hkw : I64 k) (hnw : I64 n) :
    BlocksR W W.heap.size (.slice (some ⟨g, 0, none⟩) (bs.length + 1) cap) (bs ++ [newBlock k n]) := by
  have h0 := h
  obtain ⟨A, c', hv', hm, hx⟩ := h0
  have hA : A = some ⟨b, off, none⟩ := by rw [hv] at hv'; injection hv' with h1; exact h1.symm
  subst hA
  refine ⟨some ⟨g, 0, none⟩, cap, by rw [List.length_append]; rfl, by rw [List.length_append]; simp; omega, fun i q hq => ?_⟩
  have hci : ∀ r, i < bs.length → r < 6 → W.cell? ⟨g, 0 + (i * 6 + r), none⟩ = w.cell? ⟨b, off + (i * 6 + r), none⟩ := by
    intro r hi hr6
    have hj : i * 6 + r < bs.length * 6 := by omega
    have h1 := hxc _ hj
    obtain ⟨u, hu⟩ : ∃ u, xs[i * 6 + r]? = some u := ⟨_, List.getElem?_eq_getElem (by omega)⟩
    rw [← h1, hu]
    exact hr _ u (by rw [List.getElem?_append_left (by omega)]; exact hu)
  rw [List.getElem?_append] at hq
  split at hq
  · rename_i hlt
    obtain ⟨b', off', pv, cv, tv, he, hb, e0, e1, e2, e3, e4, e5, hp, hc, ht, r⟩ := hx i q hq
    injection he with he
    injection he with h1 h2
    subst h1 h2
    refine ⟨g, 0, pv, cv, tv, rfl, hg, ?_, ?_, ?_, ?_, ?_, ?_, ?_, ?_, ?_, r⟩
    · exact (hci 0 hlt (by omega)).trans e0
    · rw [Nat.add_assoc]; exact (hci 1 hlt (by omega)).trans (by rw [← Nat.add_assoc]; exact e1)
    · rw [Nat.add_assoc]; exact (hci 2 hlt (by omega)).trans (by rw [← Nat.add_assoc]; exact e2)
    · rw [Nat.add_assoc]; exact (hci 3 hlt (by omega)).trans (by rw [← Nat.add_assoc]; exact e3)
    · rw [Nat.add_assoc]; exact (hci 4 hlt (by omega)).trans (by rw [← Nat.add_assoc]; exact e4)
    · rw [Nat.add_assoc]; exact (hci 5 hlt (by omega)).trans (by rw [← Nat.add_assoc]; exact e5)
    · have := hp.keeps hk
      obtain ⟨A2, c2, q1, q2, q3⟩ := this
      exact ⟨A2, c2, q1, q2, fun k p hp => by
        obtain ⟨b3, o3, f3, v3, z1, z2, z3, z4, z5, z6, z7, z8, z9⟩ := q3 k p hp
        exact ⟨b3, o3, f3, v3, z1, by omega, z3, z4, z5, z6, z7.more hB, z8.more hB, z9⟩⟩
    · have := hc.keeps hk
      obtain ⟨A2, c2, q1, q2, q3⟩ := this
      exact ⟨A2, c2, q1, q2, fun k p hp => by
        obtain ⟨b3, o3, v3, z1, z2, z3, z4, z5, z6, z7, z8⟩ := q3 k p hp
        exact ⟨b3, o3, v3, z1, by omega, z3, z4, z5, z6, z7.more hB, z8⟩⟩
    · exact (ht.keeps hk).more hB
  · rename_i hge
    have hi0 : i = bs.length := by
      have := (List.getElem?_eq_some_iff.1 hq).1
      simp at this
      omega
    subst hi0
    simp at hq
    subst hq
    have hcn : ∀ r u, news[r]? = some u → W.cell? ⟨g, 0 + (bs.length * 6 + r), none⟩ = some u := by
      intro r u hu
      refine hr _ u ?_
      rw [List.getElem?_append_right (by omega), hxl, Nat.add_sub_cancel_left]
      exact hu
    have ci := row_cells hi (rfl : W.heap[gi]? = W.heap[gi]?)
    have hgi : gi < W.heap.size := (Array.getElem?_eq_some_iff.1 hi).1
    refine ⟨g, 0, _, _, _, rfl, hg, hcn 0 _ (by rw [hn]; rfl), hcn 1 _ (by rw [hn]; rfl), hcn 2 _ (by rw [hn]; rfl), hcn 3 _ (by rw [hn]; rfl), hcn 4 _ (by rw [hn]; rfl), hcn 5 _ (by rw [hn]; rfl), ⟨none, 0, rfl, by simp [newBlock], fun k p hp => by simp [newBlock] at hp⟩, ⟨_, _, rfl, by simp [newBlock], fun j x hj => ?_⟩, Ints.nil _ _, show I64 4 from (by unfold I64; decide), show I64 (-1) from (by unfold I64; decide), show I64 0 from (by unfold I64; decide)⟩
    have hj0 : j = 0 ∧ x = ⟨1, k, [], n⟩ := by
      rcases j with _ | j
      · simp [newBlock] at hj
        exact ⟨rfl, hj.symm⟩
      · simp [newBlock] at hj
    obtain ⟨rfl, rfl⟩ := hj0
    exact ⟨gi, 0, _, rfl, hgi, ci _, ci _, ci _, ci _, Ints.nil _ _, show I64 1 from (by unfold I64; decide), hkw, hnw⟩

end Go.Proofs.Ytnfcgafkkjakiaa
