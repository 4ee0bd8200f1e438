/- awake: the simplest function is known. -/
import Derived.Test.YtbhfhjmebbaimaaSizes
namespace Go.Proofs.Ytbhfhjmebbaimaa
open Go.RowKit Go.Maps

def awakeF : FuncM := ⟨[], 0, 0, [⟨[], [⟨1, 0, [], 5⟩], ⟨3, 0, [], 0⟩⟩]⟩

theorem awake_look : lookM awakeF = (0, [(0, 1)]) := by decide
theorem awake_size : sizeM awakeF = 2 := by decide

theorem awake_reads (w W : World) (h0 : W.heap[w.heap.size]? = some (.cells #[.int .i64 1, .int .i64 0, .slice none 0 0, .int .i64 5] 49 (0, 0)))
    (h1 : W.heap[w.heap.size + 1]? = some (.cells #[.slice none 0 0, .slice (some ⟨w.heap.size, 0, none⟩) 1 1, .int .i64 3, .int .i64 0, .slice none 0 0, .int .i64 0] 55 (0, 0))) :
    BlocksR W (w.heap.size + 2) (.slice (some ⟨w.heap.size + 1, 0, none⟩) 1 1) awakeF.blocks := by
  have c0 := row_cells h0 (rfl : W.heap[w.heap.size]? = W.heap[w.heap.size]?)
  have c1 := row_cells h1 (rfl : W.heap[w.heap.size + 1]? = W.heap[w.heap.size + 1]?)
  refine ⟨_, _, rfl, by decide, fun k q hk => ?_⟩
  have hq : k = 0 ∧ q = ⟨[], [⟨1, 0, [], 5⟩], ⟨3, 0, [], 0⟩⟩ := by
    rcases k with _ | k
    · simp [awakeF] at hk
      exact ⟨rfl, hk.symm⟩
    · simp [awakeF] at hk
  obtain ⟨rfl, rfl⟩ := hq
  refine ⟨_, 0, _, _, _, rfl, by omega, c1 _, c1 _, c1 _, c1 _, c1 _, c1 _, ⟨none, 0, rfl, by decide, fun k p hp => by simp at hp⟩, ⟨_, _, rfl, by decide, fun k x hx => ?_⟩, Ints.nil _ _, by unfold I64; decide, by unfold I64; decide, by unfold I64; decide⟩
  have hx' : k = 0 ∧ x = ⟨1, 0, [], 5⟩ := by
    rcases k with _ | k
    · simp at hx
      exact ⟨rfl, hx.symm⟩
    · simp at hx
  obtain ⟨rfl, rfl⟩ := hx'
  exact ⟨_, 0, _, rfl, by omega, c0 _, c0 _, c0 _, c0 _, Ints.nil _ _, by unfold I64; decide, by unfold I64; decide, by unfold I64; decide⟩

set_option maxHeartbeats 1000000 in
theorem awake_any (w : World) : Calls Try.prog 12 #[] w fun e w' => e = .returned (.bool true) ∧ Below w.heap.size w w' := by
  obtain ⟨W3, hW3⟩ : ∃ W3 : World, W3 = ((w.alloc (.cells #[.int .i64 1, .int .i64 0, .slice none 0 0, .int .i64 5] 49)).alloc (.cells #[.slice none 0 0, .slice (some ⟨w.heap.size, 0, none⟩) 1 1, .int .i64 3, .int .i64 0, .slice none 0 0, .int .i64 0] 55)).alloc (.cells #[.slice none 0 0, .int .i64 0, .int .i64 0, .slice (some ⟨w.heap.size + 1, 0, none⟩) 1 1] 25) := ⟨_, rfl⟩
  have hsz : W3.heap.size = w.heap.size + 3 := by rw [hW3]; simp
  have hBl : Below w.heap.size w W3 := by rw [hW3]; exact ((((Below.refl _ w).alloc (Nat.le_refl _) _).alloc (by simp) _).alloc (by simp; omega) _)
  have h0 : W3.heap[w.heap.size]? = some (.cells #[.int .i64 1, .int .i64 0, .slice none 0 0, .int .i64 5] 49 (0, 0)) := by
    rw [hW3, Below.heap_alloc _ _ _ (by simp; omega), Below.heap_alloc _ _ _ (by simp)]
    exact heap_alloc_new w _
  have h1 : W3.heap[w.heap.size + 1]? = some (.cells #[.slice none 0 0, .slice (some ⟨w.heap.size, 0, none⟩) 1 1, .int .i64 3, .int .i64 0, .slice none 0 0, .int .i64 0] 55 (0, 0)) := by
    rw [hW3, Below.heap_alloc _ _ _ (by simp)]
    have := heap_alloc_new (w.alloc (.cells #[.int .i64 1, .int .i64 0, .slice none 0 0, .int .i64 5] 49)) (.cells #[.slice none 0 0, .slice (some ⟨w.heap.size, 0, none⟩) 1 1, .int .i64 3, .int .i64 0, .slice none 0 0, .int .i64 0] 55)
    simpa using this
  have h2 : W3.heap[w.heap.size + 1 + 1]? = some (.cells #[.slice none 0 0, .int .i64 0, .int .i64 0, .slice (some ⟨w.heap.size + 1, 0, none⟩) 1 1] 25 (0, 0)) := by
    rw [hW3]
    have := heap_alloc_new ((w.alloc (.cells #[.int .i64 1, .int .i64 0, .slice none 0 0, .int .i64 5] 49)).alloc (.cells #[.slice none 0 0, .slice (some ⟨w.heap.size, 0, none⟩) 1 1, .int .i64 3, .int .i64 0, .slice none 0 0, .int .i64 0] 55)) (.cells #[.slice none 0 0, .int .i64 0, .int .i64 0, .slice (some ⟨w.heap.size + 1, 0, none⟩) 1 1] 25)
    simpa using this
  have hid : ∀ u ∈ usesM awakeF, I64 u.1 := by
    intro u hu
    simp [usesM, awakeF, usesBlock, usesInstr, usesTerm, takesS, shapeS] at hu
    subst hu
    unfold I64
    decide
  have hR := awake_reads w W3 h0 h1
  have HS := hideI (size_any awakeF (w.heap.size + 2) (.slice none 0 0) _ W3 (Ints.nil _ _) hR (by omega) hid)
  have HC : Hid (∀ W, Below W3.heap.size W3 W → Calls Try.prog 29 #[.agg #[.slice none 0 0, .int .i64 awakeF.arrays, .int .i64 awakeF.cells, .slice (some ⟨w.heap.size + 1, 0, none⟩) 1 1]] W fun e w' => e = .returned (.int .i64 (lookM awakeF).1) ∧ Below W.heap.size W w') :=
    fun W hW => check_any awakeF (w.heap.size + 2) (.slice none 0 0) _ W (Ints.nil _ _) (hR.keeps (Keeps.of_below (hW.mono (by omega)))) (by have := hW.size; omega) hid
  have e1 : sizeOut awakeF = 2 := by unfold sizeOut; rw [awake_look, awake_size]; rfl
  rw [e1, awake_look] at HS
  rw [awake_look] at HC
  have H2 := hideI h2
  have HBl := hideI hBl
  have HSZ := hideI hsz
  clear h0 h1 h2 hsz hBl hR hid e1
  subst hW3
  go_enter Try.func12, Try.ntmps12
  go_wp2_with (first
    | (go_at_call 9; refine HS.out.mono ?_; rintro e w1 ⟨rfl, hb1⟩; have k1 := row_cells H2.out (hb1.block _ (by rw [HSZ.out]; omega)); have HB1 := hideI hb1; clear hb1)
    | (go_at_call 29; refine (HC.out _ HB1.out).mono ?_; rintro e w2 ⟨rfl, hb2⟩; have HB2 := hideI hb2; clear hb2))
  go_ret
  exact ⟨rfl, (HBl.out.trans (HB1.out.mono (by rw [HSZ.out]; omega))).trans (HB2.out.mono (by have := HB1.out.size; rw [HSZ.out] at this; omega))⟩

end Go.Proofs.Ytbhfhjmebbaimaa
