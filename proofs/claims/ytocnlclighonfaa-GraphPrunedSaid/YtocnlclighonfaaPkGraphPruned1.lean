/- What GraphPruned rests on, part 1: Awake3. -/
import Derived.Test.YtocnlclighonfaaPkStrictPrunes2

namespace Go.Proofs.Ytocnlclighonfaa
open Go.RowKit Go.Maps

set_option maxHeartbeats 1000000 in
theorem awake3_any (w : World) : Calls Try.prog 17 #[] w fun e w' => e = .returned (.bool true) ∧ Below w.heap.size w w' := by
  obtain ⟨W2, hW2⟩ : ∃ W2 : World, W2 = (w.alloc (.cells #[.int .i64 1, .int .i64 0, .slice none 0 0, .int .i64 5] 81)).alloc (.cells #[.slice none 0 0, .slice (some ⟨w.heap.size, 0, none⟩) 1 1, .int .i64 3, .int .i64 0, .slice none 0 0, .int .i64 0] 54) := ⟨_, rfl⟩
  have hsz : W2.heap.size = w.heap.size + 2 := by rw [hW2]; simp
  have hBl : Below w.heap.size w W2 := by rw [hW2]; exact (((Below.refl _ w).alloc (Nat.le_refl _) _).alloc (by simp) _)
  have h0 : W2.heap[w.heap.size]? = some (.cells #[.int .i64 1, .int .i64 0, .slice none 0 0, .int .i64 5] 81 (0, 0)) := by
    rw [hW2, Below.heap_alloc _ _ _ (by simp)]
    exact heap_alloc_new w _
  have h1 : W2.heap[w.heap.size + 1]? = some (.cells #[.slice none 0 0, .slice (some ⟨w.heap.size, 0, none⟩) 1 1, .int .i64 3, .int .i64 0, .slice none 0 0, .int .i64 0] 54 (0, 0)) := by
    rw [hW2]
    have := heap_alloc_new (w.alloc (.cells #[.int .i64 1, .int .i64 0, .slice none 0 0, .int .i64 5] 81)) (.cells #[.slice none 0 0, .slice (some ⟨w.heap.size, 0, none⟩) 1 1, .int .i64 3, .int .i64 0, .slice none 0 0, .int .i64 0] 54)
    simpa using this
  have HC := hideI (gOrder_any awakeF (w.heap.size + 2) (.slice none 0 0) _ W2 (Ints.nil _ _) (awake_reads w W2 h0 h1) (by omega) awake_uses)
  have HBl := hideI hBl
  have HSZ := hideI hsz
  clear h0 h1 hsz hBl
  subst hW2
  go_enter Try.func17, Try.ntmps17
  go_wp2_with (first
    | (go_at_call 16; go_must (refine HC.out.mono ?_); rintro e w1 (⟨hbad, _⟩ | ⟨_, o, g, cap, rfl, ho, _, _, hown, hb⟩); (exact absurd (congrArg Prod.fst awake_look) hbad); have ho := awake_order ho; subst ho; have hc := nat_cell hown (i := 0) rfl; have HB := hideI hb; clear hown hb))
  go_ret
  exact ⟨rfl, HBl.out.trans (HB.out.mono (by rw [HSZ.out]; omega))⟩

end Go.Proofs.Ytocnlclighonfaa
