/- The rounds of modular: back, shorter, before, next. -/
import Derived.Test.YtidebjcnmabggaaDoorMoM
import Derived.Test.YtidebjcnmabggaaDoorMoDiv
import Derived.Test.YtidebjcnmabggaaDoorLate
import Derived.Shelf.Bits.Mul64
namespace Go.Proofs.YtidebjcnmabggaaDoor.Mo
open Go.RowKit

theorem row_cells {w w' : World} {g : Nat} {cs : Array Value} {t : TypeId} (h : w.heap[g]? = some (.cells cs t (0, 0))) (hk : w'.heap[g]? = w.heap[g]?) : ∀ o, w'.cell? ⟨g, o, none⟩ = cs[o]? :=
  fun o => cell_of_row w' g o cs t (0, 0) (hk.trans h)

/-- a round as it lies in memory -/
def RdV (w : World) (b T s lo hi : Nat) : Prop := w.cell? ⟨b, 0, none⟩ = some (.int .u64 (T : Int)) ∧ w.cell? ⟨b, 1, none⟩ = some (.int .u64 (s : Int)) ∧ w.cell? ⟨b, 2, none⟩ = some (.int .u64 (lo : Int)) ∧ w.cell? ⟨b, 3, none⟩ = some (.int .u64 (hi : Int))

theorem RdV.of {w : World} {b T s lo hi : Nat} (h : w.heap[b]? = some (.cells #[.int .u64 (T : Int), .int .u64 (s : Int), .int .u64 (lo : Int), .int .u64 (hi : Int)] 44 (0, 0))) : RdV w b T s lo hi :=
  ⟨row_cells h rfl 0, row_cells h rfl 1, row_cells h rfl 2, row_cells h rfl 3⟩
theorem RdV.keep {w w' : World} {b T s lo hi B : Nat} (h : RdV w b T s lo hi) (hb : Below B w w') (hB : b < B) : RdV w' b T s lo hi :=
  ⟨(hb.cell (p := ⟨b, 0, none⟩) hB).trans h.1, (hb.cell (p := ⟨b, 1, none⟩) hB).trans h.2.1, (hb.cell (p := ⟨b, 2, none⟩) hB).trans h.2.2.1, (hb.cell (p := ⟨b, 3, none⟩) hB).trans h.2.2.2⟩

theorem put4 {W : World} {b : Nat} {z0 z1 z2 z3 : Value} {t : TypeId} (v0 v1 v2 v3 : Value) (h : W.heap[b]? = some (.cells #[z0, z1, z2, z3] t (0, 0))) :
    ((((W.setCell ⟨b, 0, none⟩ v0).setCell ⟨b, 1, none⟩ v1).setCell ⟨b, 2, none⟩ v2).setCell ⟨b, 3, none⟩ v3).heap[b]? = some (.cells #[v0, v1, v2, v3] t (0, 0)) := by
  have h1 := heap_setCell_same W b 0 _ _ v0 h
  have h2 := heap_setCell_same _ b 1 _ _ v1 h1
  have h3 := heap_setCell_same _ b 2 _ _ v2 h2
  have h4 := heap_setCell_same _ b 3 _ _ v3 h3
  simpa using h4

/-- a result of four numbers that is to be written -/
structure Res4 (W : World) (b : Nat) (z : Value) : Prop where
  row : W.heap[b]? = some (.cells #[z, z, z, z] 44 (0, 0))
theorem Res4.keep {w w' : World} {b B : Nat} {z : Value} (h : Res4 w b z) (hb : Below B w w') (hB : b < B) : Res4 w' b z := ⟨(hb.block b hB).trans h.row⟩
theorem Res4.c0 {w : World} {b : Nat} {z : Value} (h : Res4 w b z) : w.cell? ⟨b, 0, none⟩ = some z := row_cells h.row rfl 0
theorem Res4.c1 {w : World} {b : Nat} {z : Value} (h : Res4 w b z) : w.cell? ⟨b, 1, none⟩ = some z := row_cells h.row rfl 1
theorem Res4.c2 {w : World} {b : Nat} {z : Value} (h : Res4 w b z) : w.cell? ⟨b, 2, none⟩ = some z := row_cells h.row rfl 2
theorem Res4.c3 {w : World} {b : Nat} {z : Value} (h : Res4 w b z) : w.cell? ⟨b, 3, none⟩ = some z := row_cells h.row rfl 3
theorem Res4.fz {w : World} {b : Nat} {z : Value} (h : Res4 w b z) (i : Nat) : w.frozen? ⟨b, i, none⟩ = false := frozen_of_row w _ i _ _ h.row

set_option maxRecDepth 100000 in
theorem back_any (T s lo hi x : Nat) (h0 : 0 < x) (h1 : x ≤ T) (hT : T < 18446744073709551616) (w : World) :
    Calls Tryd.prog 28 #[.agg #[.int .u64 (T : Int), .int .u64 (s : Int), .int .u64 (lo : Int), .int .u64 (hi : Int)], .int .u64 (x : Int)] w fun e w' => e = .returned (.int .u64 ((T + 1 - x : Nat) : Int)) ∧ Below w.heap.size w w' := by
  have e1 : IntKind.u64.wrap (IntKind.u64.wrap ((T : Int) - (x : Int)) + 1) = ((T + 1 - x : Nat) : Int) := by
    simp only [IntKind.wrap_u64]; omega
  obtain ⟨z, hz⟩ : ∃ z, z = T + 1 - x := ⟨_, rfl⟩
  rw [← hz] at e1 ⊢
  clear hz h0 h1 hT
  go_enter Tryd.func28, Tryd.ntmps28
  go_wp2
  go_ret
  exact ⟨by go_num, (Below.refl _ w).alloc (Nat.le_refl _) _⟩

set_option maxRecDepth 100000 in
theorem before_any (T s lo hi : Nat) (h0 : 0 < lo) (hs : 0 < s) (hlo : lo < 18446744073709551616) (w : World) :
    Calls Tryd.prog 25 #[.agg #[.int .u64 (T : Int), .int .u64 (s : Int), .int .u64 (lo : Int), .int .u64 (hi : Int)]] w fun e w' => e = .returned (.int .u64 (((lo - 1) / s : Nat) : Int)) ∧ Below w.heap.size w w' := by
  have e1 : IntKind.u64.wrap ((lo : Int) - 1) = ((lo - 1 : Nat) : Int) := by
    simp only [IntKind.wrap_u64]; omega
  have e2 := guess_int (u := lo - 1) (v1 := s) (by omega) hs
  obtain ⟨z, hz⟩ : ∃ z, z = lo - 1 := ⟨_, rfl⟩
  rw [← hz] at e1 e2 ⊢
  obtain ⟨q, hq⟩ : ∃ q, q = z / s := ⟨_, rfl⟩
  rw [← hq] at e2 ⊢
  have b1 : ¬ ((s : Int) = 0) := by omega
  clear hz hq h0 hs hlo
  go_enter Tryd.func25, Tryd.ntmps25
  go_wp2
  go_ret
  exact ⟨by go_num, (Below.refl _ w).alloc (Nat.le_refl _) _⟩

set_option maxRecDepth 100000 in
theorem shorter_any (T s lo hi : Nat) (h0 : 0 < lo) (h1 : lo ≤ hi) (h2 : hi ≤ T) (hs0 : 0 < s) (hs : s ≤ T) (hT : T < 18446744073709551616) (w : World) :
    Calls Tryd.prog 24 #[.agg #[.int .u64 (T : Int), .int .u64 (s : Int), .int .u64 (lo : Int), .int .u64 (hi : Int)]] w fun e w' => (∃ s2 lo2 hi2 : Nat, (⟨T + 1, s, lo, hi⟩ : Rnd).short = ⟨T + 1, s2, lo2, hi2⟩ ∧ e = .returned (.agg #[.int .u64 (T : Int), .int .u64 (s2 : Int), .int .u64 (lo2 : Int), .int .u64 (hi2 : Int)])) ∧ Below w.heap.size w w' := by
  have HBs := hideI (fun V : World => back_any T s lo hi s hs0 hs hT V)
  have HBh := hideI (fun V : World => back_any T s lo hi hi (by omega) h2 hT V)
  have HBl := hideI (fun V : World => back_any T s lo hi lo h0 (by omega) hT V)
  obtain ⟨sb, hsb⟩ : ∃ z, z = T + 1 - s := ⟨_, rfl⟩
  obtain ⟨hb, hhb⟩ : ∃ z, z = T + 1 - hi := ⟨_, rfl⟩
  obtain ⟨lb, hlb⟩ : ∃ z, z = T + 1 - lo := ⟨_, rfl⟩
  rw [← hsb] at HBs
  rw [← hhb] at HBh
  rw [← hlb] at HBl
  obtain ⟨W1, hW1⟩ : ∃ W1 : World, W1 = (w.alloc (.cells #[.int .u64 (T : Int), .int .u64 (s : Int), .int .u64 (lo : Int), .int .u64 (hi : Int)] 44)).alloc (.cells #[.int .u64 0, .int .u64 0, .int .u64 0, .int .u64 0] 44) := ⟨_, rfl⟩
  have HB1 : Hid (Below w.heap.size w W1) := hideI (by rw [hW1]; exact ((Below.refl _ w).alloc (Nat.le_refl _) _).alloc (by simp) _)
  have hO : W1.heap[w.heap.size]? = some (.cells #[.int .u64 (T : Int), .int .u64 (s : Int), .int .u64 (lo : Int), .int .u64 (hi : Int)] 44 (0, 0)) := by rw [hW1, heap_alloc_old _ _ (by simp)]; exact heap_alloc_new w _
  have HN : Hid (W1.heap[w.heap.size + 1]? = some (.cells #[.int .u64 0, .int .u64 0, .int .u64 0, .int .u64 0] 44 (0, 0))) := hideI (by rw [hW1]; have h := heap_alloc_new (w.alloc (.cells #[.int .u64 (T : Int), .int .u64 (s : Int), .int .u64 (lo : Int), .int .u64 (hi : Int)] 44)) (.cells #[.int .u64 0, .int .u64 0, .int .u64 0, .int .u64 0] 44); simpa using h)
  have HSZ : Hid (W1.heap.size = w.heap.size + 2) := hideI (by rw [hW1]; simp)
  have HR1 : Hid (RdV W1 w.heap.size T s lo hi) := hideI (RdV.of hO)
  have HW1 := hideI hW1
  have HSH : Hid ((⟨T + 1, s, lo, hi⟩ : Rnd).short = if s ≤ sb then ⟨T + 1, s, lo, hi⟩ else ⟨T + 1, sb, hb, lb⟩) := hideI (by rw [hsb, hhb, hlb]; rfl)
  clear hW1 hO hsb hhb hlb h0 h1 h2 hs0 hs hT
  go_enter Tryd.func24, Tryd.ntmps24
  go_upto_region 1 with fail
  rw [← HW1.out]
  have hS0 := HR1.out
  have HSW1 := HR1
  have HR4W1 : Hid (Res4 W1 (w.heap.size + 1) (.int .u64 0)) := hideI ⟨HN.out⟩
  have HZW1 : Hid (w.heap.size + 2 ≤ W1.heap.size) := hideI (by have := HSZ.out; omega)
  unfold RdV at hS0
  refine wp_region_late (by kernel_rfl) (fun V => V.cell? ⟨w.heap.size, 0, none⟩ = some (.int .u64 (T : Int)) ∧ V.cell? ⟨w.heap.size, 1, none⟩ = some (.int .u64 (s : Int)) ∧ V.cell? ⟨w.heap.size, 2, none⟩ = some (.int .u64 (lo : Int)) ∧ V.cell? ⟨w.heap.size, 3, none⟩ = some (.int .u64 (hi : Int))) [] ?_
  refine wpAnyT_quiet (i := 0) (v := ?_) rfl (by kernel_rfl) (by kernel_rfl) (by kernel_rfl) (fun _ _ _ h => h) (Or.inl ⟨by rfl, ?_⟩) ?_
  rotate_left
  · (intro w; go_simp; try with_reducible rfl)
  try simp only [Act.put, List.setIfInBounds_toArray, List.set_cons_zero, List.set_cons_succ]
  refine wpAnyT_take [] (i := 1) (v := ?_) rfl (by kernel_rfl) (by kernel_rfl) (by kernel_rfl) (by kernel_rfl) (by kernel_rfl) (by kernel_rfl) (fun _ _ _ h => h) hS0 (Or.inl ⟨by rfl, ?_⟩) ?_
  rotate_left
  · (intro w hSw; go_split_ands; go_simp; try with_reducible rfl)
  try simp only [Act.put, List.setIfInBounds_toArray, List.set_cons_zero, List.set_cons_succ]
  refine wpAnyT_take [] (i := 2) (v := ?_) rfl (by kernel_rfl) (by kernel_rfl) (by kernel_rfl) (by kernel_rfl) (by kernel_rfl) (by kernel_rfl) (fun _ _ _ h => h) hS0 (Or.inl ⟨by rfl, ?_⟩) ?_
  rotate_left
  · (intro w hSw; go_split_ands; go_simp; try with_reducible rfl)
  try simp only [Act.put, List.setIfInBounds_toArray, List.set_cons_zero, List.set_cons_succ]
  refine wpAnyT_quiet (i := 3) (v := ?_) rfl (by kernel_rfl) (by kernel_rfl) (by kernel_rfl) (fun _ _ _ h => h) (Or.inl ⟨by rfl, ?_⟩) ?_
  rotate_left
  · (intro w; go_simp; try with_reducible rfl)
  try simp only [Act.put, List.setIfInBounds_toArray, List.set_cons_zero, List.set_cons_succ]
  refine wpAnyT_take [] (i := 4) (v := ?_) rfl (by kernel_rfl) (by kernel_rfl) (by kernel_rfl) (by kernel_rfl) (by kernel_rfl) (by kernel_rfl) (fun _ _ _ h => h) hS0 (Or.inl ⟨by rfl, ?_⟩) ?_
  rotate_left
  · (intro w hSw; go_split_ands; go_simp; try with_reducible rfl)
  try simp only [Act.put, List.setIfInBounds_toArray, List.set_cons_zero, List.set_cons_succ]
  refine wpAnyT_ready (rs := [5]) (by kernel_rfl) (by simp) ?_
  refine AllReadyT.cons rfl (fun K hK => ?_) ?_
  · -- 5 call 28
    go_simp
    refine (HBs.out _).mono ?_
    rintro e w4 ⟨rfl, hw4⟩
    have Hw4 := hideI hw4
    have HR4w4 : Hid (Res4 w4 (w.heap.size + 1) (.int .u64 0)) := hideI (Res4.keep (w := W1.drew) ⟨HR4W1.out.row⟩ hw4 (show w.heap.size + 1 < W1.heap.size from by have := HZW1.out; omega))
    have HZw4 : Hid (w.heap.size + 2 ≤ w4.heap.size) := hideI (Nat.le_trans HZW1.out hw4.size)
    have hSw4 : RdV w4 w.heap.size T s lo hi := RdV.keep (w := W1.drew) HSW1.out hw4 (show w.heap.size < W1.heap.size from by have := HZW1.out; omega)
    have HSw4 := hideI hSw4
    unfold RdV at hSw4
    clear hw4
    refine hK.out _ _ (fun _ _ => hSw4) ?_
    clear hK K
    try simp only [Act.put, List.setIfInBounds_toArray, List.set_cons_zero, List.set_cons_succ]
    refine wpAnyT_quiet (i := 6) (v := ?_) rfl (by kernel_rfl) (by kernel_rfl) (by kernel_rfl) (fun _ _ _ h => h) (Or.inl ⟨by rfl, ?_⟩) ?_
    rotate_left
    · (intro w; go_simp; try with_reducible rfl)
    try simp only [Act.put, List.setIfInBounds_toArray, List.set_cons_zero, List.set_cons_succ]
    refine wpAnyT_done (by kernel_rfl) ?_ _
    clear hS0
    by_cases hc : s ≤ sb
    · have HSH2 : Hid ((⟨T + 1, s, lo, hi⟩ : Rnd).short = ⟨T + 1, s, lo, hi⟩) := hideI (by rw [HSH.out, if_pos hc])
      have d0 := HR4w4.out.c0
      have d1 := HR4w4.out.c1
      have d2 := HR4w4.out.c2
      have d3 := HR4w4.out.c3
      have f0 := HR4w4.out.fz 0
      have f1 := HR4w4.out.fz 1
      have f2 := HR4w4.out.fz 2
      have f3 := HR4w4.out.fz 3
      go_wp2
      have HP := put4 (.int .u64 (T : Int)) (.int .u64 (s : Int)) (.int .u64 (lo : Int)) (.int .u64 (hi : Int)) HR4w4.out.row
      refine bodyPost_ret (results_cell_row (ty := 44) rfl _ _ (w.heap.size + 1) _ #[.int .u64 (T : Int), .int .u64 (s : Int), .int .u64 (lo : Int), .int .u64 (hi : Int)] _ _ rfl HP Tryd.underlying44 rfl (by kernel_rfl)) rfl ?_
      have hb4 : Below w.heap.size w w4 := HB1.out.drew.trans (Hw4.out.mono (by have := HSZ.out; simp; omega))
      exact ⟨⟨_, _, _, HSH2.out, rfl⟩, (((hb4.setCell (p := ⟨w.heap.size + 1, 0, none⟩) (Nat.le_succ _) _).setCell (p := ⟨w.heap.size + 1, 1, none⟩) (Nat.le_succ _) _).setCell (p := ⟨w.heap.size + 1, 2, none⟩) (Nat.le_succ _) _).setCell (p := ⟨w.heap.size + 1, 3, none⟩) (Nat.le_succ _) _⟩
    · have HSH2 : Hid ((⟨T + 1, s, lo, hi⟩ : Rnd).short = ⟨T + 1, sb, hb, lb⟩) := hideI (by rw [HSH.out, if_neg hc])
      go_upto_region 3 with fail
      have hS0 := HSw4.out
      unfold RdV at hS0
      refine wp_region_late (by kernel_rfl) (fun V => V.cell? ⟨w.heap.size, 0, none⟩ = some (.int .u64 (T : Int)) ∧ V.cell? ⟨w.heap.size, 1, none⟩ = some (.int .u64 (s : Int)) ∧ V.cell? ⟨w.heap.size, 2, none⟩ = some (.int .u64 (lo : Int)) ∧ V.cell? ⟨w.heap.size, 3, none⟩ = some (.int .u64 (hi : Int))) [15] ?_
      refine wpAnyT_quiet (i := 0) (v := ?_) rfl (by kernel_rfl) (by kernel_rfl) (by kernel_rfl) (fun _ _ _ h => h) (Or.inl ⟨by rfl, ?_⟩) ?_
      rotate_left
      · (intro w; go_simp; try with_reducible rfl)
      try simp only [Act.put, List.setIfInBounds_toArray, List.set_cons_zero, List.set_cons_succ]
      refine wpAnyT_take [15] (i := 1) (v := ?_) rfl (by kernel_rfl) (by kernel_rfl) (by kernel_rfl) (by kernel_rfl) (by kernel_rfl) (by kernel_rfl) (fun _ _ _ h => h) hS0 (Or.inl ⟨by rfl, ?_⟩) ?_
      rotate_left
      · (intro w hSw; go_split_ands; go_simp; try with_reducible rfl)
      try simp only [Act.put, List.setIfInBounds_toArray, List.set_cons_zero, List.set_cons_succ]
      refine wpAnyT_take [15] (i := 2) (v := ?_) rfl (by kernel_rfl) (by kernel_rfl) (by kernel_rfl) (by kernel_rfl) (by kernel_rfl) (by kernel_rfl) (fun _ _ _ h => h) hS0 (Or.inl ⟨by rfl, ?_⟩) ?_
      rotate_left
      · (intro w hSw; go_split_ands; go_simp; try with_reducible rfl)
      try simp only [Act.put, List.setIfInBounds_toArray, List.set_cons_zero, List.set_cons_succ]
      refine wpAnyT_quiet (i := 3) (v := ?_) rfl (by kernel_rfl) (by kernel_rfl) (by kernel_rfl) (fun _ _ _ h => h) (Or.inl ⟨by rfl, ?_⟩) ?_
      rotate_left
      · (intro w; go_simp; try with_reducible rfl)
      try simp only [Act.put, List.setIfInBounds_toArray, List.set_cons_zero, List.set_cons_succ]
      refine wpAnyT_take [15] (i := 4) (v := ?_) rfl (by kernel_rfl) (by kernel_rfl) (by kernel_rfl) (by kernel_rfl) (by kernel_rfl) (by kernel_rfl) (fun _ _ _ h => h) hS0 (Or.inl ⟨by rfl, ?_⟩) ?_
      rotate_left
      · (intro w hSw; go_split_ands; go_simp; try with_reducible rfl)
      try simp only [Act.put, List.setIfInBounds_toArray, List.set_cons_zero, List.set_cons_succ]
      refine wpAnyT_take [15] (i := 6) (v := ?_) rfl (by kernel_rfl) (by kernel_rfl) (by kernel_rfl) (by kernel_rfl) (by kernel_rfl) (by kernel_rfl) (fun _ _ _ h => h) hS0 (Or.inl ⟨by rfl, ?_⟩) ?_
      rotate_left
      · (intro w hSw; go_split_ands; go_simp; try with_reducible rfl)
      try simp only [Act.put, List.setIfInBounds_toArray, List.set_cons_zero, List.set_cons_succ]
      refine wpAnyT_quiet (i := 7) (v := ?_) rfl (by kernel_rfl) (by kernel_rfl) (by kernel_rfl) (fun _ _ _ h => h) (Or.inl ⟨by rfl, ?_⟩) ?_
      rotate_left
      · (intro w; go_simp; try with_reducible rfl)
      try simp only [Act.put, List.setIfInBounds_toArray, List.set_cons_zero, List.set_cons_succ]
      refine wpAnyT_take [15] (i := 8) (v := ?_) rfl (by kernel_rfl) (by kernel_rfl) (by kernel_rfl) (by kernel_rfl) (by kernel_rfl) (by kernel_rfl) (fun _ _ _ h => h) hS0 (Or.inl ⟨by rfl, ?_⟩) ?_
      rotate_left
      · (intro w hSw; go_split_ands; go_simp; try with_reducible rfl)
      try simp only [Act.put, List.setIfInBounds_toArray, List.set_cons_zero, List.set_cons_succ]
      refine wpAnyT_take [15] (i := 10) (v := ?_) rfl (by kernel_rfl) (by kernel_rfl) (by kernel_rfl) (by kernel_rfl) (by kernel_rfl) (by kernel_rfl) (fun _ _ _ h => h) hS0 (Or.inl ⟨by rfl, ?_⟩) ?_
      rotate_left
      · (intro w hSw; go_split_ands; go_simp; try with_reducible rfl)
      try simp only [Act.put, List.setIfInBounds_toArray, List.set_cons_zero, List.set_cons_succ]
      refine wpAnyT_quiet (i := 11) (v := ?_) rfl (by kernel_rfl) (by kernel_rfl) (by kernel_rfl) (fun _ _ _ h => h) (Or.inl ⟨by rfl, ?_⟩) ?_
      rotate_left
      · (intro w; go_simp; try with_reducible rfl)
      try simp only [Act.put, List.setIfInBounds_toArray, List.set_cons_zero, List.set_cons_succ]
      refine wpAnyT_take [15] (i := 12) (v := ?_) rfl (by kernel_rfl) (by kernel_rfl) (by kernel_rfl) (by kernel_rfl) (by kernel_rfl) (by kernel_rfl) (fun _ _ _ h => h) hS0 (Or.inl ⟨by rfl, ?_⟩) ?_
      rotate_left
      · (intro w hSw; go_split_ands; go_simp; try with_reducible rfl)
      try simp only [Act.put, List.setIfInBounds_toArray, List.set_cons_zero, List.set_cons_succ]
      refine wpAnyT_ready (rs := [5]) (by kernel_rfl) (by simp) ?_
      refine AllReadyT.cons rfl (fun K hK => ?_) ?_
      · -- 5 call 28
        go_simp
        refine (HBs.out _).mono ?_
        rintro e w5 ⟨rfl, hw5⟩
        have Hw5 := hideI hw5
        have HR4w5 : Hid (Res4 w5 (w.heap.size + 1) (.int .u64 0)) := hideI (Res4.keep (w := w4.drew) ⟨HR4w4.out.row⟩ hw5 (show w.heap.size + 1 < w4.heap.size from by have := HZw4.out; omega))
        have HZw5 : Hid (w.heap.size + 2 ≤ w5.heap.size) := hideI (Nat.le_trans HZw4.out hw5.size)
        have hSw5 : RdV w5 w.heap.size T s lo hi := RdV.keep (w := w4.drew) HSw4.out hw5 (show w.heap.size < w4.heap.size from by have := HZw4.out; omega)
        have HSw5 := hideI hSw5
        unfold RdV at hSw5
        clear hw5
        refine hK.out _ _ (fun _ _ => hSw5) ?_
        clear hK K
        try simp only [Act.put, List.setIfInBounds_toArray, List.set_cons_zero, List.set_cons_succ]
        refine wpAnyT_ready (rs := [9]) (by kernel_rfl) (by simp) ?_
        refine AllReadyT.cons rfl (fun K hK => ?_) ?_
        · -- 9 call 28
          go_simp
          refine (HBh.out _).mono ?_
          rintro e w6 ⟨rfl, hw6⟩
          have Hw6 := hideI hw6
          have HR4w6 : Hid (Res4 w6 (w.heap.size + 1) (.int .u64 0)) := hideI (Res4.keep (w := w5) ⟨HR4w5.out.row⟩ hw6 (show w.heap.size + 1 < w5.heap.size from by have := HZw5.out; omega))
          have HZw6 : Hid (w.heap.size + 2 ≤ w6.heap.size) := hideI (Nat.le_trans HZw5.out hw6.size)
          have hSw6 : RdV w6 w.heap.size T s lo hi := RdV.keep (w := w5) HSw5.out hw6 (show w.heap.size < w5.heap.size from by have := HZw5.out; omega)
          have HSw6 := hideI hSw6
          unfold RdV at hSw6
          clear hw6
          refine hK.out _ _ (fun _ _ => hSw6) ?_
          clear hK K
          try simp only [Act.put, List.setIfInBounds_toArray, List.set_cons_zero, List.set_cons_succ]
          refine wpAnyT_ready (rs := [13]) (by kernel_rfl) (by simp) ?_
          refine AllReadyT.cons rfl (fun K hK => ?_) ?_
          · -- 13 call 28
            go_simp
            refine (HBl.out _).mono ?_
            rintro e w7 ⟨rfl, hw7⟩
            have Hw7 := hideI hw7
            have HR4w7 : Hid (Res4 w7 (w.heap.size + 1) (.int .u64 0)) := hideI (Res4.keep (w := w6) ⟨HR4w6.out.row⟩ hw7 (show w.heap.size + 1 < w6.heap.size from by have := HZw6.out; omega))
            have HZw7 : Hid (w.heap.size + 2 ≤ w7.heap.size) := hideI (Nat.le_trans HZw6.out hw7.size)
            have hSw7 : RdV w7 w.heap.size T s lo hi := RdV.keep (w := w6) HSw6.out hw7 (show w.heap.size < w6.heap.size from by have := HZw6.out; omega)
            have HSw7 := hideI hSw7
            unfold RdV at hSw7
            clear hw7
            refine hK.out _ _ (fun _ _ => hSw7) ?_
            clear hK K
            try simp only [Act.put, List.setIfInBounds_toArray, List.set_cons_zero, List.set_cons_succ]
            refine wpAnyT_quiet (i := 14) (v := ?_) rfl (by kernel_rfl) (by kernel_rfl) (by kernel_rfl) (fun _ _ _ h => h) (Or.inl ⟨by rfl, ?_⟩) ?_
            rotate_left
            · (intro w; go_simp; try with_reducible rfl)
            try simp only [Act.put, List.setIfInBounds_toArray, List.set_cons_zero, List.set_cons_succ]
            refine wpAnyT_ready (rs := [15]) (by kernel_rfl) (by simp) ?_
            refine AllReadyT.cons rfl (fun K hK => ?_) ?_
            · -- 15 store
              have d0 := HR4w7.out.c0
              have d1 := HR4w7.out.c1
              have d2 := HR4w7.out.c2
              have d3 := HR4w7.out.c3
              have f0 := HR4w7.out.fz 0
              have f1 := HR4w7.out.fz 1
              have f2 := HR4w7.out.fz 2
              have f3 := HR4w7.out.fz 3
              go_simp
              refine hK.out _ _ (fun h => absurd (by simp) h) ?_
              clear hK K
              try simp only [Act.put, List.setIfInBounds_toArray, List.set_cons_zero, List.set_cons_succ]
              refine wpAnyT_done (by kernel_rfl) ?_ _
              clear hS0 hSw5 hSw6 hSw7
              go_wp2
              have HP := put4 (.int .u64 (T : Int)) (.int .u64 (sb : Int)) (.int .u64 (hb : Int)) (.int .u64 (lb : Int)) HR4w7.out.row
              refine bodyPost_ret (results_cell_row (ty := 44) rfl _ _ (w.heap.size + 1) _ #[.int .u64 (T : Int), .int .u64 (sb : Int), .int .u64 (hb : Int), .int .u64 (lb : Int)] _ _ rfl HP Tryd.underlying44 rfl (by kernel_rfl)) rfl ?_
              have hb4 : Below w.heap.size w w4 := HB1.out.drew.trans (Hw4.out.mono (by have := HSZ.out; simp; omega))
              have hb5 : Below w.heap.size w w5 := hb4.drew.trans (Hw5.out.mono (by have := HZw4.out; simp; omega))
              have hb6 : Below w.heap.size w w6 := hb5.trans (Hw6.out.mono (by have := HZw5.out; omega))
              have hb7 : Below w.heap.size w w7 := hb6.trans (Hw7.out.mono (by have := HZw6.out; omega))
              exact ⟨⟨_, _, _, HSH2.out, rfl⟩, (((hb7.setCell (p := ⟨w.heap.size + 1, 0, none⟩) (Nat.le_succ _) _).setCell (p := ⟨w.heap.size + 1, 1, none⟩) (Nat.le_succ _) _).setCell (p := ⟨w.heap.size + 1, 2, none⟩) (Nat.le_succ _) _).setCell (p := ⟨w.heap.size + 1, 3, none⟩) (Nat.le_succ _) _⟩
            · exact AllReadyT.nil
          · exact AllReadyT.nil
        · exact AllReadyT.nil
      · exact AllReadyT.nil
  · exact AllReadyT.nil

set_option maxRecDepth 100000 in
theorem next_any (T s lo hi : Nat) (hs0 : 0 < s) (hs : s ≤ T) (hT : T < 18446744073709551616) (hlo : lo ≤ T) (hhi : hi ≤ T) (w : World) :
    Calls Tryd.prog 27 #[.agg #[.int .u64 (T : Int), .int .u64 (s : Int), .int .u64 (lo : Int), .int .u64 (hi : Int)]] w fun e w' => e = .returned (.agg #[.int .u64 ((s - 1 : Nat) : Int), .int .u64 ((s - 1 - T % s : Nat) : Int), .int .u64 ((lo % s : Nat) : Int), .int .u64 ((hi % s : Nat) : Int)]) ∧ Below w.heap.size w w' := by
  have e1 : IntKind.u64.wrap ((s : Int) - 1) = ((s - 1 : Nat) : Int) := by simp only [IntKind.wrap_u64]; omega
  have hm := Nat.mod_lt T hs0
  have e2 : IntKind.u64.wrap (((s - 1 : Nat) : Int) - ((T % s : Nat) : Int)) = ((s - 1 - T % s : Nat) : Int) := by
    obtain ⟨z, hz⟩ : ∃ z, z = T % s := ⟨_, rfl⟩
    rw [← hz] at hm ⊢
    simp only [IntKind.wrap_u64]; omega
  have m1 : (T : Int).tmod (s : Int) = ((T % s : Nat) : Int) := rfl
  have m2 : (lo : Int).tmod (s : Int) = ((lo % s : Nat) : Int) := rfl
  have m3 : (hi : Int).tmod (s : Int) = ((hi % s : Nat) : Int) := rfl
  have l1 : T % s < 18446744073709551616 := by have := hm; omega
  have l2 : lo % s < 18446744073709551616 := by have := Nat.mod_lt lo hs0; omega
  have l3 : hi % s < 18446744073709551616 := by have := Nat.mod_lt hi hs0; omega
  have b1 : ¬ s = 0 := by omega
  obtain ⟨x1, hx1⟩ : ∃ z, z = s - 1 := ⟨_, rfl⟩
  obtain ⟨x2, hx2⟩ : ∃ z, z = T % s := ⟨_, rfl⟩
  obtain ⟨x3, hx3⟩ : ∃ z, z = lo % s := ⟨_, rfl⟩
  obtain ⟨x4, hx4⟩ : ∃ z, z = hi % s := ⟨_, rfl⟩
  rw [← hx2] at e2 m1 l1 ⊢
  rw [← hx3] at m2 l2 ⊢
  rw [← hx4] at m3 l3 ⊢
  rw [← hx1] at e1 e2 ⊢
  obtain ⟨x5, hx5⟩ : ∃ z, z = x1 - x2 := ⟨_, rfl⟩
  rw [← hx5] at e2 ⊢
  have n1 : IntKind.u64.wrap (x2 : Int) = (x2 : Int) := by rw [IntKind.wrap_u64]; omega
  have n2 : IntKind.u64.wrap (x3 : Int) = (x3 : Int) := by rw [IntKind.wrap_u64]; omega
  have n3 : IntKind.u64.wrap (x4 : Int) = (x4 : Int) := by rw [IntKind.wrap_u64]; omega
  obtain ⟨W1, hW1⟩ : ∃ W1 : World, W1 = (w.alloc (.cells #[.int .u64 (T : Int), .int .u64 (s : Int), .int .u64 (lo : Int), .int .u64 (hi : Int)] 44)).alloc (.cells #[.int .u64 0, .int .u64 0, .int .u64 0, .int .u64 0] 44) := ⟨_, rfl⟩
  have HB1 : Hid (Below w.heap.size w W1) := hideI (by rw [hW1]; exact ((Below.refl _ w).alloc (Nat.le_refl _) _).alloc (by simp) _)
  have hO : W1.heap[w.heap.size]? = some (.cells #[.int .u64 (T : Int), .int .u64 (s : Int), .int .u64 (lo : Int), .int .u64 (hi : Int)] 44 (0, 0)) := by rw [hW1, heap_alloc_old _ _ (by simp)]; exact heap_alloc_new w _
  have HN : Hid (W1.heap[w.heap.size + 1]? = some (.cells #[.int .u64 0, .int .u64 0, .int .u64 0, .int .u64 0] 44 (0, 0))) := hideI (by rw [hW1]; have h := heap_alloc_new (w.alloc (.cells #[.int .u64 (T : Int), .int .u64 (s : Int), .int .u64 (lo : Int), .int .u64 (hi : Int)] 44)) (.cells #[.int .u64 0, .int .u64 0, .int .u64 0, .int .u64 0] 44); simpa using h)
  have hS0 : RdV W1 w.heap.size T s lo hi := RdV.of hO
  have HR4W1 : Hid (Res4 W1 (w.heap.size + 1) (.int .u64 0)) := hideI ⟨HN.out⟩
  have HW1 := hideI hW1
  clear hW1 hO hx1 hx2 hx3 hx4 hx5 hm l1 l2 l3 hs0 hs hT hlo hhi
  go_enter Tryd.func27, Tryd.ntmps27
  go_upto_region 1 with fail
  rw [← HW1.out]
  unfold RdV at hS0
  refine wp_region_late (by kernel_rfl) (fun V => V.cell? ⟨w.heap.size, 0, none⟩ = some (.int .u64 (T : Int)) ∧ V.cell? ⟨w.heap.size, 1, none⟩ = some (.int .u64 (s : Int)) ∧ V.cell? ⟨w.heap.size, 2, none⟩ = some (.int .u64 (lo : Int)) ∧ V.cell? ⟨w.heap.size, 3, none⟩ = some (.int .u64 (hi : Int))) [23] ?_
  refine wpAnyT_quiet (i := 0) (v := ?_) rfl (by kernel_rfl) (by kernel_rfl) (by kernel_rfl) (fun _ _ _ h => h) (Or.inl ⟨by rfl, ?_⟩) ?_
  rotate_left
  · (intro w; go_simp; try with_reducible rfl)
  try simp only [Act.put, List.setIfInBounds_toArray, List.set_cons_zero, List.set_cons_succ]
  refine wpAnyT_take [23] (i := 1) (v := ?_) rfl (by kernel_rfl) (by kernel_rfl) (by kernel_rfl) (by kernel_rfl) (by kernel_rfl) (by kernel_rfl) (fun _ _ _ h => h) hS0 (Or.inl ⟨by rfl, ?_⟩) ?_
  rotate_left
  · (intro w hSw; go_split_ands; go_simp; try with_reducible rfl)
  try simp only [Act.put, List.setIfInBounds_toArray, List.set_cons_zero, List.set_cons_succ]
  refine wpAnyT_quiet (i := 2) (v := ?_) rfl (by kernel_rfl) (by kernel_rfl) (by kernel_rfl) (fun _ _ _ h => h) (Or.inl ⟨by rfl, ?_⟩) ?_
  rotate_left
  · (intro w; go_simp; try with_reducible rfl)
  try simp only [Act.put, List.setIfInBounds_toArray, List.set_cons_zero, List.set_cons_succ]
  refine wpAnyT_quiet (i := 3) (v := ?_) rfl (by kernel_rfl) (by kernel_rfl) (by kernel_rfl) (fun _ _ _ h => h) (Or.inl ⟨by rfl, ?_⟩) ?_
  rotate_left
  · (intro w; go_simp; try with_reducible rfl)
  try simp only [Act.put, List.setIfInBounds_toArray, List.set_cons_zero, List.set_cons_succ]
  refine wpAnyT_take [23] (i := 4) (v := ?_) rfl (by kernel_rfl) (by kernel_rfl) (by kernel_rfl) (by kernel_rfl) (by kernel_rfl) (by kernel_rfl) (fun _ _ _ h => h) hS0 (Or.inl ⟨by rfl, ?_⟩) ?_
  rotate_left
  · (intro w hSw; go_split_ands; go_simp; try with_reducible rfl)
  try simp only [Act.put, List.setIfInBounds_toArray, List.set_cons_zero, List.set_cons_succ]
  refine wpAnyT_quiet (i := 5) (v := ?_) rfl (by kernel_rfl) (by kernel_rfl) (by kernel_rfl) (fun _ _ _ h => h) (Or.inl ⟨by rfl, ?_⟩) ?_
  rotate_left
  · (intro w; go_simp; try with_reducible rfl)
  try simp only [Act.put, List.setIfInBounds_toArray, List.set_cons_zero, List.set_cons_succ]
  refine wpAnyT_quiet (i := 6) (v := ?_) rfl (by kernel_rfl) (by kernel_rfl) (by kernel_rfl) (fun _ _ _ h => h) (Or.inl ⟨by rfl, ?_⟩) ?_
  rotate_left
  · (intro w; go_simp; try with_reducible rfl)
  try simp only [Act.put, List.setIfInBounds_toArray, List.set_cons_zero, List.set_cons_succ]
  refine wpAnyT_take [23] (i := 7) (v := ?_) rfl (by kernel_rfl) (by kernel_rfl) (by kernel_rfl) (by kernel_rfl) (by kernel_rfl) (by kernel_rfl) (fun _ _ _ h => h) hS0 (Or.inl ⟨by rfl, ?_⟩) ?_
  rotate_left
  · (intro w hSw; go_split_ands; go_simp; try with_reducible rfl)
  try simp only [Act.put, List.setIfInBounds_toArray, List.set_cons_zero, List.set_cons_succ]
  refine wpAnyT_quiet (i := 8) (v := ?_) rfl (by kernel_rfl) (by kernel_rfl) (by kernel_rfl) (fun _ _ _ h => h) (Or.inl ⟨by rfl, ?_⟩) ?_
  rotate_left
  · (intro w; go_simp; try with_reducible rfl)
  try simp only [Act.put, List.setIfInBounds_toArray, List.set_cons_zero, List.set_cons_succ]
  refine wpAnyT_take [23] (i := 9) (v := ?_) rfl (by kernel_rfl) (by kernel_rfl) (by kernel_rfl) (by kernel_rfl) (by kernel_rfl) (by kernel_rfl) (fun _ _ _ h => h) hS0 (Or.inl ⟨by rfl, ?_⟩) ?_
  rotate_left
  · (intro w hSw; go_split_ands; go_simp; try with_reducible rfl)
  try simp only [Act.put, List.setIfInBounds_toArray, List.set_cons_zero, List.set_cons_succ]
  refine wpAnyT_quiet (i := 10) (v := ?_) rfl (by kernel_rfl) (by kernel_rfl) (by kernel_rfl) (fun _ _ _ h => h) (Or.inl ⟨by rfl, ?_⟩) ?_
  rotate_left
  · (intro w; go_simp; try with_reducible rfl)
  try simp only [Act.put, List.setIfInBounds_toArray, List.set_cons_zero, List.set_cons_succ]
  refine wpAnyT_quiet (i := 11) (v := ?_) rfl (by kernel_rfl) (by kernel_rfl) (by kernel_rfl) (fun _ _ _ h => h) (Or.inl ⟨by rfl, ?_⟩) ?_
  rotate_left
  · (intro w; go_simp; try with_reducible rfl)
  try simp only [Act.put, List.setIfInBounds_toArray, List.set_cons_zero, List.set_cons_succ]
  refine wpAnyT_quiet (i := 12) (v := ?_) rfl (by kernel_rfl) (by kernel_rfl) (by kernel_rfl) (fun _ _ _ h => h) (Or.inl ⟨by rfl, ?_⟩) ?_
  rotate_left
  · (intro w; go_simp; try with_reducible rfl)
  try simp only [Act.put, List.setIfInBounds_toArray, List.set_cons_zero, List.set_cons_succ]
  refine wpAnyT_take [23] (i := 13) (v := ?_) rfl (by kernel_rfl) (by kernel_rfl) (by kernel_rfl) (by kernel_rfl) (by kernel_rfl) (by kernel_rfl) (fun _ _ _ h => h) hS0 (Or.inl ⟨by rfl, ?_⟩) ?_
  rotate_left
  · (intro w hSw; go_split_ands; go_simp; try with_reducible rfl)
  try simp only [Act.put, List.setIfInBounds_toArray, List.set_cons_zero, List.set_cons_succ]
  refine wpAnyT_quiet (i := 14) (v := ?_) rfl (by kernel_rfl) (by kernel_rfl) (by kernel_rfl) (fun _ _ _ h => h) (Or.inl ⟨by rfl, ?_⟩) ?_
  rotate_left
  · (intro w; go_simp; try with_reducible rfl)
  try simp only [Act.put, List.setIfInBounds_toArray, List.set_cons_zero, List.set_cons_succ]
  refine wpAnyT_take [23] (i := 15) (v := ?_) rfl (by kernel_rfl) (by kernel_rfl) (by kernel_rfl) (by kernel_rfl) (by kernel_rfl) (by kernel_rfl) (fun _ _ _ h => h) hS0 (Or.inl ⟨by rfl, ?_⟩) ?_
  rotate_left
  · (intro w hSw; go_split_ands; go_simp; try with_reducible rfl)
  try simp only [Act.put, List.setIfInBounds_toArray, List.set_cons_zero, List.set_cons_succ]
  refine wpAnyT_quiet (i := 16) (v := ?_) rfl (by kernel_rfl) (by kernel_rfl) (by kernel_rfl) (fun _ _ _ h => h) (Or.inl ⟨by rfl, ?_⟩) ?_
  rotate_left
  · (intro w; go_simp; try with_reducible rfl)
  try simp only [Act.put, List.setIfInBounds_toArray, List.set_cons_zero, List.set_cons_succ]
  refine wpAnyT_quiet (i := 17) (v := ?_) rfl (by kernel_rfl) (by kernel_rfl) (by kernel_rfl) (fun _ _ _ h => h) (Or.inl ⟨by rfl, ?_⟩) ?_
  rotate_left
  · (intro w; go_simp; try with_reducible rfl)
  try simp only [Act.put, List.setIfInBounds_toArray, List.set_cons_zero, List.set_cons_succ]
  refine wpAnyT_take [23] (i := 18) (v := ?_) rfl (by kernel_rfl) (by kernel_rfl) (by kernel_rfl) (by kernel_rfl) (by kernel_rfl) (by kernel_rfl) (fun _ _ _ h => h) hS0 (Or.inl ⟨by rfl, ?_⟩) ?_
  rotate_left
  · (intro w hSw; go_split_ands; go_simp; try with_reducible rfl)
  try simp only [Act.put, List.setIfInBounds_toArray, List.set_cons_zero, List.set_cons_succ]
  refine wpAnyT_quiet (i := 19) (v := ?_) rfl (by kernel_rfl) (by kernel_rfl) (by kernel_rfl) (fun _ _ _ h => h) (Or.inl ⟨by rfl, ?_⟩) ?_
  rotate_left
  · (intro w; go_simp; try with_reducible rfl)
  try simp only [Act.put, List.setIfInBounds_toArray, List.set_cons_zero, List.set_cons_succ]
  refine wpAnyT_take [23] (i := 20) (v := ?_) rfl (by kernel_rfl) (by kernel_rfl) (by kernel_rfl) (by kernel_rfl) (by kernel_rfl) (by kernel_rfl) (fun _ _ _ h => h) hS0 (Or.inl ⟨by rfl, ?_⟩) ?_
  rotate_left
  · (intro w hSw; go_split_ands; go_simp; try with_reducible rfl)
  try simp only [Act.put, List.setIfInBounds_toArray, List.set_cons_zero, List.set_cons_succ]
  refine wpAnyT_quiet (i := 21) (v := ?_) rfl (by kernel_rfl) (by kernel_rfl) (by kernel_rfl) (fun _ _ _ h => h) (Or.inl ⟨by rfl, ?_⟩) ?_
  rotate_left
  · (intro w; go_simp; try with_reducible rfl)
  try simp only [Act.put, List.setIfInBounds_toArray, List.set_cons_zero, List.set_cons_succ]
  refine wpAnyT_quiet (i := 22) (v := ?_) rfl (by kernel_rfl) (by kernel_rfl) (by kernel_rfl) (fun _ _ _ h => h) (Or.inl ⟨by rfl, ?_⟩) ?_
  rotate_left
  · (intro w; go_simp; try with_reducible rfl)
  try simp only [Act.put, List.setIfInBounds_toArray, List.set_cons_zero, List.set_cons_succ]
  refine wpAnyT_ready (rs := [23]) (by kernel_rfl) (by simp) ?_
  refine AllReadyT.cons rfl (fun K hK => ?_) ?_
  · -- 23 store
    have d0 := HR4W1.out.c0
    have d1 := HR4W1.out.c1
    have d2 := HR4W1.out.c2
    have d3 := HR4W1.out.c3
    have f0 := HR4W1.out.fz 0
    have f1 := HR4W1.out.fz 1
    have f2 := HR4W1.out.fz 2
    have f3 := HR4W1.out.fz 3
    go_simp
    refine hK.out _ _ (fun h => absurd (by simp) h) ?_
    clear hK K
    try simp only [Act.put, List.setIfInBounds_toArray, List.set_cons_zero, List.set_cons_succ]
    refine wpAnyT_done (by kernel_rfl) ?_ _
    clear hS0
    go_wp2
    have HP := put4 (.int .u64 (x1 : Int)) (.int .u64 (x5 : Int)) (.int .u64 (x3 : Int)) (.int .u64 (x4 : Int)) HR4W1.out.row
    refine bodyPost_ret (results_cell_row (ty := 44) rfl _ _ (w.heap.size + 1) _ #[.int .u64 (x1 : Int), .int .u64 (x5 : Int), .int .u64 (x3 : Int), .int .u64 (x4 : Int)] _ _ rfl HP Tryd.underlying44 rfl (by kernel_rfl)) rfl ?_
    exact ⟨rfl, (((HB1.out.drew.setCell (p := ⟨w.heap.size + 1, 0, none⟩) (Nat.le_succ _) _).setCell (p := ⟨w.heap.size + 1, 1, none⟩) (Nat.le_succ _) _).setCell (p := ⟨w.heap.size + 1, 2, none⟩) (Nat.le_succ _) _).setCell (p := ⟨w.heap.size + 1, 3, none⟩) (Nat.le_succ _) _⟩
  · exact AllReadyT.nil
end Go.Proofs.YtidebjcnmabggaaDoor.Mo
