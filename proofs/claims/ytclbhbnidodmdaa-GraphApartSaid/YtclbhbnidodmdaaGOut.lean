/- graph.Order and graph.Reach, as they are called. -/
import Derived.Test.YtclbhbnidodmdaaGReach
namespace Go.Proofs.Ytclbhbnidodmdaa
open Go.RowKit Go.Maps

def GOrderPost (f : FuncM) (w : World) (e : Ending) (w' : World) : Prop :=
  ((lookM f).1 ≠ 0 ∧ e = .returned (.tuple #[.slice none 0 0, .int .i64 (lookM f).1]) ∧ Below w.heap.size w w') ∨
  ((lookM f).1 = 0 ∧ ∃ (o : List Nat) (g cap : Nat), e = .returned (.tuple #[.slice (some ⟨g, 0, none⟩) o.length cap, .int .i64 0]) ∧ OrderIs f.blocks o ∧ 0 < o.length ∧ o.length ≤ f.blocks.length ∧ w'.ownsRow w.heap.size 3 1 (.slice (some ⟨g, 0, none⟩) o.length cap) o.length (natInts o) ∧ Below w.heap.size w w')

def GReachPost (f : FuncM) (w : World) (e : Ending) (w' : World) : Prop :=
  ((lookM f).1 ≠ 0 ∧ e = .returned (.tuple #[.slice none 0 0, .int .i64 (lookM f).1]) ∧ Below w.heap.size w w') ∨
  ((lookM f).1 = 0 ∧ ∃ (o : List Nat) (g : Nat), e = .returned (.tuple #[.slice (some ⟨g, 0, none⟩) f.blocks.length f.blocks.length, .int .i64 0]) ∧ OrderIs f.blocks o ∧ w'.ownsRow w.heap.size 4 1 (.slice (some ⟨g, 0, none⟩) f.blocks.length f.blocks.length) f.blocks.length (marks f.blocks.length o) ∧ Below w.heap.size w w')

set_option maxRecDepth 100000 in
set_option maxHeartbeats 1000000 in
theorem gOrder_any (f : FuncM) (B : Nat) (pv bv : Value) (w : World) (hpv : Ints w B pv f.params) (hbv : BlocksR w B bv f.blocks) (hB : B ≤ w.heap.size) (hid : ∀ u ∈ usesM f, I64 u.1) :
    Calls Try.prog 18 #[.agg #[pv, .int .i64 f.arrays, .int .i64 f.cells, bv]] w (GOrderPost f w) := by
  have HP := hideI hpv
  have HBL := hideI hbv
  have HID := hideI hid
  obtain ⟨P, pc, rfl, _⟩ := hpv
  obtain ⟨A, c, rfl, hbm, _⟩ := hbv
  have HX := hideI (heap_alloc_new w (.cells #[.slice P f.params.length pc, .int .i64 f.arrays, .int .i64 f.cells, .slice A f.blocks.length c] 25))
  have HK : Hid (Keeps B w (w.alloc (.cells #[.slice P f.params.length pc, .int .i64 f.arrays, .int .i64 f.cells, .slice A f.blocks.length c] 25))) := (Keeps.refl w).alloc hB _
  have HB0 : Hid (Below w.heap.size w (w.alloc (.cells #[.slice P f.params.length pc, .int .i64 f.arrays, .int .i64 f.cells, .slice A f.blocks.length c] 25))) := (Below.refl _ w).alloc (Nat.le_refl _) _
  clear hid
  by_cases h0 : (lookM f).1 = 0
  · have H0 := hideI h0
    have hnb := look_some_block h0
    clear h0
    go_enter Try.func18, Try.ntmps18
    go_wp2_with (first
      | (go_at_call 45; go_must (refine (check_any f B _ _ _ (HP.out.keeps HK.out) (HBL.out.keeps HK.out) (by simp; omega) HID.out).mono ?_); rw [H0.out]; rintro e w1 ⟨rfl, hb⟩; have HB1 := hideI (HB0.out.trans (hb.mono (by simp))); have hxx := row_cells ((hb.block _ (lt_of_heap HX.out)).trans HX.out) rfl; have q0 := hxx 0; have q1 := hxx 1; have q2 := hxx 2; have q3 := hxx 3; have hl1 : w.heap.size < w1.heap.size := (by have := hb.size; simp at this; omega); clear hb hxx)
      | (go_at_call 48; go_must (refine (order_any f.blocks w.heap.size _ _ _ _ _ ((HBL.out.more' hB).keeps (Keeps.of_below HB1.out)) (by omega) hnb.1 hnb.2 (look_ends H0.out)).mono ?_); rintro e w2 ⟨o, g, cap, rfl, ho, ho0, ho1, hown, hb2⟩; have HO := hideI ho; have HW := hideI hown; have HB2 := hideI hb2; clear ho hown hb2))
    go_ret2
    exact .inr ⟨H0.out, o, g, cap, rfl, HO.out, ho0, ho1, World.ownsRow.mono HW.out (by omega), HB1.out.trans (HB2.out.mono (by omega))⟩
  · have H0 := hideI h0
    have hb : ((lookM f).1 != 0) = true := by simpa using h0
    clear h0
    go_enter Try.func18, Try.ntmps18
    go_wp2_with (first
      | (go_at_call 45; go_must (refine (check_any f B _ _ _ (HP.out.keeps HK.out) (HBL.out.keeps HK.out) (by simp; omega) HID.out).mono ?_); rintro e w1 ⟨rfl, hb1⟩; have HB1 := hideI (HB0.out.trans (hb1.mono (by simp))); clear hb1))
    go_ret2
    exact .inl ⟨H0.out, rfl, HB1.out⟩

set_option maxRecDepth 100000 in
set_option maxHeartbeats 1000000 in
theorem gReach_any (f : FuncM) (B : Nat) (pv bv : Value) (w : World) (hpv : Ints w B pv f.params) (hbv : BlocksR w B bv f.blocks) (hB : B ≤ w.heap.size) (hid : ∀ u ∈ usesM f, I64 u.1) :
    Calls Try.prog 17 #[.agg #[pv, .int .i64 f.arrays, .int .i64 f.cells, bv]] w (GReachPost f w) := by
  have HP := hideI hpv
  have HBL := hideI hbv
  have HID := hideI hid
  obtain ⟨P, pc, rfl, _⟩ := hpv
  obtain ⟨A, c, rfl, hbm, _⟩ := hbv
  have HX := hideI (heap_alloc_new w (.cells #[.slice P f.params.length pc, .int .i64 f.arrays, .int .i64 f.cells, .slice A f.blocks.length c] 25))
  have HK : Hid (Keeps B w (w.alloc (.cells #[.slice P f.params.length pc, .int .i64 f.arrays, .int .i64 f.cells, .slice A f.blocks.length c] 25))) := (Keeps.refl w).alloc hB _
  have HB0 : Hid (Below w.heap.size w (w.alloc (.cells #[.slice P f.params.length pc, .int .i64 f.arrays, .int .i64 f.cells, .slice A f.blocks.length c] 25))) := (Below.refl _ w).alloc (Nat.le_refl _) _
  clear hid
  by_cases h0 : (lookM f).1 = 0
  · have H0 := hideI h0
    have hnb := look_some_block h0
    clear h0
    go_enter Try.func17, Try.ntmps17
    go_wp2_with (first
      | (go_at_call 45; go_must (refine (check_any f B _ _ _ (HP.out.keeps HK.out) (HBL.out.keeps HK.out) (by simp; omega) HID.out).mono ?_); rw [H0.out]; rintro e w1 ⟨rfl, hb⟩; have HB1 := hideI (HB0.out.trans (hb.mono (by simp))); have hxx := row_cells ((hb.block _ (lt_of_heap HX.out)).trans HX.out) rfl; have q0 := hxx 0; have q1 := hxx 1; have q2 := hxx 2; have q3 := hxx 3; have hl1 : w.heap.size < w1.heap.size := (by have := hb.size; simp at this; omega); clear hb hxx)
      | (go_at_call 47; go_must (refine (reach_any f.blocks w.heap.size _ _ _ _ _ ((HBL.out.more' hB).keeps (Keeps.of_below HB1.out)) (by omega) hnb.1 hnb.2 (look_ends H0.out)).mono ?_); rintro e w2 ⟨o, g, rfl, ho, hown, hb2⟩; have HO := hideI ho; have HW := hideI hown; have HB2 := hideI hb2; clear ho hown hb2))
    go_ret2
    exact .inr ⟨H0.out, o, g, rfl, HO.out, World.ownsRow.mono HW.out (by omega), HB1.out.trans (HB2.out.mono (by omega))⟩
  · have H0 := hideI h0
    have hb : ((lookM f).1 != 0) = true := by simpa using h0
    clear h0
    go_enter Try.func17, Try.ntmps17
    go_wp2_with (first
      | (go_at_call 45; go_must (refine (check_any f B _ _ _ (HP.out.keeps HK.out) (HBL.out.keeps HK.out) (by simp; omega) HID.out).mono ?_); rintro e w1 ⟨rfl, hb1⟩; have HB1 := hideI (HB0.out.trans (hb1.mono (by simp))); clear hb1))
    go_ret2
    exact .inl ⟨H0.out, rfl, HB1.out⟩

end Go.Proofs.Ytclbhbnidodmdaa
