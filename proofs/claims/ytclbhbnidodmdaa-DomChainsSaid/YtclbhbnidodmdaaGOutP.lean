/- graph.Preds, as it is called. -/
import Derived.Test.YtclbhbnidodmdaaGOut
import Derived.Test.YtclbhbnidodmdaaGPreds
namespace Go.Proofs.Ytclbhbnidodmdaa
open Go.RowKit Go.Maps

theorem Lists.mono {w : World} {base base' gb n : Nat} {vs : List Value} {ls : List (List Nat)} (h : Lists w base gb n vs ls) (hb : base' ≤ base) : Lists w base' gb n vs ls :=
  ⟨h.vl, h.ll, World.ownsRow.mono h.row hb, h.own, h.apart⟩

theorem Lists.kept {w w' : World} {base gb n : Nat} {vs : List Value} {ls : List (List Nat)} (h : Lists w base gb n vs ls) (hb : Below w.heap.size w w') : Lists w' base gb n vs ls :=
  ⟨h.vl, h.ll, own_kept_below h.row hb (fun k hk => (h.row.lt k hk).2), fun t v l hv hl => own_kept_below (h.own t v l hv hl) hb (fun k hk => ((h.own t v l hv hl).lt k hk).2), h.apart⟩

def GPredsPost (f : FuncM) (w : World) (e : Ending) (w' : World) : Prop :=
  ((lookM f).1 ≠ 0 ∧ e = .returned (.tuple #[.slice none 0 0, .int .i64 (lookM f).1]) ∧ Below w.heap.size w w') ∨
  ((lookM f).1 = 0 ∧ ∃ (g : Nat) (vs : List Value), e = .returned (.tuple #[.slice (some ⟨g, 0, none⟩) f.blocks.length f.blocks.length, .int .i64 0]) ∧ Lists w' w.heap.size g f.blocks.length vs (predsAt f.blocks f.blocks.length f.blocks.length 0) ∧ Below w.heap.size w w')

set_option maxRecDepth 100000 in
set_option maxHeartbeats 1000000 in
theorem gPreds_any (f : FuncM) (B : Nat) (pv bv : Value) (w : World) (hpv : Ints w B pv f.params) (hbv : BlocksR w B bv f.blocks) (hB : B ≤ w.heap.size) (hid : ∀ u ∈ usesM f, I64 u.1) :
    Calls Try.prog 16 #[.agg #[pv, .int .i64 f.arrays, .int .i64 f.cells, bv]] w (GPredsPost f w) := by
  have HP := hideI hpv
  have HBL := hideI hbv
  have HID := hideI hid
  obtain ⟨P, pc, rfl, _⟩ := hpv
  obtain ⟨A, c, rfl, hbm, _⟩ := hbv
  have HX := hideI (heap_alloc_new w (.cells #[.slice P f.params.length pc, .int .i64 f.arrays, .int .i64 f.cells, .slice A f.blocks.length c] 25))
  have HK : Hid (Keeps B w (w.alloc (.cells #[.slice P f.params.length pc, .int .i64 f.arrays, .int .i64 f.cells, .slice A f.blocks.length c] 25))) := (Keeps.refl w).alloc hB _
  have HB0 : Hid (Below w.heap.size w (w.alloc (.cells #[.slice P f.params.length pc, .int .i64 f.arrays, .int .i64 f.cells, .slice A f.blocks.length c] 25))) := (Below.refl _ w).alloc (Nat.le_refl _) _
  clear hid
  by_cases h0 : (lookM f).1 = 0
  · have H0 := hideI h0
    have hnb := look_some_block h0
    clear h0
    go_enter Try.func16, Try.ntmps16
    go_wp2_with (first
      | (go_at_call 45; go_must (refine (check_any f B _ _ _ (HP.out.keeps HK.out) (HBL.out.keeps HK.out) (by simp; omega) HID.out).mono ?_); rw [H0.out]; rintro e w1 ⟨rfl, hb⟩; have HB1 := hideI (HB0.out.trans (hb.mono (by simp))); have hxx := row_cells ((hb.block _ (lt_of_heap HX.out)).trans HX.out) rfl; have q0 := hxx 0; have q1 := hxx 1; have q2 := hxx 2; have q3 := hxx 3; have hl1 : w.heap.size < w1.heap.size := (by have := hb.size; simp at this; omega); clear hb hxx)
      | (go_at_call 46; go_must (refine (preds_any f.blocks w.heap.size _ _ _ _ _ ((HBL.out.more' hB).keeps (Keeps.of_below HB1.out)) (by omega) hnb.2 (look_ends H0.out)).mono ?_); rintro e w2 ⟨g, vs, rfl, hls, hb2⟩; have HLS := hideI hls; have HB2 := hideI hb2; clear hls hb2))
    go_ret2
    exact .inr ⟨H0.out, g, vs, rfl, HLS.out.mono (by omega), HB1.out.trans (HB2.out.mono (by omega))⟩
  · have H0 := hideI h0
    have hb : ((lookM f).1 != 0) = true := by simpa using h0
    clear h0
    go_enter Try.func16, Try.ntmps16
    go_wp2_with (first
      | (go_at_call 45; go_must (refine (check_any f B _ _ _ (HP.out.keeps HK.out) (HBL.out.keeps HK.out) (by simp; omega) HID.out).mono ?_); rintro e w1 ⟨rfl, hb1⟩; have HB1 := hideI (HB0.out.trans (hb1.mono (by simp))); clear hb1))
    go_ret2
    exact .inl ⟨H0.out, rfl, HB1.out⟩

theorem gOrder_no (f : FuncM) (B : Nat) (pv bv : Value) (w : World) (hpv : Ints w B pv f.params) (hbv : BlocksR w B bv f.blocks) (hB : B ≤ w.heap.size) (hid : ∀ u ∈ usesM f, I64 u.1) (h : (lookM f).1 ≠ 0) :
    Calls Try.prog 18 #[.agg #[pv, .int .i64 f.arrays, .int .i64 f.cells, bv]] w fun e w' => e = .returned (.tuple #[.slice none 0 0, .int .i64 (lookM f).1]) ∧ Below w.heap.size w w' := by
  refine (gOrder_any f B pv bv w hpv hbv hB hid).mono ?_
  rintro e w' (⟨_, h2⟩ | ⟨h2, _⟩)
  · exact h2
  · exact absurd h2 h

theorem gOrder_yes (f : FuncM) (B : Nat) (pv bv : Value) (w : World) (hpv : Ints w B pv f.params) (hbv : BlocksR w B bv f.blocks) (hB : B ≤ w.heap.size) (hid : ∀ u ∈ usesM f, I64 u.1) (h : (lookM f).1 = 0) :
    Calls Try.prog 18 #[.agg #[pv, .int .i64 f.arrays, .int .i64 f.cells, bv]] w fun e w' => ∃ (o : List Nat) (g cap : Nat), e = .returned (.tuple #[.slice (some ⟨g, 0, none⟩) o.length cap, .int .i64 0]) ∧ OrderIs f.blocks o ∧ 0 < o.length ∧ o.length ≤ f.blocks.length ∧ w'.ownsRow w.heap.size 3 1 (.slice (some ⟨g, 0, none⟩) o.length cap) o.length (natInts o) ∧ Below w.heap.size w w' := by
  refine (gOrder_any f B pv bv w hpv hbv hB hid).mono ?_
  rintro e w' (⟨h2, _⟩ | ⟨_, h2⟩)
  · exact absurd h h2
  · exact h2

theorem gReach_no (f : FuncM) (B : Nat) (pv bv : Value) (w : World) (hpv : Ints w B pv f.params) (hbv : BlocksR w B bv f.blocks) (hB : B ≤ w.heap.size) (hid : ∀ u ∈ usesM f, I64 u.1) (h : (lookM f).1 ≠ 0) :
    Calls Try.prog 17 #[.agg #[pv, .int .i64 f.arrays, .int .i64 f.cells, bv]] w fun e w' => e = .returned (.tuple #[.slice none 0 0, .int .i64 (lookM f).1]) ∧ Below w.heap.size w w' := by
  refine (gReach_any f B pv bv w hpv hbv hB hid).mono ?_
  rintro e w' (⟨_, h2⟩ | ⟨h2, _⟩)
  · exact h2
  · exact absurd h2 h

theorem gReach_yes (f : FuncM) (B : Nat) (pv bv : Value) (w : World) (hpv : Ints w B pv f.params) (hbv : BlocksR w B bv f.blocks) (hB : B ≤ w.heap.size) (hid : ∀ u ∈ usesM f, I64 u.1) (h : (lookM f).1 = 0) :
    Calls Try.prog 17 #[.agg #[pv, .int .i64 f.arrays, .int .i64 f.cells, bv]] w fun e w' => ∃ (o : List Nat) (g : Nat), e = .returned (.tuple #[.slice (some ⟨g, 0, none⟩) f.blocks.length f.blocks.length, .int .i64 0]) ∧ OrderIs f.blocks o ∧ w'.ownsRow w.heap.size 4 1 (.slice (some ⟨g, 0, none⟩) f.blocks.length f.blocks.length) f.blocks.length (marks f.blocks.length o) ∧ Below w.heap.size w w' := by
  refine (gReach_any f B pv bv w hpv hbv hB hid).mono ?_
  rintro e w' (⟨h2, _⟩ | ⟨_, h2⟩)
  · exact absurd h h2
  · exact h2

theorem gPreds_no (f : FuncM) (B : Nat) (pv bv : Value) (w : World) (hpv : Ints w B pv f.params) (hbv : BlocksR w B bv f.blocks) (hB : B ≤ w.heap.size) (hid : ∀ u ∈ usesM f, I64 u.1) (h : (lookM f).1 ≠ 0) :
    Calls Try.prog 16 #[.agg #[pv, .int .i64 f.arrays, .int .i64 f.cells, bv]] w fun e w' => e = .returned (.tuple #[.slice none 0 0, .int .i64 (lookM f).1]) ∧ Below w.heap.size w w' := by
  refine (gPreds_any f B pv bv w hpv hbv hB hid).mono ?_
  rintro e w' (⟨_, h2⟩ | ⟨h2, _⟩)
  · exact h2
  · exact absurd h2 h

theorem gPreds_yes (f : FuncM) (B : Nat) (pv bv : Value) (w : World) (hpv : Ints w B pv f.params) (hbv : BlocksR w B bv f.blocks) (hB : B ≤ w.heap.size) (hid : ∀ u ∈ usesM f, I64 u.1) (h : (lookM f).1 = 0) :
    Calls Try.prog 16 #[.agg #[pv, .int .i64 f.arrays, .int .i64 f.cells, bv]] w fun e w' => ∃ (g : Nat) (vs : List Value), e = .returned (.tuple #[.slice (some ⟨g, 0, none⟩) f.blocks.length f.blocks.length, .int .i64 0]) ∧ Lists w' w.heap.size g f.blocks.length vs (predsAt f.blocks f.blocks.length f.blocks.length 0) ∧ Below w.heap.size w w' := by
  refine (gPreds_any f B pv bv w hpv hbv hB hid).mono ?_
  rintro e w' (⟨h2, _⟩ | ⟨_, h2⟩)
  · exact absurd h h2
  · exact h2

end Go.Proofs.Ytclbhbnidodmdaa
