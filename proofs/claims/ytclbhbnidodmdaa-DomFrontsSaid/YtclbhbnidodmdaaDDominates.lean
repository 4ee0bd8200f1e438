/- dom.Dominates, as it is called. -/
import Derived.Test.YtclbhbnidodmdaaDOver
namespace Go.Proofs.Ytclbhbnidodmdaa
open Go.RowKit Go.Maps

theorem Flows.ok {f : FuncM} {o : List Nat} {pl : Nat → Nat} {capo : Nat} {par : Nat → Option Nat} (h : Flows f o pl capo) (hd : Done (succM f.blocks) o pl par) : TreeOk f.blocks o pl par := ⟨h.ord, hd.tree, h.range, h.n5⟩

section
variable (f : FuncM) (B : Nat) (pv bv : Value) (w : World) (hpv : Ints w B pv f.params) (hbv : BlocksR w B bv f.blocks) (hB : B ≤ w.heap.size) (hid : ∀ u ∈ usesM f, I64 u.1)
include hpv hbv hB hid

set_option maxRecDepth 100000 in
set_option maxHeartbeats 1000000 in
theorem dominates_no (x y : Int) (h0 : (lookM f).1 ≠ 0) :
    Calls Try.prog 31 #[.agg #[pv, .int .i64 f.arrays, .int .i64 f.cells, bv], .int .i64 x, .int .i64 y] w fun e w' => e = .returned (.tuple #[.bool false, .int .i64 (lookM f).1]) ∧ Below w.heap.size w w' := by
  have HP := hideI hpv
  have HBL := hideI hbv
  have HID := hideI hid
  obtain ⟨P, pc, rfl, _⟩ := hpv
  obtain ⟨A, c, rfl, hbm, _⟩ := hbv
  have HB0 : Hid (Below w.heap.size w (w.alloc (.cells #[.slice P f.params.length pc, .int .i64 f.arrays, .int .i64 f.cells, .slice A f.blocks.length c] 25))) := (Below.refl _ w).alloc (Nat.le_refl _) _
  have HT := hideI (treeOf_any f B _ _ (w.alloc (.cells #[.slice P f.params.length pc, .int .i64 f.arrays, .int .i64 f.cells, .slice A f.blocks.length c] 25)) (HP.out.keeps (Keeps.of_below (HB0.out.mono hB))) (HBL.out.keeps (Keeps.of_below (HB0.out.mono hB))) (by simp; omega) HID.out)
  have H0 := hideI h0
  have hb : ((lookM f).1 != 0) = true := by simpa using h0
  clear hid h0
  go_enter Try.func31, Try.ntmps31
  go_wp2_with (go_at_call 59; go_must (refine HT.out.mono ?_); rintro e w1 (⟨_, rfl, hb1⟩ | ⟨hbad, _⟩); rotate_left; (exact absurd hbad H0.out); have HB1 := hideI (HB0.out.trans (hb1.mono (by simp))); clear hb1)
  go_ret2
  exact ⟨rfl, HB1.out.alloc HB1.out.size _⟩

set_option maxRecDepth 100000 in
set_option maxHeartbeats 2000000 in
theorem dominates_yes (a b : Nat) (o : List Nat) (r : Bool) (h0 : (lookM f).1 = 0) (ho : OrderIs f.blocks o) (ha : a < f.blocks.length) (hb : b < f.blocks.length) (hr : r = true ↔ OverP f.blocks o a b) :
    Calls Try.prog 31 #[.agg #[pv, .int .i64 f.arrays, .int .i64 f.cells, bv], .int .i64 a, .int .i64 b] w fun e w' => e = .returned (.tuple #[.bool r, .int .i64 0]) ∧ Below w.heap.size w w' := by
  have HP := hideI hpv
  have HBL := hideI hbv
  have HID := hideI hid
  have HR := hideI hr
  have HO := hideI ho
  obtain ⟨P, pc, rfl, _⟩ := hpv
  obtain ⟨A, c, rfl, hbm, _⟩ := hbv
  have HB0 : Hid (Below w.heap.size w (w.alloc (.cells #[.slice P f.params.length pc, .int .i64 f.arrays, .int .i64 f.cells, .slice A f.blocks.length c] 25))) := (Below.refl _ w).alloc (Nat.le_refl _) _
  have HT := hideI (treeOf_any f B _ _ (w.alloc (.cells #[.slice P f.params.length pc, .int .i64 f.arrays, .int .i64 f.cells, .slice A f.blocks.length c] 25)) (HP.out.keeps (Keeps.of_below (HB0.out.mono hB))) (HBL.out.keeps (Keeps.of_below (HB0.out.mono hB))) (by simp; omega) HID.out)
  have H0 := hideI h0
  have HIA : Hid (isBlockB f.blocks.length (a : Int) = true) := by show _ = _; simp [isBlockB]; omega
  have HIB : Hid (isBlockB f.blocks.length (b : Int) = true) := by show _ = _; simp [isBlockB]; omega
  clear hid h0 hr ho
  go_enter Try.func31, Try.ntmps31
  go_wp2_with (first
    | (go_at_call 59; go_must (refine HT.out.mono ?_); rintro e w1 (⟨hbad, _⟩ | ⟨_, o1, pl, par, B1, gp, vs, go, capo, gl, gi, rfl, hfs, hdone, htree, hlow, hb1⟩); (exact absurd H0.out hbad); (obtain rfl := HO.out.one hfs.order); have HFS := hideI hfs; have HDONE := hideI hdone; have HTREE := hideI htree; have HB1 := hideI (HB0.out.trans (hb1.mono (by simp))); clear hfs hdone htree hb1 hlow)
    | (go_at_call_of 60 (Value.int IntKind.i64 (a : Int)); go_must (refine (isBlock_any f.blocks.length o.length a gp go capo gl _ HFS.out.n5).mono ?_); rw [HIA.out]; rintro e w2 ⟨rfl, hb2⟩; have HXA := hideI ((hb2.block w1.heap.size (by simp)).trans (heap_alloc_new w1 _)); have HT2 := hideI ((HTREE.out.kept ((Below.refl _ w1).alloc (Nat.le_refl _) _)).kept hb2); have HB2 := hideI ((HB1.out.alloc HB1.out.size _).trans (hb2.mono (by have := HB1.out.size; simp; omega))); have hx := row_cells HXA.out rfl; have q0 := hx 0; have q1 := hx 1; have q2 := hx 2; have q3 := hx 3; clear hb2 hx)
    | (go_at_call_of 60 (Value.int IntKind.i64 (b : Int)); go_must (refine (isBlock_any f.blocks.length o.length b gp go capo gl _ HFS.out.n5).mono ?_); rw [HIB.out]; rintro e w3 ⟨rfl, hb3⟩; have HT3 := hideI (HT2.out.kept hb3); have HB3 := hideI (HB2.out.trans (hb3.mono HB2.out.size)); have hx := row_cells HXA.out (hb3.block _ (lt_of_heap HXA.out)); clear q0 q1 q2 q3; have q0 := hx 0; have q1 := hx 1; have q2 := hx 2; have q3 := hx 3; clear hb3 hx)
    | (go_at_call 61; go_must (refine (dominates_any f.blocks o pl par B1 gp go capo gl gi a b vs r _ HT3.out (HFS.out.ok HDONE.out) HDONE.out ha hb HR.out).mono ?_); rintro e w4 ⟨rfl, hb4⟩; have HB4 := hideI (HB3.out.trans (hb4.mono HB3.out.size)); clear hb4))
  go_ret2
  exact ⟨rfl, HB4.out⟩

set_option maxRecDepth 100000 in
set_option maxHeartbeats 2000000 in
theorem dominates_none (x y : Int) (h0 : (lookM f).1 = 0) (hn : (isBlockB f.blocks.length x && isBlockB f.blocks.length y) = false) :
    Calls Try.prog 31 #[.agg #[pv, .int .i64 f.arrays, .int .i64 f.cells, bv], .int .i64 x, .int .i64 y] w fun e w' => e = .returned (.tuple #[.bool false, .int .i64 9]) ∧ Below w.heap.size w w' := by
  have HP := hideI hpv
  have HBL := hideI hbv
  have HID := hideI hid
  obtain ⟨P, pc, rfl, _⟩ := hpv
  obtain ⟨A, c, rfl, hbm, _⟩ := hbv
  have HB0 : Hid (Below w.heap.size w (w.alloc (.cells #[.slice P f.params.length pc, .int .i64 f.arrays, .int .i64 f.cells, .slice A f.blocks.length c] 25))) := (Below.refl _ w).alloc (Nat.le_refl _) _
  have HT := hideI (treeOf_any f B _ _ (w.alloc (.cells #[.slice P f.params.length pc, .int .i64 f.arrays, .int .i64 f.cells, .slice A f.blocks.length c] 25)) (HP.out.keeps (Keeps.of_below (HB0.out.mono hB))) (HBL.out.keeps (Keeps.of_below (HB0.out.mono hB))) (by simp; omega) HID.out)
  have H0 := hideI h0
  cases hx : isBlockB f.blocks.length x with
  | false =>
    have HIA : Hid (isBlockB f.blocks.length x = false) := hx
    clear hid h0 hn hx
    go_enter Try.func31, Try.ntmps31
    go_wp2_with (first
      | (go_at_call 59; go_must (refine HT.out.mono ?_); rintro e w1 (⟨hbad, _⟩ | ⟨_, o, pl, par, B1, gp, vs, go, capo, gl, gi, rfl, hfs, hdone, htree, hlow, hb1⟩); (exact absurd H0.out hbad); have HFS := hideI hfs; have HB1 := hideI (HB0.out.trans (hb1.mono (by simp))); clear hfs hdone htree hb1 hlow)
      | (go_at_call_of 60 (Value.int IntKind.i64 x); go_must (refine (isBlock_any f.blocks.length o.length x gp go capo gl _ HFS.out.n5).mono ?_); rw [HIA.out]; rintro e w2 ⟨rfl, hb2⟩; have HB2 := hideI ((HB1.out.alloc HB1.out.size _).trans (hb2.mono (by have := HB1.out.size; simp; omega))); clear hb2))
    go_ret2
    exact ⟨rfl, HB2.out⟩
  | true =>
    have hy : isBlockB f.blocks.length y = false := by rw [hx] at hn; simpa using hn
    have HIA : Hid (isBlockB f.blocks.length x = true) := hx
    have HIB : Hid (isBlockB f.blocks.length y = false) := hy
    have hxy : ¬ x = y := fun e => by rw [e, hy] at hx; cases hx
    clear hid h0 hn hx hy
    go_enter Try.func31, Try.ntmps31
    go_wp2_with (first
      | (go_at_call 59; go_must (refine HT.out.mono ?_); rintro e w1 (⟨hbad, _⟩ | ⟨_, o, pl, par, B1, gp, vs, go, capo, gl, gi, rfl, hfs, hdone, htree, hlow, hb1⟩); (exact absurd H0.out hbad); have HFS := hideI hfs; have HB1 := hideI (HB0.out.trans (hb1.mono (by simp))); clear hfs hdone htree hb1 hlow)
      | (go_at_call_of 60 (Value.int IntKind.i64 x); go_must (refine (isBlock_any f.blocks.length o.length x gp go capo gl _ HFS.out.n5).mono ?_); rw [HIA.out]; rintro e w2 ⟨rfl, hb2⟩; have HXA := hideI ((hb2.block w1.heap.size (by simp)).trans (heap_alloc_new w1 _)); have HB2 := hideI ((HB1.out.alloc HB1.out.size _).trans (hb2.mono (by have := HB1.out.size; simp; omega))); have hx := row_cells HXA.out rfl; have q0 := hx 0; have q1 := hx 1; have q2 := hx 2; have q3 := hx 3; clear hb2 hx)
      | (go_at_call_of 60 (Value.int IntKind.i64 y); go_must (refine (isBlock_any f.blocks.length o.length y gp go capo gl _ HFS.out.n5).mono ?_); rw [HIB.out]; rintro e w3 ⟨rfl, hb3⟩; have HB3 := hideI (HB2.out.trans (hb3.mono HB2.out.size)); clear hb3))
    go_ret2
    exact ⟨rfl, HB3.out⟩
end

end Go.Proofs.Ytclbhbnidodmdaa
