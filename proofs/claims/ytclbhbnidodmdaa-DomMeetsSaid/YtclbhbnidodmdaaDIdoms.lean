/- dom.Idoms, as it is called; awake of the fourth law. -/
import Derived.Test.YtclbhbnidodmdaaDTreeOf
import Derived.Test.YtclbhbnidodmdaaAwakeM
namespace Go.Proofs.Ytclbhbnidodmdaa
open Go.RowKit Go.Maps

def IdomsPost (f : FuncM) (w : World) (e : Ending) (w' : World) : Prop :=
  ((lookM f).1 ≠ 0 ∧ e = .returned (.tuple #[.slice none 0 0, .int .i64 (lookM f).1]) ∧ Below w.heap.size w w') ∨
  ((lookM f).1 = 0 ∧ ∃ (o : List Nat) (pl : Nat → Nat) (par : Nat → Option Nat) (capo gi : Nat), e = .returned (.tuple #[.slice (some ⟨gi, 0, none⟩) f.blocks.length f.blocks.length, .int .i64 0]) ∧ Flows f o pl capo ∧ Done (succM f.blocks) o pl par ∧ w'.ownsRow w.heap.size 3 1 (.slice (some ⟨gi, 0, none⟩) f.blocks.length f.blocks.length) f.blocks.length (tops f.blocks.length par) ∧ Below w.heap.size w w')

set_option maxRecDepth 100000 in
set_option maxHeartbeats 1000000 in
theorem idoms_any (f : FuncM) (B : Nat) (pv bv : Value) (w : World) (hpv : Ints w B pv f.params) (hbv : BlocksR w B bv f.blocks) (hB : B ≤ w.heap.size) (hid : ∀ u ∈ usesM f, I64 u.1) :
    Calls Try.prog 30 #[.agg #[pv, .int .i64 f.arrays, .int .i64 f.cells, bv]] w (IdomsPost f w) := by
  have HP := hideI hpv
  have HBL := hideI hbv
  have HID := hideI hid
  obtain ⟨P, pc, rfl, _⟩ := hpv
  obtain ⟨A, c, rfl, hbm, _⟩ := hbv
  have HB0 : Hid (Below w.heap.size w (w.alloc (.cells #[.slice P f.params.length pc, .int .i64 f.arrays, .int .i64 f.cells, .slice A f.blocks.length c] 25))) := (Below.refl _ w).alloc (Nat.le_refl _) _
  have HT := hideI (treeOf_any f B _ _ (w.alloc (.cells #[.slice P f.params.length pc, .int .i64 f.arrays, .int .i64 f.cells, .slice A f.blocks.length c] 25)) (HP.out.keeps (Keeps.of_below (HB0.out.mono hB))) (HBL.out.keeps (Keeps.of_below (HB0.out.mono hB))) (by simp; omega) HID.out)
  clear hid
  by_cases h0 : (lookM f).1 = 0
  · have H0 := hideI h0
    clear h0
    go_enter Try.func30, Try.ntmps30
    go_wp2_with (go_at_call 59; go_must (refine HT.out.mono ?_); rintro e w1 (⟨hbad, _⟩ | ⟨_, o, pl, par, B1, gp, vs, go, capo, gl, gi, rfl, hfs, hdone, htree, hlow, hb1⟩); (exact absurd H0.out hbad); have HFS := hideI hfs; have HDONE := hideI hdone; have HTREE := hideI htree; have HB1 := hideI (HB0.out.trans (hb1.mono (by simp))); have hl1 : w.heap.size ≤ B1 := (by simp at hlow; omega); clear hfs hdone htree hb1 hlow)
    go_ret2
    exact .inr ⟨H0.out, o, pl, par, capo, gi, rfl, HFS.out, HDONE.out, World.ownsRow.mono ((World.ownsRow.alloc HTREE.out.idoms _)) hl1, HB1.out.alloc HB1.out.size _⟩
  · have H0 := hideI h0
    have hb : ((lookM f).1 != 0) = true := by simpa using h0
    clear h0
    go_enter Try.func30, Try.ntmps30
    go_wp2_with (go_at_call 59; go_must (refine HT.out.mono ?_); rintro e w1 (⟨_, rfl, hb1⟩ | ⟨hbad, _⟩); rotate_left; (exact absurd hbad H0.out); have HB1 := hideI (HB0.out.trans (hb1.mono (by simp))); clear hb1)
    go_ret2
    exact .inl ⟨H0.out, rfl, HB1.out.alloc HB1.out.size _⟩

end Go.Proofs.Ytclbhbnidodmdaa
