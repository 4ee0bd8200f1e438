/- awake of the fourth law: the simplest function's tree. -/
import Derived.Test.YtclbhbnidodmdaaDTreeOf
import Derived.Test.YtclbhbnidodmdaaAwakeM
import Derived.Test.YtclbhbnidodmdaaAwake3
import Derived.Test.YtclbhbnidodmdaaDDominates
namespace Go.Proofs.Ytclbhbnidodmdaa
open Go.RowKit Go.Maps

def IdomsPost (f : FuncM) (w : World) (e : Ending) (w' : World) : Prop :=
  ((lookM f).1 ≠ 0 ∧ e = .returned (.tuple #[.slice none 0 0, .int .i64 (lookM f).1]) ∧ Below w.heap.size w w') ∨
  ((lookM f).1 = 0 ∧ ∃ (o : List Nat) (pl : Nat → Nat) (par : Nat → Option Nat) (capo gi : Nat), e = .returned (.tuple #[.slice (some ⟨gi, 0, none⟩) f.blocks.length f.blocks.length, .int .i64 0]) ∧ Flows f o pl capo ∧ Done (succM f.blocks) o pl par ∧ w'.ownsRow w.heap.size 3 1 (.slice (some ⟨gi, 0, none⟩) f.blocks.length f.blocks.length) f.blocks.length (tops f.blocks.length par) ∧ Below w.heap.size w w')

set_option maxRecDepth 100000 in
set_option maxHeartbeats 1000000 in
theorem idoms_any (f : FuncM) (B : Nat) (pv bv : Value) (w : World) (hpv : Ints w B pv f.params) (hbv : BlocksR w B bv f.blocks) (hB : B ≤ w.heap.size) (hid : ∀ u ∈ usesM f, I64 u.1) :
    Calls Try.prog 30 #[.agg #[pv, .int .i64 f.arrays, .int .i64 f.cells, bv]] w (IdomsPost f w) := by
  have HP := hideI hpv
  have HBL := hideI hbv
  have HID := hideI hid
  obtain ⟨P, pc, rfl, _⟩ := hpv
  obtain ⟨A, c, rfl, hbm, _⟩ := hbv
  have HB0 : Hid (Below w.heap.size w (w.alloc (.cells #[.slice P f.params.length pc, .int .i64 f.arrays, .int .i64 f.cells, .slice A f.blocks.length c] 25))) := (Below.refl _ w).alloc (Nat.le_refl _) _
  have HT := hideI (treeOf_any f B _ _ (w.alloc (.cells #[.slice P f.params.length pc, .int .i64 f.arrays, .int .i64 f.cells, .slice A f.blocks.length c] 25)) (HP.out.keeps (Keeps.of_below (HB0.out.mono hB))) (HBL.out.keeps (Keeps.of_below (HB0.out.mono hB))) (by simp; omega) HID.out)
  clear hid
  by_cases h0 : (lookM f).1 = 0
  · have H0 := hideI h0
    clear h0
    go_enter Try.func30, Try.ntmps30
    go_wp2_with (go_at_call 59; go_must (refine HT.out.mono ?_); rintro e w1 (⟨hbad, _⟩ | ⟨_, o, pl, par, B1, gp, vs, go, capo, gl, gi, rfl, hfs, hdone, htree, hlow, hb1⟩); (exact absurd H0.out hbad); have HFS := hideI hfs; have HDONE := hideI hdone; have HTREE := hideI htree; have HB1 := hideI (HB0.out.trans (hb1.mono (by simp))); have hl1 : w.heap.size ≤ B1 := (by simp at hlow; omega); clear hfs hdone htree hb1 hlow)
    go_ret2
    exact .inr ⟨H0.out, o, pl, par, capo, gi, rfl, HFS.out, HDONE.out, World.ownsRow.mono ((World.ownsRow.alloc HTREE.out.idoms _)) hl1, HB1.out.alloc HB1.out.size _⟩
  · have H0 := hideI h0
    have hb : ((lookM f).1 != 0) = true := by simpa using h0
    clear h0
    go_enter Try.func30, Try.ntmps30
    go_wp2_with (go_at_call 59; go_must (refine HT.out.mono ?_); rintro e w1 (⟨_, rfl, hb1⟩ | ⟨hbad, _⟩); rotate_left; (exact absurd hbad H0.out); have HB1 := hideI (HB0.out.trans (hb1.mono (by simp))); clear hb1)
    go_ret2
    exact .inl ⟨H0.out, rfl, HB1.out.alloc HB1.out.size _⟩

end Go.Proofs.Ytclbhbnidodmdaa

namespace Go.Proofs.Ytclbhbnidodmdaa
open Go.RowKit Go.Maps

/-- the simplest function, made anew -/
def awakeMade (w : World) : World := (w.alloc (.cells #[.int .i64 1, .int .i64 0, .slice none 0 0, .int .i64 5] 86)).alloc (.cells #[.slice none 0 0, .slice (some ⟨w.heap.size, 0, none⟩) 1 1, .int .i64 3, .int .i64 0, .slice none 0 0, .int .i64 0] 54)

theorem awakeMade_facts (w : World) : BlocksR (awakeMade w) (w.heap.size + 2) (.slice (some ⟨w.heap.size + 1, 0, none⟩) 1 1) awakeF.blocks ∧ (awakeMade w).heap.size = w.heap.size + 2 ∧ Below w.heap.size w (awakeMade w) := by
  have hsz : (awakeMade w).heap.size = w.heap.size + 2 := by unfold awakeMade; simp
  have hBl : Below w.heap.size w (awakeMade w) := by unfold awakeMade; exact (((Below.refl _ w).alloc (Nat.le_refl _) _).alloc (by simp) _)
  have h0 : (awakeMade w).heap[w.heap.size]? = some (.cells #[.int .i64 1, .int .i64 0, .slice none 0 0, .int .i64 5] 86 (0, 0)) := by
    unfold awakeMade
    rw [Below.heap_alloc _ _ _ (by simp)]
    exact heap_alloc_new w _
  have h1 : (awakeMade w).heap[w.heap.size + 1]? = some (.cells #[.slice none 0 0, .slice (some ⟨w.heap.size, 0, none⟩) 1 1, .int .i64 3, .int .i64 0, .slice none 0 0, .int .i64 0] 54 (0, 0)) := by
    unfold awakeMade
    have := heap_alloc_new (w.alloc (.cells #[.int .i64 1, .int .i64 0, .slice none 0 0, .int .i64 5] 86)) (.cells #[.slice none 0 0, .slice (some ⟨w.heap.size, 0, none⟩) 1 1, .int .i64 3, .int .i64 0, .slice none 0 0, .int .i64 0] 54)
    simpa using this
  exact ⟨awake_reads w _ h0 h1, hsz, hBl⟩

theorem awake_orderIs : OrderIs awakeF.blocks [0] := by
  refine ⟨[0], [], ?_, rfl⟩
  have : succM awakeF.blocks 0 = [] := rfl
  rw [this]
  exact .nil _

theorem awake_idoms (w : World) : Calls Try.prog 30 #[.agg #[.slice none 0 0, .int .i64 0, .int .i64 0, .slice (some ⟨w.heap.size + 1, 0, none⟩) 1 1]] (awakeMade w) fun e w' => ∃ gi : Nat, e = .returned (.tuple #[.slice (some ⟨gi, 0, none⟩) 1 1, .int .i64 0]) ∧ w'.cell? ⟨gi, 0, none⟩ = some (.int .i64 (-1)) ∧ gi < w'.heap.size ∧ Below w.heap.size w w' := by
  obtain ⟨h1, h2, h3⟩ := awakeMade_facts w
  refine (idoms_any awakeF (w.heap.size + 2) (.slice none 0 0) _ (awakeMade w) (Ints.nil _ _) h1 (by omega) awake_uses).mono ?_
  rintro e w1 (⟨hbad, _⟩ | ⟨_, o, pl, par, capo, gi, rfl, hfs, hdone, hown, hb⟩)
  · exact absurd (congrArg Prod.fst awake_look) hbad
  · refine ⟨gi, rfl, ?_, (hown.lt gi rfl).2, h3.trans (hb.mono (by omega))⟩
    rw [World.ownsRow.cellAt hown 0 (by decide), tops_at (by decide), hdone.tree.root]
    rfl

theorem awake_dominates (w : World) : Calls Try.prog 31 #[.agg #[.slice none 0 0, .int .i64 0, .int .i64 0, .slice (some ⟨w.heap.size + 1, 0, none⟩) 1 1], .int .i64 0, .int .i64 0] (awakeMade w) fun e w' => e = .returned (.tuple #[.bool true, .int .i64 0]) ∧ Below w.heap.size w w' := by
  obtain ⟨h1, h2, h3⟩ := awakeMade_facts w
  refine (dominates_yes awakeF (w.heap.size + 2) (.slice none 0 0) _ (awakeMade w) (Ints.nil _ _) h1 (by omega) awake_uses 0 0 [0] true (congrArg Prod.fst awake_look) awake_orderIs (by decide) (by decide) ⟨fun _ => OverP.refl (by simp), fun _ => rfl⟩).mono ?_
  rintro e w1 ⟨rfl, hb⟩
  exact ⟨rfl, h3.trans (hb.mono (by omega))⟩

set_option maxHeartbeats 1000000 in
theorem awake4_any (w : World) : Calls Try.prog 32 #[] w fun e w' => e = .returned (.bool true) ∧ Below w.heap.size w w' := by
  have HI := hideI (awake_idoms w)
  have HD : Hid (∀ w, _) := hideI (fun w => awake_dominates w)
  unfold awakeMade at HI
  go_enter Try.func32, Try.ntmps32
  go_wp2_with (first
    | (go_at_call 30; go_must (refine HI.out.mono ?_); rintro e w1 ⟨gi, rfl, hc, hgi, hb⟩; have HB1 := hideI hb; have HDW := hideI (HD.out w1); unfold awakeMade at HDW; have HC := hideI hc; clear hb hc)
    | (go_at_call 31; go_must (refine HDW.out.mono ?_); rintro e w2 ⟨rfl, hb⟩; have hc : w2.cell? ⟨gi, 0, none⟩ = some (.int .i64 (-1)) := (hb.cell (p := ⟨gi, 0, none⟩) hgi).trans HC.out; have HB2 := hideI (HB1.out.trans (hb.mono HB1.out.size)); clear hb))
  go_ret
  exact ⟨rfl, HB2.out⟩

end Go.Proofs.Ytclbhbnidodmdaa
