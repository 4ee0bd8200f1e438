/- dom.Frontiers, as it is called. -/
import Derived.Test.YtclbhbnidodmdaaDFronts
namespace Go.Proofs.Ytclbhbnidodmdaa
open Go.RowKit Go.Maps

section
variable (f : FuncM) (B : Nat) (pv bv : Value) (w : World) (hpv : Ints w B pv f.params) (hbv : BlocksR w B bv f.blocks) (hB : B ≤ w.heap.size) (hid : ∀ u ∈ usesM f, I64 u.1)
include hpv hbv hB hid

set_option maxRecDepth 100000 in
set_option maxHeartbeats 1000000 in
theorem domFronts_no (h0 : (lookM f).1 ≠ 0) :
    Calls Try.prog 35 #[.agg #[pv, .int .i64 f.arrays, .int .i64 f.cells, bv]] w fun e w' => e = .returned (.tuple #[.slice none 0 0, .int .i64 (lookM f).1]) ∧ Below w.heap.size w w' := by
  have HP := hideI hpv
  have HBL := hideI hbv
  have HID := hideI hid
  obtain ⟨P, pc, rfl, _⟩ := hpv
  obtain ⟨A, c, rfl, hbm, _⟩ := hbv
  have HB0 : Hid (Below w.heap.size w (w.alloc (.cells #[.slice P f.params.length pc, .int .i64 f.arrays, .int .i64 f.cells, .slice A f.blocks.length c] 25))) := (Below.refl _ w).alloc (Nat.le_refl _) _
  have HT := hideI (treeOf_any f B _ _ (w.alloc (.cells #[.slice P f.params.length pc, .int .i64 f.arrays, .int .i64 f.cells, .slice A f.blocks.length c] 25)) (HP.out.keeps (Keeps.of_below (HB0.out.mono hB))) (HBL.out.keeps (Keeps.of_below (HB0.out.mono hB))) (by simp; omega) HID.out)
  have H0 := hideI h0
  have hb : ((lookM f).1 != 0) = true := by simpa using h0
  clear hid h0
  go_enter Try.func35, Try.ntmps35
  go_wp2_with (go_at_call 59; go_must (refine HT.out.mono ?_); rintro e w1 (⟨_, rfl, hb1⟩ | ⟨hbad, _⟩); rotate_left; (exact absurd hbad H0.out); have HB1 := hideI (HB0.out.trans (hb1.mono (by simp))); clear hb1)
  go_ret2
  exact ⟨rfl, HB1.out.alloc HB1.out.size _⟩

def FrontiersPost (f : FuncM) (F : Nat → Nat → Bool) (w : World) (e : Ending) (w' : World) : Prop :=
  ∃ (g : Nat) (vs : List Value), e = .returned (.tuple #[.slice (some ⟨g, 0, none⟩) f.blocks.length f.blocks.length, .int .i64 0]) ∧ Lists w' w.heap.size g f.blocks.length vs (frontRows f.blocks.length F f.blocks.length (fun _ => false)) ∧ Below w.heap.size w w'

set_option maxRecDepth 100000 in
set_option maxHeartbeats 1000000 in
theorem domFronts_yes (o : List Nat) (F : Nat → Nat → Bool) (h0 : (lookM f).1 = 0) (ho : OrderIs f.blocks o) (hF : ∀ a b, F a b = true ↔ FrontP f.blocks o a b) :
    Calls Try.prog 35 #[.agg #[pv, .int .i64 f.arrays, .int .i64 f.cells, bv]] w (FrontiersPost f F w) := by
  have HP := hideI hpv
  have HBL := hideI hbv
  have HID := hideI hid
  have HO := hideI ho
  have HF := hideI hF
  obtain ⟨P, pc, rfl, _⟩ := hpv
  obtain ⟨A, c, rfl, hbm, _⟩ := hbv
  have HB0 : Hid (Below w.heap.size w (w.alloc (.cells #[.slice P f.params.length pc, .int .i64 f.arrays, .int .i64 f.cells, .slice A f.blocks.length c] 25))) := (Below.refl _ w).alloc (Nat.le_refl _) _
  have HT := hideI (treeOf_any f B _ _ (w.alloc (.cells #[.slice P f.params.length pc, .int .i64 f.arrays, .int .i64 f.cells, .slice A f.blocks.length c] 25)) (HP.out.keeps (Keeps.of_below (HB0.out.mono hB))) (HBL.out.keeps (Keeps.of_below (HB0.out.mono hB))) (by simp; omega) HID.out)
  have H0 := hideI h0
  clear hid h0 ho hF
  go_enter Try.func35, Try.ntmps35
  go_wp2_with (first
    | (go_at_call 59; go_must (refine HT.out.mono ?_); rintro e w1 (⟨hbad, _⟩ | ⟨_, o1, pl, par, B1, gp, vs, go, capo, gl, gi, rfl, hfs, hdone, htree, hlow, hb1⟩); (exact absurd H0.out hbad); (obtain rfl := HO.out.one hfs.order); have HFS := hideI hfs; have HDONE := hideI hdone; have HTREE := hideI htree; have HB1 := hideI (HB0.out.trans (hb1.mono (by simp))); clear hfs hdone htree hb1 hlow)
    | (go_at_call 63; go_must (refine (frontiers_any f.blocks o pl par B1 gp go capo gl gi vs F _ (HTREE.out.kept ((Below.refl _ w1).alloc (Nat.le_refl _) _)) (HFS.out.ok HDONE.out) HDONE.out HF.out).mono ?_); rintro e w2 ⟨g, vs2, rfl, hls, hb2⟩; have HLS := hideI hls; have HB2 := hideI ((HB1.out.alloc HB1.out.size _).trans (hb2.mono (by have := HB1.out.size; simp; omega))); have hs2 : w.heap.size ≤ w1.heap.size := HB1.out.size; clear hls hb2))
  go_ret2
  exact ⟨g, vs2, rfl, HLS.out.mono (by simp; omega), HB2.out⟩
end

end Go.Proofs.Ytclbhbnidodmdaa
