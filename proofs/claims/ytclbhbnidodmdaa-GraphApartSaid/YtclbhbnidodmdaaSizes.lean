/- Check, Size. -/
import Derived.Test.YtclbhbnidodmdaaLookAt
namespace Go.Proofs.Ytclbhbnidodmdaa
open Go.RowKit Go.Maps

theorem look_bd {f : FuncM} (h : (lookM f).1 = 0) : f.blocks.length ≤ 512 := by
  cases hf : formedM f with
  | none => rw [look_none hf] at h; cases h
  | some ds =>
    unfold formedM at hf
    split at hf
    · rename_i hl
      simp only [Bool.and_eq_true] at hl
      exact (limits_bd hl.1.1).2.2.2.2.2.2.1
    · cases hf

set_option maxHeartbeats 1000000 in
theorem check_any (f : FuncM) (B : Nat) (pv bv : Value) (w : World) (hpv : Ints w B pv f.params) (hbv : BlocksR w B bv f.blocks) (hB : B ≤ w.heap.size) (hid : ∀ u ∈ usesM f, I64 u.1) :
    Calls Try.prog 45 #[.agg #[pv, .int .i64 f.arrays, .int .i64 f.cells, bv]] w fun e w' => e = .returned (.int .i64 (lookM f).1) ∧ Below w.heap.size w w' := by
  have HP := hideI hpv
  have HB := hideI hbv
  have HID := hideI hid
  obtain ⟨P, pc, rfl, _⟩ := hpv
  obtain ⟨A, c, rfl, _⟩ := hbv
  have hk : Keeps B w (w.alloc (.cells #[.slice P f.params.length pc, .int .i64 f.arrays, .int .i64 f.cells, .slice A f.blocks.length c] 25)) := (Keeps.refl w).alloc hB _
  have HL := hideI (lookAt_any f B _ _ _ (HP.out.keeps hk) (HB.out.keeps hk) (by simp; omega) HID.out)
  clear hid hk
  go_enter Try.func45, Try.ntmps45
  go_wp2_with fail
  refine HL.out.mono ?_
  rintro e w1 ⟨hb1, h | h⟩
  · obtain ⟨h0, M, hM, rfl, hm⟩ := h
    have H0 := hideI h0
    have HB1 := hideI (below_one (hb1.mono (by simp)))
    clear hb1 hm h0
    go_wp2
    go_ret
    exact ⟨by rw [H0.out]; rfl, HB1.out.alloc HB1.out.size _⟩
  · obtain ⟨h0, rfl⟩ := h
    have HB1 := hideI (below_one (hb1.mono (by simp)))
    clear hb1
    go_wp2
    go_ret
    exact ⟨rfl, HB1.out.alloc HB1.out.size _⟩

/-- what Size tells beside the error -/
def sizeOut (f : FuncM) : Int := if (lookM f).1 = 0 then (sizeM f : Int) else 0

set_option maxHeartbeats 1000000 in
theorem size_any (f : FuncM) (B : Nat) (pv bv : Value) (w : World) (hpv : Ints w B pv f.params) (hbv : BlocksR w B bv f.blocks) (hB : B ≤ w.heap.size) (hid : ∀ u ∈ usesM f, I64 u.1) :
    Calls Try.prog 55 #[.agg #[pv, .int .i64 f.arrays, .int .i64 f.cells, bv]] w fun e w' => e = .returned (.tuple #[.int .i64 (sizeOut f), .int .i64 (lookM f).1]) ∧ Below w.heap.size w w' := by
  have HP := hideI hpv
  have HB := hideI hbv
  have HID := hideI hid
  obtain ⟨P, pc, rfl, _⟩ := hpv
  obtain ⟨A, c, rfl, _⟩ := hbv
  have hk : Keeps B w (w.alloc (.cells #[.slice P f.params.length pc, .int .i64 f.arrays, .int .i64 f.cells, .slice A f.blocks.length c] 25)) := (Keeps.refl w).alloc hB _
  have HL := hideI (lookAt_any f B _ _ _ (HP.out.keeps hk) (HB.out.keeps hk) (by simp; omega) HID.out)
  clear hid hk
  go_enter Try.func55, Try.ntmps55
  go_wp2_with fail
  refine HL.out.mono ?_
  rintro e w1 ⟨hb1, h | h⟩
  · obtain ⟨h0, M, hM, rfl, hm⟩ := h
    have H0 := hideI h0
    have HB1 := hideI (below_one (hb1.mono (by simp)))
    have HS := hideI (lookSize_any f.blocks B (.slice P f.params.length pc) (.int .i64 f.arrays) (.int .i64 f.cells) (.slice A f.blocks.length c) (.map (some M)) (w1.alloc (.cells #[.slice P f.params.length pc, .int .i64 f.arrays, .int .i64 f.cells, .slice A f.blocks.length c, .map (some M)] 116)) (HB.out.keeps ((Keeps.of_below (HB1.out.mono hB)).alloc (Nat.le_trans hB HB1.out.size) _)) (by have := HB1.out.size; simp; omega) (look_bd h0))
    clear hb1 hm h0
    go_wp2_with (go_at_call 80; refine HS.out.mono ?_; rintro e w2 ⟨rfl, hb2⟩; have HB2 := hideI hb2; clear hb2)
    go_ret2
    exact ⟨by unfold sizeOut; rw [H0.out, if_pos rfl]; rfl, (HB1.out.alloc HB1.out.size _).trans (HB2.out.mono (by have := HB1.out.size; simp; omega))⟩
  · obtain ⟨h0, rfl⟩ := h
    have HB1 := hideI (below_one (hb1.mono (by simp)))
    have hb : ((lookM f).1 != 0) = true := by simpa using h0
    have H0 := hideI h0
    clear hb1 h0
    go_wp2
    go_ret2
    exact ⟨by unfold sizeOut; rw [if_neg H0.out]; rfl, HB1.out.alloc HB1.out.size _⟩

end Go.Proofs.Ytclbhbnidodmdaa
