/- number, times, over of choices. -/
import Derived.Test.YtfifbgpiekpepaaDoorChTab
import Derived.Test.YtfifbgpiekpepaaDoorOdd
import Derived.Test.YtfifbgpiekpepaaDoorChWay
import Derived.Deep.QuietTactic
import Derived.Deep.RegionHeldLaw
import Derived.Laws.Rows
namespace Go.Proofs.YtfifbgpiekpepaaDoor.Chn
open Go.RowKit

theorem shl_eq (o : Int) (t : Nat) : Eq64 (o * 2 ^ (min t 64)) (o * 2 ^ t) := by
  rcases Nat.le_total t 64 with h | h
  · rw [Nat.min_eq_left h]; exact Eq64.rfl' _
  · obtain ⟨d, rfl⟩ : ∃ d, t = 64 + d := ⟨t - 64, by omega⟩
    rw [Nat.min_eq_right h, Int.pow_add]
    rw [show o * (2 ^ 64 * 2 ^ d) = 18446744073709551616 * (o * 2 ^ d) by rw [show (2 : Int) ^ 64 = 18446744073709551616 by decide]; ac_rfl]
    rw [show (2 : Int) ^ 64 = 18446744073709551616 by decide]
    unfold Eq64
    omega

set_option maxRecDepth 100000 in
theorem number_any (o : Int) (t : Nat) (x : Int) (h : Way o t x) (w : World) :
    Calls Tryd.prog 34 #[.agg #[.int .u64 o, .int .i64 t]] w fun e w' => e = .returned (.int .i64 (wrp x)) ∧ Below w.heap.size w w' := by
  have HW : Hid (wrap64 (IntKind.u64.wrap (o * 2 ^ min t 64)) = wrp x) := hideI (by
    rw [odd_wrap]
    exact wrp_of ((wrapu_eq _).trans ((shl_eq o t).trans h.num)))
  clear h
  have ht : (0 : Int) ≤ (t : Int) := by omega
  go_enter Tryd.func34, Tryd.ntmps34
  go_wp2
  go_ret
  exact ⟨by simp [HW.out], (Below.refl _ w).alloc (Nat.le_refl _) _⟩

set_option maxRecDepth 100000 in
theorem times_any (o : Int) (t : Nat) (a r : Nat) (ht : t < 1000000) (h : (2 * a + 1) * 2 ^ r < 2 ^ 63) (w : World) (hT : Tab w) :
    Calls Tryd.prog 35 #[.agg #[.int .u64 o, .int .i64 t], .int .i64 (((2 * a + 1) * 2 ^ r : Nat) : Int)] w fun e w' => e = .returned (.agg #[.int .u64 (IntKind.u64.wrap (o * ((2 * a + 1 : Nat) : Int))), .int .i64 ((t + r : Nat) : Int)]) ∧ Below w.heap.size w w' := by
  have HP := hideI (fun (V : World) (hV : Tab V) => parts_any a r (Nat.lt_trans h (by decide)) V hV)
  have hr := small_pow h
  have HT := hideI hT
  obtain ⟨x, hx⟩ : ∃ x, x = (2 * a + 1) * 2 ^ r := ⟨_, rfl⟩
  rw [← hx] at HP ⊢
  obtain ⟨q, hq⟩ : ∃ q : Int, q = ((2 * a + 1 : Nat) : Int) := ⟨_, rfl⟩
  rw [← hq] at HP ⊢
  have h0 := hT.1
  have hxw : IntKind.u64.wrap (x : Int) = (x : Int) := by rw [IntKind.wrap_u64]; omega
  clear hx hq h hT
  go_enter Tryd.func35, Tryd.ntmps35
  go_wp2_with (go_at_call 38; go_must (refine (HP.out _ (HT.out.keep (((Below.refl _ w).alloc (Nat.le_refl _) _).alloc (by simp) _) h0)).mono ?_); rintro e w1 ⟨rfl, rfl⟩)
  have hb1 : Hid ((t : Int) + (r : Int) = ((t + r : Nat) : Int)) := hideI (by omega)
  refine bodyPost_ret (results_cell_row (ty := 49) rfl _ _ (w.heap.size + 1) _ #[.int .u64 (IntKind.u64.wrap (o * q)), .int .i64 ((t : Int) + r)] _ _ rfl (by have h := heap_alloc_new (w.alloc (.cells #[.int .u64 o, .int .i64 t] 49)) (.cells #[.int .u64 (IntKind.u64.wrap (o * q)), .int .i64 ((t : Int) + r)] 49); simpa using h) Tryd.underlying49 rfl (by kernel_rfl)) rfl ?_
  exact ⟨by rw [hb1.out], ((Below.refl _ w).alloc (Nat.le_refl _) _).alloc (by simp) _⟩

set_option maxRecDepth 100000 in
theorem over_any (o : Int) (t : Nat) (a r : Nat) (ht : t < 1000000) (hrt : r ≤ t) (h : (2 * a + 1) * 2 ^ r < 2 ^ 63) (w : World) (hT : Tab w) :
    Calls Tryd.prog 36 #[.agg #[.int .u64 o, .int .i64 t], .int .i64 (((2 * a + 1) * 2 ^ r : Nat) : Int)] w fun e w' => e = .returned (.agg #[.int .u64 (IntKind.u64.wrap (o * invW ((2 * a + 1 : Nat) : Int) 5)), .int .i64 ((t - r : Nat) : Int)]) ∧ Below w.heap.size w w' := by
  have HP := hideI (fun (V : World) (hV : Tab V) => parts_any a r (Nat.lt_trans h (by decide)) V hV)
  have hr := small_pow h
  have HT := hideI hT
  have hq64 : 2 * a + 1 < 2 ^ 63 := Nat.lt_of_le_of_lt (Nat.le_mul_of_pos_right _ (Nat.pow_pos (by decide))) h
  obtain ⟨x, hx⟩ : ∃ x, x = (2 * a + 1) * 2 ^ r := ⟨_, rfl⟩
  rw [← hx] at HP ⊢
  obtain ⟨q, hq⟩ : ∃ q : Int, q = ((2 * a + 1 : Nat) : Int) := ⟨_, rfl⟩
  have HI := hideI (fun (V : World) => inverse_any q (by omega) V)
  rw [← hq] at HP ⊢
  have h0 := hT.1
  have HSUB : Hid ((t : Int) - (r : Int) = ((t - r : Nat) : Int)) := hideI (by omega)
  have hxw : IntKind.u64.wrap (x : Int) = (x : Int) := by rw [IntKind.wrap_u64]; omega
  clear hx hq h hT hq64
  obtain ⟨W1, hW1⟩ : ∃ W1 : World, W1 = (w.alloc (.cells #[.int .u64 o, .int .i64 t] 49)).alloc (.cells #[.int .u64 0, .int .i64 0] 49) := ⟨_, rfl⟩
  have HB1 : Hid (Below w.heap.size w W1) := hideI (by rw [hW1]; exact ((Below.refl _ w).alloc (Nat.le_refl _) _).alloc (by simp) _)
  have HO : Hid (W1.heap[w.heap.size]? = some (.cells #[.int .u64 o, .int .i64 t] 49 (0, 0))) := hideI (by rw [hW1, heap_alloc_old _ _ (by simp)]; exact heap_alloc_new w _)
  have HN : Hid (W1.heap[w.heap.size + 1]? = some (.cells #[.int .u64 0, .int .i64 0] 49 (0, 0))) := hideI (by rw [hW1]; have h := heap_alloc_new (w.alloc (.cells #[.int .u64 o, .int .i64 t] 49)) (.cells #[.int .u64 0, .int .i64 0] 49); simpa using h)
  have HW1 := hideI hW1
  clear hW1
  go_enter Tryd.func36, Tryd.ntmps36
  go_upto_region 1 with fail
  rw [← HW1.out]
  go_upto_region 2 with (go_at_call 38; go_must (refine (HP.out _ (HT.out.keep HB1.out h0)).mono ?_); rintro e w1 ⟨rfl, hw⟩; obtain rfl := hw.symm)
  have c0 : W1.cell? ⟨w.heap.size, 0, none⟩ = some (.int .u64 o) := row_cells HO.out rfl 0
  have c1 : W1.cell? ⟨w.heap.size, 1, none⟩ = some (.int .i64 t) := row_cells HO.out rfl 1
  have d0 : W1.cell? ⟨w.heap.size + 1, 0, none⟩ = some (.int .u64 0) := row_cells HN.out rfl 0
  have d1 : W1.cell? ⟨w.heap.size + 1, 1, none⟩ = some (.int .i64 0) := row_cells HN.out rfl 1
  have f0 : W1.frozen? ⟨w.heap.size + 1, 0, none⟩ = false := frozen_of_row W1 _ 0 _ _ HN.out
  have f1 : W1.frozen? ⟨w.heap.size + 1, 1, none⟩ = false := frozen_of_row W1 _ 1 _ _ HN.out
  go_region_held3 (fun w' => w'.cell? ⟨w.heap.size, 0, none⟩ = some (.int .u64 o) ∧ w'.cell? ⟨w.heap.size, 1, none⟩ = some (.int .i64 t)) (first | go_keep) (first | (go_at_call 39; refine (HI.out _).mono ?_; rintro e w4 ⟨rfl, hw⟩; obtain rfl := hw.symm))
  have h1 := heap_setCell_same W1 (w.heap.size + 1) 0 _ _ (.int .u64 (IntKind.u64.wrap (o * invW q 5))) HN.out
  have h2 := heap_setCell_same _ (w.heap.size + 1) 1 _ _ (.int .i64 (IntKind.i64.wrap ((t : Int) - r))) h1
  simp only [List.setIfInBounds_toArray, List.set_cons_zero, List.set_cons_succ] at h2
  have HS1 : Hid (((W1.setCell ⟨w.heap.size + 1, 0, none⟩ (.int .u64 (IntKind.u64.wrap (o * invW q 5)))).setCell ⟨w.heap.size + 1, 1, none⟩ (.int .i64 (IntKind.i64.wrap ((t : Int) - r)))).drew.heap[w.heap.size + 1]? = some (.cells #[.int .u64 (IntKind.u64.wrap (o * invW q 5)), .int .i64 (IntKind.i64.wrap ((t : Int) - r))] 49 (0, 0))) := hideI h2
  have HE : Hid (IntKind.i64.wrap ((t : Int) - (r : Int)) = ((t - r : Nat) : Int)) := hideI (by rw [HSUB.out]; exact IntWalk.i64_in _ (by omega))
  clear h1 h2 c0 c1 d0 d1 f0 f1
  go_wp2
  refine bodyPost_ret (results_cell_row (ty := 49) rfl _ _ (w.heap.size + 1) _ #[.int .u64 (IntKind.u64.wrap (o * invW q 5)), .int .i64 (IntKind.i64.wrap ((t : Int) - r))] _ _ rfl HS1.out Tryd.underlying49 rfl (by kernel_rfl)) rfl ?_
  exact ⟨by rw [HE.out], ((HB1.out.setCell (p := ⟨w.heap.size + 1, 0, none⟩) (by show w.heap.size ≤ w.heap.size + 1; omega) _).setCell (p := ⟨w.heap.size + 1, 1, none⟩) (by show w.heap.size ≤ w.heap.size + 1; omega) _).drew⟩
end Go.Proofs.YtfifbgpiekpepaaDoor.Chn
