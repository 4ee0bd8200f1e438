/- The program's Parts and Inverse of package odd; TrailingZeros64 of 0. -/
import Derived.Test.YtidebjcnmabggaaDoorChTab
import Derived.Test.YtidebjcnmabggaaDoorChNewt
import Derived.Deep.QuietTactic
import Derived.Laws.Rows
namespace Go.Proofs.YtidebjcnmabggaaDoor.Chn
open Go.RowKit

theorem small_pow {a r b : Nat} (h : (2 * a + 1) * 2 ^ r < 2 ^ b) : r < b := by
  rcases Nat.lt_or_ge r b with h1 | h1
  · exact h1
  · have h2 := Nat.pow_le_pow_right (n := 2) (by decide) h1
    have h3 : 1 * 2 ^ r ≤ (2 * a + 1) * 2 ^ r := Nat.mul_le_mul_right _ (by omega)
    omega

set_option maxRecDepth 100000 in
theorem parts_any (a r : Nat) (h : (2 * a + 1) * 2 ^ r < 2 ^ 64) (w : World) (hT : Tab w) :
    Calls Tryd.prog 21 #[.int .u64 (((2 * a + 1) * 2 ^ r : Nat) : Int)] w fun e w' => e = .returned (.tuple #[.int .u64 ((2 * a + 1 : Nat) : Int), .int .i64 r]) ∧ w' = w := by
  have HTZ := hideI (fun (V : World) (hV : Tab V) => tz_any a r h V hV)
  have HT := hideI hT
  have hr := small_pow h
  have hp0 : 0 < 2 ^ r := Nat.pow_pos (by decide)
  have hdiv : (2 * a + 1) * 2 ^ r / 2 ^ r = 2 * a + 1 := Nat.mul_div_cancel _ hp0
  obtain ⟨x, hx⟩ : ∃ x, x = (2 * a + 1) * 2 ^ r := ⟨_, rfl⟩
  rw [← hx] at HTZ h hdiv ⊢
  have HD : Hid ((x : Int) / 2 ^ r = ((2 * a + 1 : Nat) : Int)) := hideI (by rw [← hdiv, Int.natCast_ediv, Int.natCast_pow]; rfl)
  clear hT hx hdiv
  have hr0 : (0 : Int) ≤ (r : Int) := by omega
  go_enter Tryd.func21, Tryd.ntmps21
  go_wp2_with (go_at_call 23; go_must (refine (HTZ.out w HT.out).mono ?_); rintro e w1 ⟨rfl, rfl⟩)
  refine bodyPost_ret (results_tmp2 rfl _ _ _) (by rfl) ?_
  exact ⟨by simp [HD.out], rfl⟩

set_option maxRecDepth 100000 in
theorem tz_zero (w : World) :
    Calls Tryd.prog 23 #[.int .u64 0] w fun e w' => e = .returned (.int .i64 64) ∧ w' = w := by
  go_enter Tryd.func23, Tryd.ntmps23
  go_wp2
  go_ret
  exact ⟨rfl, rfl⟩

set_option maxRecDepth 100000 in
theorem parts_zero (w : World) :
    Calls Tryd.prog 21 #[.int .u64 0] w fun e w' => e = .returned (.tuple #[.int .u64 0, .int .i64 64]) ∧ w' = w := by
  have HTZ := hideI (fun (V : World) => tz_zero V)
  go_enter Tryd.func21, Tryd.ntmps21
  go_wp2_with (go_at_call 23; go_must (refine (HTZ.out w).mono ?_); rintro e w1 ⟨rfl, rfl⟩)
  refine bodyPost_ret (results_tmp2 rfl _ _ _) (by rfl) ?_
  exact ⟨rfl, rfl⟩

set_option maxRecDepth 100000 in
theorem inverse_any (o : Int) (ho : 0 ≤ o ∧ o < 18446744073709551616) (w : World) :
    Calls Tryd.prog 18 #[.int .u64 o] w fun e w' => e = .returned (.int .u64 (invW o 5)) ∧ w' = w := by
  have HO := hideI ho
  clear ho
  go_enter Tryd.func18, Tryd.ntmps18
  go_wp2
  go_loopw [3, 5] (fun u3 u5 wv => ∃ k : Nat, k ≤ 5 ∧ u5 = .int .i64 k ∧ u3 = .int .u64 (invW o k) ∧ wv = w) (fun _ u5 _ => 5 - (intOf u5).toNat)
  case atStart => exact ⟨0, by omega, rfl, rfl, rfl⟩
  case round =>
    obtain ⟨k, hk, rfl, rfl, hw⟩ := hrel
    obtain rfl := hw.symm
    by_cases hlt : k < 5
    · have hl : (k : Int) < 5 := by omega
      go_wp2
      go_roundw
      case rel => exact ⟨k + 1, by omega, by go_num, rfl, trivial⟩
      case measure => simp [intOf]; omega
    · have hkm : k = 5 := by omega
      subst hkm
      go_wp2
      go_ret
      exact ⟨rfl, rfl⟩
end Go.Proofs.YtidebjcnmabggaaDoor.Chn
