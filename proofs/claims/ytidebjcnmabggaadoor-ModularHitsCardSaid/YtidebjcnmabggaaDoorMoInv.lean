/- Inverse of modular. -/
import Derived.Test.YtidebjcnmabggaaDoorMoFirst
namespace Go.Proofs.YtidebjcnmabggaaDoor.Mo
open Go.RowKit

theorem tmod_two (a : Int) : a.tmod 2 = 0 ↔ a % 2 = 0 := by
  rw [← Int.dvd_iff_tmod_eq_zero, Int.dvd_iff_emod_eq_zero]

set_option maxRecDepth 100000 in
theorem inv_even (a : Int) (h : a % 2 = 0) (w : World) :
    Calls Tryd.prog 11 #[.int .i64 a] w fun e w' => e = .returned (.tuple #[.int .i64 0, .int .i64 9]) ∧ w' = w := by
  have h2 : a.tmod 2 = 0 := (tmod_two a).mpr h
  clear h
  go_enter Tryd.func11, Tryd.ntmps11
  go_wp2
  refine bodyPost_ret (results_tmp2 rfl _ _ _) (by rfl) ?_
  exact ⟨rfl, rfl⟩

theorem inv_num (a : Int) (h : a % 2 = 1) (hl : -9223372036854775808 ≤ a ∧ a < 9223372036854775808) :
    ∃ n : Int, IntKind.i64.wrap (Chn.invW (IntKind.u64.wrap a) 5) = n ∧ (-9223372036854775808 ≤ n ∧ n < 9223372036854775808) ∧ n % 2 = 1 ∧ (a * n) % 18446744073709551616 = 1 ∧ (n * a) % 18446744073709551616 = 1 := by
  obtain ⟨u, hu⟩ : ∃ u, u = IntKind.u64.wrap a := ⟨_, rfl⟩
  have hu1 := Chn.wrapu_low a
  have hu2 : u % 18446744073709551616 = a % 18446744073709551616 := by rw [hu]; exact Chn.wrapu_eq a
  rw [← hu] at hu1 ⊢
  have h1 := Chn.invW_is (o := u) (by omega)
  obtain ⟨x, hx⟩ : ∃ x, x = Chn.invW u 5 := ⟨_, rfl⟩
  rw [← hx] at h1 ⊢
  obtain ⟨n, hn⟩ : ∃ n, n = IntKind.i64.wrap x := ⟨_, rfl⟩
  have hn2 : n % 18446744073709551616 = x % 18446744073709551616 := by rw [hn]; unfold IntKind.wrap; simp [IntKind.bits, IntKind.signed]; omega
  have hnl : -9223372036854775808 ≤ n ∧ n < 9223372036854775808 := by rw [hn]; unfold IntKind.wrap; simp [IntKind.bits, IntKind.signed]; omega
  have h2 : (n * a) % 18446744073709551616 = 1 := by
    rw [Int.mul_emod, hn2, ← hu2, ← Int.mul_emod]
    exact h1
  refine ⟨n, hn.symm, hnl, ?_, by rw [Int.mul_comm]; exact h2, h2⟩
  rcases (by omega : n % 2 = 1 ∨ n % 2 = 0) with h3 | h3
  · exact h3
  · exfalso
    obtain ⟨k, hk⟩ : ∃ k, n = 2 * k := ⟨n / 2, by omega⟩
    rw [hk, Int.mul_assoc] at h2
    omega

set_option maxRecDepth 100000 in
theorem inv_odd (a : Int) (h : a % 2 = 1) (hl : -9223372036854775808 ≤ a ∧ a < 9223372036854775808) (w : World) :
    Calls Tryd.prog 11 #[.int .i64 a] w fun e w' => (∃ n : Int, (-9223372036854775808 ≤ n ∧ n < 9223372036854775808) ∧ n % 2 = 1 ∧ (a * n) % 18446744073709551616 = 1 ∧ (n * a) % 18446744073709551616 = 1 ∧ e = .returned (.tuple #[.int .i64 n, .int .i64 0])) ∧ w' = w := by
  have h2 : ¬ a.tmod 2 = 0 := fun e => by have := (tmod_two a).mp e; omega
  obtain ⟨n, e1, hn1, hn2, hn3, hn4⟩ := inv_num a h hl
  have HI := hideI (fun V : World => Chn.inverse_any (IntKind.u64.wrap a) (Chn.wrapu_low a) V)
  obtain ⟨x, hx⟩ : ∃ x, x = Chn.invW (IntKind.u64.wrap a) 5 := ⟨_, rfl⟩
  rw [← hx] at e1 HI
  have HN := hideI (show _ ∧ _ ∧ _ ∧ _ from ⟨hn1, hn2, hn3, hn4⟩)
  clear h hl hn1 hn2 hn3 hn4 hx
  go_enter Tryd.func11, Tryd.ntmps11
  go_wp2_with (go_at_call 18; go_must (refine (HI.out _).mono ?_); rintro e w1 ⟨rfl, hw⟩; obtain rfl := hw.symm)
  refine bodyPost_ret (results_tmp2 rfl _ _ _) (by rfl) ?_
  obtain ⟨g1, g2, g3, g4⟩ := HN.out
  exact ⟨⟨n, g1, g2, g3, g4, rfl⟩, rfl⟩

end Go.Proofs.YtidebjcnmabggaaDoor.Mo
