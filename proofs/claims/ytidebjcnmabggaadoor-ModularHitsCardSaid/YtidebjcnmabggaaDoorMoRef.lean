/- The reference's Mask, Solve and First. -/
import Derived.Test.YtidebjcnmabggaaDoorMoSolveM
import Derived.Test.YtidebjcnmabggaaDoorBase
import Derived.Test.YtidebjcnmabggaaDoorMoDiv
namespace Go.Proofs.YtidebjcnmabggaaDoor.Mo
open Go.RowKit

set_option maxRecDepth 100000 in
theorem refMask_any (n : Nat) (h1 : n ≤ 64) (w : World) :
    Calls Tryd.prog 16 #[.int .i64 (n : Int)] w fun e w' => e = .returned (.int .u64 ((2 ^ n - 1 : Nat) : Int)) ∧ w' = w := by
  obtain ⟨Z, hZ⟩ : ∃ Z, Z = 2 ^ n - 1 := ⟨_, rfl⟩
  rw [← hZ]
  have HZ0 := hideI hZ
  clear hZ
  go_enter Tryd.func16, Tryd.ntmps16
  go_wp2
  go_loopw [3, 4] (fun u3 u4 wv => ∃ k y : Nat, k ≤ n ∧ u4 = .int .i64 k ∧ u3 = .int .u64 y ∧ Hid (y = 2 ^ k - 1) ∧ wv = w) (fun _ u4 _ => n - (intOf u4).toNat)
  case atStart => exact ⟨0, 0, by omega, rfl, rfl, hideI (by simp), rfl⟩
  case round =>
    obtain ⟨k, y, hk, rfl, rfl, hy, hw⟩ := hrel
    obtain rfl := hw.symm
    by_cases hlt : k < n
    · have hl : (k : Int) < (n : Int) := by omega
      have h2 : 2 ^ (k + 1) = 2 * 2 ^ k := by rw [Nat.pow_succ, Nat.mul_comm]
      have h3 := pow_pos k
      have h4 := pow_le64 (n := k + 1) (by omega)
      obtain ⟨z, hz⟩ : ∃ z, z = 2 ^ (k + 1) - 1 := ⟨_, rfl⟩
      have e1 : IntKind.u64.wrap (IntKind.u64.wrap ((y : Int) * 2) + 1) = (z : Int) := by have := hy.out; simp only [IntKind.wrap_u64]; omega
      have HZ := hideI hz
      clear hz h2 h3 h4 hy
      go_wp2
      go_roundw
      case rel => exact ⟨k + 1, z, by omega, by go_num, rfl, HZ, trivial⟩
      case measure => simp [intOf]; omega
    · have hkn : k = n := by omega
      have HY : Hid (y = Z) := hideI (by rw [hy.out, hkn, HZ0.out])
      have hl : ¬ (k : Int) < (n : Int) := by omega
      clear hy hkn
      go_wp2
      go_ret
      exact ⟨by rw [HY.out]; rfl, rfl⟩

/-- one step further on -/
theorem step_mod {n v b a k : Nat} (hn : n ≤ 64) (hv : v = (a + b * k) % 2 ^ n) : (v + b) % 18446744073709551616 % 2 ^ n = (a + b * (k + 1)) % 2 ^ n := by
  rw [mod_mod64 hn, hv, Nat.mod_add_mod, Nat.mul_add, Nat.mul_one, Nat.add_assoc]

set_option maxRecDepth 100000 in
theorem refSolve_any (a b c n : Nat) (h1 : n ≤ 12) (ha : a < 18446744073709551616) (hb : b < 18446744073709551616) (hc : c < 18446744073709551616) (w : World) :
    Calls Tryd.prog 14 #[.int .u64 (a : Int), .int .u64 (b : Int), .int .u64 (c : Int), .int .i64 (n : Int)] w fun e w' => (∃ (x : Nat) (r : Int), Ans (2 ^ n) a b (c % 2 ^ n) (c % 2 ^ n) x r ∧ e = .returned (.tuple #[.int .u64 (x : Int), .int .i64 r])) ∧ w' = w := by
  have h64 : n ≤ 64 := by omega
  have hP4 : 2 ^ n ≤ 4096 := Nat.pow_le_pow_right (n := 2) (by decide) h1
  have hp := pow_pos n
  have hm : min n 64 = n := Nat.min_eq_left h64
  obtain ⟨P, hP⟩ : ∃ P, P = 2 ^ n := ⟨_, rfl⟩
  have hPi : (2 : Int) ^ n = (P : Int) := by rw [hP, Int.natCast_pow]; rfl
  have HSM := hideI (fun (v k : Nat) (hv : v = (a + b * k) % P) => by have h := step_mod (n := n) (v := v) (a := a) (b := b) (k := k) h64 (by rw [hv, hP]); rw [← hP] at h; exact h)
  rw [← hP] at hp hP4 ⊢
  have e0 : IntKind.u64.wrap (P : Int) = (P : Int) := by rw [IntKind.wrap_u64]; omega
  have p0 : ¬ ((P : Int) = 0) := by omega
  obtain ⟨d, hd⟩ : ∃ d, d = c % P := ⟨_, rfl⟩
  have hdl : d < P := by rw [hd]; exact Nat.mod_lt _ hp
  obtain ⟨a0, ha0⟩ : ∃ z, z = a % P := ⟨_, rfl⟩
  have r1 : (c : Int) % (P : Int) = (d : Int) := by rw [hd, Int.natCast_emod]
  have r2 : (a : Int) % (P : Int) = (a0 : Int) := by rw [ha0, Int.natCast_emod]
  have r3 : (c : Int).tmod (P : Int) = (d : Int) := by rw [hd]; rfl
  have r4 : (a : Int).tmod (P : Int) = (a0 : Int) := by rw [ha0]; rfl
  have HA0 : Hid (a0 = (a + b * 0) % P) := hideI (by rw [Nat.mul_zero, Nat.add_zero]; exact ha0)
  rw [← hd]
  have HP := hideI (show P ≤ 4096 ∧ 0 < P from ⟨hP4, hp⟩)
  clear hP hd ha0 ha hc hP4 hp h1
  go_enter Tryd.func14, Tryd.ntmps14
  go_wp2
  go_loopw [11, 12] (fun u11 u12 wv => ∃ k v : Nat, k ≤ P ∧ u12 = .int .u64 k ∧ u11 = .int .u64 v ∧ Hid (v = (a + b * k) % P ∧ ∀ m, m < k → ¬ Hit P a b d d m) ∧ wv = w) (fun _ u12 _ => P - (intOf u12).toNat)
  case atStart => exact ⟨0, a0, by omega, rfl, rfl, hideI ⟨HA0.out, fun m hm => by omega⟩, rfl⟩
  case round =>
    obtain ⟨k, v, hk, rfl, rfl, hI, hw⟩ := hrel
    obtain rfl := hw.symm
    by_cases hlt : k < P
    · have hl : (k : Int) < (P : Int) := by omega
      have hk4 : k < 4096 := by have := HP.out; omega
      by_cases hvd : v = d
      · have hvd2 : (v : Int) = (d : Int) := by omega
        have HANS : Hid (Ans P a b d d k 0) := hideI (.yes ⟨by unfold Hit; rw [← hI.out.1, hvd]; exact ⟨Nat.le_refl _, Nat.le_refl _⟩, hI.out.2⟩)
        clear hI
        go_wp2
        refine bodyPost_ret (results_tmp2 rfl _ _ _) (by rfl) ?_
        exact ⟨⟨k, 0, HANS.out, rfl⟩, rfl⟩
      · have hvd2 : ¬ (v : Int) = (d : Int) := by omega
        obtain ⟨y, hy⟩ : ∃ y, y = (v + b) % 18446744073709551616 := ⟨_, rfl⟩
        obtain ⟨v2, hv2⟩ : ∃ z, z = y % P := ⟨_, rfl⟩
        have e1 : IntKind.u64.wrap ((v : Int) + (b : Int)) = (y : Int) := by rw [hy, IntKind.wrap_u64]; omega
        have e2 : (y : Int) % (P : Int) = (v2 : Int) := by rw [hv2, Int.natCast_emod]
        have e3 : (y : Int).tmod (P : Int) = (v2 : Int) := by rw [hv2]; rfl
        have HI2 : Hid (v2 = (a + b * (k + 1)) % P ∧ ∀ m, m < k + 1 → ¬ Hit P a b d d m) := hideI ⟨by rw [hv2, hy]; exact HSM.out v k hI.out.1, fun m hm => by
          rcases Nat.lt_or_ge m k with h | h
          · exact hI.out.2 m h
          · have hmk : m = k := by omega
            subst hmk
            unfold Hit
            rw [← hI.out.1]
            omega⟩
        clear hI hy hv2 hvd
        go_wp2
        go_roundw
        case rel => exact ⟨k + 1, v2, by omega, by go_num, rfl, HI2, trivial⟩
        case measure => simp [intOf]; omega
    · have hkP : k = P := by omega
      have HANS : Hid (Ans P a b d d 0 9) := hideI (.no (None.of HP.out.2 (fun m hm => hI.out.2 m (by omega))))
      have hl : ¬ (k : Int) < (P : Int) := by omega
      clear hI hkP
      go_wp2
      refine bodyPost_ret (results_tmp2 rfl _ _ _) (by rfl) ?_
      exact ⟨⟨0, 9, HANS.out, rfl⟩, rfl⟩
set_option maxRecDepth 100000 in
theorem refFirst_any (a b lo hi n : Nat) (h1 : n ≤ 12) (ha : a < 18446744073709551616) (hb : b < 18446744073709551616) (w : World) :
    Calls Tryd.prog 17 #[.int .u64 (a : Int), .int .u64 (b : Int), .int .u64 (lo : Int), .int .u64 (hi : Int), .int .i64 (n : Int)] w fun e w' => (∃ (x : Nat) (r : Int), Ans (2 ^ n) a b lo hi x r ∧ e = .returned (.tuple #[.int .u64 (x : Int), .int .i64 r])) ∧ w' = w := by
  have h64 : n ≤ 64 := by omega
  have hP4 : 2 ^ n ≤ 4096 := Nat.pow_le_pow_right (n := 2) (by decide) h1
  have hp := pow_pos n
  have hm : min n 64 = n := Nat.min_eq_left h64
  obtain ⟨P, hP⟩ : ∃ P, P = 2 ^ n := ⟨_, rfl⟩
  have hPi : (2 : Int) ^ n = (P : Int) := by rw [hP, Int.natCast_pow]; rfl
  have HSM := hideI (fun (v k : Nat) (hv : v = (a + b * k) % P) => by have h := step_mod (n := n) (v := v) (a := a) (b := b) (k := k) h64 (by rw [hv, hP]); rw [← hP] at h; exact h)
  rw [← hP] at hp hP4 ⊢
  have e0 : IntKind.u64.wrap (P : Int) = (P : Int) := by rw [IntKind.wrap_u64]; omega
  have p0 : ¬ ((P : Int) = 0) := by omega
  obtain ⟨a0, ha0⟩ : ∃ z, z = a % P := ⟨_, rfl⟩
  have r2 : (a : Int) % (P : Int) = (a0 : Int) := by rw [ha0, Int.natCast_emod]
  have r4 : (a : Int).tmod (P : Int) = (a0 : Int) := by rw [ha0]; rfl
  have HA0 : Hid (a0 = (a + b * 0) % P) := hideI (by rw [Nat.mul_zero, Nat.add_zero]; exact ha0)
  have HP := hideI (show P ≤ 4096 ∧ 0 < P from ⟨hP4, hp⟩)
  clear hP ha0 ha hP4 hp h1
  go_enter Tryd.func17, Tryd.ntmps17
  go_wp2
  go_loopw [13, 14] (fun u11 u12 wv => ∃ k v : Nat, k ≤ P ∧ u12 = .int .u64 k ∧ u11 = .int .u64 v ∧ Hid (v = (a + b * k) % P ∧ ∀ m, m < k → ¬ Hit P a b lo hi m) ∧ wv = w) (fun _ u12 _ => P - (intOf u12).toNat)
  case atStart => exact ⟨0, a0, by omega, rfl, rfl, hideI ⟨HA0.out, fun m hm => by omega⟩, rfl⟩
  case round =>
    obtain ⟨k, v, hk, rfl, rfl, hI, hw⟩ := hrel
    obtain rfl := hw.symm
    by_cases hlt : k < P
    · have hl : (k : Int) < (P : Int) := by omega
      have hk4 : k < 4096 := by have := HP.out; omega
      by_cases hvd : lo ≤ v ∧ v ≤ hi
      · have hv1 : (lo : Int) ≤ (v : Int) := by omega
        have hv2 : (v : Int) ≤ (hi : Int) := by omega
        have HANS : Hid (Ans P a b lo hi k 0) := hideI (.yes ⟨by unfold Hit; rw [← hI.out.1]; exact hvd, hI.out.2⟩)
        clear hI hvd
        go_wp2
        refine bodyPost_ret (results_tmp2 rfl _ _ _) (by rfl) ?_
        exact ⟨⟨k, 0, HANS.out, rfl⟩, rfl⟩
      · obtain ⟨y, hy⟩ : ∃ y, y = (v + b) % 18446744073709551616 := ⟨_, rfl⟩
        obtain ⟨v2, hz2⟩ : ∃ z, z = y % P := ⟨_, rfl⟩
        have e1 : IntKind.u64.wrap ((v : Int) + (b : Int)) = (y : Int) := by rw [hy, IntKind.wrap_u64]; omega
        have e2 : (y : Int) % (P : Int) = (v2 : Int) := by rw [hz2, Int.natCast_emod]
        have e3 : (y : Int).tmod (P : Int) = (v2 : Int) := by rw [hz2]; rfl
        have HI2 : Hid (v2 = (a + b * (k + 1)) % P ∧ ∀ m, m < k + 1 → ¬ Hit P a b lo hi m) := hideI ⟨by rw [hz2, hy]; exact HSM.out v k hI.out.1, fun m hm => by
          rcases Nat.lt_or_ge m k with h | h
          · exact hI.out.2 m h
          · have hmk : m = k := by omega
            subst hmk
            unfold Hit
            rw [← hI.out.1]
            exact hvd⟩
        by_cases hc1 : lo ≤ v
        · have hv1 : (lo : Int) ≤ (v : Int) := by omega
          have hv2 : ¬ (v : Int) ≤ (hi : Int) := by omega
          clear hI hy hz2 hvd hc1
          go_wp2
          go_roundw
          case rel => exact ⟨k + 1, v2, by omega, by go_num, rfl, HI2, trivial⟩
          case measure => simp [intOf]; omega
        · have hv1 : ¬ (lo : Int) ≤ (v : Int) := by omega
          clear hI hy hz2 hvd hc1
          go_wp2
          go_roundw
          case rel => exact ⟨k + 1, v2, by omega, by go_num, rfl, HI2, trivial⟩
          case measure => simp [intOf]; omega
    · have hkP : k = P := by omega
      have HANS : Hid (Ans P a b lo hi 0 9) := hideI (.no (None.of HP.out.2 (fun m hm => hI.out.2 m (by omega))))
      have hl : ¬ (k : Int) < (P : Int) := by omega
      clear hI hkP
      go_wp2
      refine bodyPost_ret (results_tmp2 rfl _ _ _) (by rfl) ?_
      exact ⟨⟨0, 9, HANS.out, rfl⟩, rfl⟩
end Go.Proofs.YtidebjcnmabggaaDoor.Mo
