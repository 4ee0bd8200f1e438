/- The table of the trailing zeros; TrailingZeros64 of a number above 0. -/
import Derived.Test.YtidebjcnmabggaaDoorChainM
import Derived.Test.YtidebjcnmabggaaDoorBase
import Derived.IntWalk
namespace Go.Proofs.YtidebjcnmabggaaDoor.Chn
open Go.RowKit

/-- the table, as Go's library lays it -/
def tzTab : List Int := [0, 1, 56, 2, 57, 49, 28, 3, 61, 58, 42, 50, 38, 29, 17, 4, 62, 47, 59, 36, 45, 43, 51, 22, 53, 39, 33, 30, 24, 18, 12, 5, 63, 55, 48, 27, 60, 41, 37, 16, 46, 35, 44, 21, 52, 32, 23, 11, 54, 26, 40, 15, 34, 20, 31, 10, 25, 14, 19, 9, 13, 8, 7, 6]

/-- the table lies in the first block -/
def Tab (w : World) : Prop := 0 < w.heap.size ∧ ∀ k, k < 64 → w.cell? ⟨0, k, none⟩ = some (.int .u8 (tzTab.getD k 0))

theorem Tab.keep {w w' : World} {B : Nat} (h : Tab w) (hb : Below B w w') (hB : 0 < B) : Tab w' :=
  ⟨by have := hb.size; have := h.1; omega, fun k hk => (hb.cell (p := ⟨0, k, none⟩) (show 0 < B from hB)).trans (h.2 k hk)⟩

theorem and_low (a b : Nat) : (2 * a + 1) &&& (2 * b + 1) = 2 * (a &&& b) + 1 := by
  apply Nat.eq_of_testBit_eq
  intro i
  cases i with
  | zero => simp [Nat.testBit_zero]
  | succ i =>
    rw [Nat.testBit_succ, Nat.testBit_succ, Nat.and_div_two, Nat.testBit_and]
    rw [show (2 * a + 1) / 2 = a by omega, show (2 * b + 1) / 2 = b by omega, show (2 * (a &&& b) + 1) / 2 = a &&& b by omega, Nat.testBit_and]

theorem and_compl {a m : Nat} (h : a < 2 ^ m) : a &&& (2 ^ m - (a + 1)) = 0 := by
  apply Nat.eq_of_testBit_eq
  intro i
  rw [Nat.testBit_and, Nat.testBit_two_pow_sub_succ h, Nat.zero_testBit]
  cases a.testBit i <;> simp

theorem and_neg (a r : Nat) (h : (2 * a + 1) * 2 ^ r < 2 ^ 64) : ((2 * a + 1) * 2 ^ r) &&& (2 ^ 64 - (2 * a + 1) * 2 ^ r) = 2 ^ r := by
  have hr : r < 64 := by
    rcases Nat.lt_or_ge r 64 with h1 | h1
    · exact h1
    · have h2 := Nat.pow_le_pow_right (n := 2) (by decide) h1
      have h3 : 1 * 2 ^ r ≤ (2 * a + 1) * 2 ^ r := Nat.mul_le_mul_right _ (by omega)
      omega
  obtain ⟨m, hm⟩ : ∃ m, 64 = r + (m + 1) := ⟨63 - r, by omega⟩
  have e1 : 2 ^ 64 = (2 * 2 ^ m) * 2 ^ r := by rw [hm, Nat.pow_add, Nat.pow_succ, Nat.mul_comm, Nat.mul_comm 2]
  have ha : a < 2 ^ m := by
    rw [e1] at h
    have := Nat.lt_of_mul_lt_mul_right h
    omega
  have e2 : 2 ^ 64 - (2 * a + 1) * 2 ^ r = (2 * (2 ^ m - (a + 1)) + 1) * 2 ^ r := by
    rw [e1, ← Nat.sub_mul]
    congr 1
    omega
  rw [e2, ← Nat.shiftLeft_eq, ← Nat.shiftLeft_eq, ← Nat.shiftLeft_and_distrib, and_low, and_compl ha, Nat.shiftLeft_eq]
  omega

theorem tab_at : ∀ r : Nat, r < 64 → tzTab.getD ((2 ^ r * 285870213051353865) % 2 ^ 64 / 2 ^ 58) 0 = (r : Int) := by decide +kernel

theorem bits_and_nat (x y : Nat) (hx : x < 2 ^ 64) (hy : y < 2 ^ 64) : bits .and .u64 (x : Int) (y : Int) = ((x &&& y : Nat) : Int) := by
  show IntKind.u64.wrap (((BitVec.ofInt 64 (x : Int)) &&& (BitVec.ofInt 64 (y : Int))).toNat : Int) = _
  have e1 : (BitVec.ofInt 64 (x : Int)).toNat = x := by rw [BitVec.toNat_ofInt]; omega
  have e2 : (BitVec.ofInt 64 (y : Int)).toNat = y := by rw [BitVec.toNat_ofInt]; omega
  rw [BitVec.toNat_and, e1, e2]
  have h3 : x &&& y < 2 ^ 64 := Nat.lt_of_le_of_lt Nat.and_le_left hx
  unfold IntKind.wrap
  simp [IntKind.bits, IntKind.signed]
  omega

set_option maxRecDepth 100000 in
theorem tz_any (a r : Nat) (h : (2 * a + 1) * 2 ^ r < 2 ^ 64) (w : World) (hT : Tab w) :
    Calls Tryd.prog 23 #[.int .u64 (((2 * a + 1) * 2 ^ r : Nat) : Int)] w fun e w' => e = .returned (.int .i64 r) ∧ w' = w := by
  have hr : r < 64 := by
    rcases Nat.lt_or_ge r 64 with h1 | h1
    · exact h1
    · have h2 := Nat.pow_le_pow_right (n := 2) (by decide) h1
      have h3 : 1 * 2 ^ r ≤ (2 * a + 1) * 2 ^ r := Nat.mul_le_mul_right _ (by omega)
      omega
  have hp : 2 ^ r < 2 ^ 64 := Nat.pow_lt_pow_right (by decide) hr
  have hp0 : 0 < 2 ^ r := Nat.pow_pos (by decide)
  have hx1 : 0 < (2 * a + 1) * 2 ^ r := Nat.mul_pos (by omega) hp0
  have hand := and_neg a r h
  obtain ⟨i, hi⟩ : ∃ i, i = (2 ^ r * 285870213051353865) % 2 ^ 64 / 2 ^ 58 := ⟨_, rfl⟩
  have hi64 : i < 64 := by omega
  have hc := hT.2 i hi64
  rw [show tzTab.getD i 0 = (r : Int) by rw [hi]; exact tab_at r hr] at hc
  obtain ⟨x, hx⟩ : ∃ x, x = (2 * a + 1) * 2 ^ r := ⟨_, rfl⟩
  obtain ⟨P, hP⟩ : ∃ P, P = 2 ^ r := ⟨_, rfl⟩
  rw [← hx] at h hand hx1 ⊢
  rw [← hP] at hi hand hp hp0
  clear hx hP hT
  have h0 : ¬ ((x : Int) = 0) := by omega
  have e1 : IntKind.u64.wrap (-(x : Int)) = ((2 ^ 64 - x : Nat) : Int) := by
    unfold IntKind.wrap
    simp [IntKind.bits, IntKind.signed]
    omega
  have e2 : bits BinOp.and IntKind.u64 (x : Int) ((2 ^ 64 - x : Nat) : Int) = (P : Int) := by
    rw [bits_and_nat x (2 ^ 64 - x) h (by omega), hand]
  have e3 : IntKind.u64.wrap ((P : Int) * 285870213051353865) / 288230376151711744 = (i : Int) := by
    have e4 : (i : Int) = ((P : Int) * 285870213051353865) % 18446744073709551616 / 288230376151711744 := by
      rw [hi, Int.natCast_ediv, Int.natCast_emod, Int.natCast_mul]
      rfl
    unfold IntKind.wrap
    simp [IntKind.bits, IntKind.signed]
    exact e4.symm
  have hi0 : (0 : Int) ≤ (i : Int) := by omega
  have hi1 : (i : Int) < 64 := by omega
  obtain ⟨Y, hY⟩ : ∃ Y : Int, Y = ((2 ^ 64 - x : Nat) : Int) := ⟨_, rfl⟩
  rw [← hY] at e1 e2
  have hrr : (r : Int) < 64 := by omega
  clear hi hY hand h hp hp0 hx1
  go_enter Tryd.func23, Tryd.ntmps23
  go_wp2
  go_ret
  exact ⟨by go_num, rfl⟩
end Go.Proofs.YtidebjcnmabggaaDoor.Chn
