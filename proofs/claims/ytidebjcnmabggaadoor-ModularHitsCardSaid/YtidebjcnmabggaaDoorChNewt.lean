/- Inverses of odd numbers in 64 bits by Newton's steps: plain facts. -/
import Derived.Test.YtidebjcnmabggaaDoorChainM
namespace Go.Proofs.YtidebjcnmabggaaDoor.Chn


theorem wrapu_eq (x : Int) : Eq64 (IntKind.u64.wrap x) x := by
  unfold Eq64 IntKind.wrap
  simp [IntKind.bits, IntKind.signed]
theorem wrapu_low (x : Int) : 0 ≤ IntKind.u64.wrap x ∧ IntKind.u64.wrap x < 18446744073709551616 := by
  unfold IntKind.wrap
  simp [IntKind.bits, IntKind.signed]
  omega

/-- Newton's steps toward the inverse: each doubles the bits -/
theorem newton {o x : Int} {m : Int} (h : ∃ c, o * x = 1 + c * m) (d : Int) (hd : d = m * m) : ∃ c, o * (x * (2 - o * x)) = 1 + c * d := by
  obtain ⟨c, hc⟩ := h
  refine ⟨-(c * c), ?_⟩
  subst hd
  have e : o * (x * (2 - o * x)) = (o * x) * (2 - o * x) := by ac_rfl
  rw [e, hc]
  have e1 : (1 + c * m) * (2 - (1 + c * m)) = 1 - (c * m) * (c * m) := by
    rw [show 2 - (1 + c * m) = 1 - c * m by omega, Int.add_mul, Int.one_mul, Int.mul_sub, Int.mul_one]
    omega
  rw [e1, show c * m * (c * m) = c * c * (m * m) by ac_rfl, Int.neg_mul]
  omega

theorem newton_first {o : Int} (h : o % 2 = 1) : ∃ c, o * o = 1 + c * 8 := by
  obtain ⟨j, hj⟩ : ∃ j, o = 2 * j + 1 := ⟨o / 2, by omega⟩
  have h2 : ∃ i, j * (j + 1) = 2 * i := by
    rcases (by omega : j % 2 = 0 ∨ j % 2 = 1) with h3 | h3
    · exact ⟨j / 2 * (j + 1), by rw [← Int.mul_assoc, show 2 * (j / 2) = j by omega]⟩
    · refine ⟨j * ((j + 1) / 2), ?_⟩
      rw [show 2 * (j * ((j + 1) / 2)) = j * (2 * ((j + 1) / 2)) by ac_rfl, show 2 * ((j + 1) / 2) = j + 1 by omega]
  obtain ⟨i, hi⟩ := h2
  refine ⟨i, ?_⟩
  subst hj
  have e : (2 * j + 1) * (2 * j + 1) = 4 * (j * (j + 1)) + 1 := by
    rw [Int.mul_add, Int.mul_one, Int.add_mul, Int.one_mul, Int.mul_add, Int.mul_one]
    rw [show 2 * j * (2 * j) = 4 * (j * j) by rw [show (4 : Int) = 2 * 2 by rfl]; ac_rfl]
    omega
  rw [e, hi]
  omega

/-- what k steps make of x, in 64 bits -/
def invW (o : Int) : Nat → Int
  | 0 => o
  | k + 1 => IntKind.u64.wrap (invW o k * IntKind.u64.wrap (2 - IntKind.u64.wrap (o * invW o k)))

theorem newton_eq {o x : Int} {m : Int} (D : Int) (hm : ∃ e, 18446744073709551616 = e * D) (hD : ∃ e, m * m = e * D) (h : ∃ c, o * x = 1 + c * m) : ∃ c, o * (IntKind.u64.wrap (x * IntKind.u64.wrap (2 - IntKind.u64.wrap (o * x)))) = 1 + c * D := by
  obtain ⟨c, hc⟩ := newton h (m * m) rfl
  obtain ⟨e, he⟩ := hm
  obtain ⟨e2, he2⟩ := hD
  have h1 : Eq64 (IntKind.u64.wrap (x * IntKind.u64.wrap (2 - IntKind.u64.wrap (o * x)))) (x * (2 - o * x)) :=
    (wrapu_eq _).trans ((Eq64.rfl' x).mul ((wrapu_eq _).trans ((Eq64.rfl' 2).sub (wrapu_eq _))))
  obtain ⟨d, hd⟩ : ∃ d, IntKind.u64.wrap (x * IntKind.u64.wrap (2 - IntKind.u64.wrap (o * x))) = x * (2 - o * x) + 18446744073709551616 * d :=
    ⟨(IntKind.u64.wrap (x * IntKind.u64.wrap (2 - IntKind.u64.wrap (o * x))) - x * (2 - o * x)) / 18446744073709551616, by unfold Eq64 at h1; omega⟩
  refine ⟨c * e2 + o * (d * e), ?_⟩
  rw [hd, Int.mul_add, hc, Int.add_mul, he, he2]
  rw [show o * (e * D * d) = o * (d * e) * D by ac_rfl, ← Int.mul_assoc c e2 D]
  omega

/-- 5 steps are enough for 64 bits -/
theorem invW_is {o : Int} (h : o % 2 = 1) : Eq64 (invW o 5 * o) 1 := by
  have h0 := newton_first h
  have h1 := newton_eq (m := 8) 64 ⟨288230376151711744, by decide⟩ ⟨1, by decide⟩ (x := invW o 0) h0
  have h2 := newton_eq (m := 64) 4096 ⟨4503599627370496, by decide⟩ ⟨1, by decide⟩ (x := invW o 1) h1
  have h3 := newton_eq (m := 4096) 16777216 ⟨1099511627776, by decide⟩ ⟨1, by decide⟩ (x := invW o 2) h2
  have h4 := newton_eq (m := 16777216) 281474976710656 ⟨65536, by decide⟩ ⟨1, by decide⟩ (x := invW o 3) h3
  have h5 := newton_eq (m := 281474976710656) 18446744073709551616 ⟨1, by decide⟩ ⟨4294967296, by decide⟩ (x := invW o 4) h4
  obtain ⟨c, hc⟩ := h5
  have h6 : o * invW o 5 = 1 + c * 18446744073709551616 := hc
  rw [Int.mul_comm, h6]
  unfold Eq64
  omega

theorem invW_low {o : Int} (k : Nat) (h : 0 ≤ o ∧ o < 18446744073709551616) : 0 ≤ invW o k ∧ invW o k < 18446744073709551616 := by
  cases k with
  | zero => exact h
  | succ k => exact wrapu_low _
end Go.Proofs.YtidebjcnmabggaaDoor.Chn
