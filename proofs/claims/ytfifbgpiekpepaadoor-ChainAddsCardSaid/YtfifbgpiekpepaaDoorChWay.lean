/- Binomials as odd numbers times powers of two: plain facts. -/
import Derived.Test.YtfifbgpiekpepaaDoorRRow
import Derived.Test.YtfifbgpiekpepaaDoorChNewt
namespace Go.Proofs.YtfifbgpiekpepaaDoor.Chn
open Go.RowKit

theorem ch_over : ∀ (n k : Nat), n < k → ch n k = 0
  | n, 0, h => by omega
  | 0, k + 1, _ => ch_left k
  | n + 1, k + 1, h => by rw [ch_step, ch_over n k (by omega), ch_over n (k + 1) (by omega)]; rfl

theorem ch_pos : ∀ (n k : Nat), k ≤ n → 0 < ch n k
  | n, 0, _ => by rw [ch_right]; decide
  | 0, k + 1, h => by omega
  | n + 1, k + 1, h => by
    rw [ch_step]
    have h1 := ch_pos n k (by omega)
    rcases Nat.lt_or_ge n (k + 1) with h2 | h2
    · rw [ch_over n (k + 1) h2]; omega
    · have := ch_pos n (k + 1) h2; omega

/-- from one binomial to the next -/
theorem ch_ratio : ∀ (n k : Nat), ch n (k + 1) * ((k : Int) + 1) = ch n k * ((n : Int) - k)
  | 0, 0 => by rw [ch_left, ch_right]; simp
  | 0, k + 1 => by rw [ch_left, ch_left]; simp
  | n + 1, 0 => by
    have h := ch_ratio n 0
    rw [ch_step, ch_right, ch_right]
    rw [ch_right] at h
    simp at h ⊢
    omega
  | n + 1, k + 1 => by
    have h1 := ch_ratio n k
    have h2 := ch_ratio n (k + 1)
    rw [ch_step n (k + 1), ch_step n k]
    obtain ⟨a, ha⟩ : ∃ a, a = ch n k := ⟨_, rfl⟩
    obtain ⟨b, hb⟩ : ∃ b, b = ch n (k + 1) := ⟨_, rfl⟩
    obtain ⟨c, hc⟩ : ∃ c, c = ch n (k + 1 + 1) := ⟨_, rfl⟩
    rw [← ha, ← hb] at h1
    rw [← hb, ← hc] at h2
    rw [← ha, ← hb, ← hc]
    obtain ⟨N, hN⟩ : ∃ N : Int, N = (n : Int) := ⟨_, rfl⟩
    obtain ⟨K, hK⟩ : ∃ K : Int, K = (k : Int) := ⟨_, rfl⟩
    rw [show ((k + 1 : Nat) : Int) = K + 1 by omega, ← hN] at h2
    rw [← hN, ← hK] at h1
    rw [show ((k + 1 : Nat) : Int) = K + 1 by omega, show ((n + 1 : Nat) : Int) = N + 1 by omega]
    rw [Int.add_mul, h2]
    have e1 : b * (K + 1 + 1) = b * (K + 1) + b := by rw [Int.mul_add b (K + 1) 1, Int.mul_one]
    have e2 : b * (N - (K + 1)) = b * N - b * (K + 1) := by rw [Int.mul_sub]
    have e3 : (a + b) * (N + 1 - (K + 1)) = a * (N - K) + (b * N - b * K) := by rw [show N + 1 - (K + 1) = N - K by omega, Int.add_mul, Int.mul_sub b]
    have e4 : b * (K + 1) = b * K + b := by rw [Int.mul_add, Int.mul_one]
    rw [e1, e2, e3, ← h1, e4]
    omega

/-- each number but 0 is an odd one times a power of two -/
theorem odd_part : ∀ (m : Nat) (x : Int), 0 < x → x.toNat ≤ m → ∃ (q : Int) (t : Nat), x = q * 2 ^ t ∧ q % 2 = 1 ∧ 0 < q
  | 0, x, h, hm => by omega
  | m + 1, x, h, hm => by
    by_cases h2 : x % 2 = 1
    · exact ⟨x, 0, by simp, h2, h⟩
    · obtain ⟨q, t, e, ho, hp⟩ := odd_part m (x / 2) (by omega) (by omega)
      refine ⟨q, t + 1, ?_, ho, hp⟩
      rw [Int.pow_succ, ← Int.mul_assoc, ← e]
      omega

theorem odd_mul {a b : Int} (ha : a % 2 = 1) (hb : b % 2 = 1) : (a * b) % 2 = 1 := by
  rw [Int.mul_emod, ha, hb]
  rfl

/-- there is one way alone to say so -/
theorem odd_one : ∀ (s t : Nat) (a b : Int), a % 2 = 1 → b % 2 = 1 → a * 2 ^ s = b * 2 ^ t → s = t ∧ a = b
  | 0, 0, a, b, _, _, h => by simpa using h
  | 0, t + 1, a, b, ha, _, h => by
    rw [Int.pow_succ, ← Int.mul_assoc] at h
    simp at h
    omega
  | s + 1, 0, a, b, _, hb, h => by
    rw [Int.pow_succ, ← Int.mul_assoc] at h
    simp at h
    omega
  | s + 1, t + 1, a, b, ha, hb, h => by
    rw [Int.pow_succ, Int.pow_succ, ← Int.mul_assoc, ← Int.mul_assoc] at h
    have := odd_one s t a b ha hb (by omega)
    exact ⟨by omega, this.2⟩

/-- an odd number in 64 bits, and how many twos, for a number -/
structure Way (o : Int) (t : Nat) (x : Int) : Prop where
  low : 0 ≤ o ∧ o < 18446744073709551616
  is : ∃ m : Int, m % 2 = 1 ∧ x = m * 2 ^ t ∧ Eq64 o m

theorem Way.one : Way 1 0 1 := ⟨by decide, 1, by decide, by simp, rfl⟩

/-- times a number, over another one, where the result is a number -/
theorem Way.next {o : Int} {t : Nat} {x y : Int} (h : Way o t x) {q p i : Int} {r s : Nat} (hq : q % 2 = 1) (hp : p % 2 = 1) (hy : 0 < y) (he : y * (p * 2 ^ s) = x * (q * 2 ^ r)) (hi : Eq64 (i * p) 1) :
    s ≤ t + r ∧ Way (IntKind.u64.wrap (IntKind.u64.wrap (o * q) * i)) (t + r - s) y := by
  obtain ⟨m, hm, rfl, ho⟩ := h.is
  obtain ⟨m2, t2, rfl, hm2, _⟩ := odd_part y.toNat y hy (Nat.le_refl _)
  have e : (m2 * p) * 2 ^ (t2 + s) = (m * q) * 2 ^ (t + r) := by
    rw [Int.pow_add, Int.pow_add]
    have l : m2 * p * (2 ^ t2 * 2 ^ s) = m2 * 2 ^ t2 * (p * 2 ^ s) := by ac_rfl
    have l2 : m * q * (2 ^ t * 2 ^ r) = m * 2 ^ t * (q * 2 ^ r) := by ac_rfl
    rw [l, l2, he]
  obtain ⟨e1, e2⟩ := odd_one _ _ _ _ (odd_mul hm2 hp) (odd_mul hm hq) e
  refine ⟨by omega, wrapu_low _, m2, hm2, by rw [show t + r - s = t2 by omega], ?_⟩
  have h1 : Eq64 (IntKind.u64.wrap (o * q)) (m2 * p) := (wrapu_eq _).trans ((ho.mul (Eq64.rfl' q)).trans (by rw [e2]; exact Eq64.rfl' _))
  refine (wrapu_eq _).trans ((h1.mul (Eq64.rfl' i)).trans ?_)
  rw [Int.mul_assoc, Int.mul_comm p i]
  refine ((Eq64.rfl' m2).mul hi).trans ?_
  rw [Int.mul_one]
  exact Eq64.rfl' _

/-- a number in 64 bits by its odd part and its twos -/
theorem Way.num {o : Int} {t : Nat} {x : Int} (h : Way o t x) : Eq64 (o * 2 ^ t) x := by
  obtain ⟨m, _, rfl, ho⟩ := h.is
  exact ho.mul (Eq64.rfl' _)
end Go.Proofs.YtfifbgpiekpepaaDoor.Chn
