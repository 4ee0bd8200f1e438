/- Solving an equation modulo a power of 2: plain facts; what is masked. -/
import Derived.Test.YtidebjcnmabggaaDoorMoM
import Derived.Test.YtidebjcnmabggaaDoorChNewt
import Derived.IntWalk
import Derived.WalkKit
import Derived.Laws.BitsLemmas
namespace Go.Proofs.YtidebjcnmabggaaDoor.Mo

/-- a number above 0 is an odd one times a power of 2 -/
theorem odd_two : ∀ (m x : Nat), 0 < x → x ≤ m → ∃ q t, x = (2 * q + 1) * 2 ^ t
  | 0, x, h, hm => by omega
  | m + 1, x, h, hm => by
    by_cases h2 : x % 2 = 1
    · exact ⟨x / 2, 0, by rw [Nat.pow_zero, Nat.mul_one]; omega⟩
    · obtain ⟨q, t, e⟩ := odd_two m (x / 2) (by omega) (by omega)
      refine ⟨q, t + 1, ?_⟩
      rw [Nat.pow_succ, ← Nat.mul_assoc, ← e]
      omega

theorem pow_split {n t : Nat} (h : t ≤ n) : 2 ^ n = 2 ^ (n - t) * 2 ^ t := by
  rw [← Nat.pow_add, Nat.sub_add_cancel h]
theorem pow_pos (n : Nat) : 0 < 2 ^ n := Nat.pow_pos (by decide)
theorem pow_le64 {n : Nat} (h : n ≤ 64) : 2 ^ n ≤ 18446744073709551616 := Nat.pow_le_pow_right (n := 2) (by decide) h

/-- modulo a power of 2 that is not above 2^64 -/
theorem mod_mod64 {k : Nat} (hk : k ≤ 64) (y : Nat) : y % 18446744073709551616 % 2 ^ k = y % 2 ^ k := by
  have e : (18446744073709551616 : Nat) = 2 ^ k * 2 ^ (64 - k) := by
    rw [← Nat.pow_add, show k + (64 - k) = 64 by omega]
  rw [e, Nat.mod_mul_right_mod]

theorem solve_is {k t e o i : Nat} (hk : k ≤ 64) (he : e < 2 ^ k) (hi : (i * o) % 18446744073709551616 = 1) :
    ((e * i % 18446744073709551616 % 2 ^ k) * (o * 2 ^ t)) % (2 ^ k * 2 ^ t) = e * 2 ^ t := by
  rw [mod_mod64 hk]
  have h1 : (e * i % 2 ^ k * o) % 2 ^ k = e := by
    rw [Nat.mod_mul_mod, Nat.mul_assoc, Nat.mul_mod, ← mod_mod64 hk (i * o), hi]
    rw [← Nat.mul_mod, Nat.mul_one, Nat.mod_eq_of_lt he]
  rw [← Nat.mul_assoc, Nat.mul_mod_mul_right, h1]

theorem solve_one {k t e o i m : Nat} (hk : k ≤ 64) (hi : (i * o) % 18446744073709551616 = 1) (hm : m < 2 ^ k) (h : (m * (o * 2 ^ t)) % (2 ^ k * 2 ^ t) = e * 2 ^ t) :
    m = e * i % 18446744073709551616 % 2 ^ k := by
  rw [mod_mod64 hk]
  rw [← Nat.mul_assoc, Nat.mul_mod_mul_right] at h
  have h1 : (m * o) % 2 ^ k = e := Nat.eq_of_mul_eq_mul_right (pow_pos t) h
  rw [← h1, Nat.mod_mul_mod, Nat.mul_assoc, Nat.mul_comm o i, Nat.mul_mod, ← mod_mod64 hk (i * o), hi, ← Nat.mul_mod, Nat.mul_one, Nat.mod_eq_of_lt hm]

/-- a number with fewer twos is no multiple -/
theorem few_twos {q r t n m o : Nat} (hr : r < t) (ht : t ≤ n) (h : (m * (o * 2 ^ t)) % 2 ^ n = (2 * q + 1) * 2 ^ r) : False := by
  rw [pow_split ht, ← Nat.mul_assoc, Nat.mul_mod_mul_right] at h
  obtain ⟨d, rfl⟩ : ∃ d, t = r + (d + 1) := ⟨t - r - 1, by omega⟩
  rw [show r + (d + 1) = (d + 1) + r by omega, Nat.pow_add, ← Nat.mul_assoc] at h
  have h1 := Nat.eq_of_mul_eq_mul_right (pow_pos r) h
  rw [Nat.pow_succ, ← Nat.mul_assoc] at h1
  omega

theorem inv_nat (o : Nat) (ho : o % 2 = 1) (hl : o < 18446744073709551616) : ∃ i : Nat, Chn.invW (o : Int) 5 = (i : Int) ∧ i < 18446744073709551616 ∧ (i * o) % 18446744073709551616 = 1 := by
  obtain ⟨h1, h2⟩ := Chn.invW_low (o := (o : Int)) 5 ⟨by omega, by omega⟩
  have h3 := Chn.invW_is (o := (o : Int)) (by omega)
  obtain ⟨x, hx⟩ : ∃ x, x = Chn.invW (o : Int) 5 := ⟨_, rfl⟩
  rw [← hx] at h1 h2 h3 ⊢
  obtain ⟨i, rfl⟩ := Int.eq_ofNat_of_zero_le h1
  refine ⟨i, rfl, by omega, ?_⟩
  unfold Chn.Eq64 at h3
  rw [← Int.natCast_mul] at h3
  omega

/-- the row meets c where its steps make the difference -/
theorem hit_diff {M a b c : Nat} (hM : 0 < M) (hc : c < M) (n : Nat) : Hit M a b c c n ↔ (n * (b % M)) % M = from_ M (a % M) c := by
  rw [← hit_mod M a b c c n]
  unfold Hit from_
  have ha := Nat.mod_lt a hM
  obtain ⟨u, hu⟩ : ∃ u, u = a % M := ⟨_, rfl⟩
  rw [← hu] at ha ⊢
  rw [Nat.mul_comm (b % M) n]
  have a1 := Nat.mod_lt (n * (b % M)) hM
  have e : (u + n * (b % M)) % M = (u + n * (b % M) % M) % M := by rw [Nat.add_mod_mod]
  rw [e]
  obtain ⟨x, hx⟩ : ∃ x, x = n * (b % M) % M := ⟨_, rfl⟩
  rw [← hx] at a1 ⊢
  rcases Nat.lt_or_ge (u + x) M with h1 | h1
  · rw [Nat.mod_eq_of_lt h1]
    split <;> omega
  · rw [Nat.mod_eq_sub_mod h1, Nat.mod_eq_of_lt (by omega)]
    split <;> omega

/-- what is masked -/
theorem and_top {x n : Nat} (hx : x < 18446744073709551616) (hn : n ≤ 64) : bits BinOp.and IntKind.u64 (x : Int) ((2 ^ n - 1 : Nat) : Int) = ((x % 2 ^ n : Nat) : Int) := by
  have h := bits_and_u64_nat x (2 ^ n - 1) hx (by have := pow_le64 hn; have := pow_pos n; omega)
  rw [Nat.and_two_pow_sub_one_eq_mod] at h
  exact h

theorem sub_top {c a n : Nat} (hc : c < 18446744073709551616) (ha : a < 18446744073709551616) (hn : n ≤ 64) : bits BinOp.and IntKind.u64 (IntKind.u64.wrap ((c : Int) - (a : Int))) ((2 ^ n - 1 : Nat) : Int) = ((from_ (2 ^ n) (a % 2 ^ n) (c % 2 ^ n) : Nat) : Int) := by
  obtain ⟨x, hx⟩ : ∃ x : Nat, x = if a ≤ c then c - a else c + 18446744073709551616 - a := ⟨_, rfl⟩
  have e1 : IntKind.u64.wrap ((c : Int) - (a : Int)) = (x : Int) := by
    rw [IntKind.wrap_u64, hx]
    split <;> omega
  have hx64 : x < 18446744073709551616 := by rw [hx]; split <;> omega
  rw [e1, and_top hx64 hn]
  congr 1
  have hM := pow_pos n
  -- x + a and c are the same modulo 2^64, so modulo M
  have h1 : (x + a) % 18446744073709551616 = c % 18446744073709551616 := by
    rw [hx]
    split
    · rw [show c - a + a = c by omega]
    · rw [show c + 18446744073709551616 - a + a = c + 18446744073709551616 by omega, Nat.add_mod_right]
  have h2 : (x + a) % 2 ^ n = c % 2 ^ n := by rw [← mod_mod64 hn (x + a), h1, mod_mod64 hn]
  rw [Nat.add_mod] at h2
  have b1 := Nat.mod_lt x hM
  have b2 := Nat.mod_lt a hM
  have b3 := Nat.mod_lt c hM
  unfold from_
  obtain ⟨M, hMM⟩ : ∃ M, M = 2 ^ n := ⟨_, rfl⟩
  rw [← hMM] at h2 b1 b2 b3 ⊢
  obtain ⟨x1, hx1⟩ : ∃ z, z = x % M := ⟨_, rfl⟩
  obtain ⟨a1, ha1⟩ : ∃ z, z = a % M := ⟨_, rfl⟩
  obtain ⟨c1, hc1⟩ : ∃ z, z = c % M := ⟨_, rfl⟩
  rw [← hx1] at h2 b1 ⊢
  rw [← ha1] at h2 b2 ⊢
  rw [← hc1] at h2 b3 ⊢
  rcases Nat.lt_or_ge (x1 + a1) M with h3 | h3
  · rw [Nat.mod_eq_of_lt h3] at h2
    split <;> omega
  · rw [Nat.mod_eq_sub_mod h3, Nat.mod_eq_of_lt (by omega)] at h2
    split <;> omega

theorem top_shift {n t : Nat} (ht : t ≤ n) : (2 ^ n - 1) / 2 ^ t = 2 ^ (n - t) - 1 := by
  have h := pow_split ht
  have p1 := pow_pos t
  have p2 := pow_pos (n - t)
  obtain ⟨P, hP⟩ : ∃ P, P = 2 ^ t := ⟨_, rfl⟩
  obtain ⟨K, hK⟩ : ∃ K, K = 2 ^ (n - t) := ⟨_, rfl⟩
  rw [← hP, ← hK] at h
  rw [← hP] at p1
  rw [← hK] at p2
  rw [h, ← hP, ← hK]
  obtain ⟨k, rfl⟩ : ∃ k, K = k + 1 := ⟨K - 1, by omega⟩
  rw [Nat.add_sub_cancel, Nat.add_mul, Nat.one_mul, show k * P + P - 1 = P * k + (P - 1) by rw [Nat.mul_comm k P]; omega, Nat.mul_add_div p1, Nat.div_eq_of_lt (by omega)]
  rfl
end Go.Proofs.YtidebjcnmabggaaDoor.Mo
