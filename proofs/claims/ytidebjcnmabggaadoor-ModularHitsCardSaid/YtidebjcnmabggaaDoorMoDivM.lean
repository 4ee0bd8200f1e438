/- Dividing two numbers of 64 bits by one, a digit of 32 bits at a time: plain facts. -/
import Derived.Test.YtidebjcnmabggaaDoorRows
namespace Go.Proofs.YtidebjcnmabggaaDoor.Mo

/-- a digit as it is guessed: the digit, what is left -/
structure Dig (v v1 v0 u d q r : Nat) : Prop where
  cut : v = v1 * 4294967296 + v0
  low : v0 < 4294967296
  sum : q * v1 + r = u
  top : (u * 4294967296 + d) / v ≤ q
  few : q ≤ 4294967297
  rest : r < 4294967296

theorem dig_mul {v v1 v0 : Nat} (hc : v = v1 * 4294967296 + v0) (q : Nat) : q * v = q * v1 * 4294967296 + q * v0 := by
  rw [hc, Nat.mul_add, Nat.mul_assoc]

theorem Dig.stop {v v1 v0 u d q r : Nat} (h : Dig v v1 v0 u d q r) (hv : 0 < v) (ht : q * v0 ≤ 4294967296 * r + d) : q = (u * 4294967296 + d) / v := by
  have h1 := dig_mul h.cut q
  have h2 : q ≤ (u * 4294967296 + d) / v := by
    rw [Nat.le_div_iff_mul_le hv, h1]
    have := h.sum
    omega
  exact Nat.le_antisymm h2 h.top

theorem dig_top {v u d : Nat} (hu : u < v) (hd : d < 4294967296) : (u * 4294967296 + d) / v < 4294967296 := by
  rw [Nat.div_lt_iff_lt_mul (by omega)]
  omega

/-- the guess is too great -/
theorem Dig.less {v v1 v0 u d q r : Nat} (h : Dig v v1 v0 u d q r) (hv : 0 < v) (hu : u < v) (hd : d < 4294967296) (ht : 4294967296 ≤ q ∨ 4294967296 * r + d < q * v0) : (u * 4294967296 + d) / v + 1 ≤ q := by
  rcases ht with h1 | h1
  · have := dig_top hu hd
    omega
  · have h2 := dig_mul h.cut q
    have h3 : (u * 4294967296 + d) / v < q := by
      rw [Nat.div_lt_iff_lt_mul hv, h2]
      have := h.sum
      omega
    exact h3

theorem Dig.pos {v v1 v0 u d q r : Nat} (h : Dig v v1 v0 u d q r) (hv : 0 < v) (hu : u < v) (hd : d < 4294967296) (ht : 4294967296 ≤ q ∨ 4294967296 * r + d < q * v0) : 0 < q := Nat.lt_of_lt_of_le (Nat.succ_pos _) (h.less hv hu hd ht)

theorem dig_sub {q v1 r u : Nat} (hq : 0 < q) (h : q * v1 + r = u) : (q - 1) * v1 + (r + v1) = u := by
  obtain ⟨p, rfl⟩ : ∃ p, q = p + 1 := ⟨q - 1, by omega⟩
  rw [Nat.add_mul, Nat.one_mul] at h
  rw [Nat.add_sub_cancel]
  omega

theorem Dig.next {v v1 v0 u d q r : Nat} (h : Dig v v1 v0 u d q r) (hv : 0 < v) (hu : u < v) (hd : d < 4294967296) (ht : 4294967296 ≤ q ∨ 4294967296 * r + d < q * v0) (hr : r + v1 < 4294967296) : Dig v v1 v0 u d (q - 1) (r + v1) :=
  ⟨h.cut, h.low, dig_sub (h.pos hv hu hd ht) h.sum, Nat.le_sub_one_of_lt (h.less hv hu hd ht), by have := h.few; omega, hr⟩

/-- the guess is right once what is left has more than a digit -/
theorem Dig.last {v v1 v0 u d q r : Nat} (h : Dig v v1 v0 u d q r) (hv : 0 < v) (hu : u < v) (hd : d < 4294967296) (ht : 4294967296 ≤ q ∨ 4294967296 * r + d < q * v0) (hr : 4294967296 ≤ r + v1) : q - 1 = (u * 4294967296 + d) / v := by
  have h0 := h.pos hv hu hd ht
  have h1 := h.less hv hu hd ht
  have h2 := dig_sub h0 h.sum
  have h3 := dig_mul h.cut (q - 1)
  have h4 : q - 1 ≤ (u * 4294967296 + d) / v := by
    rw [Nat.le_div_iff_mul_le hv, h3]
    have h5 : (q - 1) * v0 ≤ 4294967296 * 4294967296 := Nat.mul_le_mul (by have := h.few; omega) (by have := h.low; omega)
    omega
  exact Nat.le_antisymm h4 (Nat.le_sub_one_of_lt h1)

theorem dig_first {v v1 v0 u d : Nat} (hc : v = v1 * 4294967296 + v0) (hl : v0 < 4294967296) (h1 : 2147483648 ≤ v1) (h2 : v1 < 4294967296) (hu : u < v) (hd : d < 4294967296) : Dig v v1 v0 u d (u / v1) (u - u / v1 * v1) := by
  have a1 := Nat.div_add_mod u v1
  have a2 := Nat.mod_lt u (by omega : 0 < v1)
  have a3 : u / v1 * v1 + u % v1 = u := by rw [Nat.mul_comm]; exact a1
  refine ⟨hc, hl, by omega, ?_, ?_, by omega⟩
  · rw [Nat.le_div_iff_mul_le (by omega)]
    have b1 := Nat.div_mul_le_self (u * 4294967296 + d) v
    rw [dig_mul hc] at b1
    omega
  · have b1 : u / v1 ≤ 4294967297 := by
      rcases Nat.lt_or_ge 4294967297 (u / v1) with c1 | c1
      · exfalso
        have c2 : 4294967298 * v1 ≤ u / v1 * v1 := Nat.mul_le_mul_right _ c1
        omega
      · exact c1
    exact b1

/-- what is left behind a digit -/
theorem dig_rest {v u d q : Nat} (hv : 0 < v) (hq : q = (u * 4294967296 + d) / v) : q * v ≤ u * 4294967296 + d ∧ u * 4294967296 + d - q * v < v ∧ q * v + (u * 4294967296 + d - q * v) = u * 4294967296 + d := by
  have a1 := Nat.div_add_mod (u * 4294967296 + d) v
  have a2 := Nat.mod_lt (u * 4294967296 + d) hv
  rw [← hq, Nat.mul_comm] at a1
  omega

/-- two digits are the answer -/
theorem dig_two {v u d1 d0 q1 q0 : Nat} (hv : 0 < v) (h1 : q1 = (u * 4294967296 + d1) / v) (h0 : q0 = ((u * 4294967296 + d1 - q1 * v) * 4294967296 + d0) / v) :
    q1 * 4294967296 + q0 = (u * 18446744073709551616 + (d1 * 4294967296 + d0)) / v := by
  obtain ⟨a1, a2, a3⟩ := dig_rest hv h1
  obtain ⟨x, hx⟩ : ∃ x, x = u * 4294967296 + d1 - q1 * v := ⟨_, rfl⟩
  rw [← hx] at h0 a3
  have e : u * 18446744073709551616 + (d1 * 4294967296 + d0) = v * (q1 * 4294967296) + (x * 4294967296 + d0) := by
    rw [← Nat.mul_assoc, Nat.mul_comm v q1]
    omega
  rw [e, Nat.mul_add_div hv, ← h0]

/-- shifted up by the divisor's leading zeros -/
theorem up_div (x y s : Nat) : (x * 2 ^ s) / (y * 2 ^ s) = x / y := Nat.mul_div_mul_right x y (Nat.pow_pos (by decide))
end Go.Proofs.YtidebjcnmabggaaDoor.Mo
