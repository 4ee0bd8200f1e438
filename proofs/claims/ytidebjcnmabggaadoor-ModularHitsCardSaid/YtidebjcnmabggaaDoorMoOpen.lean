/- The thirteenth laws' inputs opened. -/
import Derived.Test.YtidebjcnmabggaaDoorMoAwake
import Derived.Test.YtidebjcnmabggaaDoorChTabOf
import Derived.Test.YtidebjcnmabggaaDoorLaw
import Derived.Deep.Slices
namespace Go.Proofs.YtidebjcnmabggaaDoor.Mo
open Go.ChangeShapes Go.WideShapes Go.ChangeAt Go.RowKit Go.Deep

theorem wf_u64 {n : Int} (h : (Lit.int .u64 n).wf = true) : ∃ m : Nat, n = (m : Int) ∧ m < 18446744073709551616 := by
  simp [Lit.wf, IntKind.min, IntKind.max, IntKind.bits, IntKind.signed] at h
  exact ⟨n.toNat, by omega, by omega⟩
theorem wf_u8 {n : Int} (h : (Lit.int .u8 n).wf = true) : ∃ m : Nat, n = (m : Int) ∧ m < 256 := by
  simp [Lit.wf, IntKind.min, IntKind.max, IntKind.bits, IntKind.signed] at h
  exact ⟨n.toNat, by omega, by omega⟩
theorem wf_i64 {n : Int} (h : (Lit.int .i64 n).wf = true) : -9223372036854775808 ≤ n ∧ n < 9223372036854775808 := by
  simp [Lit.wf, IntKind.min, IntKind.max, IntKind.bits, IntKind.signed] at h
  omega

theorem run_shl (x u y : Nat) (hu : u ≤ 64) (h : IntKind.u64.wrap ((x : Int) * 2 ^ u) = (y : Int)) (W : World) : Sem.run Tryd.prog (Go.Op.shift BinOp.shl IntKind.u64 (x : Int) IntKind.i64 (u : Int)) W = .ok (.int .u64 (y : Int)) W := by
  unfold Go.Op.shift
  have h2 : ¬ (u : Int) < 0 := by omega
  have h3 : min u 64 = u := Nat.min_eq_left hu
  rw [if_neg h2]
  show Result.ok (Value.int IntKind.u64 (IntKind.u64.wrap ((x : Int) * 2 ^ min u 64))) W = _
  rw [h3, h]

/-- all shifted up -/
theorem hit_shift {P K a b lo hi : Nat} (hK : 0 < K) (m : Nat) : Hit P a b lo hi m ↔ Hit (P * K) (a * K) (b * K) (lo * K) (hi * K) m := by
  unfold Hit
  rw [show a * K + b * K * m = (a + b * m) * K by rw [Nat.add_mul]; congr 1; ac_rfl, Nat.mul_mod_mul_right, Nat.mul_le_mul_right_iff hK, Nat.mul_le_mul_right_iff hK]

/-- from one step further on -/
theorem hit_later (M a b lo hi m : Nat) : Hit M (a + b) b lo hi m ↔ Hit M a b lo hi (m + 1) := by
  unfold Hit
  rw [Nat.mul_add, Nat.mul_one, show a + b + b * m = a + (b * m + b) by omega]

theorem ans_later {M a b lo hi x y : Nat} {g : Int} (h : First M a b lo hi x) (hx : 0 < x) (h2 : Ans M (a + b) b lo hi y g) : g = 0 ∧ y = x - 1 := by
  obtain ⟨z, rfl⟩ : ∃ z, x = z + 1 := ⟨x - 1, by omega⟩
  have h3 : Ans M (a + b) b lo hi z 0 := .yes ⟨(hit_later M a b lo hi z).mpr h.1, fun m hm hh => h.2 (m + 1) (by omega) ((hit_later M a b lo hi m).mp hh)⟩
  obtain ⟨e1, e2⟩ := h2.one h3
  exact ⟨e2, by omega⟩

theorem ans_never {M a b lo hi y : Nat} {g : Int} (h : None M a b lo hi) (h2 : Ans M (a + b) b lo hi y g) : g = 9 := by
  cases h2 with
  | yes h3 => exact absurd ((hit_later M a b lo hi y).mp h3.1) (h _)
  | no _ => rfl

theorem ans_or {M a b lo hi x : Nat} {e : Int} (h : Ans M a b lo hi x e) : (e = 0 ∧ First M a b lo hi x) ∨ (x = 0 ∧ e = 9 ∧ None M a b lo hi) := by
  cases h with
  | yes h => exact .inl ⟨rfl, h⟩
  | no h => exact .inr ⟨rfl, rfl, h⟩
end Go.Proofs.YtidebjcnmabggaaDoor.Mo
