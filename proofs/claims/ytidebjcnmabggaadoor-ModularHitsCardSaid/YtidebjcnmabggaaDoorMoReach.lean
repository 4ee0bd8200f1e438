/- reach: the least number of steps that come to a span behind so many ends. -/
import Derived.Test.YtidebjcnmabggaaDoorMoRound
import Derived.Shelf.Bits.Mul64
import Derived.Laws.Externs
namespace Go.Proofs.YtidebjcnmabggaaDoor.Mo
open Go.RowKit

set_option maxHeartbeats 1000000 in
theorem mul64_any (x y : Nat) (hx : x < 18446744073709551616) (hy : y < 18446744073709551616) (w : World) :
    Calls Tryd.prog 30 #[.int .u64 x, .int .u64 y] w fun e w' => e = .returned (.tuple #[.int .u64 ((x * y / 18446744073709551616 : Nat) : Int), .int .u64 ((x * y % 18446744073709551616 : Nat) : Int)]) ∧ w' = w := by
  obtain ⟨bd, bt, bw, hhi⟩ := Lib.mul64_hi x y hx hy
  have ba := Lib.half_mul_le (a := x / 4294967296) (b := y / 4294967296) (by omega) (by omega)
  have bb := Lib.half_mul_le (a := x / 4294967296) (b := y % 4294967296) (by omega) (by omega)
  have bc := Lib.half_mul_le (a := x % 4294967296) (b := y / 4294967296) (by omega) (by omega)
  have ba' : x / 4294967296 * (y / 4294967296) < 18446744073709551616 := by omega
  have bb' : x / 4294967296 * (y % 4294967296) < 18446744073709551616 := by omega
  have bc' : x % 4294967296 * (y / 4294967296) < 18446744073709551616 := by omega
  have bh1 : x / 4294967296 * (y / 4294967296) + (x / 4294967296 * (y % 4294967296) + x % 4294967296 * (y % 4294967296) / 4294967296) / 4294967296 < 18446744073709551616 := by omega
  have bh : x / 4294967296 * (y / 4294967296) + (x / 4294967296 * (y % 4294967296) + x % 4294967296 * (y % 4294967296) / 4294967296) / 4294967296 + ((x / 4294967296 * (y % 4294967296) + x % 4294967296 * (y % 4294967296) / 4294967296) % 4294967296 + x % 4294967296 * (y / 4294967296)) / 4294967296 < 18446744073709551616 := by omega
  go_enter Tryd.func30, Tryd.ntmps30
  go_wp2
  simp only [Mul64.maskN x hx, Mul64.maskN y hy, Mul64.divN, Mul64.mulN, Mul64.addN, Mul64.wrapN _ bd, Mul64.wrapN _ bb', Mul64.wrapN _ bt, Mul64.maskN _ bt, Mul64.wrapN _ bc', Mul64.wrapN _ bw, Mul64.wrapN _ ba', Mul64.wrapN _ bh1, Mul64.wrapN _ bh, Mul64.wrapM (x * y)]
  rw [hhi]
  go_ret2
  exact ⟨rfl, rfl⟩

theorem add64_0 (x y : Nat) (w : World) : (callFunc 31 #[.int .u64 (x : Int), .int .u64 (y : Int), .int .u64 0]).run Tryd.prog w =
    .ok (.value (.tuple #[.int .u64 (((x + y) % 18446744073709551616 : Nat) : Int), .int .u64 (((x + y) / 18446744073709551616 : Nat) : Int)])) w := by
  rw [run_callFunc_extern Tryd.func31 (by kernel_rfl) (by kernel_rfl) (by kernel_rfl) (e := add64Entry) (by kernel_rfl), run_add64 (x : Int) (y : Int) 0 (by omega) (by omega) (by omega) (by omega)]
  simp only [Result.andThen]
  congr 5 <;> omega

set_option maxRecDepth 100000 in
theorem reach_any (T s lo hi t : Nat) (h0 : 0 < lo) (hl : lo ≤ T) (hs : s ≤ T) (ht : t < s) (hT : T < 18446744073709551616) (hr : (t * (T + 1) + (lo - 1)) / s + 1 < T + 1) (w : World) :
    Calls Tryd.prog 29 #[.agg #[.int .u64 (T : Int), .int .u64 (s : Int), .int .u64 (lo : Int), .int .u64 (hi : Int)], .int .u64 (t : Int)] w fun e w' => e = .returned (.int .u64 (((t * (T + 1) + (lo - 1)) / s + 1 : Nat) : Int)) ∧ Below w.heap.size w w' := by
  have HM := hideI (fun V : World => mul64_any T t hT (by omega) V)
  obtain ⟨X0, hX0⟩ : ∃ z, z = T * t := ⟨_, rfl⟩
  rw [← hX0] at HM
  obtain ⟨p, hp⟩ : ∃ p, p = lo - 1 := ⟨_, rfl⟩
  have hV : t * (T + 1) + (lo - 1) = X0 + t + p := by rw [hX0, hp, Nat.mul_add, Nat.mul_one, Nat.mul_comm]
  rw [hV] at hr ⊢
  -- the high number stays below the step
  have htop : X0 + t + p < s * 18446744073709551616 := by
    rw [← hV]
    have a1 : (t + 1) * (T + 1) ≤ s * (T + 1) := Nat.mul_le_mul_right _ ht
    have a2 : s * (T + 1) ≤ s * 18446744073709551616 := Nat.mul_le_mul_left _ (by omega)
    rw [Nat.add_mul, Nat.one_mul] at a1
    omega
  obtain ⟨l0, hl0⟩ : ∃ z, z = X0 % 18446744073709551616 := ⟨_, rfl⟩
  obtain ⟨g0, hg0⟩ : ∃ z, z = X0 / 18446744073709551616 := ⟨_, rfl⟩
  rw [← hl0, ← hg0] at HM
  have A0 := add64_0 l0 t
  obtain ⟨l1, hl1⟩ : ∃ z, z = (l0 + t) % 18446744073709551616 := ⟨_, rfl⟩
  obtain ⟨c1, hc1⟩ : ∃ z, z = (l0 + t) / 18446744073709551616 := ⟨_, rfl⟩
  rw [← hl1, ← hc1] at A0
  have A1 := add64_0 l1 p
  obtain ⟨l2, hl2⟩ : ∃ z, z = (l1 + p) % 18446744073709551616 := ⟨_, rfl⟩
  obtain ⟨c2, hc2⟩ : ∃ z, z = (l1 + p) / 18446744073709551616 := ⟨_, rfl⟩
  rw [← hl2, ← hc2] at A1
  obtain ⟨g1, hg1⟩ : ∃ z, z = g0 + c1 := ⟨_, rfl⟩
  obtain ⟨g2, hg2⟩ : ∃ z, z = g1 + c2 := ⟨_, rfl⟩
  have hsum : X0 + t + p = g2 * 18446744073709551616 + l2 := by omega
  have hg2s : g2 < s := by omega
  have e0 : IntKind.u64.wrap ((lo : Int) - 1) = (p : Int) := by rw [IntKind.wrap_u64]; omega
  have e1 : IntKind.u64.wrap ((g0 : Int) + (c1 : Int)) = (g1 : Int) := by rw [IntKind.wrap_u64]; omega
  have e2 : IntKind.u64.wrap ((g1 : Int) + (c2 : Int)) = (g2 : Int) := by rw [IntKind.wrap_u64]; omega
  have HD := hideI (fun V : World => div_any g2 l2 s hg2s (by omega) (by omega) V)
  rw [← hsum] at HD
  obtain ⟨Q, hQ⟩ : ∃ Q, Q = (X0 + t + p) / s := ⟨_, rfl⟩
  rw [← hQ] at HD hr ⊢
  have e3 : IntKind.u64.wrap ((Q : Int) + 1) = ((Q + 1 : Nat) : Int) := by rw [IntKind.wrap_u64]; omega
  obtain ⟨Q1, hQ1⟩ : ∃ z, z = Q + 1 := ⟨_, rfl⟩
  rw [← hQ1] at e3 ⊢
  obtain ⟨W1, hW1⟩ : ∃ W1 : World, W1 = (w.alloc (.cells #[.int .u64 (T : Int), .int .u64 (s : Int), .int .u64 (lo : Int), .int .u64 (hi : Int)] 44)).alloc (.cells #[.int .u64 (t : Int), .int .u64 (p : Int)] 27) := ⟨_, rfl⟩
  have HB1 : Hid (Below w.heap.size w W1) := hideI (by rw [hW1]; exact ((Below.refl _ w).alloc (Nat.le_refl _) _).alloc (by simp) _)
  have hO : W1.heap[w.heap.size]? = some (.cells #[.int .u64 (T : Int), .int .u64 (s : Int), .int .u64 (lo : Int), .int .u64 (hi : Int)] 44 (0, 0)) := by rw [hW1, heap_alloc_old _ _ (by simp)]; exact heap_alloc_new w _
  have hN : W1.heap[w.heap.size + 1]? = some (.cells #[.int .u64 (t : Int), .int .u64 (p : Int)] 27 (0, 0)) := by rw [hW1]; have h := heap_alloc_new (w.alloc (.cells #[.int .u64 (T : Int), .int .u64 (s : Int), .int .u64 (lo : Int), .int .u64 (hi : Int)] 44)) (.cells #[.int .u64 (t : Int), .int .u64 (p : Int)] 27); simpa using h
  have HR1 : Hid (RdV W1 w.heap.size T s lo hi) := hideI (RdV.of hO)
  have HE0 : Hid (W1.cell? ⟨w.heap.size + 1, 0, none⟩ = some (.int .u64 (t : Int))) := hideI (row_cells hN rfl 0)
  have HE1 : Hid (W1.cell? ⟨w.heap.size + 1, 1, none⟩ = some (.int .u64 (p : Int))) := hideI (row_cells hN rfl 1)
  have HSZ : Hid (W1.heap.size = w.heap.size + 2) := hideI (by rw [hW1]; simp)
  have HW1 := hideI hW1
  clear hW1 hO hN hX0 hp hV htop hl0 hg0 hl1 hc1 hl2 hc2 hg1 hg2 hsum hg2s hQ hQ1 hr h0 hl hs ht hT
  go_enter Tryd.func29, Tryd.ntmps29
  go_upto_region 3 with (go_at_call 30; go_must (refine (HM.out _).mono ?_); rintro e w4 ⟨rfl, hw4⟩; obtain rfl := hw4.symm)
  rw [← HW1.out]
  go_loopw [5, 6, 25] (fun u5 u6 u25 wv => ((u5 = .int .u64 g0 ∧ u6 = .int .u64 l0 ∧ u25 = .int .i64 0) ∨ (u5 = .int .u64 g1 ∧ u6 = .int .u64 l1 ∧ u25 = .int .i64 1) ∨ (u5 = .int .u64 g2 ∧ u6 = .int .u64 l2 ∧ u25 = .int .i64 2)) ∧ wv = W1) (fun _ _ u25 _ => 2 - (intOf u25).toNat)
  case atStart => exact ⟨.inl ⟨rfl, rfl, rfl⟩, rfl⟩
  case round =>
    obtain ⟨hc, hw⟩ := hrel
    obtain rfl := hw.symm
    rcases hc with ⟨rfl, rfl, rfl⟩ | ⟨rfl, rfl, rfl⟩ | ⟨rfl, rfl, rfl⟩
    · have k0 := HE0.out
      go_wp2_with (simp only [A0])
      go_roundw
      case rel => exact ⟨.inr (.inl ⟨rfl, rfl, rfl⟩), by first | rfl | trivial⟩
      case measure => simp [intOf]
    · have k1 := HE1.out
      go_wp2_with (simp only [A1])
      go_roundw
      case rel => exact ⟨.inr (.inr ⟨rfl, rfl, rfl⟩), by first | rfl | trivial⟩
      case measure => simp [intOf]
    · obtain ⟨r0, r1, r2, r3⟩ := HR1.out
      go_wp2_with (go_at_call 32; go_must (refine (HD.out _).mono ?_); rintro e w5 ⟨⟨z, rfl⟩, hw5⟩)
      refine bodyPost_ret (results_tmp rfl _ _ _) (by rfl) ?_
      exact ⟨by simp [e3], HB1.out.trans (hw5.mono (by have := HSZ.out; omega))⟩
end Go.Proofs.YtidebjcnmabggaaDoor.Mo
