/- awake of the thirteenth law. -/
import Derived.Test.YtidebjcnmabggaaDoorMoInv
namespace Go.Proofs.YtidebjcnmabggaaDoor.Mo
open Go.RowKit

theorem solve_aw : Ans (2 ^ 4) 1 4 (13 % 2 ^ 4) (13 % 2 ^ 4) 3 0 := .yes ⟨by unfold Hit; decide, fun m hm => by
  rcases (by omega : m = 0 ∨ m = 1 ∨ m = 2) with rfl | rfl | rfl <;> (unfold Hit; decide)⟩
theorem first_aw : Ans (2 ^ 4) 0 7 3 4 5 0 := .yes ⟨by unfold Hit; decide, fun m hm => by
  have h : ∀ k : Nat, k < 5 → ¬ (3 ≤ (0 + 7 * k) % 2 ^ 4 ∧ (0 + 7 * k) % 2 ^ 4 ≤ 4) := by decide
  exact h m hm⟩

theorem inv3 {n : Int} (h : (3 * n) % 18446744073709551616 = 1) : IntKind.i64.wrap (n * 3) = 1 := by
  obtain ⟨m, hm⟩ : ∃ m, m = n * 3 := ⟨_, rfl⟩
  rw [Int.mul_comm, ← hm] at h
  rw [← hm]
  clear hm
  unfold IntKind.wrap
  simp [IntKind.bits, IntKind.signed]
  omega

theorem solve4 (w : World) (hT : Chn.Tab w) : Calls Tryd.prog 13 #[.int .u64 1, .int .u64 4, .int .u64 13, .int .i64 4] w fun e w' => e = .returned (.tuple #[.int .u64 3, .int .i64 0]) ∧ Below w.heap.size w w' := by
  have h := solve_any 1 4 13 4 (by decide) (by decide) (by decide) (by decide) (by decide) w hT
  refine Calls.mono h fun e w' hh => ?_
  obtain ⟨x, r, hA, he, hB⟩ := hh
  obtain ⟨rfl, rfl⟩ := hA.one solve_aw
  exact ⟨he, hB⟩
theorem first4 (w : World) : Calls Tryd.prog 15 #[.int .u64 0, .int .u64 7, .int .u64 3, .int .u64 4, .int .i64 4] w fun e w' => e = .returned (.tuple #[.int .u64 5, .int .i64 0]) ∧ Below w.heap.size w w' := by
  have h := first_any 0 7 3 4 4 (by decide) (by decide) (by decide) (by decide) (by decide) (by decide) w
  refine Calls.mono h fun e w' hh => ?_
  obtain ⟨x, r, hA, he, hB⟩ := hh
  obtain ⟨rfl, rfl⟩ := hA.one first_aw
  exact ⟨he, hB⟩

theorem one_wrap {m : Int} (h : m % 18446744073709551616 = 1) : IntKind.i64.wrap m = 1 := by
  unfold IntKind.wrap
  simp [IntKind.bits, IntKind.signed]
  omega

set_option maxRecDepth 100000 in
theorem awake_any (w : World) (hT : Chn.Tab w) :
    Calls Tryd.prog 12 #[] w fun e w' => e = .returned (.bool true) ∧ Below w.heap.size w w' := by
  have HI := hideI (fun V : World => inv_odd 3 (by decide) ⟨by decide, by decide⟩ V)
  have HS := hideI (solve4 w hT)
  have HF := hideI first4
  clear hT
  go_enter Tryd.func12, Tryd.ntmps12
  go_wp2_with (first
    | (go_at_call 11; go_must (refine (HI.out _).mono ?_); rintro e w1 ⟨⟨n, _, _, hn, _, rfl⟩, hw⟩; (obtain rfl := hw.symm); have hn3 := inv3 hn; clear hn)
    | (go_at_call 13; go_must (refine HS.out.mono ?_); rintro e w2 ⟨rfl, hB2⟩; have HB2 := hideI hB2; clear hB2)
    | (go_at_call 15; go_must (refine (HF.out _).mono ?_); rintro e w3 ⟨rfl, hB3⟩; have HB3 := hideI (HB2.out.trans (hB3.mono HB2.out.size)); clear hB3))
  go_ret
  exact ⟨rfl, HB3.out⟩
end Go.Proofs.YtidebjcnmabggaaDoor.Mo
