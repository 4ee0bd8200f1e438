/- The reference's Size. -/
import Derived.Test.YtgmikokdiafjgaaSize
import Derived.BigQuiet
import Derived.IntWalk
namespace Go.Proofs.Ytgmikokdiafjgaa
open Go.RowKit Go.Maps

theorem drewN_below' {B n : Nat} {w w' : World} (h : Below B w w') : Below B w (w'.drewN n) := ⟨h.os, h.tape, h.output, h.size, h.block⟩

set_option maxHeartbeats 1000000 in
theorem refSize_any (bs : List BlockM) (B : Nat) (pv av cv bv : Value) (w : World) (hbv : BlocksR w B bv bs) (hB : B ≤ w.heap.size) (h2 : bs.length ≤ 512) :
    Calls Try.prog 43 #[.agg #[pv, av, cv, bv]] w fun e w' => e = .returned (.int .i64 ((bs.map sizeB).sum : Nat)) ∧ Below w.heap.size w w' := by
  have HB := hideI hbv
  obtain ⟨A, c, rfl, hbm, hbx⟩ := hbv
  have HX := hideI hbx
  clear hbx
  go_enter Try.func43, Try.ntmps43
  go_wp2
  go_loopw [3, 4] (fun n i wr => ∃ k S : Nat, k ≤ bs.length ∧ i = .int .i64 k ∧ n = .int .i64 S ∧ S + k = bs.length + ((bs.take k).map sizeB).sum ∧ S ≤ bs.length + k * 281474976702465 ∧ Below (w.heap.size + 1) (w.alloc (.cells #[pv, av, cv, .slice A bs.length c] 25)) wr) (fun _ i _ => bs.length - (intOf i).toNat)
  case atStart => exact ⟨0, bs.length, Nat.zero_le _, rfl, rfl, rfl, Nat.le_refl _, Below.refl _ _⟩
  case round =>
    obtain ⟨k, S, hk, rfl, rfl, hS, hSb, hBe⟩ := hrel
    obtain ⟨hx1, hz1⟩ := one_cells hBe
    have hks := hideI (keeps_one hBe hB)
    have HBe := hideI hBe
    have HS := hideI hS
    clear hBe hS
    by_cases hlt : k < bs.length
    · obtain ⟨q, hq⟩ : ∃ q, bs[k]? = some q := ⟨_, List.getElem?_eq_getElem hlt⟩
      obtain ⟨b, off, pv, cv, tv, rfl, hb, e0, e1, e2, e3, e4, e5, hpv, hcv, htv, _⟩ := HX.out k q hq
      have c0 := (hks.out b (off + k * 6) hb).trans e0
      have c1 := (hks.out b (off + k * 6 + 1) hb).trans e1
      obtain ⟨PA, pc, hpe, hpm, _⟩ := hpv
      obtain ⟨CA, cc, hce, hcm, _⟩ := hcv
      subst hpe hce
      have HQ := hideI hq
      clear e0 e1 e2 e3 e4 e5 hq
      have hn1 : S + (q.phis.length + q.code.length) ≤ bs.length + (k + 1) * 281474976702465 := by omega
      have hw1 : IntKind.i64.wrap ((q.phis.length : Int) + q.code.length) = (q.phis.length : Int) + q.code.length := IntWalk.i64_in _ (by omega)
      have hw2 : IntKind.i64.wrap ((S : Int) + ((q.phis.length : Int) + q.code.length)) = (S : Int) + ((q.phis.length : Int) + q.code.length) := IntWalk.i64_in _ (by omega)
      go_wp2
      go_quiet (fail)
      clear hw1 hw2
      go_wp2
      go_roundw
      case rel => exact ⟨k + 1, S + (q.phis.length + q.code.length), by omega, by go_num, by go_num, by rw [size_take _ _ _ HQ.out]; have := HS.out; omega, hn1, drewN_below' HBe.out⟩
      case measure => simp [intOf]; omega
    · have hS' : S = (bs.map sizeB).sum := by have := HS.out; rw [List.take_of_length_le (by omega)] at this; omega
      go_wp2
      go_ret
      refine ⟨?_, below_one HBe.out⟩
      rw [hS']
      rfl

end Go.Proofs.Ytgmikokdiafjgaa
