/- size, withinLimits. -/
import Derived.Test.YtclbhbnidodmdaaBlock
namespace Go.Proofs.Ytclbhbnidodmdaa
open Go.RowKit Go.Maps

theorem size_take (bs : List BlockM) (k : Nat) (q : BlockM) (h : bs[k]? = some q) : ((bs.take (k + 1)).map sizeB).sum = ((bs.take k).map sizeB).sum + (q.phis.length + q.code.length + 1) := by
  obtain ⟨hk, rfl⟩ := List.getElem?_eq_some_iff.1 h
  rw [List.take_succ_eq_append_getElem hk, List.map_append, List.sum_append]
  rfl

set_option maxHeartbeats 1000000 in
theorem lookSize_any (bs : List BlockM) (B : Nat) (pv av cv bv mv : Value) (w : World) (hbv : BlocksR w B bv bs) (hB : B ≤ w.heap.size) (h2 : bs.length ≤ 512) :
    Calls Try.prog 80 #[.agg #[pv, av, cv, bv, mv]] w fun e w' => e = .returned (.int .i64 ((bs.map sizeB).sum : Nat)) ∧ Below w.heap.size w w' := by
  have HB := hideI hbv
  obtain ⟨A, c, rfl, hbm, hbx⟩ := hbv
  have HX := hideI hbx
  clear hbx
  go_enter Try.func80, Try.ntmps80
  go_wp2
  go_loopw [3, 10] (fun n i wr => ∃ k S : Nat, k ≤ bs.length ∧ i = .int .i64 k ∧ n = .int .i64 S ∧ S = ((bs.take k).map sizeB).sum ∧ S ≤ k * 281474976702465 ∧ Below (w.heap.size + 1) (w.alloc (.cells #[pv, av, cv, .slice A bs.length c, mv] 116)) wr) (fun _ i _ => bs.length - (intOf i).toNat)
  case atStart => exact ⟨0, 0, Nat.zero_le _, rfl, rfl, rfl, Nat.le_refl _, Below.refl _ _⟩
  case round =>
    obtain ⟨k, S, hk, rfl, rfl, hS, hSb, hBe⟩ := hrel
    obtain ⟨hx1, hz1⟩ := one_cells hBe
    have hks := hideI (keeps_one hBe hB)
    have HBe := hideI hBe
    have HS := hideI hS
    clear hBe hS
    by_cases hlt : k < bs.length
    · obtain ⟨q, hq⟩ : ∃ q, bs[k]? = some q := ⟨_, List.getElem?_eq_getElem hlt⟩
      obtain ⟨b, off, pv, cv, tv, rfl, hb, e0, e1, e2, e3, e4, e5, hpv, hcv, htv, _⟩ := HX.out k q hq
      have c0 := (hks.out b (off + k * 6) hb).trans e0
      have c1 := (hks.out b (off + k * 6 + 1) hb).trans e1
      have c2 := (hks.out b (off + k * 6 + 2) hb).trans e2
      have c3 := (hks.out b (off + k * 6 + 3) hb).trans e3
      have c4 := (hks.out b (off + k * 6 + 4) hb).trans e4
      have c5 := (hks.out b (off + k * 6 + 5) hb).trans e5
      obtain ⟨PA, pc, hpe, hpm, _⟩ := hpv
      obtain ⟨CA, cc, hce, hcm, _⟩ := hcv
      obtain ⟨TA, tc, hte, htm, _⟩ := htv
      subst hpe hce hte
      have HQ := hideI hq
      clear e0 e1 e2 e3 e4 e5 hq
      go_wp2
      go_roundw
      case rel => exact ⟨k + 1, S + (q.phis.length + q.code.length + 1), by omega, by go_num, by go_num, by rw [size_take _ _ _ HQ.out, ← HS.out], by omega, HBe.out.alloc (by omega) _⟩
      case measure => simp [intOf]; omega
    · go_wp2
      go_ret
      refine ⟨?_, below_one HBe.out⟩
      rw [HS.out, List.take_of_length_le (by omega)]
      rfl

set_option maxHeartbeats 1000000 in
theorem limits_any (f : FuncM) (B : Nat) (P : Option Addr) (pc : Nat) (bv mv : Value) (w : World) (hbv : BlocksR w B bv f.blocks) (hB : B ≤ w.heap.size) :
    Calls Try.prog 94 #[.agg #[.slice P f.params.length pc, .int .i64 f.arrays, .int .i64 f.cells, bv, mv]] w (Says (limitsB f) w) := by
  have HB := hideI hbv
  obtain ⟨A, c, rfl, hbm, hbx⟩ := hbv
  clear hbx
  have W1 := hideI ((HB.out.keeps ((Keeps.refl w).alloc hB (.cells #[.slice P f.params.length pc, .int .i64 f.arrays, .int .i64 f.cells, .slice A f.blocks.length c, mv] 116))))
  unfold limitsB
  by_cases c1 : f.params.length ≤ 16
  · cases c2 : withinB f.arrays 0 8
    · go_enter Try.func94, Try.ntmps94
      go_wp2_with (go_at_call 102; refine (within_any _ _ _ _).mono ?_; rintro e w' ⟨rfl, rfl⟩)
      go_ret
      exact says_new (by simp)
    cases c3 : withinB f.cells 0 64
    · go_enter Try.func94, Try.ntmps94
      go_wp2_with (go_at_call 102; refine (within_any _ _ _ _).mono ?_; rintro e w' ⟨rfl, rfl⟩)
      go_ret
      exact says_new (by simp)
    cases c4 : withinB f.blocks.length 1 512
    · go_enter Try.func94, Try.ntmps94
      go_wp2_with (go_at_call 102; refine (within_any _ _ _ _).mono ?_; rintro e w' ⟨rfl, rfl⟩)
      go_ret
      exact says_new (by simp)
    have hb5 : f.blocks.length ≤ 512 := by have := within_bd c4; omega
    have HL := hideI (lookSize_any f.blocks B (.slice P f.params.length pc) (.int .i64 f.arrays) (.int .i64 f.cells) (.slice A f.blocks.length c) mv _ W1.out (by simp; omega) hb5)
    go_enter Try.func94, Try.ntmps94
    go_wp2_with (first
      | (go_at_call 102; refine (within_any _ _ _ _).mono ?_; rintro e w' ⟨rfl, rfl⟩)
      | (go_at_call 80; refine HL.out.mono ?_; rintro e w1 ⟨rfl, hb1⟩; have HB1 := hideI hb1; clear hb1))
    go_ret
    refine ⟨?_, ((Below.refl _ _).alloc (Nat.le_refl _) _).trans (HB1.out.mono (by simp))⟩
    have h : decide ((((f.blocks.map sizeB).sum : Nat) : Int) ≤ 4096) = decide (sizeM f ≤ 4096) := by
      unfold sizeM
      rw [decide_eq_decide]
      omega
    simp only [Array.getD_eq_getD_getElem?]
    simp [c1, h]
  · go_enter Try.func94, Try.ntmps94
    go_wp2_with (go_at_call 102; refine (within_any _ _ _ _).mono ?_; rintro e w' ⟨rfl, rfl⟩)
    go_ret
    exact says_new (by simp)

end Go.Proofs.Ytclbhbnidodmdaa
