/- The reference's Mul: the product of two chains, by the chain of its values. -/
import Derived.Test.YtfifbgpiekpepaaDoorRFit
import Derived.Test.YtfifbgpiekpepaaDoorRAt
import Derived.Test.YtfifbgpiekpepaaDoorChVals
import Derived.Test.YtfifbgpiekpepaaDoorChSums
namespace Go.Proofs.YtfifbgpiekpepaaDoor.Chn
open Go.RowKit

theorem numSome {w : World} {base : Nat} {A : Option Addr} {n c : Nat} {xs : List Int} (h : Num w base (.slice A n c) xs) (h0 : 0 < xs.length) : ∃ g, A = some ⟨g, 0, none⟩ := by
  obtain ⟨A2, c2, e, hr⟩ := h.read
  injection e with e
  subst e
  obtain ⟨g, e, _⟩ := hr 0 _ (List.getElem?_eq_getElem h0)
  exact ⟨g, e⟩

set_option maxRecDepth 100000 in
set_option maxHeartbeats 4000000 in
theorem refMul_any (xs ys : List Int) (B : Nat) (v u : Value) (w : World) (hx : Ints w B v xs) (hy : Ints w B u ys) (hB : B ≤ w.heap.size) (hn : xs.length ≤ 1000) (hm : ys.length ≤ 1000) :
    Calls Tryd.prog 18 #[v, u] w fun e w' => ∃ v', e = .returned v' ∧ Num w' w.heap.size v' (trimM (heldL (mulM xs ys))) ∧ Below w.heap.size w w' := by
  have HX := hideI hx
  have HY := hideI hy
  obtain ⟨A, c, rfl, _, _⟩ := hx
  obtain ⟨A', c', rfl, _, _⟩ := hy
  have HB := hideI hB
  obtain ⟨W0, hW0⟩ : ∃ W0 : World, W0 = w.alloc (.cells #[] 3) := ⟨_, rfl⟩
  have HO0 : Hid (Num W0 w.heap.size (.slice (some ⟨w.heap.size, 0, none⟩) 0 0) []) := hideI (by rw [hW0]; exact World.ownsRow_made (base := w.heap.size) (e := 3) (size := 1) w #[] 0 (Nat.le_refl _) (by decide) rfl)
  have HB0 : Hid (Below w.heap.size w W0) := hideI (by rw [hW0]; exact (Below.refl _ w).alloc (Nat.le_refl _) _)
  have HW0 := hideI hW0
  obtain ⟨a, ha⟩ : ∃ a, a = xs.length := ⟨_, rfl⟩
  obtain ⟨b, hb⟩ : ∃ b, b = ys.length := ⟨_, rfl⟩
  have HAL := hideI ha
  have HBL := hideI hb
  rw [← ha] at hn ⊢
  rw [← hb] at hm ⊢
  have HAT : Hid (∀ (n : Nat) (V : World), n < 9223372036854775808 → Below w.heap.size w V → Calls Tryd.prog 32 #[.slice A a c, .int .i64 n] V fun e w' => e = .returned (.int .i64 (wrp (vl xs n))) ∧ Below V.heap.size V w') := hideI fun n V hn5 hV => by
    rw [ha]
    exact refAt_any xs B _ n V (HX.out.keep (hV.mono HB.out)) (Nat.le_trans HB.out hV.size) (by omega) hn5
  have HBT : Hid (∀ (n : Nat) (V : World), n < 9223372036854775808 → Below w.heap.size w V → Calls Tryd.prog 32 #[.slice A' b c', .int .i64 n] V fun e w' => e = .returned (.int .i64 (wrp (vl ys n))) ∧ Below V.heap.size V w') := hideI fun n V hn5 hV => by
    rw [hb]
    exact refAt_any ys B _ n V (HY.out.keep (hV.mono HB.out)) (Nat.le_trans HB.out hV.size) (by omega) hn5
  clear hW0 hB ha hb
  go_enter Tryd.func18, Tryd.ntmps18
  go_upto_region 2 with fail
  rw [← HW0.out]
  go_wp2
  go_loopw [5, 6] (fun u5 u6 wv => ∃ (n g c5 : Nat) (vs : List Int), n ≤ a + b + 1 ∧ u6 = .int .i64 n ∧ u5 = .slice (some ⟨g, 0, none⟩) n c5 ∧ Hid (ValsTo vs (fun k => wrp (vl xs k) * wrp (vl ys k)) n) ∧ Hid (Num wv w.heap.size (.slice (some ⟨g, 0, none⟩) n c5) vs) ∧ Hid (Below w.heap.size w wv)) (fun _ u6 _ => a + b + 1 - (intOf u6).toNat)
  case atStart => exact ⟨0, _, _, [], Nat.zero_le _, rfl, rfl, hideI ⟨rfl, fun j hj => by omega⟩, HO0, HB0⟩
  case round =>
    obtain ⟨n, g, c5, vs, hnm, rfl, rfl, HVT, HNU, HBr⟩ := hrel
    by_cases hlt : n < a + b + 1
    · have hl : (n : Int) < (a : Int) + (b : Int) + 1 := by omega
      have hn63 : n < 9223372036854775808 := by omega
      have hn2 : n ≤ 2001 := by omega
      go_wp2_with (first
        | (go_at_call_of 32 (Value.slice A a c); go_must (refine (HAT.out n wr hn63 HBr.out).mono ?_); rintro e w1 ⟨rfl, hb1⟩; have HB1 := hideI (HBr.out.trans (hb1.mono HBr.out.size)); have HN1 := hideI (HNU.out.kept hb1); have HS1 := hideI hb1.size; clear hb1)
        | (go_at_call_of 32 (Value.slice A' b c'); go_must (refine (HBT.out n w1 hn63 HB1.out).mono ?_); rintro e w2 ⟨rfl, hb2⟩; have HB2 := hideI (HB1.out.trans (hb2.mono HB1.out.size)); have HN2 := hideI (HN1.out.kept hb2); clear hb2)
        | (at_builtin; go_must (refine wpList_join rfl _ _ rfl (w2.heap.size + 1) g n c5 w.heap.size (.slice (some ⟨w2.heap.size, 0, none⟩) 1 1) vs [wrap64 (wrp (vl xs n) * wrp (vl ys n))] rfl rfl (HN2.out.kept ((Below.refl _ w2).alloc (Nat.le_refl _) _)) (by have h := (num_one w2 (wrap64 (wrp (vl xs n) * wrp (vl ys n)))).ints (by simp); simpa using h) (by rw [HVT.out.len]; simp; omega) (by have h1 := HB2.out.size; simp; omega) ?_); intro A6 c6 w6 hown hb; have HN6 := hideI hown; have HB6 := hideI ((HB2.out.alloc HB2.out.size _).trans hb); clear hown hb))
      have hlen : (vs ++ [wrap64 (wrp (vl xs n) * wrp (vl ys n))]).length = n + 1 := by rw [List.length_append, HVT.out.len]; rfl
      rw [hlen] at HN6
      obtain ⟨g6, rfl⟩ := numSome HN6.out (by omega)
      clear hlen
      go_roundw
      case rel => exact ⟨n + 1, g6, c6, vs ++ [wrap64 (wrp (vl xs n) * wrp (vl ys n))], by omega, by go_num, by rw [HVT.out.len], hideI (HVT.out.push (by rw [odd_wrap]; rfl)), HN6, HB6⟩
      case measure => simp [intOf]; omega
    · have hnn : n = a + b + 1 := by omega
      have hvl := HVT.out.len
      have HFI := hideI (refFit_any vs wr.heap.size (.slice (some ⟨g, 0, none⟩) n c5) wr (HNU.out.ints (by omega)) (Nat.le_refl _) (by omega))
      have HE : Hid (trimM (fitW vs.length vs) = trimM (heldL (mulM xs ys))) := hideI (HVT.out.fit (fun k => by rw [vl_mul]; exact (wrp_eq _).mul (wrp_eq _)) (by
        have h1 := mulM_len _ xs ys rfl
        have h2 := HAL.out
        have h3 := HBL.out
        omega))
      have hnl : ¬ ((n : Int) < (a : Int) + (b : Int) + 1) := by omega
      clear hvl hnn
      go_wp2_with (go_at_call 23; go_must (refine HFI.out.mono ?_); rintro e w6 ⟨v6, rfl, hv, hb⟩; have HV := hideI hv; have HB6 := hideI hb; clear hv hb)
      go_ret
      exact ⟨_, rfl, by rw [← HE.out]; exact HV.out.mono HBr.out.size, HBr.out.trans (HB6.out.mono HBr.out.size)⟩
end Go.Proofs.YtfifbgpiekpepaaDoor.Chn
