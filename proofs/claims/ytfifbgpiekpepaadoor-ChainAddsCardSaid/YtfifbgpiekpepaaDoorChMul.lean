/- chain.Mul, whole. -/
import Derived.Test.YtfifbgpiekpepaaDoorChFits
import Derived.Test.YtfifbgpiekpepaaDoorChVals
namespace Go.Proofs.YtfifbgpiekpepaaDoor.Chn
open Go.RowKit

/-- what chain.Mul answers -/
def mulAM (xs ys : List Int) : Option (List Int) := if 16 < (trimM xs).length ∨ 16 < (trimM ys).length then none else ansM (trimM (heldL (mulM (trimM xs) (trimM ys))))

theorem take_set_succ {zs : List Int} {n : Nat} {y : Int} (h : n < zs.length) : (zs.set n y).take (n + 1) = zs.take n ++ [y] := by
  rw [List.take_succ_eq_append_getElem (by simpa using h), List.take_set_of_le (Nat.le_refl _), List.getElem_set_self]

set_option maxRecDepth 100000 in
set_option maxHeartbeats 2000000 in
theorem chMul_any (xs ys : List Int) (B : Nat) (v u : Value) (w : World) (hT : Tab w) (hx : CI w B v xs) (hy : CI w B u ys) (hB : B ≤ w.heap.size) :
    Calls Tryd.prog 17 #[v, u] w (AnsE w (mulAM xs ys)) := by
  have HTX := hideI (trimmed_any xs B v w hx)
  have HTY := hideI (trimmed_any ys B u w hy)
  have HT := hideI hT
  have HT0 := hT.1
  have HB := hideI hB
  obtain ⟨⟨A, c, rfl, _, _⟩, _⟩ := hx
  obtain ⟨⟨A', c', rfl, _, _⟩, _⟩ := hy
  clear hT hB
  go_enter Tryd.func17, Tryd.ntmps17
  go_upto_region 2 with (first
    | (go_at_call_of 27 (Value.slice A xs.length c); go_must (refine HTX.out.mono ?_); rintro e w1 ⟨v1, rfl, hv, hw⟩; obtain rfl := hw.symm; have HVX := hideI hv; obtain ⟨⟨A1, c1, rfl, _, _⟩, _⟩ := hv)
    | (go_at_call_of 27 (Value.slice A' ys.length c'); go_must (refine HTY.out.mono ?_); rintro e w1 ⟨v1, rfl, hv, hw⟩; obtain rfl := hw.symm; have HVY := hideI hv; obtain ⟨⟨A2, c2, rfl, _, _⟩, _⟩ := hv))
  obtain ⟨al, has⟩ : ∃ l, l = trimM xs := ⟨_, rfl⟩
  obtain ⟨bl, hbs⟩ : ∃ l, l = trimM ys := ⟨_, rfl⟩
  have HM : Hid (mulAM xs ys = if 16 < al.length ∨ 16 < bl.length then none else ansM (trimM (heldL (mulM al bl)))) := hideI (by rw [has, hbs]; rfl)
  rw [← has] at HVX ⊢
  rw [← hbs] at HVY ⊢
  obtain ⟨a, ha⟩ : ∃ a, a = al.length := ⟨_, rfl⟩
  obtain ⟨b, hb⟩ : ∃ b, b = bl.length := ⟨_, rfl⟩
  have HAL := hideI ha
  have HBL := hideI hb
  rw [← ha] at HVX HM ⊢
  rw [← hb] at HVY HM ⊢
  clear has hbs ha hb HTX HTY
  by_cases hl1 : 16 < a
  · have hd : decide (16 < a) = true := by simpa using hl1
    have HE : Hid (mulAM xs ys = none) := hideI (by rw [HM.out, if_pos (.inl hl1)])
    clear hl1
    go_wp2_with (go_at_call 28; go_must (refine (tooLong_any _ _ _ _).mono ?_); rintro e w2 ⟨rfl, hw⟩; obtain rfl := hw.symm; rw [hd])
    refine bodyPost_ret (results_tmp2 rfl _ _ _) (by rfl) ?_
    rw [HE.out]
    exact AnsE.no (Below.refl _ _)
  have hd1 : decide (16 < a) = false := by simpa using hl1
  by_cases hl2 : 16 < b
  · have hd : decide (16 < b) = true := by simpa using hl2
    have HE : Hid (mulAM xs ys = none) := hideI (by rw [HM.out, if_pos (.inr hl2)])
    clear hl1 hl2
    go_wp2_with (first
      | (go_at_call_of 28 (Value.slice A1 a c1); go_must (refine (tooLong_any _ _ _ _).mono ?_); rintro e w2 ⟨rfl, hw⟩; obtain rfl := hw.symm; rw [hd1])
      | (go_at_call_of 28 (Value.slice A2 b c2); go_must (refine (tooLong_any _ _ _ _).mono ?_); rintro e w2 ⟨rfl, hw⟩; obtain rfl := hw.symm; rw [hd]))
    refine bodyPost_ret (results_tmp2 rfl _ _ _) (by rfl) ?_
    rw [HE.out]
    exact AnsE.no (Below.refl _ _)
  have hd2 : decide (16 < b) = false := by simpa using hl2
  have HE : Hid (mulAM xs ys = ansM (trimM (heldL (mulM al bl)))) := hideI (by rw [HM.out, if_neg (by omega)])
  have ha16 : a ≤ 16 := by omega
  have hb16 : b ≤ 16 := by omega
  clear hl1 hl2 HM
  go_upto_region 4 with (first
      | (go_at_call_of 28 (Value.slice A1 a c1); go_must (refine (tooLong_any _ _ _ _).mono ?_); rintro e w2 ⟨rfl, hw⟩; obtain rfl := hw.symm; rw [hd1])
      | (go_at_call_of 28 (Value.slice A2 b c2); go_must (refine (tooLong_any _ _ _ _).mono ?_); rintro e w2 ⟨rfl, hw⟩; obtain rfl := hw.symm; rw [hd2]))
  go_upto_region 5 with fail
  generalize hW1 : w.alloc (Obj.cells _ _) = W1
  obtain ⟨g, hg⟩ : ∃ g, g = w.heap.size := ⟨_, rfl⟩
  have HB1 : Hid (Below w.heap.size w W1) := hideI (by rw [← hW1]; exact (Below.refl _ w).alloc (Nat.le_refl _) _)
  have HR1 : Hid (RowC W1 g (List.replicate 32 0)) := hideI ⟨(List.replicate 32 (Value.int .i64 0)).toArray, _, by rw [← hW1, hg]; exact heap_alloc_new w _, fun j x hj => by
    rw [List.getElem?_replicate] at hj
    rw [List.getElem?_toArray, List.getElem?_replicate]
    split at hj
    · injection hj with hj
      subst hj
      rename_i h5
      rw [if_pos h5]
    · cases hj⟩
  have HG := hideI hg
  rw [← hg]
  clear hW1 hg
  go_wp2
  go_loopw [8, 25] (fun u8 u25 wv => ∃ (n : Nat) (zs : List Int), n ≤ a + b ∧ u25 = .int .i64 n ∧ Hid (zs.length = 32) ∧ Hid (ValsTo (zs.take n) (fun k => wrp (vl al k) * wrp (vl bl k)) n) ∧ Hid (RowC wv g zs) ∧ Hid (Below w.heap.size w wv)) (fun _ u25 _ => a + b - (intOf u25).toNat)
  case atStart => exact ⟨0, _, Nat.zero_le _, rfl, hideI rfl, hideI ⟨rfl, fun j hj => by omega⟩, HR1, HB1⟩
  case round =>
    obtain ⟨n, zs, hn, rfl, HZL, HVT, HRW, HBr⟩ := hrel
    by_cases hlt : n < a + b
    · have hl : (n : Int) < (a : Int) + (b : Int) := by omega
      have hn32 : n < 32 := by omega
      have hn64 : (n : Int) < 32 := by omega
      have HX : Hid (Calls Tryd.prog 30 #[.slice A1 a c1, .int .i64 n] wr fun e w' => e = .returned (.int .i64 (wrp (vl al n))) ∧ Below wr.heap.size wr w') := hideI (value_any al B _ n wr (HT.out.keep HBr.out HT0) (HVX.out.1.keep (HBr.out.mono HB.out)) (Nat.le_trans HB.out HBr.out.size) (by have := HAL.out; omega) (by omega))
      have HY : Hid (∀ V, Below wr.heap.size wr V → Calls Tryd.prog 30 #[.slice A2 b c2, .int .i64 n] V fun e w' => e = .returned (.int .i64 (wrp (vl bl n))) ∧ Below V.heap.size V w') := hideI fun V hV => by
        have h1 := HBr.out.trans (hV.mono HBr.out.size)
        exact value_any bl B _ n V (HT.out.keep h1 HT0) (HVY.out.1.keep (h1.mono HB.out)) (Nat.le_trans HB.out h1.size) (by have := HBL.out; omega) (by omega)
      go_wp2_with (first
        | (go_at_call_of 30 (Value.slice A1 a c1); go_must (refine HX.out.mono ?_); rintro e w1 ⟨rfl, hb1⟩; have HB2 := hideI hb1; clear hb1)
        | (go_at_call_of 30 (Value.slice A2 b c2); go_must (refine (HY.out _ HB2.out).mono ?_); rintro e w2 ⟨rfl, hb2⟩; have HB3 := hideI (HB2.out.trans (hb2.mono HB2.out.size)); clear hb2; have HRW3 := hideI (HRW.out.keep HB3.out HRW.out.lt); have k1 := HRW3.out.cell (j := n) (List.getElem?_eq_getElem (by rw [HZL.out]; exact hn32)); have k2 := HRW3.out.open_ n))
      go_roundw
      case rel => exact ⟨n + 1, zs.set n (wrap64 (wrp (vl al n) * wrp (vl bl n))), by omega, by go_num, hideI (by rw [List.length_set]; exact HZL.out), hideI (by
        rw [take_set_succ (by rw [HZL.out]; exact hn32)]
        exact HVT.out.push (by rw [odd_wrap]; rfl)), hideI HRW3.out.set, hideI ((HBr.out.trans (HB3.out.mono HBr.out.size)).setCell (p := ⟨g, n, none⟩) (Nat.le_of_eq HG.out.symm) _)⟩
      case measure => simp [intOf]; omega
    · have hnn : n = a + b := by omega
      have hnl : ¬ (n : Int) < (a : Int) + (b : Int) := by omega
      obtain ⟨vs, hvs⟩ : ∃ vs, vs = zs.take n := ⟨_, rfl⟩
      have HRT : Hid (RowC wr g vs) := hideI (by rw [hvs]; exact HRW.out.take n)
      have HVS := HVT.out
      rw [← hvs] at HVS
      have HLN : Hid (a + b = vs.length) := hideI (by rw [HVS.len]; omega)
      have HFI := hideI (fit_any vs g 32 w.heap.size (a + b) wr HRT.out HLN.out (Nat.le_of_eq HG.out.symm) (by omega))
      have HTM : Hid (trimM (fitW (a + b) vs) = trimM (heldL (mulM al bl))) := hideI (by
        have h1 := HVS.fit (c := mulM al bl) (fun k => by rw [vl_mul]; exact (wrp_eq _).mul (wrp_eq _)) (by
          have h1 := mulM_len _ al bl rfl
          have h2 := HAL.out
          have h3 := HBL.out
          omega)
        rw [← HLN.out] at h1
        exact h1)
      have h32 : a + b ≤ 32 := by omega
      have h32i : (a : Int) + (b : Int) ≤ 32 := by omega
      have h0i : 0 ≤ (a : Int) + (b : Int) := by omega
      have htn : ((a : Int) + (b : Int)).toNat = a + b := by omega
      clear hvs HVS hnn
      go_wp2_with (first
        | (go_at_call 31; go_must (refine HFI.out.mono ?_); rintro e w4 ⟨rfl, hv4, hb4⟩; have HV4 := hideI (hv4.ci (c := 32) (by rw [fitW_len]; exact h32) (by rw [fitW_len]; omega)); have HB4 := hideI (HBr.out.trans hb4); clear hv4 hb4; rw [fitW_len] at HV4)
        | (go_at_call 29; go_must (refine (answer_any (fitW (a + b) vs) _ _ w4 HV4.out).mono ?_); rintro e w5 ⟨A5, n5, c5, en5, rfl, h5⟩; have H5 := hideI h5; clear h5))
      refine bodyPost_ret (results_tmp2 rfl _ _ _) (by rfl) ?_
      rw [HE.out, ← HTM.out]
      exact AnsE.of ⟨A5, n5, c5, en5, rfl, H5.out⟩ HB4.out
end Go.Proofs.YtfifbgpiekpepaaDoor.Chn
