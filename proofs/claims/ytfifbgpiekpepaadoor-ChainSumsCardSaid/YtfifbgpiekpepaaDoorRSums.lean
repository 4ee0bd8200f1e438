/- The reference's Sums: the chain of the sums of a chain's values (written by wip/tools/chain/gensums.py). -/
import Derived.Test.YtfifbgpiekpepaaDoorRMul
import Derived.Test.YtfifbgpiekpepaaDoorLate
namespace Go.Proofs.YtfifbgpiekpepaaDoor.Chn
open Go.RowKit

theorem exec_join {ev : Operand → Value} {w w' : World} {o : Oper} {s x : Operand} {sl : TypeId} {v vs vx : Value} (ho : o.op = .call { callee := .builtin .append, args := #[s, x], argTypes := #[sl, sl] }) (hs : ev s = vs) (hx : ev x = vx)
    (hr : (Builtin.append_ #[sl, sl] o.type #[vs, vx]).run Tryd.prog w = .ok v w') : (execOp ev o).run Tryd.prog w = .ok (.value v) w' := by
  unfold execOp
  simp only [ho, resolve, invoke, builtin, Sem.run_bind, Sem.run_pure, Result.andThen_ok, List.map_toArray, List.map_cons, List.map_nil, hs, hx, hr]

set_option maxRecDepth 100000 in
set_option maxHeartbeats 4000000 in
theorem refSums_any (s : Int) (cs : List Int) (B : Nat) (v : Value) (w : World) (hx : Ints w B v cs) (hB : B ≤ w.heap.size) (hn : cs.length ≤ 1000) (hs : In64 s) :
    Calls Tryd.prog 21 #[.int .i64 s, v] w fun e w' => ∃ v', e = .returned v' ∧ Num w' w.heap.size v' (trimM (heldL (s :: cs))) ∧ Below w.heap.size w w' := by
  have HX := hideI hx
  obtain ⟨A, c, rfl, _, _⟩ := hx
  have HB := hideI hB
  obtain ⟨W0, hW0⟩ : ∃ W0 : World, W0 = w.alloc (.cells #[.int .i64 s] 3) := ⟨_, rfl⟩
  have HO0 : Hid (Num W0 w.heap.size (.slice (some ⟨w.heap.size, 0, none⟩) 1 1) [s]) := hideI (by rw [hW0]; exact num_one w s)
  have HB0 : Hid (Below w.heap.size w W0) := hideI (by rw [hW0]; exact (Below.refl _ w).alloc (Nat.le_refl _) _)
  have HW0 := hideI hW0
  obtain ⟨a, ha⟩ : ∃ a, a = cs.length := ⟨_, rfl⟩
  have HAL := hideI ha
  rw [← ha] at hn ⊢
  have HAT : Hid (∀ (n : Nat) (V : World), n < 9223372036854775808 → Below w.heap.size w V → Calls Tryd.prog 32 #[.slice A a c, .int .i64 n] V fun e w' => e = .returned (.int .i64 (wrp (vl cs n))) ∧ Below V.heap.size V w') := hideI fun n V hn5 hV => by
    rw [ha]
    exact refAt_any cs B _ n V (HX.out.keep (hV.mono HB.out)) (Nat.le_trans HB.out hV.size) (by omega) hn5
  have HS1 : Hid (ValsTo [s] (vl (s :: cs)) 1) := hideI ⟨rfl, fun j hj => by
    obtain rfl : j = 0 := by omega
    rw [vl_sums0]
    show some s = some (wrp s)
    congr 1
    exact hs.one (wrp_in s) (wrp_eq s).symm⟩
  clear hW0 hB ha hs
  go_enter Tryd.func21, Tryd.ntmps21
  go_upto_region 2 with fail
  rw [← HW0.out]
  go_wp2
  go_loopw [5, 6] (fun u5 u6 wv => ∃ (n g c5 : Nat) (vs : List Int), n ≤ a + 1 ∧ u6 = .int .i64 n ∧ u5 = .slice (some ⟨g, 0, none⟩) (n + 1) c5 ∧ Hid (ValsTo vs (vl (s :: cs)) (n + 1)) ∧ Hid (Num wv w.heap.size (.slice (some ⟨g, 0, none⟩) (n + 1) c5) vs) ∧ Hid (Below w.heap.size w wv)) (fun _ u6 _ => a + 1 - (intOf u6).toNat)
  case atStart => exact ⟨0, _, _, [s], Nat.zero_le _, rfl, rfl, HS1, HO0, HB0⟩
  case round =>
    obtain ⟨n, g, c5, vs, hnm, rfl, rfl, HVT, HNU, HBr⟩ := hrel
    by_cases hlt : n < a + 1
    · have hl : (n : Int) < (a : Int) + 1 := by omega
      have hn63 : n < 9223372036854775808 := by omega
      have hn2 : n ≤ 1001 := by omega
      have hS0 : wr.cell? ⟨g, n, none⟩ = some (.int .i64 (wrp (vl (s :: cs) n))) := (Num.rowC HNU.out).1.cell (HVT.out.at_ n (by omega))
      have hi0 : (0 : Int) ≤ (n : Int) := by omega
      have hi1 : (n : Int) < (n : Int) + 1 := by omega
      obtain ⟨X, hX⟩ : ∃ X, X = IntKind.i64.wrap (wrp (vl (s :: cs) n) + wrp (vl cs n)) := ⟨_, rfl⟩
      have HXX := hideI hX
      have HXV : Hid (X = wrp (vl (s :: cs) (n + 1))) := hideI (by
        rw [hX, vl_sums]
        exact wrp_of ((wrp_eq _).add (wrp_eq _)))
      clear hX
      go_upto_region 5 with fail
      refine wp_region_late (by kernel_rfl) (fun V => V.cell? ⟨g, n, none⟩ = some (.int .i64 (wrp (vl (s :: cs) n)))) [10] ?_
      refine wpAnyT_quiet (i := 0) (v := ?_) rfl (by kernel_rfl) (by kernel_rfl) (by kernel_rfl) (fun _ _ _ h => h) (Or.inl ⟨by rfl, ?_⟩) ?_
      rotate_left
      · (intro w; go_simp; try with_reducible rfl)
      try simp only [Act.put, List.setIfInBounds_toArray, List.set_cons_zero, List.set_cons_succ]
      refine wpAnyT_quiet (i := 1) (v := ?_) rfl (by kernel_rfl) (by kernel_rfl) (by kernel_rfl) (fun _ _ _ h => h) (Or.inl ⟨by rfl, ?_⟩) ?_
      rotate_left
      · (intro w; go_simp; try with_reducible rfl)
      try simp only [Act.put, List.setIfInBounds_toArray, List.set_cons_zero, List.set_cons_succ]
      refine wpAnyT_quiet (i := 2) (v := ?_) rfl (by kernel_rfl) (by kernel_rfl) (by kernel_rfl) (fun _ _ _ h => h) (Or.inl ⟨by rfl, ?_⟩) ?_
      rotate_left
      · (intro w; go_simp; try with_reducible rfl)
      try simp only [Act.put, List.setIfInBounds_toArray, List.set_cons_zero, List.set_cons_succ]
      refine wpAnyT_quiet (i := 3) (v := ?_) rfl (by kernel_rfl) (by kernel_rfl) (by kernel_rfl) (fun _ _ _ h => h) (Or.inl ⟨by rfl, ?_⟩) ?_
      rotate_left
      · (intro w; go_simp; try with_reducible rfl)
      try simp only [Act.put, List.setIfInBounds_toArray, List.set_cons_zero, List.set_cons_succ]
      refine wpAnyT_take [8, 9, 10] (i := 4) (v := ?_) rfl (by kernel_rfl) (by kernel_rfl) (by kernel_rfl) (by kernel_rfl) (by kernel_rfl) (by kernel_rfl) (fun _ _ _ h => h) hS0 (Or.inl ⟨by rfl, ?_⟩) ?_
      rotate_left
      · (intro w hSw; go_split_ands; go_simp; try with_reducible rfl)
      try simp only [Act.put, List.setIfInBounds_toArray, List.set_cons_zero, List.set_cons_succ]
      refine wpAnyT_quiet (i := 5) (v := ?_) rfl (by kernel_rfl) (by kernel_rfl) (by kernel_rfl) (fun _ _ _ h => h) (Or.inl ⟨by rfl, ?_⟩) ?_
      rotate_left
      · (intro w; go_simp; try with_reducible rfl)
      try simp only [Act.put, List.setIfInBounds_toArray, List.set_cons_zero, List.set_cons_succ]
      refine wpAnyT_quiet (i := 6) (v := ?_) rfl (by kernel_rfl) (by kernel_rfl) (by kernel_rfl) (fun _ _ _ h => h) (Or.inl ⟨by rfl, ?_⟩) ?_
      rotate_left
      · (intro w; go_simp; try with_reducible rfl)
      try simp only [Act.put, List.setIfInBounds_toArray, List.set_cons_zero, List.set_cons_succ]
      refine wpAnyT_ready (rs := [7]) (by kernel_rfl) (by simp) ?_
      refine AllReadyT.cons rfl (fun K hK => ?_) ?_
      · go_simp
        refine (HAT.out n wr.drew hn63 HBr.out.drew).mono ?_
        rintro e w2 ⟨rfl, hb2⟩
        have HB2 := hideI (HBr.out.drew.trans (hb2.mono HBr.out.size))
        have HN2 : Hid (Num w2 w.heap.size (.slice (some ⟨g, 0, none⟩) (n + 1) c5) vs) := hideI (Num.kept (w := wr.drew) HNU.out hb2)
        have hS2 : w2.cell? ⟨g, n, none⟩ = some (.int .i64 (wrp (vl (s :: cs) n))) := (Num.rowC HN2.out).1.cell (HVT.out.at_ n (by omega))
        clear hb2
        refine hK.out _ _ (fun _ _ => hS2) ?_
        clear hK K
        try simp only [Act.put, List.setIfInBounds_toArray, List.set_cons_zero, List.set_cons_succ]
        refine wpAnyT_quiet (i := 8) (v := ?_) rfl (by kernel_rfl) (by kernel_rfl) (by kernel_rfl) (fun _ _ _ h => h) (Or.inl ⟨by rfl, ?_⟩) ?_
        rotate_left
        · (intro w; go_simp; try with_reducible rfl)
        try simp only [Act.put, List.setIfInBounds_toArray, List.set_cons_zero, List.set_cons_succ]
        refine wpAnyT_ready (rs := [9]) (by kernel_rfl) (by simp) ?_
        refine AllReadyT.cons rfl (fun K hK => ?_) ?_
        · go_simp
          obtain ⟨wb, hwb⟩ : ∃ wb : World, wb = w2.alloc (.cells #[.int .i64 X] 3) := ⟨_, rfl⟩
          have HBB : Hid (Below w2.heap.size w2 wb) := hideI (by rw [hwb]; exact (Below.refl _ w2).alloc (Nat.le_refl _) _)
          have HNB : Hid (Num wb w.heap.size (.slice (some ⟨g, 0, none⟩) (n + 1) c5) vs) := hideI (HN2.out.kept HBB.out)
          have HIB : Hid (Ints wb (w2.heap.size + 1) (.slice (some ⟨w2.heap.size, 0, none⟩) 1 1) [X]) := hideI (by rw [hwb]; have h := (num_one w2 X).ints (by simp); simpa using h)
          have hSB : wb.cell? ⟨g, n, none⟩ = some (.int .i64 (wrp (vl (s :: cs) n))) := (Num.rowC HNB.out).1.cell (HVT.out.at_ n (by omega))
          obtain ⟨A6, c6, w6, hrun, hown, hb6⟩ := run_join wb (w2.heap.size + 1) 24 g (n + 1) c5 w.heap.size _ vs [X] HNB.out HIB.out (by rw [HVT.out.len]; simp; omega) (Nat.le_trans HB2.out.size HBB.out.size)
          have hlen : (vs ++ [X]).length = n + 2 := by rw [List.length_append, HVT.out.len]; rfl
          rw [hlen] at hrun hown
          obtain ⟨g6, rfl⟩ := numSome hown (by omega)
          have HN6 := hideI hown
          have HB6 := hideI ((HB2.out.trans (HBB.out.mono HB2.out.size)).trans hb6)
          have HRUN := hideI hrun
          have HWB := hideI hwb
          clear hown hb6 hrun hwb hlen
          rw [← HXX.out, ← HWB.out]
          refine hK.out _ _ (fun _ _ => hSB) ?_
          clear hK K
          try simp only [Act.put, List.setIfInBounds_toArray, List.set_cons_zero, List.set_cons_succ]
          refine wpAnyT_ready (rs := [10]) (by kernel_rfl) (by simp) ?_
          refine AllReadyT.cons rfl (fun K hK => ?_) ?_
          · unfold Oper.wp
            rw [exec_join (s := .tmp 16) (x := .tmp 25) (vs := .slice (some ⟨g, 0, none⟩) (n + 1) c5) (vx := .slice (some ⟨w2.heap.size, 0, none⟩) 1 1) rfl (by rfl) (by rfl) HRUN.out, Oper.upon_value]
            try simp only [Act.put, List.setIfInBounds_toArray, List.set_cons_zero, List.set_cons_succ]
            refine hK.out _ _ (fun h => absurd (by simp) h) ?_
            clear hK K
            try simp only [Act.put, List.setIfInBounds_toArray, List.set_cons_zero, List.set_cons_succ]
            refine wpAnyT_quiet (i := 11) (v := ?_) rfl (by kernel_rfl) (by kernel_rfl) (by kernel_rfl) (fun _ _ _ h => h) (Or.inl ⟨by rfl, ?_⟩) ?_
            rotate_left
            · (intro w; go_simp; try with_reducible rfl)
            try simp only [Act.put, List.setIfInBounds_toArray, List.set_cons_zero, List.set_cons_succ]
            refine wpAnyT_done (by kernel_rfl) ?_ _
            go_wp2
            go_roundw
            case rel => exact ⟨n + 1, g6, c6, vs ++ [X], by omega, by go_num, rfl, hideI (HVT.out.push HXV.out), HN6, HB6⟩
            case measure => simp [intOf]; omega
          · exact AllReadyT.nil
        · exact AllReadyT.nil
      · exact AllReadyT.nil
    · have hnn : n = a + 1 := by omega
      have hvl := HVT.out.len
      have HFI := hideI (refFit_any vs wr.heap.size (.slice (some ⟨g, 0, none⟩) (n + 1) c5) wr (HNU.out.ints (by omega)) (Nat.le_refl _) (by omega))
      have HE : Hid (trimM (fitW vs.length vs) = trimM (heldL (s :: cs))) := hideI (HVT.out.fit (fun k => Eq64.rfl' _) (by
        have h2 := HAL.out
        simp only [List.length_cons]
        omega))
      have hnl : ¬ ((n : Int) < (a : Int) + 1) := by omega
      clear hvl hnn
      go_wp2_with (go_at_call 23; go_must (refine HFI.out.mono ?_); rintro e w6 ⟨v6, rfl, hv, hb⟩; have HV := hideI hv; have HB6 := hideI hb; clear hv hb)
      go_ret
      exact ⟨_, rfl, by rw [← HE.out]; exact HV.out.mono HBr.out.size, HBr.out.trans (HB6.out.mono HBr.out.size)⟩
end Go.Proofs.YtfifbgpiekpepaaDoor.Chn
