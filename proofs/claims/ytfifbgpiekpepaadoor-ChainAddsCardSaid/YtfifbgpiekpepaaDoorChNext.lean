/- chain.Next, whole. -/
import Derived.Test.YtfifbgpiekpepaaDoorChFits
import Derived.Test.YtfifbgpiekpepaaDoorLate
namespace Go.Proofs.YtfifbgpiekpepaaDoor.Chn
open Go.RowKit

/-- the first j numbers are turned -/
structure NextTo (zs c : List Int) (j : Nat) : Prop where
  len : zs.length = c.length
  low : ∀ k, k < j → zs[k]? = some (wrp (c.getD k 0 + c.getD (k + 1) 0))
  high : ∀ k, j ≤ k → zs[k]? = c[k]?

theorem NextTo.put {zs c : List Int} {j : Nat} {a b : Int} (h : NextTo zs c j) (ha : c[j]? = some a) (hb : c[j + 1]? = some b) : NextTo (zs.set j (wrp (a + b))) c (j + 1) := by
  have hi := (List.getElem?_eq_some_iff.1 ha).1
  refine ⟨by rw [List.length_set]; exact h.len, fun k hk => ?_, fun k hk => ?_⟩
  · by_cases e : k = j
    · subst e
      rw [List.getElem?_set_self (by rw [h.len]; exact hi), List.getD_eq_getElem?_getD, List.getD_eq_getElem?_getD, ha, hb]
      rfl
    · rw [List.getElem?_set_ne (by omega)]
      exact h.low k (by omega)
  · rw [List.getElem?_set_ne (by omega)]
    exact h.high k (by omega)

theorem NextTo.done {zs c : List Int} {j : Nat} (h : NextTo zs c j) (hj : c.length ≤ j + 1) : EqL (nextM c) zs := by
  refine ⟨by rw [nextM_len, h.len], fun k => ?_⟩
  have e1 : (nextM c).getD k 0 = c.getD k 0 + c.getD (k + 1) 0 := by
    rw [nextM, addM_at]
    congr 1
    cases c <;> simp
  rw [e1]
  rcases Nat.lt_or_ge k j with hk | hk
  · rw [List.getD_eq_getElem?_getD (l := zs), h.low k hk]
    exact (wrp_eq _).symm
  · rw [List.getD_eq_getElem?_getD (l := zs), h.high k hk, ← List.getD_eq_getElem?_getD, getD_over (c := c) (m := c.length) (k := k + 1) (Nat.le_refl _) (by omega), Int.add_zero]
    exact Eq64.rfl' _

set_option maxRecDepth 100000 in
set_option maxHeartbeats 4000000 in
theorem chNext_any (xs : List Int) (B : Nat) (v : Value) (w : World) (hx : CI w B v xs) (hB : B ≤ w.heap.size) (hs : (trimM xs).length ≤ 16) :
    Calls Tryd.prog 25 #[v] w fun e w' => ∃ A n c ys, e = .returned (.slice A n c) ∧ CI w' w'.heap.size (.slice A n c) ys ∧ EqL (nextM (trimM xs)) ys ∧ Below w.heap.size w w' := by
  have HTX := hideI (trimmed_any xs B v w hx)
  have HB := hideI hB
  obtain ⟨⟨A, c, rfl, _, _⟩, _⟩ := hx
  clear hB
  go_enter Tryd.func25, Tryd.ntmps25
  go_upto_region 2 with (go_at_call 27; go_must (refine HTX.out.mono ?_); rintro e w1 ⟨v1, rfl, hv, hw⟩; obtain rfl := hw.symm; have HV := hideI hv; obtain ⟨⟨A1, c1, rfl, _, _⟩, _⟩ := hv)
  obtain ⟨ts, hts⟩ : ∃ ts, ts = trimM xs := ⟨_, rfl⟩
  obtain ⟨L, hL⟩ : ∃ L, L = ts.length := ⟨_, rfl⟩
  have HLL := hideI hL
  have HTS := hideI hts
  rw [← hts] at HV hs ⊢
  rw [← hL] at HV hs ⊢
  clear hts hL HTX
  have hd : decide (16 < L) = false := by simp; omega
  have HOW := hideI (own_any ts B _ w HV.out.1 (by rw [← HLL.out]; omega))
  go_upto_region 5 with (first
    | (go_at_call 28; go_must (refine (tooLong_any _ _ _ _).mono ?_); rintro e w2 ⟨rfl, hw⟩; obtain rfl := hw.symm; rw [hd])
    | (go_at_call 33; go_must (refine HOW.out.mono ?_); rintro e w3 ⟨v3, rfl, hv3, hb3⟩; have HV3 := hideI hv3; have HB3 := hideI hb3; clear hv3 hb3))
  obtain ⟨A3, c3, hv3, hr3⟩ := HV3.out.read
  rw [← HLL.out] at hv3
  subst hv3
  clear hr3
  by_cases hL0 : L = 0
  · have HE : Hid (CI w3 w3.heap.size (.slice A3 0 c3) []) := hideI ⟨⟨A3, c3, rfl, by simp, fun k hk => by simp at hk⟩, fun _ _ _ e => by injection e with _ e1 e2; omega⟩
    have HN : Hid (ts = []) := hideI (List.eq_nil_of_length_eq_zero (by rw [← HLL.out]; exact hL0))
    subst hL0
    clear hd
    go_wp2
    go_loopw [4] (fun u4 wv => u4 = .int .i64 1 ∧ wv = w3) (fun _ _ => 0)
    case atStart => exact ⟨rfl, rfl⟩
    case round =>
      obtain ⟨rfl, hw⟩ := hrel
      obtain rfl := hw.symm
      go_wp2
      go_ret
      exact ⟨_, _, _, rfl, [], HE.out, by rw [← HTS.out, HN.out]; exact EqL.rfl' _, HB3.out⟩
  obtain ⟨g, rfl⟩ : ∃ g, A3 = some ⟨g, 0, none⟩ := by
    rcases HV3.out.2 with ⟨_, e⟩ | ⟨g, cap, cur, e, _⟩
    · rw [← HLL.out] at e; omega
    · injection e with e; exact ⟨g, e⟩
  have hcap := HV3.out.cap.1
  have HRC := hideI (Num.rowC HV3.out)
  have HGB := hideI HRC.out.2
  go_wp2
  go_loopw [4] (fun u4 wv => ∃ (k : Nat) (zs : List Int), k + 1 ≤ L ∧ u4 = .int .i64 (k + 1 : Nat) ∧ Hid (NextTo zs ts k) ∧ Hid (RowC wv g zs) ∧ Hid (Below w.heap.size w wv)) (fun u4 _ => L - (intOf u4).toNat)
  case atStart => exact ⟨0, ts, by omega, rfl, hideI ⟨rfl, fun k hk => by omega, fun _ _ => rfl⟩, hideI HRC.out.1, HB3⟩
  case round =>
    obtain ⟨k, zs, hk, rfl, HNT, HRW, HBr⟩ := hrel
    by_cases hlt : k + 1 < L
    · obtain ⟨va, hva⟩ : ∃ a, ts[k]? = some a := ⟨_, List.getElem?_eq_getElem (by rw [← HLL.out]; omega)⟩
      obtain ⟨vb, hvb⟩ : ∃ a, ts[k + 1]? = some a := ⟨_, List.getElem?_eq_getElem (by rw [← HLL.out]; omega)⟩
      have HVA := hideI hva
      have HVB := hideI hvb
      obtain ⟨A'', c'', e, _, hat⟩ := (HV.out.1.keep (HBr.out.mono HB.out))
      injection e with e e1 e2
      subst e e2
      obtain ⟨b, off, hA, hb, hc⟩ := hat (k + 1) (by rw [← HLL.out]; omega)
      subst hA
      rw [hvb] at hc
      have d2 : wr.cell? ⟨b, off + (k + 1), none⟩ = some (.int .i64 vb) := hc
      have d1 := HRW.out.cell (j := k) (by rw [HNT.out.high k (Nat.le_refl _)]; exact hva)
      have z1 := HRW.out.open_ k
      have hl1 : (k : Int) + 1 < (L : Int) := by omega
      have hl2 : (k : Int) < (L : Int) := by omega
      have hl3 : (0 : Int) ≤ (k : Int) + 1 := by omega
      have hwk : IntKind.i64.wrap ((k : Int) + 1) = (k : Int) + 1 := IntWalk.i64_in _ (by omega)
      have hwk2 : IntKind.i64.wrap (k : Int) = (k : Int) := IntWalk.i64_in _ (by omega)
      have hwk3 : IntKind.i64.wrap ((k : Int) + 1 - 1) = (k : Int) := by rw [show (k : Int) + 1 - 1 = k by omega]; exact hwk2
      clear hva hvb hat hb hc e1
      have hS0 : wr.cell? ⟨g, k, none⟩ = some (.int .i64 va) ∧ wr.cell? ⟨b, off + (k + 1), none⟩ = some (.int .i64 vb) := ⟨d1, d2⟩
      go_upto_region 8 with fail
      refine wp_region_late (by kernel_rfl) (fun V => V.cell? ⟨g, k, none⟩ = some (.int .i64 va) ∧ V.cell? ⟨b, off + (k + 1), none⟩ = some (.int .i64 vb)) [11] ?_
      refine wpAnyT_quiet (i := 0) (v := ?_) rfl (by kernel_rfl) (by kernel_rfl) (by kernel_rfl) (fun _ _ _ h => h) (Or.inl ⟨by rfl, ?_⟩) ?_
      rotate_left
      · (intro w; go_simp; try with_reducible rfl)
      try simp only [Act.put, List.setIfInBounds_toArray, List.set_cons_zero, List.set_cons_succ]
      refine wpAnyT_quiet (i := 1) (v := ?_) rfl (by kernel_rfl) (by kernel_rfl) (by kernel_rfl) (fun _ _ _ h => h) (Or.inl ⟨by rfl, ?_⟩) ?_
      rotate_left
      · (intro w; go_simp; try with_reducible rfl)
      try simp only [Act.put, List.setIfInBounds_toArray, List.set_cons_zero, List.set_cons_succ]
      refine wpAnyT_quiet (i := 2) (v := ?_) rfl (by kernel_rfl) (by kernel_rfl) (by kernel_rfl) (fun _ _ _ h => h) (Or.inl ⟨by rfl, ?_⟩) ?_
      rotate_left
      · (intro w; go_simp; try with_reducible rfl)
      try simp only [Act.put, List.setIfInBounds_toArray, List.set_cons_zero, List.set_cons_succ]
      refine wpAnyT_quiet (i := 3) (v := ?_) rfl (by kernel_rfl) (by kernel_rfl) (by kernel_rfl) (fun _ _ _ h => h) (Or.inl ⟨by rfl, ?_⟩) ?_
      rotate_left
      · (intro w; go_simp; try with_reducible rfl)
      try simp only [Act.put, List.setIfInBounds_toArray, List.set_cons_zero, List.set_cons_succ]
      refine wpAnyT_take [11] (i := 4) (v := ?_) rfl (by kernel_rfl) (by kernel_rfl) (by kernel_rfl) (by kernel_rfl) (by kernel_rfl) (by kernel_rfl) (fun _ _ _ h => h) hS0 (Or.inl ⟨by rfl, ?_⟩) ?_
      rotate_left
      · (intro w hSw; go_split_ands; go_simp; try with_reducible rfl)
      try simp only [Act.put, List.setIfInBounds_toArray, List.set_cons_zero, List.set_cons_succ]
      refine wpAnyT_quiet (i := 5) (v := ?_) rfl (by kernel_rfl) (by kernel_rfl) (by kernel_rfl) (fun _ _ _ h => h) (Or.inl ⟨by rfl, ?_⟩) ?_
      rotate_left
      · (intro w; go_simp; try with_reducible rfl)
      try simp only [Act.put, List.setIfInBounds_toArray, List.set_cons_zero, List.set_cons_succ]
      refine wpAnyT_quiet (i := 6) (v := ?_) rfl (by kernel_rfl) (by kernel_rfl) (by kernel_rfl) (fun _ _ _ h => h) (Or.inl ⟨by rfl, ?_⟩) ?_
      rotate_left
      · (intro w; go_simp; try with_reducible rfl)
      try simp only [Act.put, List.setIfInBounds_toArray, List.set_cons_zero, List.set_cons_succ]
      refine wpAnyT_quiet (i := 7) (v := ?_) rfl (by kernel_rfl) (by kernel_rfl) (by kernel_rfl) (fun _ _ _ h => h) (Or.inl ⟨by rfl, ?_⟩) ?_
      rotate_left
      · (intro w; go_simp; try with_reducible rfl)
      try simp only [Act.put, List.setIfInBounds_toArray, List.set_cons_zero, List.set_cons_succ]
      refine wpAnyT_take [11] (i := 8) (v := ?_) rfl (by kernel_rfl) (by kernel_rfl) (by kernel_rfl) (by kernel_rfl) (by kernel_rfl) (by kernel_rfl) (fun _ _ _ h => h) hS0 (Or.inl ⟨by rfl, ?_⟩) ?_
      rotate_left
      · (intro w hSw; go_split_ands; go_simp; try with_reducible rfl)
      try simp only [Act.put, List.setIfInBounds_toArray, List.set_cons_zero, List.set_cons_succ]
      refine wpAnyT_quiet (i := 9) (v := ?_) rfl (by kernel_rfl) (by kernel_rfl) (by kernel_rfl) (fun _ _ _ h => h) (Or.inl ⟨by rfl, ?_⟩) ?_
      rotate_left
      · (intro w; go_simp; try with_reducible rfl)
      try simp only [Act.put, List.setIfInBounds_toArray, List.set_cons_zero, List.set_cons_succ]
      refine wpAnyT_quiet (i := 10) (v := ?_) rfl (by kernel_rfl) (by kernel_rfl) (by kernel_rfl) (fun _ _ _ h => h) (Or.inl ⟨by rfl, ?_⟩) ?_
      rotate_left
      · (intro w; go_simp; try with_reducible rfl)
      try simp only [Act.put, List.setIfInBounds_toArray, List.set_cons_zero, List.set_cons_succ]
      refine wpAnyT_ready (rs := [11]) (by kernel_rfl) (by simp) ?_
      refine AllReadyT.cons rfl (fun K hK => ?_) ?_
      · 
        go_simp
        refine hK.out _ _ (fun h => absurd (by simp) h) ?_
        clear hK K
        try simp only [Act.put, List.setIfInBounds_toArray, List.set_cons_zero, List.set_cons_succ]
        refine wpAnyT_done (by kernel_rfl) ?_ _
        go_wp2
        go_roundw
        case rel => exact ⟨k + 1, zs.set k (wrap64 (va + vb)), by omega, by go_num, hideI (by rw [odd_wrap]; exact HNT.out.put HVA.out HVB.out), hideI HRW.out.put, hideI (HBr.out.setCell (p := ⟨g, k, none⟩) (show w.heap.size ≤ g from HGB.out) _).drew⟩
        case measure => simp [intOf]; omega
      · exact AllReadyT.nil
    · have hkL : k + 1 = L := by omega
      have hnl : ¬ (k : Int) + 1 < (L : Int) := by omega
      have HDN := hideI (HNT.out.done (by rw [← HLL.out]; omega))
      have hzl : zs.length = L := by rw [HNT.out.len, ← HLL.out]
      have HCI := hideI (HRW.out.ci (c := c3) (by rw [hzl]; exact hcap) (by rw [hzl]; omega))
      rw [hzl] at HCI
      clear hkL hzl
      go_wp2
      go_ret
      exact ⟨_, _, _, rfl, zs, HCI.out, by rw [← HTS.out]; exact HDN.out, HBr.out⟩
end Go.Proofs.YtfifbgpiekpepaaDoor.Chn
