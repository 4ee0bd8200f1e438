/- The program's fit: a chain out of its values, in place. -/
import Derived.Test.YtfifbgpiekpepaaDoorChOwn
import Derived.Test.YtfifbgpiekpepaaDoorRFit
import Derived.Test.YtfifbgpiekpepaaDoorLate
namespace Go.Proofs.YtfifbgpiekpepaaDoor.Chn
open Go.RowKit

/-- a block whose first cells are these numbers -/
def RowC (w : World) (g : Nat) (xs : List Int) : Prop := ∃ (cs : Array Value) (ty : TypeId), w.heap[g]? = some (.cells cs ty (0, 0)) ∧ ∀ (j : Nat) (x : Int), xs[j]? = some x → cs[j]? = some (.int .i64 x)

theorem RowC.cell {w : World} {g : Nat} {xs : List Int} (h : RowC w g xs) {j : Nat} {x : Int} (hj : xs[j]? = some x) : w.cell? ⟨g, j, none⟩ = some (.int .i64 x) := by
  obtain ⟨cs, ty, hg, hc⟩ := h
  rw [cell_of_row w g j cs ty (0, 0) hg]
  exact hc j x hj
theorem RowC.open_ {w : World} {g : Nat} {xs : List Int} (h : RowC w g xs) (j : Nat) : w.frozen? ⟨g, j, none⟩ = false := by
  obtain ⟨cs, ty, hg, _⟩ := h
  exact frozen_of_row w g j cs ty hg
theorem RowC.lt {w : World} {g : Nat} {xs : List Int} (h : RowC w g xs) : g < w.heap.size := by
  obtain ⟨cs, ty, hg, _⟩ := h
  exact (Array.getElem?_eq_some_iff.1 hg).1
theorem RowC.set {w : World} {g j : Nat} {xs : List Int} {y : Int} (h : RowC w g xs) : RowC (w.setCell ⟨g, j, none⟩ (.int .i64 y)) g (xs.set j y) := by
  obtain ⟨cs, ty, hg, hc⟩ := h
  refine ⟨cs.setIfInBounds j (.int .i64 y), ty, heap_setCell_same w g j cs ty (.int .i64 y) hg, fun i x hi => ?_⟩
  by_cases e : i = j
  · subst e
    have hl : i < xs.length := by
      have := (List.getElem?_eq_some_iff.1 hi).1
      simpa using this
    rw [List.getElem?_set_self hl] at hi
    injection hi with hi
    subst hi
    have h2 := hc i xs[i] (List.getElem?_eq_getElem hl)
    have h3 := (Array.getElem?_eq_some_iff.1 h2).1
    rw [Array.getElem?_setIfInBounds_self_of_lt h3]
  · rw [List.getElem?_set_ne (by omega)] at hi
    rw [Array.getElem?_setIfInBounds_ne (by omega)]
    exact hc i x hi
theorem RowC.put {w : World} {g j : Nat} {xs : List Int} {y : Int} (h : RowC w g xs) : RowC (w.setCell ⟨g, j, none⟩ (.int .i64 y)).drew g (xs.set j y) := h.set
theorem RowC.take {w : World} {g : Nat} {xs : List Int} (h : RowC w g xs) (n : Nat) : RowC w g (xs.take n) := by
  obtain ⟨cs, ty, hg, hc⟩ := h
  refine ⟨cs, ty, hg, fun j x hj => hc j x ?_⟩
  rw [List.getElem?_take] at hj
  split at hj
  · exact hj
  · cases hj
theorem RowC.ci {w : World} {g c : Nat} {xs : List Int} (h : RowC w g xs) (hl : xs.length ≤ c) (hm : xs.length ≤ 140737488351232) : CI w w.heap.size (.slice (some ⟨g, 0, none⟩) xs.length c) xs :=
  ⟨⟨_, c, rfl, hm, fun k hk => ⟨g, 0, rfl, h.lt, by rw [Nat.zero_add, h.cell (List.getElem?_eq_getElem hk), List.getElem?_eq_getElem hk]; rfl⟩⟩, fun A n c' e => by injection e with _ e1 e2; omega⟩
theorem RowC.keep {w w' : World} {g B : Nat} {xs : List Int} (h : RowC w g xs) (hb : Below B w w') (hg : g < B) : RowC w' g xs := by
  obtain ⟨cs, ty, hg2, hc⟩ := h
  exact ⟨cs, ty, (hb.block g hg).trans hg2, hc⟩
theorem Num.rowC {w : World} {base n c g : Nat} {xs : List Int} (h : Num w base (.slice (some ⟨g, 0, none⟩) n c) xs) : RowC w g xs ∧ base ≤ g := by
  obtain ⟨_, h2⟩ := h
  rcases h2 with ⟨e, _⟩ | ⟨g2, cap, cur, e, hb, hg, _, _, _, ht⟩
  · cases e
  · injection e with e
    injection e with e
    injection e with e
    subst e
    refine ⟨⟨cur, _, hg, fun j x hj => ?_⟩, hb⟩
    have h1 : (xs.map (Value.int .i64))[j]? = some (.int .i64 x) := by rw [List.getElem?_map, hj]; rfl
    rw [← ht, List.getElem?_take] at h1
    split at h1
    · simpa using h1
    · cases h1

/-- a row whose numbers behind place p are their differences to the ones ahead -/
structure DiffDn (zs l : List Int) (p : Nat) : Prop where
  len : zs.length = l.length
  low : ∀ j, j ≤ p → zs[j]? = l[j]?
  high : ∀ j, p < j → j < l.length → zs[j]? = some (wrp (l.getD j 0 - l.getD (j - 1) 0))

theorem DiffDn.put {zs l : List Int} {p : Nat} {a b : Int} (h : DiffDn zs l (p + 1)) (ha : l[p + 1]? = some a) (hb : l[p]? = some b) : DiffDn (zs.set (p + 1) (wrp (a - b))) l p := by
  have hi := (List.getElem?_eq_some_iff.1 ha).1
  refine ⟨by rw [List.length_set]; exact h.len, fun j hj => ?_, fun j hj hl => ?_⟩
  · rw [List.getElem?_set_ne (by omega)]
    exact h.low j (by omega)
  · by_cases e : j = p + 1
    · subst e
      rw [List.getElem?_set_self (by rw [h.len]; exact hi), List.getD_eq_getElem?_getD, List.getD_eq_getElem?_getD, Nat.add_sub_cancel, ha, hb]
      rfl
    · rw [List.getElem?_set_ne (by omega)]
      exact h.high j (by omega) hl

theorem DiffDn.done {zs ys r : List Int} {x : Int} (h : DiffDn zs (ys ++ x :: r) ys.length) : zs = (ys ++ [x]) ++ dW (x :: r) := by
  apply List.ext_getElem?
  intro j
  rcases Nat.lt_trichotomy j ys.length with hj | hj | hj
  · rw [h.low j (by omega), List.getElem?_append_left hj, List.append_assoc, List.getElem?_append_left hj]
  · subst hj
    rw [h.low _ (Nat.le_refl _), List.getElem?_append_right (Nat.le_refl _), List.append_assoc, List.getElem?_append_right (Nat.le_refl _)]
    simp
  · rcases Nat.lt_or_ge j (ys ++ x :: r).length with hl | hl
    · rw [h.high j hj hl, List.getElem?_append_right (by simp; omega)]
      obtain ⟨d, rfl⟩ : ∃ d, j = ys.length + (d + 1) := ⟨j - ys.length - 1, by omega⟩
      have hd : d < r.length := by simp at hl; omega
      have e1 : ys.length + (d + 1) - (ys ++ [x]).length = d := by simp; omega
      rw [e1]
      unfold dW
      rw [List.getElem?_map, List.getElem?_range (by simpa using hd)]
      have e2 : (ys ++ x :: r).getD (ys.length + (d + 1)) 0 = (x :: r).getD (d + 1) 0 := by
        rw [List.getD_eq_getElem?_getD, List.getElem?_append_right (by omega), List.getD_eq_getElem?_getD, Nat.add_sub_cancel_left]
      have e3 : (ys ++ x :: r).getD (ys.length + (d + 1) - 1) 0 = (x :: r).getD d 0 := by
        rw [show ys.length + (d + 1) - 1 = ys.length + d by omega, List.getD_eq_getElem?_getD, List.getElem?_append_right (by omega), List.getD_eq_getElem?_getD, Nat.add_sub_cancel_left]
      rw [e2, e3]
      rfl
    · rw [List.getElem?_eq_none (by rw [h.len]; exact hl), List.getElem?_eq_none (by rw [List.length_append, dW_len]; simp at hl ⊢; omega)]

set_option maxRecDepth 100000 in
set_option maxHeartbeats 4000000 in
theorem fit_any (xs : List Int) (g c base N : Nat) (w : World) (hx : RowC w g xs) (hN : N = xs.length) (hb : base ≤ g) (hn : N ≤ 10000) :
    Calls Tryd.prog 31 #[.slice (some ⟨g, 0, none⟩) N c] w fun e w' => e = .returned (.tuple #[]) ∧ RowC w' g (fitW N xs) ∧ Below base w w' := by
  have HX := hideI hx
  have HN := hideI hN
  have HB := hideI hb
  clear hx hN hb
  go_enter Tryd.func31, Tryd.ntmps31
  go_wp2
  go_loopw [6] (fun u6 wv => ∃ (k : Nat) (ys r : List Int), k ≤ N ∧ u6 = .int .i64 k ∧ Hid (ys.length = k) ∧ Hid (ys.length + r.length = N) ∧ Hid (RowC wv g (ys ++ r)) ∧ Hid (ys ++ fitW r.length r = fitW N xs) ∧ Hid (Below base w wv)) (fun u6 _ => N - (intOf u6).toNat)
  case atStart => exact ⟨0, [], xs, Nat.zero_le _, rfl, hideI rfl, hideI (by rw [HN.out]; simp), HX, hideI (by rw [HN.out]; rfl), hideI (Below.refl _ _)⟩
  case round =>
    obtain ⟨k, ys, r, hk, rfl, HYK, HL, HR, HF, HBr⟩ := hrel
    by_cases hkN : k < N
    · obtain ⟨x, r, rfl⟩ : ∃ x s, r = x :: s := by
        cases r with
        | nil => have h1 := HL.out; have h2 := HYK.out; simp at h1; omega
        | cons x s => exact ⟨x, s, rfl⟩
      obtain ⟨l, hl⟩ : ∃ l, l = ys ++ x :: r := ⟨_, rfl⟩
      have HLL := hideI hl
      have HLN : Hid (l.length = N) := hideI (by rw [hl, List.length_append]; exact HL.out)
      rw [← hl] at HR
      have hk1 : (k : Int) < (N : Int) := by omega
      clear hl
      obtain ⟨wo, HWO⟩ : ∃ wo, Hid (wo = wr) := ⟨_, hideI rfl⟩
      go_wp2
      go_loopw [3] (fun u3 wv => ∃ (p : Nat) (z : Int) (zs : List Int), p < N ∧ k ≤ p ∧ Hid (z = (p : Int)) ∧ u3 = .int .i64 z ∧ Hid (DiffDn zs l p) ∧ Hid (RowC wv g zs) ∧ Hid (Below base w wv)) (fun u3 _ => (intOf u3).toNat)
      case atStart => exact ⟨N - 1, (N : Int) - 1, l, by omega, by omega, hideI (by omega), by go_num, hideI ⟨rfl, fun _ _ => rfl, fun j h1 h2 => by have := HLN.out; omega⟩, HR, HBr⟩
      case round =>
        obtain ⟨p, z, zs, hp, hkp, HZ, rfl, HD, HRW, HBW⟩ := hrel
        by_cases hlt : k < p
        · obtain ⟨q, hq⟩ : ∃ q, p = q + 1 := ⟨p - 1, by omega⟩
          obtain ⟨va, hva⟩ : ∃ a, l[p]? = some a := ⟨_, List.getElem?_eq_getElem (by rw [HLN.out]; omega)⟩
          obtain ⟨vb, hvb⟩ : ∃ a, l[q]? = some a := ⟨_, List.getElem?_eq_getElem (by rw [HLN.out]; omega)⟩
          have HVA := hideI hva
          have HVB := hideI hvb
          have d1 := HRW.out.cell (j := p) (by rw [HD.out.low p (Nat.le_refl _)]; exact hva)
          have d2 := HRW.out.cell (j := q) (by rw [HD.out.low q (by omega)]; exact hvb)
          have z1 := HRW.out.open_ p
          have hz := HZ.out
          have t1 : z.toNat = p := by omega
          have t2 : (z - 1).toNat = q := by omega
          have t22 : z.toNat - 1 = q := by omega
          have t3 : 0 ≤ z := by omega
          have t4 : z < (N : Int) := by omega
          have t5 : 0 ≤ z - 1 := by omega
          have t6 : z - 1 < (N : Int) := by omega
          have t7 : (k : Int) < z := by omega
          have t8 : 1 ≤ z := by omega
          have hwk : IntKind.i64.wrap (z - 1) = z - 1 := IntWalk.i64_in _ (by omega)
          have HQ := hideI hq
          clear hva hvb hz hq
          have hS0 : wr.cell? ⟨g, p, none⟩ = some (.int .i64 va) ∧ wr.cell? ⟨g, q, none⟩ = some (.int .i64 vb) := ⟨d1, d2⟩
          go_upto_region 6 with fail
          refine wp_region_late (by kernel_rfl) (fun V => V.cell? ⟨g, p, none⟩ = some (.int .i64 va) ∧ V.cell? ⟨g, q, none⟩ = some (.int .i64 vb)) [11] ?_
          refine wpAnyT_quiet (i := 0) (v := ?_) rfl (by kernel_rfl) (by kernel_rfl) (by kernel_rfl) (fun _ _ _ h => h) (Or.inl ⟨by rfl, ?_⟩) ?_
          rotate_left
          · (intro w; go_simp; try with_reducible rfl)
          try simp only [Act.put, List.setIfInBounds_toArray, List.set_cons_zero, List.set_cons_succ]
          refine wpAnyT_quiet (i := 1) (v := ?_) rfl (by kernel_rfl) (by kernel_rfl) (by kernel_rfl) (fun _ _ _ h => h) (Or.inl ⟨by rfl, ?_⟩) ?_
          rotate_left
          · (intro w; go_simp; try with_reducible rfl)
          try simp only [Act.put, List.setIfInBounds_toArray, List.set_cons_zero, List.set_cons_succ]
          refine wpAnyT_quiet (i := 2) (v := ?_) rfl (by kernel_rfl) (by kernel_rfl) (by kernel_rfl) (fun _ _ _ h => h) (Or.inl ⟨by rfl, ?_⟩) ?_
          rotate_left
          · (intro w; go_simp; try with_reducible rfl)
          try simp only [Act.put, List.setIfInBounds_toArray, List.set_cons_zero, List.set_cons_succ]
          refine wpAnyT_take [11] (i := 3) (v := ?_) rfl (by kernel_rfl) (by kernel_rfl) (by kernel_rfl) (by kernel_rfl) (by kernel_rfl) (by kernel_rfl) (fun _ _ _ h => h) hS0 (Or.inl ⟨by rfl, ?_⟩) ?_
          rotate_left
          · (intro w hSw; go_split_ands; go_simp; try with_reducible rfl)
          try simp only [Act.put, List.setIfInBounds_toArray, List.set_cons_zero, List.set_cons_succ]
          refine wpAnyT_quiet (i := 4) (v := ?_) rfl (by kernel_rfl) (by kernel_rfl) (by kernel_rfl) (fun _ _ _ h => h) (Or.inl ⟨by rfl, ?_⟩) ?_
          rotate_left
          · (intro w; go_simp; try with_reducible rfl)
          try simp only [Act.put, List.setIfInBounds_toArray, List.set_cons_zero, List.set_cons_succ]
          refine wpAnyT_quiet (i := 5) (v := ?_) rfl (by kernel_rfl) (by kernel_rfl) (by kernel_rfl) (fun _ _ _ h => h) (Or.inl ⟨by rfl, ?_⟩) ?_
          rotate_left
          · (intro w; go_simp; try with_reducible rfl)
          try simp only [Act.put, List.setIfInBounds_toArray, List.set_cons_zero, List.set_cons_succ]
          refine wpAnyT_quiet (i := 6) (v := ?_) rfl (by kernel_rfl) (by kernel_rfl) (by kernel_rfl) (fun _ _ _ h => h) (Or.inl ⟨by rfl, ?_⟩) ?_
          rotate_left
          · (intro w; go_simp; try with_reducible rfl)
          try simp only [Act.put, List.setIfInBounds_toArray, List.set_cons_zero, List.set_cons_succ]
          refine wpAnyT_quiet (i := 7) (v := ?_) rfl (by kernel_rfl) (by kernel_rfl) (by kernel_rfl) (fun _ _ _ h => h) (Or.inl ⟨by rfl, ?_⟩) ?_
          rotate_left
          · (intro w; go_simp; try with_reducible rfl)
          try simp only [Act.put, List.setIfInBounds_toArray, List.set_cons_zero, List.set_cons_succ]
          refine wpAnyT_take [11] (i := 8) (v := ?_) rfl (by kernel_rfl) (by kernel_rfl) (by kernel_rfl) (by kernel_rfl) (by kernel_rfl) (by kernel_rfl) (fun _ _ _ h => h) hS0 (Or.inl ⟨by rfl, ?_⟩) ?_
          rotate_left
          · (intro w hSw; go_split_ands; go_simp; try with_reducible rfl)
          try simp only [Act.put, List.setIfInBounds_toArray, List.set_cons_zero, List.set_cons_succ]
          refine wpAnyT_quiet (i := 9) (v := ?_) rfl (by kernel_rfl) (by kernel_rfl) (by kernel_rfl) (fun _ _ _ h => h) (Or.inl ⟨by rfl, ?_⟩) ?_
          rotate_left
          · (intro w; go_simp; try with_reducible rfl)
          try simp only [Act.put, List.setIfInBounds_toArray, List.set_cons_zero, List.set_cons_succ]
          refine wpAnyT_quiet (i := 10) (v := ?_) rfl (by kernel_rfl) (by kernel_rfl) (by kernel_rfl) (fun _ _ _ h => h) (Or.inl ⟨by rfl, ?_⟩) ?_
          rotate_left
          · (intro w; go_simp; try with_reducible rfl)
          try simp only [Act.put, List.setIfInBounds_toArray, List.set_cons_zero, List.set_cons_succ]
          refine wpAnyT_ready (rs := [11]) (by kernel_rfl) (by simp) ?_
          refine AllReadyT.cons rfl (fun K hK => ?_) ?_
          · 
            go_simp
            refine hK.out _ _ (fun h => absurd (by simp) h) ?_
            clear hK K
            try simp only [Act.put, List.setIfInBounds_toArray, List.set_cons_zero, List.set_cons_succ]
            refine wpAnyT_done (by kernel_rfl) ?_ _
            go_wp2
            go_roundw
            case rel =>
              refine ⟨q, z - 1, zs.set p (wrap64 (va - vb)), by have := HQ.out; omega, by have := HQ.out; omega, hideI (by have := HQ.out; have := HZ.out; omega), by go_num, hideI ?_, hideI HRW.out.put, hideI (HBW.out.setCell (p := ⟨g, p, none⟩) (show base ≤ g from HB.out) _).drew⟩
              have h1 := HD.out
              have h2 := HVA.out
              rw [HQ.out] at h1 h2 ⊢
              rw [odd_wrap]
              exact h1.put h2 HVB.out
            case measure => have := HZ.out; simp [intOf]; omega
          · exact AllReadyT.nil
        · have hpk : p = k := by omega
          have hz := HZ.out
          have hnl : ¬ (k : Int) < z := by omega
          have h1 := HD.out
          rw [HLL.out, hpk, ← HYK.out] at h1
          have h2 := h1.done
          have HRN : Hid (RowC wr g ((ys ++ [x]) ++ dW (x :: r))) := hideI (by rw [← h2]; exact HRW.out)
          clear h1 h2 hz hpk
          go_wp2
          go_roundw
          case rel => exact ⟨k + 1, ys ++ [x], dW (x :: r), by omega, by go_num, hideI (by rw [List.length_append, HYK.out]; rfl), hideI (by have h3 := HL.out; rw [List.length_append, dW_len]; simp at h3 ⊢; omega), HRN, hideI (by
            have h3 := HF.out
            rw [dW_len, List.length_cons, Nat.add_sub_cancel, List.append_assoc]
            rw [List.length_cons, fitW] at h3
            exact h3), HBW⟩
          case measure => simp [intOf]; omega
    · have hkE : k = N := by omega
      have hr : r = [] := by
        have h1 := HL.out
        have h2 := HYK.out
        cases r with
        | nil => rfl
        | cons x s => simp at h1; omega
      subst hr
      have HE : Hid (RowC wr g (fitW N xs)) := hideI (by have h1 := HF.out; have h2 := HR.out; rw [List.append_nil] at h2; rw [← h1]; simpa [fitW] using h2)
      have hnl : ¬ (k : Int) < (N : Int) := by omega
      clear hkE
      go_wp2
      exact bodyPost_end (results_none rfl _ _ _) rfl ⟨rfl, HE.out, HBr.out⟩
end Go.Proofs.YtfifbgpiekpepaaDoor.Chn
