/- What LoopsFound rests on, part 4: RefCheck5, RStrictC, RSame9, OrderEx. -/
import Derived.Test.YtglbepdjahddmaaPkLoopsFound3

namespace Go.Proofs.Ytglbepdjahddmaa
open Go.RowKit Go.Maps

theorem grid_over (bs : List BlockM) (o : List Nat) : ∃ G : Nat → Nat → Bool, ∀ a b, G a b = true ↔ OverP bs o a b :=
  ⟨fun a b => @decide _ (Classical.propDecidable (OverP bs o a b)), fun _ _ => @decide_eq_true_iff _ (Classical.propDecidable _)⟩

theorem flat5 : ∀ (rows : List (List Int)), (∀ r ∈ rows, r.length = 5) → ∀ (i j : Nat) (r : List Int), rows[i]? = some r → j < 5 → (rows.flatten.map (Value.int .i64))[i * 5 + j]? = some (.int .i64 (r.getD j 0))
  | [], _, i, j, r, h, _ => by simp at h
  | s :: rows, h5, 0, j, r, h, hj => by
    simp at h
    subst h
    have h6 := h5 s (List.mem_cons_self ..)
    rw [List.flatten_cons, List.map_append, List.getElem?_append_left (by simp; omega), Nat.zero_mul, Nat.zero_add, List.getElem?_map, List.getD_eq_getElem?_getD, List.getElem?_eq_getElem (by omega)]
    rfl
  | s :: rows, h5, i + 1, j, r, h, hj => by
    have h6 := h5 s (List.mem_cons_self ..)
    rw [List.flatten_cons, List.map_append, List.getElem?_append_right (by simp; omega)]
    have e : (i + 1) * 5 + j - (s.map (Value.int .i64)).length = i * 5 + j := by rw [List.length_map, h6]; omega
    rw [e]
    exact flat5 rows (fun r hr => h5 r (List.mem_cons_of_mem _ hr)) i j r (by simpa using h) hj

theorem RU5.at {w : World} {base : Nat} {v : Value} {us : List (Int × Int)} {rows : List (List Int)} (h : RU5 w base v us rows) : ∃ A c, v = .slice A rows.length c ∧ ∀ (i : Nat) (r : List Int), rows[i]? = some r → ∃ g, A = some ⟨g, 0, none⟩ ∧ g < w.heap.size ∧ ∀ j, j < 5 → w.cell? ⟨g, i * 5 + j, none⟩ = some (.int .i64 (r.getD j 0)) := by
  obtain ⟨h1, h2, h3⟩ := h
  have hl : us.length = rows.length := by rw [← h1, List.length_map]
  have h3' := h3
  rw [hl] at h3'
  rcases h3'.2 with ⟨rfl, h⟩ | ⟨g, cap, cur, rfl, _⟩
  · have h0 : rows.length = 0 := by simpa using h
    refine ⟨none, 0, by rw [h0], fun i r hr => ?_⟩
    have := (List.getElem?_eq_some_iff.1 hr).1
    omega
  · refine ⟨_, _, rfl, fun i r hr => ⟨g, rfl, (h3'.lt g rfl).2, fun j hj => ?_⟩⟩
    have hi := (List.getElem?_eq_some_iff.1 hr).1
    rw [World.ownsRow.cellAt h3' (i * 5 + j) (by omega)]
    exact flat5 rows h2 i j r hr hj

theorem lists_ints {bs : List BlockM} {w w' : World} {g gp : Nat} {vs : List Value} (h : Lists w g gp bs.length vs (predsAt bs bs.length bs.length 0)) (hb : Below w.heap.size w w') (hn5 : bs.length ≤ 512) {b : Nat} (hb' : b < bs.length) :
    ∃ v, w'.cell? ⟨gp, b, none⟩ = some v ∧ Ints w' w'.heap.size v (predsI bs b) := by
  obtain ⟨v, hv⟩ : ∃ v, vs[b]? = some v := ⟨_, List.getElem?_eq_getElem (by rw [h.vl]; exact hb')⟩
  have hl : (predsAt bs bs.length bs.length 0)[b]? = some (predsTo bs bs.length b) := by rw [predsAt_at hb']; simp
  have ho := own_kept_below (h.own b v _ hv hl) hb (fun k hk => ((h.own b v _ hv hl).lt k hk).2)
  have hR := own_kept_below h.row hb (fun k hk => (h.row.lt k hk).2)
  exact ⟨v, by rw [World.ownsRow.cellAt hR b (by omega)]; exact hv, nat_ints ho (by have := predsTo_len bs bs.length b; omega)⟩

set_option maxRecDepth 100000 in
set_option maxHeartbeats 2000000 in
theorem refStrict_no (f : FuncM) (B : Nat) (pv bv : Value) (w : World) (hpv : Ints w B pv f.params) (hbv : BlocksR w B bv f.blocks) (hB : B ≤ w.heap.size) (h0 : (lookM f).1 ≠ 0) :
    Calls Try.prog 8 #[.agg #[pv, .int .i64 f.arrays, .int .i64 f.cells, bv]] w fun e w' => e = .returned (.tuple #[.int .i64 0, .int .i64 (lookM f).1]) ∧ Below w.heap.size w w' := by
  have HP := hideI hpv
  have HBL := hideI hbv
  obtain ⟨P, pc, rfl, _⟩ := hpv
  obtain ⟨A, c, rfl, _, _⟩ := hbv
  have hb : ((lookM f).1 != 0) = true := by simpa using h0
  have HB0 : Hid (Below w.heap.size w (w.alloc (.cells #[.slice P f.params.length pc, .int .i64 f.arrays, .int .i64 f.cells, .slice A f.blocks.length c] 25))) := (Below.refl _ w).alloc (Nat.le_refl _) _
  clear h0
  go_enter Try.func8, Try.ntmps8
  go_wp2_with (go_at_call 17; go_must (refine (refCheck_any f B _ _ _ (HP.out.keeps (Keeps.of_below (HB0.out.mono hB))) (HBL.out.keeps (Keeps.of_below (HB0.out.mono hB))) (by simp; omega)).mono ?_); rintro e w1 ⟨rfl, hb1⟩; have HB1 := hideI (HB0.out.trans (hb1.mono (by simp))); clear hb1)
  go_ret2
  exact ⟨rfl, HB1.out⟩

set_option maxRecDepth 100000 in
set_option maxHeartbeats 16000000 in
theorem refStrict_yes (f : FuncM) (o : List Nat) (B : Nat) (pv bv : Value) (w : World) (hpv : Ints w B pv f.params) (hbv : BlocksR w B bv f.blocks) (hB : B ≤ w.heap.size) (hid : ∀ u ∈ usesM f, I64 u.1) (h0 : (lookM f).1 = 0) (ho : OrderIs f.blocks o) :
    Calls Try.prog 8 #[.agg #[pv, .int .i64 f.arrays, .int .i64 f.cells, bv]] w (FaultPost f.blocks.length (· ∈ o) (phisR f) (usesPR f o) w) := by
  have HP := hideI hpv
  have HBL := hideI hbv
  have H0 := hideI h0
  have HO := hideI ho
  have hnb := look_some_block h0
  have hn0 := hnb.1
  have hn5 := hnb.2
  have HIN := hideI (look_ends h0)
  have HFEW := hideI (look_few h0)
  have HFEWV := hideI (look_fewv h0)
  have HFO := hideI (look_form h0)
  have HPH := hideI (look_phi h0)
  have HROW := hideI (fun r => row_is h0 hid (r := r))
  have HLF := hideI (Placed.last_first (placed_nodup h0))
  obtain ⟨G, hG⟩ := grid_over f.blocks o
  have HG := hideI hG
  obtain ⟨P, pc, rfl, hpm, _⟩ := hpv
  obtain ⟨A, c, rfl, hbm, _⟩ := hbv
  obtain ⟨W, hW⟩ : ∃ W : World, W = w.alloc (.cells #[.slice P f.params.length pc, .int .i64 f.arrays, .int .i64 f.cells, .slice A f.blocks.length c] 25) := ⟨_, rfl⟩
  have HBW : Hid (Below w.heap.size w W) := by show Below _ _ _; rw [hW]; exact (Below.refl _ _).alloc (Nat.le_refl _) _
  have HXW : Hid (W.heap[w.heap.size]? = some (.cells #[.slice P f.params.length pc, .int .i64 f.arrays, .int .i64 f.cells, .slice A f.blocks.length c] 25 (0, 0))) := by show _ = _; rw [hW]; exact heap_alloc_new w _
  have hwW : w.heap.size < W.heap.size := lt_of_heap HXW.out
  have HW0 := hideI hW
  have G0 : Hid (∀ W2, Below W.heap.size W W2 → (∀ o, W2.cell? ⟨w.heap.size, o, none⟩ = (#[.slice P f.params.length pc, .int .i64 f.arrays, .int .i64 f.cells, .slice A f.blocks.length c] : Array Value)[o]?) ∧ Ints W2 B (.slice P f.params.length pc) f.params ∧ BlocksR W2 B (.slice A f.blocks.length c) f.blocks ∧ B ≤ W2.heap.size ∧ Below w.heap.size w W2) := hideI (fun W2 h2 => by
    have h3 : Below w.heap.size w W2 := HBW.out.trans (h2.mono HBW.out.size)
    exact ⟨row_cells HXW.out (h2.block _ hwW), HP.out.keeps (Keeps.of_below (h3.mono hB)), HBL.out.keeps (Keeps.of_below (h3.mono hB)), Nat.le_trans hB h3.size, h3⟩)
  obtain ⟨hx, _, _⟩ := G0.out W (Below.refl _ _)
  have q0 := hx 0
  have q1 := hx 1
  have q2 := hx 2
  have q3 := hx 3
  clear hid h0 ho hG hW hx hnb
  go_enter Try.func8, Try.ntmps8
  go_upto_region 1 with fail
  rw [← HW0.out]
  clear HW0
  go_wp2_with (first
    | (go_at_call 17; go_must (refine (refCheck_any f B _ _ _ (G0.out _ (Below.refl _ _)).2.1 (G0.out _ (Below.refl _ _)).2.2.1 (G0.out _ (Below.refl _ _)).2.2.2.1).mono ?_); rw [H0.out]; rintro e w1 ⟨rfl, hb1⟩; have HB1 : Hid (Below W.heap.size W w1) := hideI hb1; clear hb1 q0 q1 q2 q3; (obtain ⟨hx, _, _⟩ := G0.out _ HB1.out); have q0 := hx 0; have q1 := hx 1; have q2 := hx 2; have q3 := hx 3; clear hx)
    | (go_at_call 18; go_must (refine (refWithout_all f.blocks B _ _ _ _ (-1) _ (G0.out _ HB1.out).2.2.1 (G0.out _ HB1.out).2.2.2.1 hn0 hn5 HIN.out).mono ?_); rintro e w2 ⟨S0, gA, rfl, hS, hown, hb2⟩; have HS0 : Hid (∀ x, x ∈ S0 ↔ x ∈ o) := hideI (fun x => (hS x).trans (HO.out.reach x).symm); have HOA := hideI hown; have HB2 : Hid (Below W.heap.size W w2) := hideI (HB1.out.trans (hb2.mono HB1.out.size)); clear hS hown hb2 q0 q1 q2 q3; (obtain ⟨hx, _, _⟩ := G0.out _ HB2.out); have q0 := hx 0; have q1 := hx 1; have q2 := hx 2; have q3 := hx 3; clear hx))
  clear q0 q1 q2 q3
  go_loopw [6] (fun u wr => ∃ k : Nat, k ≤ f.blocks.length ∧ u = .int .i64 k ∧ Hid (∀ a, a < k → a ∈ o) ∧ wr = w2) (fun u _ => f.blocks.length - (intOf u).toNat)
  case atStart => exact ⟨0, Nat.zero_le _, rfl, hideI (fun a h => by omega), rfl⟩
  case round =>
    obtain ⟨k, hk, rfl, HAk, hw⟩ := hrel
    obtain rfl := hw.symm
    by_cases hlt : k < f.blocks.length
    · have c1 : w2.cell? ⟨gA, k, none⟩ = some (.bool (decide (k ∈ S0))) := by rw [World.ownsRow.cellAt HOA.out k (by omega), marks_at hlt]
      have HKO : Hid (k ∈ S0 ↔ k ∈ o) := hideI (HS0.out k)
      have HLT := hideI hlt
      cases hd : decide (k ∈ S0)
      · have HBAD : Hid (¬ (k ∈ o)) := hideI (fun h => of_decide_eq_false hd (HKO.out.2 h))
        rw [hd] at c1
        clear hd
        go_wp2
        go_ret2
        exact ⟨_, _, rfl, .inl ⟨k, ⟨HLT.out, HBAD.out, HAk.out⟩, rfl⟩, (G0.out _ HB2.out).2.2.2.2⟩
      · have HOK : Hid (k ∈ o) := hideI (HKO.out.1 (of_decide_eq_true hd))
        rw [hd] at c1
        clear hd
        go_wp2
        go_roundw
        case rel => exact ⟨k + 1, by omega, by go_num, hideI (upto_succ HAk.out HOK.out), by first | rfl | trivial⟩
        case measure => simp [intOf]; omega
    · have HALL : Hid (∀ b, b < f.blocks.length → b ∈ o) := hideI (fun b hb => HAk.out b (by omega))
      (obtain ⟨hx, _, _⟩ := G0.out _ HB2.out); have q0 := hx 0; have q1 := hx 1; have q2 := hx 2; have q3 := hx 3; clear hx
      go_wp2_with (go_at_call 13; go_must (refine (refPreds_any f.blocks B _ _ _ _ _ (G0.out _ HB2.out).2.2.1 (G0.out _ HB2.out).2.2.2.1 hn5 HIN.out).mono ?_); rintro e w3 ⟨gp, pvs, rfl, hls, hb3⟩; have HPL := hideI hls; have HB3 : Hid (Below W.heap.size W w3) := hideI (HB2.out.trans (hb3.mono HB2.out.size)); clear hls hb3 q0 q1 q2 q3)
      have hgp : gp < w3.heap.size := (HPL.out.lt).2
      go_loopw [8] (fun u wr => ∃ k : Nat, k ≤ f.blocks.length ∧ u = .int .i64 k ∧ Hid (∀ a, a < k → phisR f a) ∧ Hid (Below w3.heap.size w3 wr)) (fun u _ => f.blocks.length - (intOf u).toNat)
      case atStart => exact ⟨0, Nat.zero_le _, rfl, hideI (fun a h => by omega), hideI (Below.refl _ _)⟩
      case round =>
        obtain ⟨k, hk, rfl, HPk, HBr⟩ := hrel
        have HBWr : Hid (Below W.heap.size W wr) := hideI (HB3.out.trans (HBr.out.mono HB3.out.size))
        by_cases hlt : k < f.blocks.length
        · obtain ⟨q, hq⟩ : ∃ q, f.blocks[k]? = some q := ⟨_, List.getElem?_eq_getElem hlt⟩
          have HLT := hideI hlt
          have HGr : Hid (∀ W2, Below wr.heap.size wr W2 → Below W.heap.size W W2 ∧ Below w3.heap.size w3 W2) := hideI (fun W2 h2 => ⟨HBWr.out.trans (h2.mono HBWr.out.size), HBr.out.trans (h2.mono HBr.out.size)⟩)
          obtain ⟨A', c', e0, _, hbx⟩ := (G0.out _ HBWr.out).2.2.1
          cases e0
          have hBr := (G0.out _ HBWr.out).2.2.2.1
          obtain ⟨b1, off, qpv, qcv, qtv, rfl, hb1, x0, x1, x2, x3, x4, x5, hqp, hqc, hqt, _⟩ := hbx k q hq
          obtain ⟨v, hv, hvi⟩ := lists_ints HPL.out HBr.out hn5 hlt
          have HXB : Hid (∀ W2, Below wr.heap.size wr W2 → W2.cell? ⟨b1, off + k * 6, none⟩ = some qpv ∧ W2.cell? ⟨b1, off + k * 6 + 1, none⟩ = some qcv ∧ W2.cell? ⟨b1, off + k * 6 + 2, none⟩ = some (.int .i64 q.term.op) ∧ W2.cell? ⟨b1, off + k * 6 + 3, none⟩ = some (.int .i64 q.term.val) ∧ W2.cell? ⟨b1, off + k * 6 + 4, none⟩ = some qtv ∧ W2.cell? ⟨b1, off + k * 6 + 5, none⟩ = some (.int .i64 q.term.n) ∧ W2.cell? ⟨gp, k, none⟩ = some v) := hideI (fun W2 h2 => ⟨(h2.cell (p := ⟨b1, off + k * 6, none⟩) (by show b1 < _; omega)).trans x0, (h2.cell (p := ⟨b1, off + k * 6 + 1, none⟩) (by show b1 < _; omega)).trans x1, (h2.cell (p := ⟨b1, off + k * 6 + 2, none⟩) (by show b1 < _; omega)).trans x2, (h2.cell (p := ⟨b1, off + k * 6 + 3, none⟩) (by show b1 < _; omega)).trans x3, (h2.cell (p := ⟨b1, off + k * 6 + 4, none⟩) (by show b1 < _; omega)).trans x4, (h2.cell (p := ⟨b1, off + k * 6 + 5, none⟩) (by show b1 < _; omega)).trans x5, (h2.cell (p := ⟨gp, k, none⟩) (by show gp < _; have := HBr.out.size; omega)).trans hv⟩)
          have HS : Hid (∀ W2, Below wr.heap.size wr W2 → (∀ o, W2.cell? ⟨w.heap.size, o, none⟩ = (#[.slice P f.params.length pc, .int .i64 f.arrays, .int .i64 f.cells, .slice (some ⟨b1, off, none⟩) f.blocks.length c] : Array Value)[o]?) ∧ W2.cell? ⟨b1, off + k * 6, none⟩ = some qpv ∧ W2.cell? ⟨b1, off + k * 6 + 1, none⟩ = some qcv ∧ W2.cell? ⟨b1, off + k * 6 + 2, none⟩ = some (.int .i64 q.term.op) ∧ W2.cell? ⟨b1, off + k * 6 + 3, none⟩ = some (.int .i64 q.term.val) ∧ W2.cell? ⟨b1, off + k * 6 + 4, none⟩ = some qtv ∧ W2.cell? ⟨b1, off + k * 6 + 5, none⟩ = some (.int .i64 q.term.n) ∧ W2.cell? ⟨gp, k, none⟩ = some v) := hideI (fun W2 h2 => ⟨(G0.out _ (HGr.out _ h2).1).1, HXB.out _ h2⟩)
          obtain ⟨CA, cc, hqc', _⟩ := hqc
          obtain ⟨TA, tc, hqt', _⟩ := hqt
          obtain ⟨PA, pc2, hqp', hqp2⟩ := hqp
          have HQP := hideI (show PhisR wr B qpv q.phis from ⟨PA, pc2, hqp', hqp2⟩)
          have HVI := hideI hvi
          obtain ⟨VA, vc, hv', _⟩ := hvi
          subst hqc' hqt' hqp' hv'
          have hc : ∀ W2, Below wr.heap.size wr W2 → Calls Try.prog 19 #[.agg #[.slice PA q.phis.length pc2, .slice CA q.code.length cc, .int .i64 q.term.op, .int .i64 q.term.val, .slice TA q.term.to.length tc, .int .i64 q.term.n], .slice VA (predsI f.blocks k).length vc] W2 fun e w' => e = .returned (.bool (q.phis.all fun p => justR p.fr (predsI f.blocks k))) ∧ Below W2.heap.size W2 w' := fun W2 h2 =>
            refPhis_any q (predsI f.blocks k) W2.heap.size _ _ _ _ _ _ _ W2 (PhisR.more' (HQP.out.keeps (Keeps.of_below (h2.mono hBr))) (Nat.le_trans hBr h2.size)) ((HVI.out.keeps (Keeps.of_below h2)).more h2.size) (Nat.le_refl _) (Nat.le_trans (predsI_len _ _) hn5) _ _ _ rfl _ _ _ rfl
          obtain ⟨z, hz⟩ : ∃ z : Bool, z = q.phis.all fun p => justR p.fr (predsI f.blocks k) := ⟨_, rfl⟩
          have HZ : Hid (z = true ↔ phisR f k) := hideI (by
            rw [hz, show (q.phis.all fun p => justR p.fr (predsI f.blocks k)) = phisFitR f.blocks k q from rfl, phisFitR_eq H0.out hq]
            exact ⟨fun e q' hq' => by rw [hq] at hq'; cases hq'; exact e, fun h => h q hq⟩)
          rw [← hz] at hc
          have HC := hideI hc
          (obtain ⟨hx, d0, d1, d2, d3, d4, d5, d6⟩ := HS.out _ (Below.refl _ _)); have q3 := hx 3
          clear hz hc hq hbx x0 x1 x2 x3 x4 x5 hv hqp2
          cases z
          · have HBAD : Hid (¬ phisR f k) := hideI (fun h => Bool.noConfusion (HZ.out.2 h))
            go_wp2
            go_region_held3 (fun W2 => (∀ o, W2.cell? ⟨w.heap.size, o, none⟩ = (#[.slice P f.params.length pc, .int .i64 f.arrays, .int .i64 f.cells, .slice (some ⟨b1, off, none⟩) f.blocks.length c] : Array Value)[o]?) ∧ W2.cell? ⟨b1, off + k * 6, none⟩ = some (.slice PA q.phis.length pc2) ∧ W2.cell? ⟨b1, off + k * 6 + 1, none⟩ = some (.slice CA q.code.length cc) ∧ W2.cell? ⟨b1, off + k * 6 + 2, none⟩ = some (.int .i64 q.term.op) ∧ W2.cell? ⟨b1, off + k * 6 + 3, none⟩ = some (.int .i64 q.term.val) ∧ W2.cell? ⟨b1, off + k * 6 + 4, none⟩ = some (.slice TA q.term.to.length tc) ∧ W2.cell? ⟨b1, off + k * 6 + 5, none⟩ = some (.int .i64 q.term.n) ∧ W2.cell? ⟨gp, k, none⟩ = some (.slice VA (predsI f.blocks k).length vc)) (first | (with_reducible exact HS.out _ hfb4) | go_keep)
              (first
                | (go_at_call 19; (with_reducible refine (HC.out _ (drew1_below (Below.refl _ _))).mono ?_); rintro e w4 ⟨rfl, hb4⟩; have hfb4 := (drew1_below (Below.refl wr.heap.size wr)).trans hb4))
            go_wp2
            go_ret2
            exact ⟨_, _, rfl, .inr (.inl ⟨HALL.out, k, ⟨HLT.out, HBAD.out, HPk.out⟩, rfl⟩), (G0.out _ (HGr.out _ hfb4).1).2.2.2.2⟩
          · have HOK : Hid (phisR f k) := hideI (HZ.out.1 rfl)
            go_wp2
            go_region_held3 (fun W2 => (∀ o, W2.cell? ⟨w.heap.size, o, none⟩ = (#[.slice P f.params.length pc, .int .i64 f.arrays, .int .i64 f.cells, .slice (some ⟨b1, off, none⟩) f.blocks.length c] : Array Value)[o]?) ∧ W2.cell? ⟨b1, off + k * 6, none⟩ = some (.slice PA q.phis.length pc2) ∧ W2.cell? ⟨b1, off + k * 6 + 1, none⟩ = some (.slice CA q.code.length cc) ∧ W2.cell? ⟨b1, off + k * 6 + 2, none⟩ = some (.int .i64 q.term.op) ∧ W2.cell? ⟨b1, off + k * 6 + 3, none⟩ = some (.int .i64 q.term.val) ∧ W2.cell? ⟨b1, off + k * 6 + 4, none⟩ = some (.slice TA q.term.to.length tc) ∧ W2.cell? ⟨b1, off + k * 6 + 5, none⟩ = some (.int .i64 q.term.n) ∧ W2.cell? ⟨gp, k, none⟩ = some (.slice VA (predsI f.blocks k).length vc)) (first | (with_reducible exact HS.out _ hfb4) | go_keep)
              (first
                | (go_at_call 19; (with_reducible refine (HC.out _ (drew1_below (Below.refl _ _))).mono ?_); rintro e w4 ⟨rfl, hb4⟩; have hfb4 := (drew1_below (Below.refl wr.heap.size wr)).trans hb4))
            go_wp2
            go_roundw
            case rel => exact ⟨k + 1, by omega, by go_num, hideI (upto_succ HPk.out HOK.out), hideI (HGr.out _ hfb4).2⟩
            case measure => simp [intOf]; omega
        · have HPALL : Hid (∀ b, b < f.blocks.length → phisR f b) := hideI (fun b hb => HPk.out b (by omega))
          (obtain ⟨hx, _, _⟩ := G0.out _ HBWr.out); have q0 := hx 0; have q1 := hx 1; have q2 := hx 2; have q3 := hx 3; clear hx
          obtain ⟨rs, hrs⟩ : ∃ rs, rs = rowsTo f.blocks f.blocks.length := ⟨_, rfl⟩
          have HRS := hideI hrs
          clear hrs
          go_wp2_with (first
            | (go_at_call 14; go_must (refine (refOver_any f.blocks o G B _ _ _ _ _ (G0.out _ HBWr.out).2.2.1 (G0.out _ HBWr.out).2.2.2.1 hn0 hn5 HIN.out HO.out HG.out).mono ?_); rintro e w5 ⟨gvv, rfl, hgr, hb5⟩; (obtain ⟨gv, gc, rfl, hgv⟩ := id hgr); have HGR := hideI hgr; have HB5 : Hid (Below W.heap.size W w5) := hideI (HBWr.out.trans (hb5.mono HBWr.out.size)); clear hgr hb5 hgv q0 q1 q2 q3; (obtain ⟨hx, _, _⟩ := G0.out _ HB5.out); have q0 := hx 0; have q1 := hx 1; have q2 := hx 2; have q3 := hx 3; clear hx)
            | (go_at_call 20; go_must (refine (refUses5_any f.blocks B _ _ _ _ _ (G0.out _ HB5.out).2.2.1 (G0.out _ HB5.out).2.2.2.1 HFEW.out hn5 HFO.out HPH.out).mono ?_); rintro e w6 ⟨v6, rfl, hru, hb6⟩; rw [← HRS.out] at hru; (obtain ⟨A6, c6, rfl, hat⟩ := RU5.at hru); have HAT := hideI hat; have hrl : rs.length ≤ 3000000 := (by rw [show rs.length = (f.blocks.flatMap usesBlock).length by rw [← hru.1, List.length_map]]; exact HFEW.out); have HGR6 := hideI (HGR.out.kept hb6); have HB6 : Hid (Below W.heap.size W w6) := hideI (HB5.out.trans (hb6.mono HB5.out.size)); clear hru hat hb6 q0 q1 q2 q3))
          go_loopw [11] (fun u wr => ∃ i : Nat, i ≤ rs.length ∧ u = .int .i64 i ∧ Hid (∀ (j : Nat) (s : List Int), j < i → rs[j]? = some s → okRow f o s) ∧ Hid (Below w6.heap.size w6 wr)) (fun u _ => rs.length - (intOf u).toNat)
          case atStart => exact ⟨0, Nat.zero_le _, rfl, hideI (fun j s h => by omega), hideI (Below.refl _ _)⟩
          case round =>
            obtain ⟨i, hi, rfl, HRi, HBr6⟩ := hrel
            by_cases hlt : i < rs.length
            · obtain ⟨r, hr⟩ : ∃ r, rs[i]? = some r := ⟨_, List.getElem?_eq_getElem hlt⟩
              have HR := hideI hr
              have HB6r : Hid (Below W.heap.size W wr) := hideI (HB6.out.trans (HBr6.out.mono HB6.out.size))
              obtain ⟨g6, rfl, hg6, hcell⟩ := HAT.out i r hr
              have hri := HROW.out r (by rw [← HRS.out]; exact List.mem_of_getElem? hr)
              obtain ⟨hi64, mb, ma, hlast, hmb⟩ := hri.known
              obtain ⟨bn, hbn, hbl⟩ := hri.blk
              obtain ⟨fn, hfn, hfl⟩ := hri.frm
              have HOKR : Hid (okRow f o r ↔ if r.getD 3 0 < 0 then OverP f.blocks o mb fn else if mb = bn then ma < r.getD 3 0 else OverP f.blocks o mb bn) := hideI (by
                unfold okRow
                rw [hbn, hfn]
                simp only [Int.toNat_natCast]
                constructor
                · intro h
                  have h2 := h (mb, ma) hlast
                  by_cases hc : mb = bn
                  · subst hc
                    simpa using h2
                  · have hc2 : ¬ ((mb : Int) = (bn : Int)) := by omega
                    simpa [hc, hc2] using h2
                · intro h m hm
                  rw [hlast] at hm
                  cases hm
                  by_cases hc : mb = bn
                  · subst hc
                    simpa using h
                  · have hc2 : ¬ ((mb : Int) = (bn : Int)) := by omega
                    simpa [hc, hc2] using h)
              have HFIRST : Hid ((placedM f).first (r.getD 0 0) = some (mb, ma)) := hideI (by rw [← HLF.out]; exact hlast)
              have e0 := (HBr6.out.cell (p := ⟨g6, i * 5 + 0, none⟩) hg6).trans (hcell 0 (by decide))
              have e1 := (HBr6.out.cell (p := ⟨g6, i * 5 + 1, none⟩) hg6).trans (hcell 1 (by decide))
              have e2 := (HBr6.out.cell (p := ⟨g6, i * 5 + 2, none⟩) hg6).trans (hcell 2 (by decide))
              have e3 := (HBr6.out.cell (p := ⟨g6, i * 5 + 3, none⟩) hg6).trans (hcell 3 (by decide))
              have e4 := (HBr6.out.cell (p := ⟨g6, i * 5 + 4, none⟩) hg6).trans (hcell 4 (by decide))
              rw [hbn] at e2
              rw [hfn] at e4
              rw [Nat.add_zero] at e0
              obtain ⟨id, hid⟩ : ∃ id, id = r.getD 0 0 := ⟨_, rfl⟩
              obtain ⟨ty, hty⟩ : ∃ ty, ty = r.getD 1 0 := ⟨_, rfl⟩
              obtain ⟨a, ha⟩ : ∃ a, a = r.getD 3 0 := ⟨_, rfl⟩
              rw [← hid] at e0 HFIRST
              rw [← hty] at e1
              rw [← ha] at e3 HOKR
              have HHB : Hid (r.getD 2 0 = (bn : Int)) := hideI hbn
              obtain ⟨W7, hW7⟩ : ∃ W7 : World, W7 = wr.alloc (.cells #[.int .i64 id, .int .i64 ty, .int .i64 bn, .int .i64 a, .int .i64 fn] 63) := ⟨_, rfl⟩
              have HW7 := hideI hW7
              have HB7 : Hid (Below wr.heap.size wr W7) := by show Below _ _ _; rw [hW7]; exact (Below.refl _ _).alloc (Nat.le_refl _) _
              have HX7 : Hid (W7.heap[wr.heap.size]? = some (.cells #[.int .i64 id, .int .i64 ty, .int .i64 bn, .int .i64 a, .int .i64 fn] 63 (0, 0))) := by show _ = _; rw [hW7]; exact heap_alloc_new wr _
              have hw7 := lt_of_heap HX7.out
              have HG7 : Hid (∀ W2, Below W7.heap.size W7 W2 → Below W.heap.size W W2 ∧ Below w6.heap.size w6 W2) := hideI (fun W2 h2 => by
                have h3 := HB7.out.trans (h2.mono HB7.out.size)
                exact ⟨HB6r.out.trans (h3.mono HB6r.out.size), HBr6.out.trans (h3.mono HBr6.out.size)⟩)
              have HDEF : Hid (Calls Try.prog 21 #[.agg #[.slice P f.params.length pc, .int .i64 f.arrays, .int .i64 f.cells, .slice A f.blocks.length c], .int .i64 id] W7 fun e w' => e = .returned (.tuple #[.int .i64 (mb : Int), .int .i64 ma, .bool true]) ∧ Below W7.heap.size W7 w') := hideI (by
                have hg := G0.out _ (HG7.out _ (Below.refl _ _)).1
                refine (refDef_any f B _ _ id _ hg.2.1 hg.2.2.1 hg.2.2.2.1 HFEWV.out hn5).mono ?_
                rintro e w' ⟨⟨v, hv, rfl⟩ | ⟨hbad, _⟩, hb⟩
                · rw [HFIRST.out] at hv
                  cases hv
                  exact ⟨rfl, hb⟩
                · rw [HFIRST.out] at hbad
                  cases hbad)
              have HGRD : Hid (∀ W2, Below W7.heap.size W7 W2 → ∃ ga, W2.cell? ⟨gv, mb, none⟩ = some (.slice (some ⟨ga, 0, none⟩) f.blocks.length f.blocks.length) ∧ W2.cell? ⟨ga, bn, none⟩ = some (.bool (G mb bn)) ∧ W2.cell? ⟨ga, fn, none⟩ = some (.bool (G mb fn))) := hideI (fun W2 h2 => by
                obtain ⟨gv2, c2, e, _, h4⟩ := HGR6.out.kept (HG7.out _ h2).2
                cases e
                obtain ⟨ga, _, h5, h6⟩ := h4 mb hmb
                exact ⟨ga, h5, h6 bn hbl, h6 fn hfl⟩)
              (obtain ⟨hx, _, _⟩ := G0.out _ HB6r.out); have q0 := hx 0; have q1 := hx 1; have q2 := hx 2; have q3 := hx 3; clear hx
              have hl0 : w.heap.size < wr.heap.size := by have := HB6r.out.size; omega
              have hl6 : g6 < wr.heap.size := by have := HBr6.out.size; omega
              clear hW7 hcell hi64 hlast hri hr hbn hfn hid hty ha
              by_cases hna : a < 0
              · obtain ⟨z, hz⟩ : ∃ z : Bool, z = G mb fn := ⟨_, rfl⟩
                have HZ : Hid (z = true ↔ okRow f o r) := hideI (by rw [HOKR.out, if_pos hna, hz]; exact HG.out mb fn)
                rw [← hz] at HGRD
                clear hz HOKR
                cases z
                · have HBAD : Hid (¬ okRow f o r) := hideI (fun h => Bool.noConfusion (HZ.out.2 h))
                  go_wp2_with (go_at_call 21; (go_must (rw [← HW7.out])); go_must (refine HDEF.out.mono ?_); rintro e w8 ⟨rfl, hb8⟩; (obtain ⟨ga, k1, k2, k3⟩ := HGRD.out _ hb8); (have hy := row_cells HX7.out (hb8.block _ hw7)); have y0 := hy 0; have y1 := hy 1; have y2 := hy 2; have y3 := hy 3; have y4 := hy 4; have HB8 := hideI hb8; clear hb8 hy q0 q1 q2 q3 e0 e1 e2 e3 e4)
                  go_quiet (fail)
                  go_wp2
                  go_quiet (fail)
                  go_wp2
                  go_ret2
                  obtain ⟨bx, hbx1, hbx2⟩ := rows_bad H0.out HALL.out (by rw [← HRS.out]; exact HR.out) (fun j s hj hs => HRi.out j s hj (by rw [HRS.out]; exact hs)) HBAD.out
                  rw [HHB.out] at hbx2
                  exact ⟨_, _, rfl, .inr (.inr (.inl ⟨HALL.out, HPALL.out, bx, hbx1, by rw [hbx2]⟩)), (G0.out _ (HG7.out _ (drew_below HB8.out _)).1).2.2.2.2⟩
                · have HOK : Hid (okRow f o r) := hideI (HZ.out.1 rfl)
                  go_wp2_with (go_at_call 21; (go_must (rw [← HW7.out])); go_must (refine HDEF.out.mono ?_); rintro e w8 ⟨rfl, hb8⟩; (obtain ⟨ga, k1, k2, k3⟩ := HGRD.out _ hb8); (have hy := row_cells HX7.out (hb8.block _ hw7)); have y0 := hy 0; have y1 := hy 1; have y2 := hy 2; have y3 := hy 3; have y4 := hy 4; have HB8 := hideI hb8; clear hb8 hy q0 q1 q2 q3 e0 e1 e2 e3 e4)
                  go_quiet (fail)
                  go_wp2
                  go_quiet (fail)
                  go_wp2
                  go_roundw
                  case rel =>
                    refine ⟨i + 1, by omega, by go_num, hideI (fun j s hj hs => ?_), hideI (HG7.out _ (drew_below HB8.out _)).2⟩
                    rcases Nat.lt_or_ge j i with h | h
                    · exact HRi.out j s h hs
                    · have : j = i := by omega
                      subst this
                      rw [HR.out] at hs
                      cases hs
                      exact HOK.out
                  case measure => simp [intOf]; omega
              · by_cases hmm : mb = bn
                · subst hmm
                  obtain ⟨z, hz⟩ : ∃ z : Bool, z = decide (ma < a) := ⟨_, rfl⟩
                  have HZ : Hid (z = true ↔ okRow f o r) := hideI (by rw [HOKR.out, if_neg hna, if_pos rfl, hz, decide_eq_true_iff])
                  clear HOKR
                  by_cases hlm : ma < a
                  · have HOK : Hid (okRow f o r) := hideI (HZ.out.1 (by rw [hz]; exact decide_eq_true hlm))
                    clear HZ hz
                    go_wp2_with (go_at_call 21; (go_must (rw [← HW7.out])); go_must (refine HDEF.out.mono ?_); rintro e w8 ⟨rfl, hb8⟩; (obtain ⟨ga, k1, k2, k3⟩ := HGRD.out _ hb8); (have hy := row_cells HX7.out (hb8.block _ hw7)); have y0 := hy 0; have y1 := hy 1; have y2 := hy 2; have y3 := hy 3; have y4 := hy 4; have HB8 := hideI hb8; clear hb8 hy q0 q1 q2 q3 e0 e1 e2 e3 e4)
                    go_quiet (fail)
                    go_wp2
                    go_roundw
                    case rel =>
                      refine ⟨i + 1, by omega, by go_num, hideI (fun j s hj hs => ?_), hideI (HG7.out _ (drew_below HB8.out _)).2⟩
                      rcases Nat.lt_or_ge j i with h | h
                      · exact HRi.out j s h hs
                      · have : j = i := by omega
                        subst this
                        rw [HR.out] at hs
                        cases hs
                        exact HOK.out
                    case measure => simp [intOf]; omega
                  · have HBAD : Hid (¬ okRow f o r) := hideI (fun h => by have := HZ.out.2 h; rw [hz] at this; exact hlm (of_decide_eq_true this))
                    have hnd : (!decide (ma < a)) = true := by rw [decide_eq_false hlm]; rfl
                    clear HZ hz
                    go_wp2_with (go_at_call 21; (go_must (rw [← HW7.out])); go_must (refine HDEF.out.mono ?_); rintro e w8 ⟨rfl, hb8⟩; (obtain ⟨ga, k1, k2, k3⟩ := HGRD.out _ hb8); (have hy := row_cells HX7.out (hb8.block _ hw7)); have y0 := hy 0; have y1 := hy 1; have y2 := hy 2; have y3 := hy 3; have y4 := hy 4; have HB8 := hideI hb8; clear hb8 hy q0 q1 q2 q3 e0 e1 e2 e3 e4)
                    go_quiet (fail)
                    go_wp2
                    go_ret2
                    obtain ⟨bx, hbx1, hbx2⟩ := rows_bad H0.out HALL.out (by rw [← HRS.out]; exact HR.out) (fun j s hj hs => HRi.out j s hj (by rw [HRS.out]; exact hs)) HBAD.out
                    rw [HHB.out] at hbx2
                    exact ⟨_, _, rfl, .inr (.inr (.inl ⟨HALL.out, HPALL.out, bx, hbx1, by rw [hbx2]⟩)), (G0.out _ (HG7.out _ (drew_below HB8.out _)).1).2.2.2.2⟩
                · obtain ⟨z, hz⟩ : ∃ z : Bool, z = G mb bn := ⟨_, rfl⟩
                  have HZ : Hid (z = true ↔ okRow f o r) := hideI (by rw [HOKR.out, if_neg hna, if_neg hmm, hz]; exact HG.out mb bn)
                  have hmb2 : ((mb : Int) == (bn : Int)) = false := beq_eq_false_iff_ne.2 (by omega)
                  rw [← hz] at HGRD
                  clear hz HOKR hmm
                  cases z
                  · have HBAD : Hid (¬ okRow f o r) := hideI (fun h => Bool.noConfusion (HZ.out.2 h))
                    go_wp2_with (go_at_call 21; (go_must (rw [← HW7.out])); go_must (refine HDEF.out.mono ?_); rintro e w8 ⟨rfl, hb8⟩; (obtain ⟨ga, k1, k2, k3⟩ := HGRD.out _ hb8); (have hy := row_cells HX7.out (hb8.block _ hw7)); have y0 := hy 0; have y1 := hy 1; have y2 := hy 2; have y3 := hy 3; have y4 := hy 4; have HB8 := hideI hb8; clear hb8 hy q0 q1 q2 q3 e0 e1 e2 e3 e4)
                    go_quiet (fail)
                    go_wp2
                    go_ret2
                    obtain ⟨bx, hbx1, hbx2⟩ := rows_bad H0.out HALL.out (by rw [← HRS.out]; exact HR.out) (fun j s hj hs => HRi.out j s hj (by rw [HRS.out]; exact hs)) HBAD.out
                    rw [HHB.out] at hbx2
                    exact ⟨_, _, rfl, .inr (.inr (.inl ⟨HALL.out, HPALL.out, bx, hbx1, by rw [hbx2]⟩)), (G0.out _ (HG7.out _ (drew_below HB8.out _)).1).2.2.2.2⟩
                  · have HOK : Hid (okRow f o r) := hideI (HZ.out.1 rfl)
                    go_wp2_with (go_at_call 21; (go_must (rw [← HW7.out])); go_must (refine HDEF.out.mono ?_); rintro e w8 ⟨rfl, hb8⟩; (obtain ⟨ga, k1, k2, k3⟩ := HGRD.out _ hb8); (have hy := row_cells HX7.out (hb8.block _ hw7)); have y0 := hy 0; have y1 := hy 1; have y2 := hy 2; have y3 := hy 3; have y4 := hy 4; have HB8 := hideI hb8; clear hb8 hy q0 q1 q2 q3 e0 e1 e2 e3 e4)
                    go_quiet (fail)
                    go_wp2
                    go_roundw
                    case rel =>
                      refine ⟨i + 1, by omega, by go_num, hideI (fun j s hj hs => ?_), hideI (HG7.out _ (drew_below HB8.out _)).2⟩
                      rcases Nat.lt_or_ge j i with h | h
                      · exact HRi.out j s h hs
                      · have : j = i := by omega
                        subst this
                        rw [HR.out] at hs
                        cases hs
                        exact HOK.out
                    case measure => simp [intOf]; omega
            · have HEND : Hid (∀ b, b < f.blocks.length → usesPR f o b) := hideI (rows_good H0.out HALL.out (fun s hs => by
                rw [← HRS.out] at hs
                obtain ⟨j, hj⟩ := List.getElem?_of_mem hs
                exact HRi.out j s (by have := (List.getElem?_eq_some_iff.1 hj).1; omega) hj))
              have HBe := hideI (G0.out _ (HB6.out.trans (HBr6.out.mono HB6.out.size))).2.2.2.2
              go_wp2
              go_ret2
              exact ⟨_, _, rfl, .inr (.inr (.inr ⟨HALL.out, HPALL.out, HEND.out, rfl⟩)), HBe.out⟩

end Go.Proofs.Ytglbepdjahddmaa

namespace Go.Proofs.Ytglbepdjahddmaa
open Go.RowKit Go.Maps

theorem refStrict_any (f : FuncM) (B : Nat) (pv bv : Value) (w : World) (hpv : Ints w B pv f.params) (hbv : BlocksR w B bv f.blocks) (hB : B ≤ w.heap.size) (hid : ∀ u ∈ usesM f, I64 u.1) (he : (lookM f).1 = 0 → ∃ o, OrderIs f.blocks o) :
    Calls Try.prog 8 #[.agg #[pv, .int .i64 f.arrays, .int .i64 f.cells, bv]] w fun e w' => ∃ x y : Int, e = .returned (.tuple #[.int .i64 x, .int .i64 y]) ∧ CheckIs f (x, y) ∧ Below w.heap.size w w' := by
  by_cases h0 : (lookM f).1 = 0
  · obtain ⟨o, ho⟩ := he h0
    refine (refStrict_yes f o B pv bv w hpv hbv hB hid h0 ho).mono ?_
    rintro e w' ⟨x, y, rfl, hf, hb⟩
    exact ⟨x, y, rfl, .inr ⟨h0, o, ho, hf⟩, hb⟩
  · refine (refStrict_no f B pv bv w hpv hbv hB h0).mono ?_
    rintro e w' ⟨rfl, hb⟩
    exact ⟨0, _, rfl, .inl ⟨h0, rfl⟩, hb⟩

end Go.Proofs.Ytglbepdjahddmaa

namespace Go.Proofs.Ytglbepdjahddmaa
open Go.RowKit Go.Maps

theorem two_new0 (w : World) (o1 o2 : Obj) : ((w.alloc o1).alloc o2).heap[w.heap.size]? = (w.alloc o1).heap[w.heap.size]? := Below.heap_alloc _ _ _ (by simp)

theorem drewN_heap9 (w : World) (n : Nat) : (w.drewN n).heap = w.heap := rfl
theorem drewN_le9 (B : Nat) {w w' : World} {n : Nat} (h : w' = w.drewN n) : Below B w w' := by rw [h]; exact ⟨rfl, rfl, rfl, Nat.le_refl _, fun _ _ => rfl⟩
theorem heap_same9 {w w' : World} {p : Nat} {o : Option Obj} (hh : w'.heap = w.heap) (h : w.heap[p]? = o) : w'.heap[p]? = o := by rw [hh]; exact h

theorem two_new1 (w : World) (o1 : Obj) (cs : Array Value) (t : TypeId) : ((w.alloc o1).alloc (.cells cs t)).heap[w.heap.size + 1]? = some (.cells cs t (0, 0)) := by
  have := heap_alloc_new (w.alloc o1) (.cells cs t)
  simpa using this

theorem fill5 {w : World} {p : Nat} {z0 z1 z2 z3 z4 : Value} {t : TypeId} (v0 v1 v2 v3 v4 : Value) (h : w.heap[p]? = some (.cells #[z0, z1, z2, z3, z4] t (0, 0))) :
    (((((w.setCell ⟨p, 0, none⟩ v0).setCell ⟨p, 1, none⟩ v1).setCell ⟨p, 2, none⟩ v2).setCell ⟨p, 3, none⟩ v3).setCell ⟨p, 4, none⟩ v4).heap[p]? = some (.cells #[v0, v1, v2, v3, v4] t (0, 0)) := by
  have h0 := heap_setCell_same w p 0 _ t v0 h
  have h1 := heap_setCell_same _ p 1 _ t v1 h0
  have h2 := heap_setCell_same _ p 2 _ t v2 h1
  have h3 := heap_setCell_same _ p 3 _ t v3 h2
  have h4 := heap_setCell_same _ p 4 _ t v4 h3
  exact h4

theorem fill5_other {w : World} {p q : Nat} {o : Obj} (v0 v1 v2 v3 v4 : Value) (h : w.heap[q]? = some o) (hne : q ≠ p) :
    (((((w.setCell ⟨p, 0, none⟩ v0).setCell ⟨p, 1, none⟩ v1).setCell ⟨p, 2, none⟩ v2).setCell ⟨p, 3, none⟩ v3).setCell ⟨p, 4, none⟩ v4).heap[q]? = some o := by
  rw [heap_setCell_other _ ⟨p, 4, none⟩ q _ hne, heap_setCell_other _ ⟨p, 3, none⟩ q _ hne, heap_setCell_other _ ⟨p, 2, none⟩ q _ hne, heap_setCell_other _ ⟨p, 1, none⟩ q _ hne, heap_setCell_other _ ⟨p, 0, none⟩ q _ hne]
  exact h

theorem fill5_below {w w0 : World} {p B : Nat} (v0 v1 v2 v3 v4 : Value) (h : Below B w0 w) (hB : B ≤ p) :
    Below B w0 (((((w.setCell ⟨p, 0, none⟩ v0).setCell ⟨p, 1, none⟩ v1).setCell ⟨p, 2, none⟩ v2).setCell ⟨p, 3, none⟩ v3).setCell ⟨p, 4, none⟩ v4) :=
  ((((h.setCell hB v0).setCell hB v1).setCell hB v2).setCell hB v3).setCell hB v4

set_option maxRecDepth 100000 in
set_option maxHeartbeats 20000000 in
theorem same9_yes (ls : List LpM) (B1 B2 : Nat) (lv uv : Value) (w : World) (h1 : LoopsR w B1 lv ls) (h2 : LoopsR w B2 uv ls) (hlen : ls.length ≤ 512) (hsh : ∀ x ∈ ls, x.blocks.length ≤ 512 ∧ x.latches.length ≤ 512 ∧ x.exits.length ≤ 512) :
    Calls Try.prog 10 #[lv, uv] w fun e w' => e = .returned (.bool true) ∧ Below w.heap.size w w' := by
  have H1 := hideI h1
  have H2 := hideI h2
  have HSH := hideI hsh
  obtain ⟨V1, v1, rfl⟩ : ∃ A c, lv = .slice A ls.length c := by obtain ⟨cs, h, _⟩ := h1.ex; exact own_sl h
  obtain ⟨V2, v2, rfl⟩ : ∃ A c, uv = .slice A ls.length c := by obtain ⟨cs, h, _⟩ := h2.ex; exact own_sl h
  have hnn : ((ls.length : Int) != (ls.length : Int)) = false := by simp
  clear h1 h2 hsh
  go_enter Try.func10, Try.ntmps10
  go_wp2_with fail
  clear hnn
  go_loopw [5] (fun u wr => ∃ i : Nat, i ≤ ls.length ∧ u = .int .i64 i ∧ Hid (Below w.heap.size w wr)) (fun u _ => ls.length - (intOf u).toNat)
  case atStart => exact ⟨0, Nat.zero_le _, rfl, hideI (Below.refl _ _)⟩
  case round =>
    obtain ⟨i, hi, rfl, HBr⟩ := hrel
    by_cases hlt : i < ls.length
    · obtain ⟨x, hx⟩ : ∃ x, ls[i]? = some x := ⟨_, List.getElem?_eq_getElem hlt⟩
      obtain ⟨l1, l2, l3⟩ := HSH.out x (List.mem_of_getElem? hx)
      obtain ⟨g1, _, b1, b2, b3, hv1, _, hg1, r0, r1, r2, r3, r4, s1, s2, s3, _⟩ := H1.out.cells hx
      obtain ⟨g2, _, d1, d2, d3, hv2, _, hg2, t0, t1, t2, t3, t4, u1, u2, u3, _⟩ := H2.out.cells hx
      cases hv1
      cases hv2
      obtain ⟨A1, a1, rfl⟩ := own_sl s1.1
      obtain ⟨A2, a2, rfl⟩ := own_sl s2.1
      obtain ⟨A3, a3, rfl⟩ := own_sl s3.1
      obtain ⟨B1', e1, rfl⟩ := own_sl u1.1
      obtain ⟨B2', e2, rfl⟩ := own_sl u2.1
      obtain ⟨B3, e3, rfl⟩ := own_sl u3.1
      have HSS : Hid (∀ W', Below wr.heap.size wr W' → W'.cell? ⟨g1, i * 5, none⟩ = some (.int .i64 (x.head : Int)) ∧ W'.cell? ⟨g1, i * 5 + 1, none⟩ = some (.slice A1 x.blocks.length a1) ∧ W'.cell? ⟨g1, i * 5 + 2, none⟩ = some (.slice A2 x.latches.length a2) ∧ W'.cell? ⟨g1, i * 5 + 3, none⟩ = some (.slice A3 x.exits.length a3) ∧ W'.cell? ⟨g1, i * 5 + 4, none⟩ = some (.int .i64 x.parent) ∧ W'.cell? ⟨g2, i * 5, none⟩ = some (.int .i64 (x.head : Int)) ∧ W'.cell? ⟨g2, i * 5 + 1, none⟩ = some (.slice B1' x.blocks.length e1) ∧ W'.cell? ⟨g2, i * 5 + 2, none⟩ = some (.slice B2' x.latches.length e2) ∧ W'.cell? ⟨g2, i * 5 + 3, none⟩ = some (.slice B3 x.exits.length e3) ∧ W'.cell? ⟨g2, i * 5 + 4, none⟩ = some (.int .i64 x.parent)) := fun W' hW' => by
        have hW := HBr.out.trans (hW'.mono HBr.out.size)
        exact ⟨(hW.cell (p := ⟨g1, i * 5, none⟩) hg1).trans r0, (hW.cell (p := ⟨g1, i * 5 + 1, none⟩) hg1).trans r1, (hW.cell (p := ⟨g1, i * 5 + 2, none⟩) hg1).trans r2, (hW.cell (p := ⟨g1, i * 5 + 3, none⟩) hg1).trans r3, (hW.cell (p := ⟨g1, i * 5 + 4, none⟩) hg1).trans r4, (hW.cell (p := ⟨g2, i * 5, none⟩) hg2).trans t0, (hW.cell (p := ⟨g2, i * 5 + 1, none⟩) hg2).trans t1, (hW.cell (p := ⟨g2, i * 5 + 2, none⟩) hg2).trans t2, (hW.cell (p := ⟨g2, i * 5 + 3, none⟩) hg2).trans t3, (hW.cell (p := ⟨g2, i * 5 + 4, none⟩) hg2).trans t4⟩
      have HI1 := hideI (s1.ints (by omega))
      have HI2 := hideI (s2.ints (by omega))
      have HI3 := hideI (s3.ints (by omega))
      have HJ1 := hideI (u1.ints (by omega))
      have HJ2 := hideI (u2.ints (by omega))
      have HJ3 := hideI (u3.ints (by omega))
      have hS0 := HSS.out wr (Below.refl _ _)
      clear hx s1 s2 s3 u1 u2 u3 r0 r1 r2 r3 r4 t0 t1 t2 t3 t4
      go_upto_region 6 with fail
      go_cut [6, 7] (fun s6 s7 wx => ∃ p6 p7 : Nat, s6 = .pointer (some ⟨p6, 0, none⟩) ∧ s7 = .pointer (some ⟨p7, 0, none⟩) ∧ Hid (wx.heap[p6]? = some (.cells #[.int .i64 (x.head : Int), .slice A1 x.blocks.length a1, .slice A2 x.latches.length a2, .slice A3 x.exits.length a3, .int .i64 x.parent] 38 (0, 0))) ∧ Hid (wx.heap[p7]? = some (.cells #[.int .i64 (x.head : Int), .slice B1' x.blocks.length e1, .slice B2' x.latches.length e2, .slice B3 x.exits.length e3, .int .i64 x.parent] 38 (0, 0))) ∧ Hid (Below wr.heap.size wr wx))
      case first =>
        refine wp_region_late (by kernel_rfl) (fun W' => W'.cell? ⟨g1, i * 5, none⟩ = some (.int .i64 (x.head : Int)) ∧ W'.cell? ⟨g1, i * 5 + 1, none⟩ = some (.slice A1 x.blocks.length a1) ∧ W'.cell? ⟨g1, i * 5 + 2, none⟩ = some (.slice A2 x.latches.length a2) ∧ W'.cell? ⟨g1, i * 5 + 3, none⟩ = some (.slice A3 x.exits.length a3) ∧ W'.cell? ⟨g1, i * 5 + 4, none⟩ = some (.int .i64 x.parent) ∧ W'.cell? ⟨g2, i * 5, none⟩ = some (.int .i64 (x.head : Int)) ∧ W'.cell? ⟨g2, i * 5 + 1, none⟩ = some (.slice B1' x.blocks.length e1) ∧ W'.cell? ⟨g2, i * 5 + 2, none⟩ = some (.slice B2' x.latches.length e2) ∧ W'.cell? ⟨g2, i * 5 + 3, none⟩ = some (.slice B3 x.exits.length e3) ∧ W'.cell? ⟨g2, i * 5 + 4, none⟩ = some (.int .i64 x.parent)) [] ?_
        refine wpAnyT_quiet (i := 0) (v := ?_) rfl (by kernel_rfl) (by kernel_rfl) (by kernel_rfl) (fun _ _ _ h => h) (Or.inl ⟨by rfl, ?_⟩) ?_
        rotate_left
        · (intro w; go_simp; try with_reducible rfl)
        try simp only [Act.put, List.setIfInBounds_toArray, List.set_cons_zero, List.set_cons_succ]
        refine wpAnyT_quiet (i := 1) (v := ?_) rfl (by kernel_rfl) (by kernel_rfl) (by kernel_rfl) (fun _ _ _ h => h) (Or.inl ⟨by rfl, ?_⟩) ?_
        rotate_left
        · (intro w; go_simp; try with_reducible rfl)
        try simp only [Act.put, List.setIfInBounds_toArray, List.set_cons_zero, List.set_cons_succ]
        refine wpAnyT_quiet (i := 2) (v := ?_) rfl (by kernel_rfl) (by kernel_rfl) (by kernel_rfl) (fun _ _ _ h => h) (Or.inl ⟨by rfl, ?_⟩) ?_
        rotate_left
        · (intro w; go_simp; try with_reducible rfl)
        try simp only [Act.put, List.setIfInBounds_toArray, List.set_cons_zero, List.set_cons_succ]
        refine wpAnyT_take [] (i := 3) (v := ?_) rfl (by kernel_rfl) (by kernel_rfl) (by kernel_rfl) (by kernel_rfl) (by kernel_rfl) (by kernel_rfl) (fun _ _ _ h => h) hS0 (Or.inl ⟨by rfl, ?_⟩) ?_
        rotate_left
        · (intro w hSw; go_split_ands; go_simp; try with_reducible rfl)
        try simp only [Act.put, List.setIfInBounds_toArray, List.set_cons_zero, List.set_cons_succ]
        refine wpAnyT_quiet (i := 4) (v := ?_) rfl (by kernel_rfl) (by kernel_rfl) (by kernel_rfl) (fun _ _ _ h => h) (Or.inl ⟨by rfl, ?_⟩) ?_
        rotate_left
        · (intro w; go_simp; try with_reducible rfl)
        try simp only [Act.put, List.setIfInBounds_toArray, List.set_cons_zero, List.set_cons_succ]
        refine wpAnyT_quiet (i := 5) (v := ?_) rfl (by kernel_rfl) (by kernel_rfl) (by kernel_rfl) (fun _ _ _ h => h) (Or.inl ⟨by rfl, ?_⟩) ?_
        rotate_left
        · (intro w; go_simp; try with_reducible rfl)
        try simp only [Act.put, List.setIfInBounds_toArray, List.set_cons_zero, List.set_cons_succ]
        refine wpAnyT_quiet (i := 6) (v := ?_) rfl (by kernel_rfl) (by kernel_rfl) (by kernel_rfl) (fun _ _ _ h => h) (Or.inl ⟨by rfl, ?_⟩) ?_
        rotate_left
        · (intro w; go_simp; try with_reducible rfl)
        try simp only [Act.put, List.setIfInBounds_toArray, List.set_cons_zero, List.set_cons_succ]
        refine wpAnyT_take [] (i := 7) (v := ?_) rfl (by kernel_rfl) (by kernel_rfl) (by kernel_rfl) (by kernel_rfl) (by kernel_rfl) (by kernel_rfl) (fun _ _ _ h => h) hS0 (Or.inl ⟨by rfl, ?_⟩) ?_
        rotate_left
        · (intro w hSw; go_split_ands; go_simp; try with_reducible rfl)
        try simp only [Act.put, List.setIfInBounds_toArray, List.set_cons_zero, List.set_cons_succ]
        refine wpAnyT_ready (rs := [8, 9]) (by kernel_rfl) (by simp) ?_
        refine AllReadyT.cons rfl (fun K hK => ?_) ?_
        · go_simp
          refine hK.out _ _ (fun _ _ => HSS.out _ ((Below.refl wr.heap.size wr).drew.alloc (Nat.le_refl _) _)) ?_
          clear hK K
          try simp only [Act.put, List.setIfInBounds_toArray, List.set_cons_zero, List.set_cons_succ]
          refine wpAnyT_ready (rs := [9]) (by kernel_rfl) (by simp) ?_
          refine AllReadyT.cons rfl (fun K hK => ?_) ?_
          · go_simp
            refine hK.out _ _ (fun _ _ => HSS.out _ (((Below.refl wr.heap.size wr).drew.alloc (Nat.le_refl _) _).alloc (by simp) _)) ?_
            clear hK K
            try simp only [Act.put, List.setIfInBounds_toArray, List.set_cons_zero, List.set_cons_succ]
            obtain ⟨wa, hwa⟩ : ∃ wa, wa = ((wr.alloc (.cells #[.int .i64 0, .slice none 0 0, .slice none 0 0, .slice none 0 0, .int .i64 0] 38)).alloc (.cells #[.int .i64 0, .slice none 0 0, .slice none 0 0, .slice none 0 0, .int .i64 0] 38)).drew := ⟨_, rfl⟩
            have h6 : wa.heap[wr.heap.size]? = some (.cells #[.int .i64 0, .slice none 0 0, .slice none 0 0, .slice none 0 0, .int .i64 0] 38 (0, 0)) := by rw [hwa]; first | exact (two_new0 wr _ _).trans (heap_alloc_new wr _) | exact two_new1 wr _ _ _
            have h7 : wa.heap[(wr.heap.size + 1)]? = some (.cells #[.int .i64 0, .slice none 0 0, .slice none 0 0, .slice none 0 0, .int .i64 0] 38 (0, 0)) := by rw [hwa]; first | exact (two_new0 wr _ _).trans (heap_alloc_new wr _) | exact two_new1 wr _ _ _
            have HBA : Hid (Below wr.heap.size wr wa) := by show Below _ _ _; rw [hwa]; exact (((Below.refl wr.heap.size wr).alloc (Nat.le_refl _) _).alloc (by simp) _).drew
            rw [← hwa]
            clear hwa
            have c6 := row_cells h6 rfl
            have f6 := free_rowN h6 rfl
            have c60 := c6 0
            have c61 := c6 1
            have c62 := c6 2
            have c63 := c6 3
            have c64 := c6 4
            have f60 := f6 0
            have f61 := f6 1
            have f62 := f6 2
            have f63 := f6 3
            have f64 := f6 4
            clear c6 f6
            have h6' := fill5 (.int .i64 (x.head : Int)) (.slice A1 x.blocks.length a1) (.slice A2 x.latches.length a2) (.slice A3 x.exits.length a3) (.int .i64 x.parent) h6
            have h7' := fill5_other (p := wr.heap.size) (.int .i64 (x.head : Int)) (.slice A1 x.blocks.length a1) (.slice A2 x.latches.length a2) (.slice A3 x.exits.length a3) (.int .i64 x.parent) h7 (by omega)
            have HBB : Hid (Below wr.heap.size wr _) := hideI (fill5_below (p := wr.heap.size) (.int .i64 (x.head : Int)) (.slice A1 x.blocks.length a1) (.slice A2 x.latches.length a2) (.slice A3 x.exits.length a3) (.int .i64 x.parent) HBA.out (by omega))
            refine wpAnyT_ready (rs := [10]) (by kernel_rfl) (by simp) ?_
            refine AllReadyT.cons rfl (fun K hK => ?_) ?_
            · go_simp
              refine hK.out _ _ (fun _ _ => HSS.out _ HBB.out) ?_
              clear hK K
              try simp only [Act.put, List.setIfInBounds_toArray, List.set_cons_zero, List.set_cons_succ]
              obtain ⟨wb, hwb⟩ : ∃ wb, wb = (((((wa).setCell ⟨wr.heap.size, 0, none⟩ (.int .i64 (x.head : Int))).setCell ⟨wr.heap.size, 1, none⟩ (.slice A1 x.blocks.length a1)).setCell ⟨wr.heap.size, 2, none⟩ (.slice A2 x.latches.length a2)).setCell ⟨wr.heap.size, 3, none⟩ (.slice A3 x.exits.length a3)).setCell ⟨wr.heap.size, 4, none⟩ (.int .i64 x.parent) := ⟨_, rfl⟩
              have HBB2 : Hid (Below wr.heap.size wr wb) := by rw [hwb]; exact HBB
              rw [← hwb] at h6' h7' ⊢
              clear hwb HBB c60 c61 c62 c63 c64 f60 f61 f62 f63 f64 h6 h7
              have c7 := row_cells h7' rfl
              have f7 := free_rowN h7' rfl
              have c70 := c7 0
              have c71 := c7 1
              have c72 := c7 2
              have c73 := c7 3
              have c74 := c7 4
              have f70 := f7 0
              have f71 := f7 1
              have f72 := f7 2
              have f73 := f7 3
              have f74 := f7 4
              clear c7 f7
              have h7'' := fill5 (.int .i64 (x.head : Int)) (.slice B1' x.blocks.length e1) (.slice B2' x.latches.length e2) (.slice B3 x.exits.length e3) (.int .i64 x.parent) h7'
              have h6'' := fill5_other (p := (wr.heap.size + 1)) (.int .i64 (x.head : Int)) (.slice B1' x.blocks.length e1) (.slice B2' x.latches.length e2) (.slice B3 x.exits.length e3) (.int .i64 x.parent) h6' (by omega)
              have HBC : Hid (Below wr.heap.size wr _) := hideI (fill5_below (p := (wr.heap.size + 1)) (.int .i64 (x.head : Int)) (.slice B1' x.blocks.length e1) (.slice B2' x.latches.length e2) (.slice B3 x.exits.length e3) (.int .i64 x.parent) HBB2.out (by omega))
              have H6 := hideI h6''
              have H7 := hideI h7''
              refine wpAnyT_ready (rs := [11]) (by kernel_rfl) (by simp) ?_
              refine AllReadyT.cons rfl (fun K hK => ?_) ?_
              · go_simp
                refine hK.out _ _ (fun _ _ => HSS.out _ HBC.out) ?_
                clear hK K
                try simp only [Act.put, List.setIfInBounds_toArray, List.set_cons_zero, List.set_cons_succ]
                refine wpAnyT_done (by kernel_rfl) ?_ _
                go_wp2_with fail
                go_meet
                exact ⟨_, _, rfl, rfl, H6, H7, HBC⟩
              · exact AllReadyT.nil
            · exact AllReadyT.nil
          · exact AllReadyT.nil
        refine AllReadyT.cons rfl (fun K hK => ?_) ?_
        · go_simp
          refine hK.out _ _ (fun _ _ => HSS.out _ ((Below.refl wr.heap.size wr).drew.alloc (Nat.le_refl _) _)) ?_
          clear hK K
          try simp only [Act.put, List.setIfInBounds_toArray, List.set_cons_zero, List.set_cons_succ]
          refine wpAnyT_ready (rs := [8]) (by kernel_rfl) (by simp) ?_
          refine AllReadyT.cons rfl (fun K hK => ?_) ?_
          · go_simp
            refine hK.out _ _ (fun _ _ => HSS.out _ (((Below.refl wr.heap.size wr).drew.alloc (Nat.le_refl _) _).alloc (by simp) _)) ?_
            clear hK K
            try simp only [Act.put, List.setIfInBounds_toArray, List.set_cons_zero, List.set_cons_succ]
            obtain ⟨wa, hwa⟩ : ∃ wa, wa = ((wr.alloc (.cells #[.int .i64 0, .slice none 0 0, .slice none 0 0, .slice none 0 0, .int .i64 0] 38)).alloc (.cells #[.int .i64 0, .slice none 0 0, .slice none 0 0, .slice none 0 0, .int .i64 0] 38)).drew := ⟨_, rfl⟩
            have h6 : wa.heap[(wr.heap.size + 1)]? = some (.cells #[.int .i64 0, .slice none 0 0, .slice none 0 0, .slice none 0 0, .int .i64 0] 38 (0, 0)) := by rw [hwa]; first | exact (two_new0 wr _ _).trans (heap_alloc_new wr _) | exact two_new1 wr _ _ _
            have h7 : wa.heap[wr.heap.size]? = some (.cells #[.int .i64 0, .slice none 0 0, .slice none 0 0, .slice none 0 0, .int .i64 0] 38 (0, 0)) := by rw [hwa]; first | exact (two_new0 wr _ _).trans (heap_alloc_new wr _) | exact two_new1 wr _ _ _
            have HBA : Hid (Below wr.heap.size wr wa) := by show Below _ _ _; rw [hwa]; exact (((Below.refl wr.heap.size wr).alloc (Nat.le_refl _) _).alloc (by simp) _).drew
            rw [← hwa]
            clear hwa
            have c6 := row_cells h6 rfl
            have f6 := free_rowN h6 rfl
            have c60 := c6 0
            have c61 := c6 1
            have c62 := c6 2
            have c63 := c6 3
            have c64 := c6 4
            have f60 := f6 0
            have f61 := f6 1
            have f62 := f6 2
            have f63 := f6 3
            have f64 := f6 4
            clear c6 f6
            have h6' := fill5 (.int .i64 (x.head : Int)) (.slice A1 x.blocks.length a1) (.slice A2 x.latches.length a2) (.slice A3 x.exits.length a3) (.int .i64 x.parent) h6
            have h7' := fill5_other (p := (wr.heap.size + 1)) (.int .i64 (x.head : Int)) (.slice A1 x.blocks.length a1) (.slice A2 x.latches.length a2) (.slice A3 x.exits.length a3) (.int .i64 x.parent) h7 (by omega)
            have HBB : Hid (Below wr.heap.size wr _) := hideI (fill5_below (p := (wr.heap.size + 1)) (.int .i64 (x.head : Int)) (.slice A1 x.blocks.length a1) (.slice A2 x.latches.length a2) (.slice A3 x.exits.length a3) (.int .i64 x.parent) HBA.out (by omega))
            refine wpAnyT_ready (rs := [10]) (by kernel_rfl) (by simp) ?_
            refine AllReadyT.cons rfl (fun K hK => ?_) ?_
            · go_simp
              refine hK.out _ _ (fun _ _ => HSS.out _ HBB.out) ?_
              clear hK K
              try simp only [Act.put, List.setIfInBounds_toArray, List.set_cons_zero, List.set_cons_succ]
              obtain ⟨wb, hwb⟩ : ∃ wb, wb = (((((wa).setCell ⟨(wr.heap.size + 1), 0, none⟩ (.int .i64 (x.head : Int))).setCell ⟨(wr.heap.size + 1), 1, none⟩ (.slice A1 x.blocks.length a1)).setCell ⟨(wr.heap.size + 1), 2, none⟩ (.slice A2 x.latches.length a2)).setCell ⟨(wr.heap.size + 1), 3, none⟩ (.slice A3 x.exits.length a3)).setCell ⟨(wr.heap.size + 1), 4, none⟩ (.int .i64 x.parent) := ⟨_, rfl⟩
              have HBB2 : Hid (Below wr.heap.size wr wb) := by rw [hwb]; exact HBB
              rw [← hwb] at h6' h7' ⊢
              clear hwb HBB c60 c61 c62 c63 c64 f60 f61 f62 f63 f64 h6 h7
              have c7 := row_cells h7' rfl
              have f7 := free_rowN h7' rfl
              have c70 := c7 0
              have c71 := c7 1
              have c72 := c7 2
              have c73 := c7 3
              have c74 := c7 4
              have f70 := f7 0
              have f71 := f7 1
              have f72 := f7 2
              have f73 := f7 3
              have f74 := f7 4
              clear c7 f7
              have h7'' := fill5 (.int .i64 (x.head : Int)) (.slice B1' x.blocks.length e1) (.slice B2' x.latches.length e2) (.slice B3 x.exits.length e3) (.int .i64 x.parent) h7'
              have h6'' := fill5_other (p := wr.heap.size) (.int .i64 (x.head : Int)) (.slice B1' x.blocks.length e1) (.slice B2' x.latches.length e2) (.slice B3 x.exits.length e3) (.int .i64 x.parent) h6' (by omega)
              have HBC : Hid (Below wr.heap.size wr _) := hideI (fill5_below (p := wr.heap.size) (.int .i64 (x.head : Int)) (.slice B1' x.blocks.length e1) (.slice B2' x.latches.length e2) (.slice B3 x.exits.length e3) (.int .i64 x.parent) HBB2.out (by omega))
              have H6 := hideI h6''
              have H7 := hideI h7''
              refine wpAnyT_ready (rs := [11]) (by kernel_rfl) (by simp) ?_
              refine AllReadyT.cons rfl (fun K hK => ?_) ?_
              · go_simp
                refine hK.out _ _ (fun _ _ => HSS.out _ HBC.out) ?_
                clear hK K
                try simp only [Act.put, List.setIfInBounds_toArray, List.set_cons_zero, List.set_cons_succ]
                refine wpAnyT_done (by kernel_rfl) ?_ _
                go_wp2_with fail
                go_meet
                exact ⟨_, _, rfl, rfl, H6, H7, HBC⟩
              · exact AllReadyT.nil
            · exact AllReadyT.nil
          · exact AllReadyT.nil
        exact AllReadyT.nil
      case rest =>
        obtain ⟨p6, p7, rfl, rfl, H6, H7, HBc⟩ := hcut
        have HBR := hideI (HBr.out.trans (HBc.out.mono HBr.out.size))
        have n0 : ((x.head : Int) != (x.head : Int)) = false := by simp
        have n4 : (x.parent != x.parent) = false := by simp
        have hx := row_cells H6.out rfl
        have q60 := hx 0
        have q61 := hx 1
        have q62 := hx 2
        have q63 := hx 3
        have q64 := hx 4
        clear hx
        have hx := row_cells H7.out rfl
        have q70 := hx 0
        have q71 := hx 1
        have q72 := hx 2
        have q73 := hx 3
        have q74 := hx 4
        clear hx hS0
        go_wp2_with (first
          | (go_at_call_of 23 (Value.slice A1 x.blocks.length a1); go_must (refine (sameInts_any _ w.heap.size _ _ _ _ (HI1.out.keep HBR.out) (HJ1.out.keep HBR.out)).mono ?_); rintro e z1 ⟨rfl, m1, hz1⟩; rw [beq_self_eq_true]; have hb := drewN_le9 w.heap.size hz1; have hh := (congrArg World.heap hz1).trans (drewN_heap9 _ _); replace H6 := hideI (heap_same9 hh H6.out); replace H7 := hideI (heap_same9 hh H7.out); replace HBR := hideI (HBR.out.trans hb); clear hb hh hz1 q60 q61 q62 q63 q64 q70 q71 q72 q73 q74; have hx := row_cells H6.out rfl; have q60 := hx 0; have q61 := hx 1; have q62 := hx 2; have q63 := hx 3; have q64 := hx 4; clear hx; have hx := row_cells H7.out rfl; have q70 := hx 0; have q71 := hx 1; have q72 := hx 2; have q73 := hx 3; have q74 := hx 4; clear hx)
          | (go_at_call_of 23 (Value.slice A2 x.latches.length a2); go_must (refine (sameInts_any _ w.heap.size _ _ _ _ (HI2.out.keep HBR.out) (HJ2.out.keep HBR.out)).mono ?_); rintro e z2 ⟨rfl, m2, hz2⟩; rw [beq_self_eq_true]; have hb := drewN_le9 w.heap.size hz2; have hh := (congrArg World.heap hz2).trans (drewN_heap9 _ _); replace H6 := hideI (heap_same9 hh H6.out); replace H7 := hideI (heap_same9 hh H7.out); replace HBR := hideI (HBR.out.trans hb); clear hb hh hz2 q60 q61 q62 q63 q64 q70 q71 q72 q73 q74; have hx := row_cells H6.out rfl; have q60 := hx 0; have q61 := hx 1; have q62 := hx 2; have q63 := hx 3; have q64 := hx 4; clear hx; have hx := row_cells H7.out rfl; have q70 := hx 0; have q71 := hx 1; have q72 := hx 2; have q73 := hx 3; have q74 := hx 4; clear hx)
          | (go_at_call_of 23 (Value.slice A3 x.exits.length a3); go_must (refine (sameInts_any _ w.heap.size _ _ _ _ (HI3.out.keep HBR.out) (HJ3.out.keep HBR.out)).mono ?_); rintro e z3 ⟨rfl, m3, hz3⟩; rw [beq_self_eq_true]; have hb := drewN_le9 w.heap.size hz3; have hh := (congrArg World.heap hz3).trans (drewN_heap9 _ _); replace H6 := hideI (heap_same9 hh H6.out); replace H7 := hideI (heap_same9 hh H7.out); replace HBR := hideI (HBR.out.trans hb); clear hb hh hz3 q60 q61 q62 q63 q64 q70 q71 q72 q73 q74; have hx := row_cells H6.out rfl; have q60 := hx 0; have q61 := hx 1; have q62 := hx 2; have q63 := hx 3; have q64 := hx 4; clear hx; have hx := row_cells H7.out rfl; have q70 := hx 0; have q71 := hx 1; have q72 := hx 2; have q73 := hx 3; have q74 := hx 4; clear hx))
        refine ⟨⟨i + 1, hlt, rfl, HBR⟩, ?_⟩
        simp only [intOf]
        omega
    · go_wp2_with fail
      go_ret
      exact ⟨rfl, HBr.out⟩

end Go.Proofs.Ytglbepdjahddmaa

namespace Go.Proofs.Ytglbepdjahddmaa
open Go.RowKit

theorem visit_exists {succ : Nat → List Nat} {n : Nat} (hs : ∀ b, ∀ t ∈ succ b, t < n) : ∀ (k : Nat) (l bg dn : List Nat), bg.Nodup → (∀ x ∈ bg, x < n) → (∀ x ∈ l, x < n) → n ≤ bg.length + k → ∃ bg' dn', Visit succ l (bg, dn) (bg', dn') := by
  intro k
  induction k with
  | zero =>
    intro l
    induction l with
    | nil => exact fun bg dn _ _ _ _ => ⟨bg, dn, .nil _⟩
    | cons t r ih =>
      intro bg dn h1 h2 h3 h4
      by_cases ht : t ∈ bg
      · obtain ⟨b, d, v⟩ := ih bg dn h1 h2 (fun x hx => h3 x (List.mem_cons_of_mem _ hx)) h4
        exact ⟨b, d, .skip ht v⟩
      · have := below_len n (t :: bg) (List.nodup_cons.2 ⟨ht, h1⟩) (fun x hx => by rcases List.mem_cons.1 hx with rfl | hx; exact h3 _ (List.mem_cons_self ..); exact h2 x hx)
        rw [List.length_cons] at this
        omega
  | succ k ihk =>
    intro l
    induction l with
    | nil => exact fun bg dn _ _ _ _ => ⟨bg, dn, .nil _⟩
    | cons t r ih =>
      intro bg dn h1 h2 h3 h4
      by_cases ht : t ∈ bg
      · obtain ⟨b, d, v⟩ := ih bg dn h1 h2 (fun x hx => h3 x (List.mem_cons_of_mem _ hx)) h4
        exact ⟨b, d, .skip ht v⟩
      · have hb : ∀ x ∈ t :: bg, x < n := fun x hx => by rcases List.mem_cons.1 hx with rfl | hx; exact h3 _ (List.mem_cons_self ..); exact h2 x hx
        obtain ⟨b1, d1, v1⟩ := ihk (succ t) (t :: bg) dn (List.nodup_cons.2 ⟨ht, h1⟩) hb (hs t) (by rw [List.length_cons]; omega)
        obtain ⟨new, d⟩ := v1.did
        have hnew : ∀ x ∈ new, x < n := fun x hx => by
          obtain ⟨i, hi⟩ := List.getElem?_of_mem hx
          rcases d.from_ i x hi with h | ⟨_, y, _, _, h⟩
          · exact hs t x h
          · exact hs y x h
        have hlen := d.len
        simp only [List.length_cons] at hlen
        obtain ⟨b2, d2, v2⟩ := ih b1 (d1 ++ [t]) (d.keepsNodup (List.nodup_cons.2 ⟨ht, h1⟩)) (fun x hx => by
          rcases (d.begun x).1 hx with h | h
          · exact hb x h
          · exact hnew x h) (fun x hx => h3 x (List.mem_cons_of_mem _ hx)) (by omega)
        exact ⟨b2, d2, .go ht v1 v2⟩

/-- every right function has an order -/
theorem order_exists {f : FuncM} (h0 : (lookM f).1 = 0) : ∃ o, OrderIs f.blocks o := by
  have hin := look_ends h0
  have hnb := (look_some_block h0).1
  have hs : ∀ b, ∀ t ∈ succM f.blocks b, t < f.blocks.length := fun b t ht => by
    unfold succM at ht
    split at ht
    · rename_i q hq
      obtain ⟨x, hx, rfl⟩ := List.mem_map.1 ht
      have := hin q (List.mem_of_getElem? hq) x hx
      omega
    · cases ht
  obtain ⟨bg, dn, v⟩ := visit_exists hs f.blocks.length (succM f.blocks 0) [0] [] (by simp) (fun x hx => by simp at hx; omega) (hs 0) (by omega)
  exact ⟨_, bg, dn, v, rfl⟩

end Go.Proofs.Ytglbepdjahddmaa
