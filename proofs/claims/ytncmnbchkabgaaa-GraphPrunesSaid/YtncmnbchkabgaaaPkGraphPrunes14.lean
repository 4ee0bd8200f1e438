/- What GraphPrunes rests on, part 14: RPrune, AwakeM, AwakeN, Awake3. -/
import Derived.Test.YtncmnbchkabgaaaPkGraphPrunes13

namespace Go.Proofs.Ytncmnbchkabgaaa
open Go.RowKit Go.Maps

set_option maxRecDepth 100000 in
set_option maxHeartbeats 4000000 in
theorem refPrune_no (f : FuncM) (B : Nat) (pv bv : Value) (w : World) (hpv : Ints w B pv f.params) (hbv : BlocksR w B bv f.blocks) (hB : B ≤ w.heap.size) (h0 : (lookM f).1 ≠ 0) :
    Calls Try.prog 6 #[.agg #[pv, .int .i64 f.arrays, .int .i64 f.cells, bv]] w (GPrunePost f w) := by
  have HP := hideI hpv
  have HBL := hideI hbv
  obtain ⟨P, pc, rfl, _⟩ := hpv
  obtain ⟨A, c, rfl, _, _⟩ := hbv
  obtain ⟨W0, hW0⟩ : ∃ W0, W0 = (w.alloc (.cells #[.slice P f.params.length pc, .int .i64 f.arrays, .int .i64 f.cells, .slice A f.blocks.length c] 25)).alloc (.cells #[.slice none 0 0, .int .i64 0, .int .i64 0, .slice none 0 0] 25) := ⟨_, rfl⟩
  have hst0 := ((OwnC.nothing w (fun _ => none) (fun _ => .slice none 0 0)).make #[.slice P f.params.length pc, .int .i64 f.arrays, .int .i64 f.cells, .slice A f.blocks.length c] 25).make #[.slice none 0 0, .int .i64 0, .int .i64 0, .slice none 0 0] 25
  rw [← hW0] at hst0
  simp only [World.size_alloc] at hst0
  have HST := hideI hst0
  have HW0 := hideI hW0
  have HKB : Hid (∀ W, Below w.heap.size w W → Keeps B w W) := hideI fun W hW => Keeps.of_below (hW.mono hB)
  have hb0 : ((lookM f).1 != 0) = true := by simpa using h0
  have hbx := HST.out.box (List.mem_cons_of_mem _ (List.mem_cons_self ..))
  have b0 : W0.cell? ⟨w.heap.size, 0, none⟩ = some (.slice P f.params.length pc) := (hbx 0).1
  have b1 : W0.cell? ⟨w.heap.size, 1, none⟩ = some (.int .i64 f.arrays) := (hbx 1).1
  have b2 : W0.cell? ⟨w.heap.size, 2, none⟩ = some (.int .i64 f.cells) := (hbx 2).1
  have b3 : W0.cell? ⟨w.heap.size, 3, none⟩ = some (.slice A f.blocks.length c) := (hbx 3).1
  have H0 := hideI h0
  clear hst0 hW0 h0 hbx
  go_enter Try.func6, Try.ntmps6
  go_upto_region 1 with fail
  rw [← HW0.out]
  go_wp2_with (first
    | (go_at_call 14; go_loud (refine (refCheck_any f B _ _ W0 (HP.out.keeps (HKB.out _ HST.out.below)) (HBL.out.keeps (HKB.out _ HST.out.below)) (Nat.le_trans hB HST.out.below.size)).mono ?_; rintro e w1 ⟨rfl, hb⟩; have HS1 := hideI (HST.out.grows hb); have hrr := HS1.out.box (List.mem_cons_self ..); have s0 : w1.cell? ⟨w.heap.size + 1, 0, none⟩ = some (.slice none 0 0) := (hrr 0).1; have s1 : w1.cell? ⟨w.heap.size + 1, 1, none⟩ = some (.int .i64 0) := (hrr 1).1; have s2 : w1.cell? ⟨w.heap.size + 1, 2, none⟩ = some (.int .i64 0) := (hrr 2).1; have s3 : w1.cell? ⟨w.heap.size + 1, 3, none⟩ = some (.slice none 0 0) := (hrr 3).1; have g0 := (hrr 0).2; have g1 := (hrr 1).2; have g2 := (hrr 2).2; have g3 := (hrr 3).2; clear hb hrr b0 b1 b2 b3)))
  refine bodyPost_ret (v := .tuple #[.agg #[.slice none 0 0, .int .i64 0, .int .i64 0, .slice none 0 0], .int .i64 (lookM f).1]) (by simp [results, Try.results6, go_sem, s0, s1, s2, s3]) rfl (.inl ⟨(lookM f).1, H0.out, .inl ⟨H0.out, rfl⟩, rfl, ?_⟩)
  exact (((HS1.out.below.setCell (by simp) _).setCell (by simp) _).setCell (by simp) _).setCell (by simp) _

set_option maxRecDepth 100000 in
set_option maxHeartbeats 16000000 in
theorem refPrune_yes (f : FuncM) (o : List Nat) (B : Nat) (pv bv : Value) (w : World) (hpv : Ints w B pv f.params) (hbv : BlocksR w B bv f.blocks) (hB : B ≤ w.heap.size) (h0 : (lookM f).1 = 0) (ho : OrderIs f.blocks o) :
    Calls Try.prog 6 #[.agg #[pv, .int .i64 f.arrays, .int .i64 f.cells, bv]] w (GPrunePost f w) := by
  have HP := hideI hpv
  have HBL := hideI hbv
  have HFT : Hid (FnFits f) := BlocksR.fits hbv
  have hs := look_small h0
  have hnb := look_512 h0
  have hnpos := (look_some_block h0).1
  obtain ⟨P, pc, rfl, _⟩ := hpv
  obtain ⟨A, c, rfl, _, hbm⟩ := hbv
  obtain ⟨nb, hnbe⟩ : ∃ nb, nb = f.blocks.length := ⟨_, rfl⟩
  obtain ⟨np, hnpe⟩ : ∃ np, np = f.params.length := ⟨_, rfl⟩
  obtain ⟨S, hSe⟩ : ∃ S, S = inO o := ⟨_, rfl⟩
  obtain ⟨fP, hfP⟩ : ∃ fP, fP = pruneM S f := ⟨_, rfl⟩
  have hSR : ∀ x, S x = true ↔ ReachW f.blocks (-1) x := fun x => by
    rw [hSe]
    unfold inO
    rw [decide_eq_true_iff]
    exact ho.reach x
  obtain ⟨W0, hW0⟩ : ∃ W0, W0 = (w.alloc (.cells #[.slice P np pc, .int .i64 f.arrays, .int .i64 f.cells, .slice A nb c] 25)).alloc (.cells #[.slice none 0 0, .int .i64 0, .int .i64 0, .slice none 0 0] 25) := ⟨_, rfl⟩
  have hst0 := ((OwnC.nothing w (fun _ => none) (fun _ => .slice none 0 0)).make #[.slice P np pc, .int .i64 f.arrays, .int .i64 f.cells, .slice A nb c] 25).make #[.slice none 0 0, .int .i64 0, .int .i64 0, .slice none 0 0] 25
  rw [← hW0] at hst0
  simp only [World.size_alloc] at hst0
  have HST := hideI hst0
  have HW0 := hideI hW0
  have HKB : Hid (∀ W, Below w.heap.size w W → Keeps B w W) := hideI fun W hW => Keeps.of_below (hW.mono hB)
  have HFX : Hid (∀ W, Below W0.heap.size W0 W → (W.cell? ⟨w.heap.size, 0, none⟩ = some (.slice P np pc) ∧ W.cell? ⟨w.heap.size, 1, none⟩ = some (.int .i64 f.arrays) ∧ W.cell? ⟨w.heap.size, 2, none⟩ = some (.int .i64 f.cells) ∧ W.cell? ⟨w.heap.size, 3, none⟩ = some (.slice A nb c)) ∧ (∀ o, W.cell? ⟨w.heap.size + 1, o, none⟩ = (#[.slice none 0 0, .int .i64 0, .int .i64 0, .slice none 0 0] : Array Value)[o]?) ∧ (∀ o, W.frozen? ⟨w.heap.size + 1, o, none⟩ = false) ∧ Below w.heap.size w W) := hideI fun W hW => by
    have h := hst0.grows hW
    have hbx := h.box (List.mem_cons_of_mem _ (List.mem_cons_self ..))
    have hrr := h.box (List.mem_cons_self ..)
    exact ⟨⟨(hbx 0).1, (hbx 1).1, (hbx 2).1, (hbx 3).1⟩, fun o => (hrr o).1, fun o => (hrr o).2, h.below⟩
  obtain ⟨⟨b0, b1, b2, b3⟩, _⟩ := HFX.out W0 (Below.refl _ _)
  have HBM := hideI hbm
  have H0 := hideI h0
  have HS := hideI hs
  have HN := hideI (And.intro hnbe hnpe)
  have HSE := hideI hSe
  have HFP := hideI hfP
  have HSR := hideI hSR
  have HOR := hideI ho
  have HNB : Hid (0 < f.blocks.length ∧ f.blocks.length ≤ 512) := hideI ⟨hnpos, hnb⟩
  have hn1 : 0 < nb := by omega
  have hn5 : nb ≤ 512 := by omega
  have h0s : w.heap.size ≤ W0.heap.size := hst0.below.size
  rw [← hnbe] at HBL
  rw [← hnpe] at HP
  rw [← hnbe, ← hnpe]
  clear hst0 hW0 h0 hs hnb hnpos hbm hnbe hnpe hSe hfP hSR ho
  go_enter Try.func6, Try.ntmps6
  go_upto_region 1 with fail
  rw [← HW0.out]
  go_upto_region 8 with (first
    | (go_at_call 14; go_loud (refine (refCheck_any f B _ _ W0 (HP.out.keeps (HKB.out _ HST.out.below)) (HBL.out.keeps (HKB.out _ HST.out.below)) (Nat.le_trans hB HST.out.below.size)).mono ?_; rw [H0.out]; rintro e w1 ⟨rfl, hb⟩; have HB1 := hideI hb; clear b0 b1 b2 b3; (obtain ⟨⟨b0, b1, b2, b3⟩, _⟩ := HFX.out w1 HB1.out); clear hb))
    | (go_at_call 15; go_loud (refine (refWithout_any f.blocks B _ _ _ _ (-1) w1 (HBL.out.keeps (HKB.out _ (HFX.out _ HB1.out).2.2.2)) (Nat.le_trans hB (HFX.out _ HB1.out).2.2.2.size) HNB.out.1 HNB.out.2 (look_ends H0.out) (by decide)).mono ?_; rintro e w2 ⟨S', gc, rfl, hS', hown2, hb⟩; have HB2 := hideI (HB1.out.trans (hb.mono HB1.out.size)); have hcm : ∀ b, b < nb → w2.cell? ⟨gc, b, none⟩ = some (.bool (S b)) := (fun b hb => by rw [World.ownsRow.cellAt hown2 b (by have := HN.out.1; omega), marks_at (by have := HN.out.1; omega)]; congr 2; rw [Bool.eq_iff_iff, decide_eq_true_iff, hS', HSR.out]); have HCM2 := hideI hcm; have hgc : gc < w2.heap.size := (hown2.lt gc rfl).2; rw [← HN.out.1]; clear hS' hown2 hcm hb b0 b1 b2 b3)))
  obtain ⟨W3, hW3⟩ : ∃ W3, W3 = w2.alloc (.cells #[] 3) := ⟨_, rfl⟩
  obtain ⟨gn, hgn⟩ : ∃ g, g = w2.heap.size := ⟨_, rfl⟩
  have hw23 : Below w2.heap.size w2 W3 := by rw [hW3]; exact (Below.refl _ w2).alloc (Nat.le_refl _) _
  have HO1 : Hid (W3.ownsRow w2.heap.size 3 1 (.slice (some ⟨gn, 0, none⟩) 0 0) 0 ((numsL S 0).map (Value.int .i64))) := by
    rw [hgn, hW3]
    exact hideI ⟨rfl, .inr ⟨w2.heap.size, 0, #[], rfl, Nat.le_refl _, heap_alloc_new w2 _, Nat.le_refl _, by unfold maxLen; omega, rfl, rfl⟩⟩
  have HB23 := hideI hw23
  rw [← hW3, ← hgn]
  obtain ⟨i0, hix, hz0, hz1, hz2⟩ := info_parts int_info
  clear hw23 hW3 hgn
  go_loopw [6, 7, 8] (fun u6 u7 u8 wr => ∃ (b : Nat) (A : Option Addr) (cn cb : Nat), b ≤ nb ∧ u8 = .int .i64 b ∧ u7 = .int .i64 cb ∧ u6 = .slice A b cn ∧ Hid (cb = cntS S b) ∧ Hid (wr.ownsRow w2.heap.size 3 1 (.slice A b cn) b ((numsL S b).map (Value.int .i64))) ∧ Hid (Below w2.heap.size w2 wr)) (fun _ _ u8 _ => nb - (intOf u8).toNat)
  case atStart => exact ⟨0, some ⟨gn, 0, none⟩, 0, 0, Nat.zero_le _, by go_num, by go_num, rfl, hideI rfl, HO1, HB23⟩
  case round =>
    clear HO1 HB23
    obtain ⟨b, An, cn, cb, hbn, rfl, rfl, rfl, HCB, HO1, HB3⟩ := hrel
    have hcb : cb ≤ b := by rw [HCB.out]; exact cntS_le S b
    have hw3s := HB3.out.size
    by_cases hlt : b < nb
    · have c0 : wr.cell? ⟨gc, b, none⟩ = some (.bool (S b)) := (HB3.out.cell (p := ⟨gc, b, none⟩) hgc).trans (HCM2.out b hlt)
      have hcs : cntS S (b + 1) = cntS S b + if S b then 1 else 0 := rfl
      have HCS := hideI hcs
      clear hcs
      cases hSb : S b with
      | true =>
        rw [hSb] at c0
        have HSB := hideI hSb
        clear hSb
        go_wp2_with (first
          | (at_builtin; go_loud (refine wpList_append_lies _ rfl _ _ _ rfl w2.heap.size 3 i0 (.int .i64 0) 1 8 Try.underlying22 hix hz0 hz1 hz2 rfl (by decide) _ _ _ rfl (HO1.out.alloc _) ⟨wr.heap.size, 0, none⟩ 1 1 [.int .i64 (cb : Int)] rfl rfl (news_at (heap_alloc_new wr _)) (by simp [Value.oneCell']) (by decide) (by simp only [maxLen]; omega) (by omega) (by simp; omega) _ rfl ?_; intro g2 cap2 w8 hown8 hgrow8 hor8 _; have HO2 : Hid (w8.ownsRow w2.heap.size 3 1 (.slice (some ⟨g2, 0, none⟩) (b + 1) cap2) (b + 1) ((numsL S (b + 1)).map (Value.int .i64))) := (by rw [numsL_succ, List.map_append, ← HCB.out]; exact hideI hown8); have HB4 := hideI (Below.grownRow HO1.out HB3.out hgrow8); have c0 : w8.cell? ⟨gc, b, none⟩ = some (.bool true) := (HB4.out.cell (p := ⟨gc, b, none⟩) hgc).trans ((HCM2.out b hlt).trans (by rw [HSB.out])); clear hown8 hgrow8 hor8)))
        go_roundw
        case rel => exact ⟨b + 1, _, _, cb + 1, by omega, by go_num, by go_num, rfl, hideI (by rw [HCS.out, HSB.out, HCB.out]; rfl), HO2, HB4⟩
        case measure => simp [intOf]; omega
      | false =>
        rw [hSb] at c0
        have HSB := hideI hSb
        clear hSb
        go_wp2_with (first
          | (at_builtin; go_loud (refine wpList_append_lies _ rfl _ _ _ rfl w2.heap.size 3 i0 (.int .i64 0) 1 8 Try.underlying22 hix hz0 hz1 hz2 rfl (by decide) _ _ _ rfl (HO1.out.alloc _) ⟨wr.heap.size, 0, none⟩ 1 1 [.int .i64 (cb : Int)] rfl rfl (news_at (heap_alloc_new wr _)) (by simp [Value.oneCell']) (by decide) (by simp only [maxLen]; omega) (by omega) (by simp; omega) _ rfl ?_; intro g2 cap2 w8 hown8 hgrow8 hor8 _; have HO2 : Hid (w8.ownsRow w2.heap.size 3 1 (.slice (some ⟨g2, 0, none⟩) (b + 1) cap2) (b + 1) ((numsL S (b + 1)).map (Value.int .i64))) := (by rw [numsL_succ, List.map_append, ← HCB.out]; exact hideI hown8); have HB4 := hideI (Below.grownRow HO1.out HB3.out hgrow8); have c0 : w8.cell? ⟨gc, b, none⟩ = some (.bool false) := (HB4.out.cell (p := ⟨gc, b, none⟩) hgc).trans ((HCM2.out b hlt).trans (by rw [HSB.out])); clear hown8 hgrow8 hor8)))
        go_roundw
        case rel => exact ⟨b + 1, _, _, cb, by omega, by go_num, by go_num, rfl, hideI (by rw [HCS.out, HSB.out, HCB.out]; rfl), HO2, HB4⟩
        case measure => simp [intOf]; omega
    · have hbe : nb = b := by omega
      subst hbe
      have hAn : ∃ gm, An = some ⟨gm, 0, none⟩ ∧ gm < wr.heap.size := by
        obtain ⟨gm, cap, e, h1, h2⟩ := HO1.out.form hn1
        injection e with e
        exact ⟨gm, e, h2⟩
      obtain ⟨gm, rfl, hgm⟩ := hAn
      obtain ⟨w5, hw5⟩ : ∃ w5 : World, w5 = wr := ⟨_, rfl⟩
      subst hw5
      have HCM : Hid (∀ W, Below w5.heap.size w5 W → ∀ b', b' < nb → W.cell? ⟨gc, b', none⟩ = some (.bool (S b'))) := hideI fun W hW b' hb' => ((hW.cell (p := ⟨gc, b', none⟩) (by show gc < w5.heap.size; omega)).trans (HB3.out.cell (p := ⟨gc, b', none⟩) hgc)).trans (HCM2.out b' hb')
      have HNM : Hid (∀ W, Below w5.heap.size w5 W → ∀ b', b' < nb → W.cell? ⟨gm, b', none⟩ = some (.int .i64 (cntS S b' : Int))) := hideI fun W hW b' hb' => by
        rw [hW.cell (p := ⟨gm, b', none⟩) hgm, World.ownsRow.cellAt HO1.out b' (by omega), List.getElem?_map, numsL_at hb']
        rfl
      have HFX5 : Hid (∀ W, Below w5.heap.size w5 W → Below W0.heap.size W0 W) := hideI fun W hW => HB2.out.trans ((HB3.out.trans (hW.mono hw3s)).mono HB2.out.size)
      have HGC : Hid (gc < w5.heap.size ∧ gm < w5.heap.size ∧ W0.heap.size ≤ w5.heap.size) := hideI ⟨by omega, hgm, by have := HB2.out.size; omega⟩
      obtain ⟨⟨b0, b1, b2, b3⟩, _⟩ := HFX.out w5 (HFX5.out w5 (Below.refl _ _))
      clear HO1 HB3 hcb hw3s hgm hlt hgc
      go_upto_region 13 with fail
      go_upto_region 14 with (first
        | (go_at_call 16; go_loud (refine (copy_any f B _ _ w5 (Nat.le_trans hB (HFX.out w5 (HFX5.out w5 (Below.refl _ _))).2.2.2.size) (HP.out.keeps (HKB.out _ (HFX.out w5 (HFX5.out w5 (Below.refl _ _))).2.2.2)) (HBL.out.keeps (HKB.out _ (HFX.out w5 (HFX5.out w5 (Below.refl _ _))).2.2.2)) (small_copy HS.out)).mono ?_; rintro e w6 ⟨val, rfl, hown6, hb6⟩; have HC := hideI (OwnC.alone hown6 hb6); obtain ⟨PA, pa, hvp⟩ := own_form (HC.out.own.rows .params _ (.inl rfl) rfl); obtain ⟨BA, ba, hvb⟩ := own_form (HC.out.own.rows .blocks _ (.inr (.inl rfl)) rfl); have hvp : val .params = .slice PA np pa := (by rw [hvp, HN.out.2]; try rfl); have hvb : val .blocks = .slice BA nb ba := (by rw [hvb, HN.out.1]; try rfl); rw [hvp, hvb]; have HVP := hideI hvp; clear hvp hvb hown6 hb6 b0 b1 b2 b3)))
      obtain ⟨W7, hW7⟩ : ∃ W7, W7 = w6.alloc (.cells #[.slice PA np pa, .int .i64 f.arrays, .int .i64 f.cells, .slice BA nb ba] 25) := ⟨_, rfl⟩
      have hs7 := HC.out.make #[.slice PA np pa, .int .i64 f.arrays, .int .i64 f.cells, .slice BA nb ba] 25
      obtain ⟨gO, hgO⟩ : ∃ g, g = w6.heap.size := ⟨_, rfl⟩
      rw [← hW7, ← hgO] at hs7
      rw [← hW7, ← hgO]
      have o3 : W7.cell? ⟨gO, 3, none⟩ = some (.slice BA nb ba) := (hs7.box (List.mem_cons_self ..) 3).1
      have o3z := (hs7.box (List.mem_cons_self ..) 3).2
      have HS7 := hideI hs7
      clear hs7 hW7 hgO
      go_upto_region 15 with fail
      have hs8 := HS7.out.store (j := 3) (.slice none 0 0)
      simp only [List.setIfInBounds_toArray, List.set_cons_zero, List.set_cons_succ] at hs8
      obtain ⟨W8, hW8⟩ : ∃ W8, W8 = W7.setCell ⟨gO, 3, none⟩ (.slice none 0 0) := ⟨_, rfl⟩
      rw [← hW8] at hs8
      rw [← hW8]
      have hpp : fP.params = f.params ∧ fP.arrays = f.arrays ∧ fP.cells = f.cells := by rw [HFP.out]; exact ⟨rfl, rfl, rfl⟩
      have hs9 := hs8.congr (D' := fun t => False ∨ t = .params) (row' := upd (rowOf f val) .params (some (intsRow fP.params))) (val' := upd val .params (.slice PA np pa)) (fun t ht => by
        obtain rfl := ht.resolve_left id
        rw [upd_same, hpp.1]
        rfl) (fun t ht => by
        obtain rfl := ht.resolve_left id
        rw [upd_same, HVP.out]) (fun t ht => .inl (ht.resolve_left id))
      obtain ⟨v0, hv1, hv2, hs10⟩ := cp_first (f := fP) hs9
      have HS0 : Hid (OwnC w5 W8 (rowOf (cutB fP (cntS S 0)) v0) v0 (EE (cutB fP (cntS S 0)) (cntS S 0)) [(gO, #[.slice PA np pa, .int .i64 f.arrays, .int .i64 f.cells, v0 .blocks], 25)]) := by
        rw [hv2]
        exact hideI hs10
      have HV1 := hideI hv1
      have HPP := hideI hpp
      clear hs8 hs9 hs10 hW8 HS7 HC hv2 o3 o3z hv1 hpp HVP
      have HPL : Hid (fP.blocks.length ≤ nb) := by
        show fP.blocks.length ≤ nb
        rw [HFP.out, prune_len, HN.out.1]
        exact cntS_le S _
      go_upto_region 16 with fail
      go_loopw [10, 11, 12, 13, 14, 15, 16, 17] (fun u _ _ _ _ _ _ _ wr => ∃ (b : Nat) (v : Vals), b ≤ nb ∧ u = .int .i64 b ∧ Hid (v .params = .slice PA np pa) ∧ Hid (OwnC w5 wr (rowOf (cutB fP (cntS S b)) v) v (EE (cutB fP (cntS S b)) (cntS S b)) [(gO, #[.slice PA np pa, .int .i64 f.arrays, .int .i64 f.cells, v .blocks], 25)])) (fun u _ _ _ _ _ _ _ _ => nb - (intOf u).toNat)
      case atStart => exact ⟨0, v0, Nat.zero_le _, by go_num, HV1, HS0⟩
      case round =>
        clear HV1 HS0
        obtain ⟨b, v, hb, rfl, HVP, HO⟩ := hrel
        by_cases hlt : b < nb
        · have c0 : wr.cell? ⟨gc, b, none⟩ = some (.bool (S b)) := HCM.out _ HO.out.below b hlt
          have hcs : cntS S (b + 1) = cntS S b + if S b then 1 else 0 := rfl
          have HCS := hideI hcs
          clear hcs
          cases hSb : S b with
          | false =>
            rw [hSb] at c0
            have HSB := hideI hSb
            clear hSb
            go_wp2
            exact ⟨⟨b + 1, v, by omega, by go_num, HVP, by rw [HCS.out, HSB.out]; exact HO⟩, by simp [intOf]; omega⟩
          | true =>
            rw [hSb] at c0
            obtain ⟨q, hq⟩ : ∃ q, f.blocks[b]? = some q := ⟨_, List.getElem?_eq_getElem (by rw [← HN.out.1]; exact hlt)⟩
            obtain ⟨g, off, phv, cov, tv, rfl, hg, d0, d1, d2, d3, d4, d5, hph, hco, hto, _⟩ := HBM.out b q hq
            have k1 := HKB.out _ (HFX.out _ (HFX5.out _ HO.out.below)).2.2.2
            have c10 := (k1 _ _ hg).trans d0
            have c11 := (k1 _ _ hg).trans d1
            have c12 := (k1 _ _ hg).trans d2
            have c13 := (k1 _ _ hg).trans d3
            have c14 := (k1 _ _ hg).trans d4
            have c15 := (k1 _ _ hg).trans d5
            obtain ⟨⟨_, _, _, b3⟩, _⟩ := HFX.out _ (HFX5.out _ HO.out.below)
            have hsm := HS.out.each q (List.mem_of_getElem? hq)
            have HSM : Hid (SmallB q) := hideI ⟨hsm.phis, hsm.code, hsm.ends, hsm.fr, hsm.args⟩
            have hqP : fP.blocks[cntS S b]? = some (pruneB (numOf S) q) := by
              rw [HFP.out]
              exact prBlocks_at hSb hq _ (Nat.le_refl _) (by rw [← HN.out.1]; exact hlt)
            have HQP := hideI hqP
            have HSB := hideI hSb
            have HQ := hideI hq
            have HPH := hideI (hph.keeps k1)
            have HCO := hideI (hco.keeps k1)
            have HTO := hideI (hto.keeps k1)
            have hBwr : B ≤ wr.heap.size := Nat.le_trans hB (HFX.out _ (HFX5.out _ HO.out.below)).2.2.2.size
            have hw5r := HO.out.below.size
            have i1 : (0 : Int) ≤ (b : Int) := by omega
            have i2 : (b : Int) < (nb : Int) := by omega
            obtain ⟨wo, hwo⟩ : ∃ wo : World, wo = wr := ⟨_, rfl⟩
            subst hwo
            clear hq hph hco hto d0 d1 d2 d3 d4 d5 hsm hSb hqP k1
            obtain ⟨Pv, pvc, rfl⟩ : ∃ A c, phv = .slice A q.phis.length c := by obtain ⟨A, c, e, _⟩ := HPH.out; exact ⟨A, c, e⟩
            obtain ⟨Cv, cvc, rfl⟩ : ∃ A c, cov = .slice A q.code.length c := by obtain ⟨A, c, e, _⟩ := HCO.out; exact ⟨A, c, e⟩
            obtain ⟨Tv, tvc, rfl⟩ : ∃ A c, tv = .slice A q.term.to.length c := by obtain ⟨A, c, e, _⟩ := HTO.out; exact ⟨A, c, e⟩
            obtain ⟨nph, hnph⟩ : ∃ n, n = q.phis.length := ⟨_, rfl⟩
            obtain ⟨nco, hnco⟩ : ∃ n, n = q.code.length := ⟨_, rfl⟩
            obtain ⟨nto, hnto⟩ : ∃ n, n = q.term.to.length := ⟨_, rfl⟩
            rw [← hnph] at HPH c10
            rw [← hnco] at HCO c11
            rw [← hnto] at HTO c14
            have HNQ := hideI (And.intro hnph (And.intro hnco hnto))
            have hnto5 : nto ≤ 100000 := by rw [hnto]; exact HSM.out.ends
            have hnph5 : nph ≤ 100000 := by rw [hnph]; exact HSM.out.phis
            clear hnph hnco hnto
            go_upto_region 19 with fail
            clear c0
            go_wp2_with fail
            refine (copyBlock_any q B _ _ _ wo hBwr HPH.out HCO.out HTO.out HSM.out).mono ?_
            rintro e w9 ⟨val1, rfl, hown9, hb9⟩
            rw [one_block] at hown9
            obtain ⟨A1, a1, hv1⟩ := own_form (hown9.rows (.phis 0) _ rfl rfl)
            obtain ⟨A2, a2, hv2⟩ := own_form (hown9.rows (.code 0) _ rfl rfl)
            obtain ⟨A3, a3, hv3⟩ := own_form (hown9.rows (.ends 0) _ rfl rfl)
            have hv1 : val1 (.phis 0) = .slice A1 nph a1 := by rw [hv1, HNQ.out.1]; try rfl
            have hv2 : val1 (.code 0) = .slice A2 nco a2 := by rw [hv2, HNQ.out.2.1]; try rfl
            have hv3 : val1 (.ends 0) = .slice A3 nto a3 := by rw [hv3, HNQ.out.2.2]; try rfl
            rw [hv1, hv2, hv3]
            obtain ⟨G0, hG0⟩ : ∃ G0 : FuncM, G0 = ⟨[], 0, 0, [q]⟩ := ⟨_, rfl⟩
            have hqG : G0.blocks[0]? = some q := by rw [hG0]; rfl
            rw [← hG0, ← HNQ.out.1, ← HNQ.out.2.1] at hown9
            have HOX := hideI (OwnC.alone hown9 hb9)
            have hgE : ∃ ge, 0 < nto → A3 = some ⟨ge, 0, none⟩ := by
              by_cases h : 0 < nto
              · obtain ⟨ge, cap, h1, _⟩ := hown9.slice (tp := .ends 0) (d := intsRow q.term.to) rfl (row_ends hqG) (by show 0 < q.term.to.length; rw [← HNQ.out.2.2]; exact h)
                rw [hv3] at h1
                injection h1 with h1
                exact ⟨ge, fun _ => h1⟩
              · exact ⟨0, fun h2 => absurd h2 h⟩
            have hgP : ∃ gp, 0 < nph → A1 = some ⟨gp, 0, none⟩ := by
              by_cases h : 0 < nph
              · obtain ⟨gp, cap, h1, _⟩ := hown9.slice (tp := .phis 0) rfl (row_phis hqG) (by show 0 < q.phis.length; rw [← HNQ.out.1]; exact h)
                rw [hv1] at h1
                injection h1 with h1
                exact ⟨gp, fun _ => h1⟩
              · exact ⟨0, fun h2 => absurd h2 h⟩
            obtain ⟨ge, hgE⟩ := hgE
            obtain ⟨gp, hgP⟩ := hgP
            have HGE := hideI hgE
            have HGP := hideI hgP
            have HV1 := hideI hv1
            have HV2 := hideI hv2
            have HV3 := hideI hv3
            have HQG := hideI hqG
            have HG0 := hideI hG0
            clear hown9 hb9 hgE hgP hv1 hv2 hv3 hqG hG0 c10 c11 c12 c13 c14 c15 b3
            go_upto_region 20 with fail
            obtain ⟨Wx, hWx⟩ : ∃ Wx, Wx = w9.alloc (.cells #[.slice A1 nph a1, .slice A2 nco a2, .int .i64 q.term.op, .int .i64 q.term.val, .slice A3 nto a3, .int .i64 q.term.n] 46) := ⟨_, rfl⟩
            have hsx := HOX.out.make #[.slice A1 nph a1, .slice A2 nco a2, .int .i64 q.term.op, .int .i64 q.term.val, .slice A3 nto a3, .int .i64 q.term.n] 46
            obtain ⟨gx, hgx⟩ : ∃ g, g = w9.heap.size := ⟨_, rfl⟩
            rw [← hWx, ← hgx] at hsx
            rw [← hWx, ← hgx]
            obtain ⟨xc, hxc⟩ : ∃ xc : Array Value, xc = #[.slice A1 nph a1, .slice A2 nco a2, .int .i64 q.term.op, .int .i64 q.term.val, .slice A3 nto a3, .int .i64 q.term.n] := ⟨_, rfl⟩
            rw [← hxc] at hsx
            have HSX : Hid (OwnC wo Wx (rowOf (endsTo (numOf S) 0 0 G0) val1) val1 (CbD nph nco) [(gx, xc, 46)]) := by rw [endsTo_zero]; exact hideI hsx
            have HXC := hideI hxc
            have HXB : Hid (∀ W row vv D, OwnC wo W row vv D [(gx, xc, 46)] → W.cell? ⟨gx, 0, none⟩ = some (.slice A1 nph a1) ∧ W.cell? ⟨gx, 4, none⟩ = some (.slice A3 nto a3)) := hideI fun W row vv D h => by
              have hx := h.box (List.mem_cons_self ..)
              rw [hxc] at hx
              exact ⟨(hx 0).1, (hx 4).1⟩
            have HQR : Hid (∀ x ∈ q.term.to, ∃ t : Nat, x = t ∧ t < nb ∧ S t = true) := hideI fun x hx => by
              have hl := look_ends H0.out q (List.mem_of_getElem? HQ.out) x hx
              refine ⟨x.toNat, by omega, by have := HN.out.1; omega, (HSR.out _).2 (.step ((HSR.out b).1 HSB.out) ?_ (by omega))⟩
              unfold succM
              rw [HQ.out]
              exact List.mem_map.2 ⟨x, hx, rfl⟩
            have HQF : Hid (∀ p ∈ q.phis, p.vals.length = p.fr.length ∧ p.fr.length ≤ 512 ∧ ∀ x ∈ p.fr, ∃ t : Nat, x = t ∧ t < nb) := hideI fun p hp => by
              have h2 := ((formed_all (look_formed H0.out)).1 q (List.mem_of_getElem? HQ.out)).1 p hp
              unfold phiB at h2
              simp only [Bool.and_eq_true, beq_iff_eq] at h2
              have h3 := once_len h2.2.2
              have h4 := (once_nodup _ [] h2.2.2).2.1
              exact ⟨h2.2.1, by have := HNB.out.2; omega, fun x hx => by
                have h5 := h4 x hx
                exact ⟨x.toNat, by omega, by have := HN.out.1; omega⟩⟩
            clear hsx hWx hgx hxc HOX
            go_upto_region 21 with fail
            go_loopw [12] (fun u wi => ∃ i : Nat, i ≤ nto ∧ u = .int .i64 i ∧ Hid (OwnC wo wi (rowOf (endsTo (numOf S) 0 i G0) val1) val1 (CbD nph nco) [(gx, xc, 46)])) (fun u _ => nto - (intOf u).toNat)
            case atStart => exact ⟨0, Nat.zero_le _, by go_num, HSX⟩
            case round =>
              clear HSX
              obtain ⟨i, hi, rfl, HSX⟩ := hrel
              obtain ⟨_, x4⟩ := HXB.out _ _ _ _ HSX.out
              by_cases hlti : i < nto
              · obtain ⟨x, hx⟩ : ∃ x, q.term.to[i]? = some x := ⟨_, List.getElem?_eq_getElem (by rw [← HNQ.out.2.2]; exact hlti)⟩
                obtain ⟨tx, rfl, htx, hStx⟩ := HQR.out x (List.mem_of_getElem? hx)
                obtain rfl := HGE.out (by omega)
                have hqi := endsTo_block (num := numOf S) (k := i) HQG.out
                have hce := HSX.out.own.cell (tp := .ends 0) (j := i) rfl (row_ends hqi) (n := nto) (by rw [HV3.out]) (by show (endsB _ _ _).term.to.length = nto; rw [endsB_len, ← HNQ.out.2.2]) (by show _ < nto * 1; omega)
                have y1 : wr.cell? ⟨ge, i, none⟩ = some (.int .i64 (tx : Int)) := hce.1.trans (by show ((endsB (numOf S) i q).term.to.map (Value.int .i64))[i]? = _; rw [List.getElem?_map, endsB_at hx]; rfl)
                have y2 := hce.2
                have y3 : wr.cell? ⟨gm, tx, none⟩ = some (.int .i64 (cntS S tx : Int)) := HNM.out _ (HO.out.below.trans (HSX.out.below.mono hw5r)) tx htx
                obtain ⟨cx, hcx⟩ : ∃ cx, cx = cntS S tx := ⟨_, rfl⟩
                rw [← hcx] at y3
                have HNX : Hid ((cx : Int) = numOf S (tx : Int)) := hideI (by rw [numOf_yes hStx, hcx])
                have HSE : Hid (OwnC wo (wr.drew.setCell ⟨ge, i, none⟩ (.int .i64 (cx : Int))) (rowOf (endsTo (numOf S) 0 (i + 1) G0) val1) val1 (CbD nph nco) [(gx, xc, 46)]) := by
                  have h1 := (OwnC.grows HSX.out (Below.refl _ _).drew).putEndD (j := i) (mid := (cx : Int)) rfl hqi (cap := a3) (ge := ge) (by rw [HV3.out, endsB_len, ← HNQ.out.2.2])
                  rw [HNX.out, endsTo_next HQG.out hx] at h1
                  rw [HNX.out]
                  exact hideI h1
                clear hx hqi hce hcx hStx HSX
                go_upto_region 23 with fail
                have hS0 : wr.drew.cell? ⟨gx, 4, none⟩ = some (.slice (some ⟨ge, 0, none⟩) nto a3) ∧ wr.drew.cell? ⟨ge, i, none⟩ = some (.int .i64 (tx : Int)) ∧ wr.drew.cell? ⟨gm, tx, none⟩ = some (.int .i64 (cx : Int)) := ⟨x4, y1, y3⟩
                refine wp_region_late (by kernel_rfl) (fun W => W.cell? ⟨gx, 4, none⟩ = some (.slice (some ⟨ge, 0, none⟩) nto a3) ∧ W.cell? ⟨ge, i, none⟩ = some (.int .i64 (tx : Int)) ∧ W.cell? ⟨gm, tx, none⟩ = some (.int .i64 (cx : Int))) [14] ?_
                refine wpAnyT_quiet (i := 0) (v := ?_) rfl (by kernel_rfl) (by kernel_rfl) (by kernel_rfl) (fun _ _ _ h => h) (Or.inl ⟨by rfl, ?_⟩) ?_
                rotate_left
                · (intro w; go_simp; try with_reducible rfl)
                try simp only [Act.put, List.setIfInBounds_toArray, List.set_cons_zero, List.set_cons_succ]
                refine wpAnyT_quiet (i := 1) (v := ?_) rfl (by kernel_rfl) (by kernel_rfl) (by kernel_rfl) (fun _ _ _ h => h) (Or.inl ⟨by rfl, ?_⟩) ?_
                rotate_left
                · (intro w; go_simp; try with_reducible rfl)
                try simp only [Act.put, List.setIfInBounds_toArray, List.set_cons_zero, List.set_cons_succ]
                refine wpAnyT_take [14] (i := 2) (v := ?_) rfl (by kernel_rfl) (by kernel_rfl) (by kernel_rfl) (by kernel_rfl) (by kernel_rfl) (by kernel_rfl) (fun _ _ _ h => h) hS0 (Or.inl ⟨by rfl, ?_⟩) ?_
                rotate_left
                · (intro w hSw; go_split_ands; go_simp; try with_reducible rfl)
                try simp only [Act.put, List.setIfInBounds_toArray, List.set_cons_zero, List.set_cons_succ]
                refine wpAnyT_quiet (i := 3) (v := ?_) rfl (by kernel_rfl) (by kernel_rfl) (by kernel_rfl) (fun _ _ _ h => h) (Or.inl ⟨by rfl, ?_⟩) ?_
                rotate_left
                · (intro w; go_simp; try with_reducible rfl)
                try simp only [Act.put, List.setIfInBounds_toArray, List.set_cons_zero, List.set_cons_succ]
                refine wpAnyT_quiet (i := 4) (v := ?_) rfl (by kernel_rfl) (by kernel_rfl) (by kernel_rfl) (fun _ _ _ h => h) (Or.inl ⟨by rfl, ?_⟩) ?_
                rotate_left
                · (intro w; go_simp; try with_reducible rfl)
                try simp only [Act.put, List.setIfInBounds_toArray, List.set_cons_zero, List.set_cons_succ]
                refine wpAnyT_quiet (i := 5) (v := ?_) rfl (by kernel_rfl) (by kernel_rfl) (by kernel_rfl) (fun _ _ _ h => h) (Or.inl ⟨by rfl, ?_⟩) ?_
                rotate_left
                · (intro w; go_simp; try with_reducible rfl)
                try simp only [Act.put, List.setIfInBounds_toArray, List.set_cons_zero, List.set_cons_succ]
                refine wpAnyT_quiet (i := 6) (v := ?_) rfl (by kernel_rfl) (by kernel_rfl) (by kernel_rfl) (fun _ _ _ h => h) (Or.inl ⟨by rfl, ?_⟩) ?_
                rotate_left
                · (intro w; go_simp; try with_reducible rfl)
                try simp only [Act.put, List.setIfInBounds_toArray, List.set_cons_zero, List.set_cons_succ]
                refine wpAnyT_take [14] (i := 7) (v := ?_) rfl (by kernel_rfl) (by kernel_rfl) (by kernel_rfl) (by kernel_rfl) (by kernel_rfl) (by kernel_rfl) (fun _ _ _ h => h) hS0 (Or.inl ⟨by rfl, ?_⟩) ?_
                rotate_left
                · (intro w hSw; go_split_ands; go_simp; try with_reducible rfl)
                try simp only [Act.put, List.setIfInBounds_toArray, List.set_cons_zero, List.set_cons_succ]
                refine wpAnyT_quiet (i := 8) (v := ?_) rfl (by kernel_rfl) (by kernel_rfl) (by kernel_rfl) (fun _ _ _ h => h) (Or.inl ⟨by rfl, ?_⟩) ?_
                rotate_left
                · (intro w; go_simp; try with_reducible rfl)
                try simp only [Act.put, List.setIfInBounds_toArray, List.set_cons_zero, List.set_cons_succ]
                refine wpAnyT_quiet (i := 9) (v := ?_) rfl (by kernel_rfl) (by kernel_rfl) (by kernel_rfl) (fun _ _ _ h => h) (Or.inl ⟨by rfl, ?_⟩) ?_
                rotate_left
                · (intro w; go_simp; try with_reducible rfl)
                try simp only [Act.put, List.setIfInBounds_toArray, List.set_cons_zero, List.set_cons_succ]
                refine wpAnyT_take [14] (i := 10) (v := ?_) rfl (by kernel_rfl) (by kernel_rfl) (by kernel_rfl) (by kernel_rfl) (by kernel_rfl) (by kernel_rfl) (fun _ _ _ h => h) hS0 (Or.inl ⟨by rfl, ?_⟩) ?_
                rotate_left
                · (intro w hSw; go_split_ands; go_simp; try with_reducible rfl)
                try simp only [Act.put, List.setIfInBounds_toArray, List.set_cons_zero, List.set_cons_succ]
                refine wpAnyT_quiet (i := 11) (v := ?_) rfl (by kernel_rfl) (by kernel_rfl) (by kernel_rfl) (fun _ _ _ h => h) (Or.inl ⟨by rfl, ?_⟩) ?_
                rotate_left
                · (intro w; go_simp; try with_reducible rfl)
                try simp only [Act.put, List.setIfInBounds_toArray, List.set_cons_zero, List.set_cons_succ]
                refine wpAnyT_take [14] (i := 12) (v := ?_) rfl (by kernel_rfl) (by kernel_rfl) (by kernel_rfl) (by kernel_rfl) (by kernel_rfl) (by kernel_rfl) (fun _ _ _ h => h) hS0 (Or.inl ⟨by rfl, ?_⟩) ?_
                rotate_left
                · (intro w hSw; go_split_ands; go_simp; try with_reducible rfl)
                try simp only [Act.put, List.setIfInBounds_toArray, List.set_cons_zero, List.set_cons_succ]
                refine wpAnyT_quiet (i := 13) (v := ?_) rfl (by kernel_rfl) (by kernel_rfl) (by kernel_rfl) (fun _ _ _ h => h) (Or.inl ⟨by rfl, ?_⟩) ?_
                rotate_left
                · (intro w; go_simp; try with_reducible rfl)
                try simp only [Act.put, List.setIfInBounds_toArray, List.set_cons_zero, List.set_cons_succ]
                have y4 : wr.drew.cell? ⟨ge, i, none⟩ = some (.int .i64 (tx : Int)) := y1
                have y5 : wr.drew.frozen? ⟨ge, i, none⟩ = false := y2
                refine wpAnyT_ready (rs := [14]) (by kernel_rfl) (by simp) ?_
                refine AllReadyT.cons rfl (fun K hK => ?_) ?_
                · go_simp
                  refine hK.out _ _ (fun h => absurd (by simp) h) ?_
                  clear hK K
                  try simp only [Act.put, List.setIfInBounds_toArray, List.set_cons_zero, List.set_cons_succ]
                  refine wpAnyT_done (by kernel_rfl) ?_ _
                  clear hS0 y1 y2 y3 y4 y5 x4
                  go_wp2
                  exact ⟨⟨i + 1, by omega, by go_num, HSE⟩, by simp [intOf]; omega⟩
                · exact AllReadyT.nil
              · have hie : nto = i := by omega
                subst hie
                obtain ⟨G1, hG1⟩ : ∃ G1, G1 = endsTo (numOf S) 0 nto G0 := ⟨_, rfl⟩
                obtain ⟨qE, hqE⟩ : ∃ qE, qE = endsB (numOf S) nto q := ⟨_, rfl⟩
                have HQ1 : Hid (G1.blocks[0]? = some qE) := hideI (by rw [hG1, hqE]; exact endsTo_block HQG.out)
                have HQE : Hid (qE.phis = q.phis) := hideI (by rw [hqE]; rfl)
                rw [← hG1] at HSX
                have HG1 := hideI (And.intro hG1 hqE)
                have HS4 : Hid (OwnC wo wr (rowOf (phisToF (numOf S) 0 0 G1) val1) val1 (CbD nph nco) [(gx, xc, 46)]) := by rw [phisToF_zero]; exact HSX
                clear hG1 hqE HSX
                go_upto_region 25 with fail
                clear x4 hlti
                go_loopw [13, 14, 15, 16, 17] (fun u _ _ _ _ wi => ∃ (i : Nat) (vp : Vals), i ≤ nph ∧ u = .int .i64 i ∧ Hid (vp (.phis 0) = .slice A1 nph a1 ∧ vp (.code 0) = .slice A2 nco a2 ∧ vp (.ends 0) = .slice A3 nto a3) ∧ Hid (OwnC wo wi (rowOf (phisToF (numOf S) 0 i G1) vp) vp (CbD nph nco) [(gx, xc, 46)])) (fun u _ _ _ _ _ => nph - (intOf u).toNat)
                case atStart => exact ⟨0, val1, Nat.zero_le _, by go_num, hideI ⟨HV1.out, HV2.out, HV3.out⟩, HS4⟩
                case round =>
                  clear HS4
                  obtain ⟨i, vp, hi, rfl, HVV, HSX⟩ := hrel
                  obtain ⟨x0, _⟩ := HXB.out _ _ _ _ HSX.out
                  by_cases hlti : i < nph
                  · obtain ⟨p, hp⟩ : ∃ p, q.phis[i]? = some p := ⟨_, List.getElem?_eq_getElem (by rw [← HNQ.out.1]; exact hlti)⟩
                    obtain ⟨hlen, h512, hfr⟩ := HQF.out p (List.mem_of_getElem? hp)
                    obtain rfl := HGP.out (by omega)
                    obtain ⟨lf, hlf⟩ : ∃ lf, lf = p.fr.length := ⟨_, rfl⟩
                    obtain ⟨G2, hG2⟩ : ∃ G2, G2 = phisToF (numOf S) 0 i G1 := ⟨_, rfl⟩
                    have hq2 := phisToF_block (num := numOf S) (j := i) HQ1.out
                    have hp2 : (phisB (numOf S) i qE).phis[i]? = some p := phisB_at (by rw [HQE.out]; exact hp)
                    obtain ⟨q2, hq2e⟩ : ∃ q2, q2 = phisB (numOf S) i qE := ⟨_, rfl⟩
                    have hl2 : (phisB (numOf S) i qE).phis.length = nph := by rw [phisB_len, HQE.out, ← HNQ.out.1]
                    rw [← hG2, ← hq2e] at hq2
                    rw [← hq2e] at hp2 hl2
                    rw [← hG2] at HSX
                    have HQ2 := hideI hq2
                    have HP2 := hideI hp2
                    have HL2 := hideI hl2
                    have HG2 := hideI (And.intro hG2 hq2e)
                    have HPI := hideI hp
                    have HLF := hideI hlf
                    have HLEN := hideI hlen
                    have HFR := hideI hfr
                    have h512' : lf ≤ 512 := by omega
                    have HK0 := hideI (OwnC.begin2 HSX.out)
                    have i3 : (0 : Int) ≤ (i : Int) := by omega
                    have i4 : (i : Int) < (nph : Int) := by omega
                    clear hp hlen h512 hfr hlf hq2 hp2 hl2 hq2e hG2
                    go_upto_region 29 with fail
                    clear x0
                    obtain ⟨gF, hgF⟩ : ∃ g, g = wr.heap.size := ⟨_, rfl⟩
                    obtain ⟨gV, hgV⟩ : ∃ g, g = gF + 1 := ⟨_, rfl⟩
                    obtain ⟨WK, hWK⟩ : ∃ W, W = (wr.alloc (.cells #[] 3)).alloc (.cells #[] 3) := ⟨_, rfl⟩
                    rw [← hWK, ← hgF, ← hgV]
                    rw [← hWK, ← hgF, ← hgV] at HK0
                    obtain ⟨i1, hjx, hy0, hy1, hy2⟩ := info_parts int_info
                    have HK : Hid (OwnC wo WK (rowK G2 (upd (upd vp (.fr 1 0) (.slice (some ⟨gF, 0, none⟩) 0 0)) (.vals 1 0) (.slice (some ⟨gV, 0, none⟩) 0 0)) (keepF (numOf S) p.fr 0) (keepV (numOf S) p.fr p.vals 0)) (upd (upd vp (.fr 1 0) (.slice (some ⟨gF, 0, none⟩) 0 0)) (.vals 1 0) (.slice (some ⟨gV, 0, none⟩) 0 0)) (DK nph nco) [(gx, xc, 46)]) := HK0
                    have HVK : Hid (∀ F V t, t ≠ .fr 1 0 → t ≠ .vals 1 0 → upd (upd vp (.fr 1 0) F) (.vals 1 0) V t = vp t) := hideI fun F V t h1 h2 => by rw [upd_ne _ _ h2, upd_ne _ _ h1]
                    clear hWK hgF hgV HK0 HSX
                    go_loopw [14, 15, 16, 17] (fun u14 u15 u16 _ wk => ∃ (k la fa va : Nat) (FA VA : Option Addr) (vk : Vals), k ≤ lf ∧ u16 = .int .i64 k ∧ u14 = .slice FA la fa ∧ u15 = .slice VA la va ∧ la ≤ k ∧ Hid (la = (keepF (numOf S) p.fr k).length) ∧ Hid (vk (.fr 1 0) = .slice FA la fa ∧ vk (.vals 1 0) = .slice VA la va ∧ vk (.phis 0) = .slice (some ⟨gp, 0, none⟩) nph a1 ∧ vk (.code 0) = .slice A2 nco a2 ∧ vk (.ends 0) = .slice A3 nto a3) ∧ Hid (OwnC wo wk (rowK G2 vk (keepF (numOf S) p.fr k) (keepV (numOf S) p.fr p.vals k)) vk (DK nph nco) [(gx, xc, 46)])) (fun _ _ u16 _ _ => lf - (intOf u16).toNat)
                    case atStart => exact ⟨0, 0, 0, 0, some ⟨gF, 0, none⟩, some ⟨gV, 0, none⟩, _, Nat.zero_le _, by go_num, rfl, rfl, Nat.le_refl _, hideI rfl, hideI ⟨by rw [upd_ne _ _ (by simp), upd_same], upd_same _ _ _, by rw [HVK.out _ _ _ (by simp) (by simp)]; exact HVV.out.1, by rw [HVK.out _ _ _ (by simp) (by simp)]; exact HVV.out.2.1, by rw [HVK.out _ _ _ (by simp) (by simp)]; exact HVV.out.2.2⟩, HK⟩
                    case round =>
                      clear HK HVK HVV
                      obtain ⟨k, la, fa, va, FA, VA, vk, hk, rfl, rfl, rfl, hla, HLA, HVV, HK⟩ := hrel
                      obtain ⟨x0, _⟩ := HXB.out _ _ _ _ HK.out
                      obtain ⟨F, fc, V, vc, r2, r3, z2, z3, HRF0, HRV0⟩ := HK.out.phiRd HQ2.out HP2.out (rowK_zero (G := G2)) HVV.out.2.2.1 HL2.out HLEN.out (.inl (.inl rfl)) (.inl (.inl ⟨rfl, hlti⟩)) (.inl (.inl ⟨rfl, hlti⟩))
                      rw [← HLF.out] at r2 r3
                      have HRF := hideI HRF0
                      have HRV := hideI HRV0
                      clear HRF0 HRV0
                      by_cases hltk : k < lf
                      · obtain ⟨x, hx⟩ : ∃ x, p.fr[k]? = some x := ⟨_, List.getElem?_eq_getElem (by rw [← HLF.out]; exact hltk)⟩
                        obtain ⟨y, hy⟩ : ∃ y, p.vals[k]? = some y := ⟨_, List.getElem?_eq_getElem (by rw [HLEN.out, ← HLF.out]; exact hltk)⟩
                        obtain ⟨tx, rfl, htx⟩ := HFR.out x (List.mem_of_getElem? hx)
                        obtain ⟨gf, rfl, r4⟩ := HRF.out k _ hx
                        have r5 : wr.cell? ⟨gc, tx, none⟩ = some (.bool (S tx)) := HCM.out _ (HO.out.below.trans (HK.out.below.mono hw5r)) tx htx
                        have i5 : (0 : Int) ≤ (k : Int) := by omega
                        have i6 : (k : Int) < (lf : Int) := by omega
                        have HX := hideI hx
                        have HY := hideI hy
                        clear hx hy z2 z3
                        cases hSx : S tx with
                        | false =>
                          rw [hSx] at r5
                          have HSN : Hid (keepF (numOf S) p.fr (k + 1) = keepF (numOf S) p.fr k ∧ keepV (numOf S) p.fr p.vals (k + 1) = keepV (numOf S) p.fr p.vals k) := hideI ⟨keepF_no HX.out (numOf_no hSx), keepV_no HX.out (numOf_no hSx)⟩
                          clear hSx
                          go_wp2
                          go_roundw
                          case rel => exact ⟨k + 1, la, _, _, _, _, vk, by omega, by go_num, rfl, rfl, by omega, by rw [HSN.out.1]; exact HLA, HVV, by rw [HSN.out.1, HSN.out.2]; exact HK⟩
                          case measure => simp [intOf]; omega
                        | true =>
                          rw [hSx] at r5
                          obtain ⟨cx, hcx⟩ : ∃ cx, cx = cntS S tx := ⟨_, rfl⟩
                          have r6 : wr.cell? ⟨gm, tx, none⟩ = some (.int .i64 (cx : Int)) := by rw [hcx]; exact HNM.out _ (HO.out.below.trans (HK.out.below.mono hw5r)) tx htx
                          have hnx : numOf S (tx : Int) = (cx : Int) := by rw [numOf_yes hSx, hcx]
                          have HSN : Hid (keepF (numOf S) p.fr (k + 1) = keepF (numOf S) p.fr k ++ [(cx : Int)] ∧ keepV (numOf S) p.fr p.vals (k + 1) = keepV (numOf S) p.fr p.vals k ++ [y]) := hideI ⟨by rw [keepF_yes HX.out (by rw [hnx]; omega), hnx], keepV_yes HX.out HY.out (by rw [hnx]; omega)⟩
                          have HOWNF : Hid (wr.ownsRow wo.heap.size 3 1 (.slice FA la fa) la ((keepF (numOf S) p.fr k).map (Value.int .i64))) := by
                            have h := HK.out.own.rows (.fr 1 0) (intsRow (keepF (numOf S) p.fr k)) (.inl (.inr rfl)) (by unfold rowK; rw [if_pos rfl])
                            rw [HVV.out.1] at h
                            have h2 : wr.ownsRow wo.heap.size 3 1 (.slice FA la fa) (keepF (numOf S) p.fr k).length ((keepF (numOf S) p.fr k).map (Value.int .i64)) := h
                            rw [← HLA.out] at h2
                            exact hideI h2
                          have hwk : wo.heap.size ≤ wr.heap.size := HK.out.below.size
                          clear hSx hcx hnx
                          go_upto_region 34 with (first
                            | (at_builtin; go_loud (refine wpList_append_lies _ rfl _ _ _ rfl wo.heap.size 3 i1 (.int .i64 0) 1 8 Try.underlying22 hjx hy0 hy1 hy2 rfl (by decide) _ _ _ rfl (HOWNF.out.alloc _) ⟨wr.heap.size, 0, none⟩ 1 1 [.int .i64 (cx : Int)] rfl rfl (news_at (heap_alloc_new wr _)) (by simp [Value.oneCell']) (by decide) (by simp only [maxLen]; omega) (by omega) (by simp; omega) _ rfl ?_; intro g2 cap2 w8 hown8 hgrow8 hor8 _; have hown8' : w8.ownsRow wo.heap.size 3 1 (.slice (some ⟨g2, 0, none⟩) (la + 1) cap2) (keepF (numOf S) p.fr k ++ [(cx : Int)]).length ((keepF (numOf S) p.fr k ++ [(cx : Int)]).map (Value.int .i64)) := (by rw [List.length_append, List.map_append, ← HLA.out]; exact hown8); have HA := hideI (OwnC.moreF (OwnC.grow (t0 := .fr 1 0) (d := intsRow (keepF (numOf S) p.fr k ++ [(cx : Int)])) (HK.out.grows ((Below.refl _ _).alloc (Nat.le_refl _) _)) (.inl (.inr rfl)) hown8' (by rw [HVV.out.1]; exact hgrow8) rfl (by rw [HVV.out.1]; exact hor8))); clear hown8 hown8' hgrow8 hor8)))
                          clear x0 r2 r3 r4 r5 r6
                          obtain ⟨v2, hv2⟩ : ∃ v2, v2 = upd vk (.fr 1 0) (.slice (some ⟨g2, 0, none⟩) (la + 1) cap2) := ⟨_, rfl⟩
                          rw [← hv2] at HA
                          have HV2' : Hid (v2 (.fr 1 0) = .slice (some ⟨g2, 0, none⟩) (la + 1) cap2 ∧ v2 (.vals 1 0) = .slice VA la va ∧ v2 (.phis 0) = .slice (some ⟨gp, 0, none⟩) nph a1 ∧ v2 (.code 0) = .slice A2 nco a2 ∧ v2 (.ends 0) = .slice A3 nto a3) := by
                            rw [hv2]
                            exact hideI ⟨upd_same _ _ _, by rw [upd_ne _ _ (by simp)]; exact HVV.out.2.1, by rw [upd_ne _ _ (by simp)]; exact HVV.out.2.2.1, by rw [upd_ne _ _ (by simp)]; exact HVV.out.2.2.2.1, by rw [upd_ne _ _ (by simp)]; exact HVV.out.2.2.2.2⟩
                          obtain ⟨x0, _⟩ := HXB.out _ _ _ _ HA.out
                          obtain ⟨F2, fc2, V2, vc2, _, r3, _, _, _, HRV2⟩ := HA.out.phiRd HQ2.out HP2.out (rowK_zero (G := G2)) HV2'.out.2.2.1 HL2.out HLEN.out (.inl (.inl rfl)) (.inl (.inl ⟨rfl, hlti⟩)) (.inl (.inl ⟨rfl, hlti⟩))
                          obtain ⟨gv2, rfl, r4⟩ := HRV2 k y HY.out
                          rw [← HLF.out] at r3
                          have HOWNV : Hid (w8.ownsRow wo.heap.size 3 1 (.slice VA la va) la ((keepV (numOf S) p.fr p.vals k).map (Value.int .i64))) := by
                            have h := HA.out.own.rows (.vals 1 0) (intsRow (keepV (numOf S) p.fr p.vals k)) (.inr rfl) (by unfold rowK; rw [if_neg (by simp), if_pos rfl])
                            rw [HV2'.out.2.1] at h
                            have h2 : w8.ownsRow wo.heap.size 3 1 (.slice VA la va) (keepV (numOf S) p.fr p.vals k).length ((keepV (numOf S) p.fr p.vals k).map (Value.int .i64)) := h
                            rw [keep_len, ← HLA.out] at h2
                            exact hideI h2
                          have hw8 : wo.heap.size ≤ w8.heap.size := HA.out.below.size
                          clear hv2 HRV2
                          go_wp2_with (first
                            | (at_builtin; go_loud (refine wpList_append_lies _ rfl _ _ _ rfl wo.heap.size 3 i1 (.int .i64 0) 1 8 Try.underlying22 hjx hy0 hy1 hy2 rfl (by decide) _ _ _ rfl (HOWNV.out.alloc _) ⟨w8.heap.size, 0, none⟩ 1 1 [.int .i64 y] rfl rfl (news_at (heap_alloc_new w8 _)) (by simp [Value.oneCell']) (by decide) (by simp only [maxLen]; omega) (by omega) (by simp; omega) _ rfl ?_; intro g3 cap3 w9' hown9 hgrow9 hor9 _; have hown9' : w9'.ownsRow wo.heap.size 3 1 (.slice (some ⟨g3, 0, none⟩) (la + 1) cap3) (keepV (numOf S) p.fr p.vals k ++ [y]).length ((keepV (numOf S) p.fr p.vals k ++ [y]).map (Value.int .i64)) := (by rw [List.length_append, List.map_append, keep_len, ← HLA.out]; exact hown9); have HBB := hideI (OwnC.moreV (OwnC.grow (t0 := .vals 1 0) (d := intsRow (keepV (numOf S) p.fr p.vals k ++ [y])) (HA.out.grows ((Below.refl _ _).alloc (Nat.le_refl _) _)) (.inr rfl) hown9' (by rw [HV2'.out.2.1]; exact hgrow9) rfl (by rw [HV2'.out.2.1]; exact hor9))); clear hown9 hown9' hgrow9 hor9 x0 r3 r4)))
                          go_roundw
                          case rel => exact ⟨k + 1, la + 1, _, _, _, _, upd v2 (.vals 1 0) (.slice (some ⟨g3, 0, none⟩) (la + 1) cap3), by omega, by go_num, rfl, rfl, by omega, by rw [HSN.out.1, List.length_append, ← HLA.out]; exact hideI rfl, hideI ⟨by rw [upd_ne _ _ (by simp)]; exact HV2'.out.1, upd_same _ _ _, by rw [upd_ne _ _ (by simp)]; exact HV2'.out.2.2.1, by rw [upd_ne _ _ (by simp)]; exact HV2'.out.2.2.2.1, by rw [upd_ne _ _ (by simp)]; exact HV2'.out.2.2.2.2⟩, by rw [HSN.out.1, HSN.out.2]; exact HBB⟩
                          case measure => simp [intOf]; omega
                      · have hke : lf = k := by omega
                        subst hke
                        go_upto_region 35 with fail
                        have hd1 : rowK G2 vk (keepF (numOf S) p.fr lf) (keepV (numOf S) p.fr p.vals lf) (.phis 0) = some ⟨49, 4, q2.phis.length, cellsOf (phiCells vk 0) 0 q2.phis⟩ := (rowK_zero _ rfl).trans (row_phis HQ2.out)
                        have hP1 := HK.out.put (tp := .phis 0) (j := i * 4 + 2) (u := .slice FA la fa) (.inl (.inl rfl)) hd1 HVV.out.2.2.1 HL2.out
                        have hP2 := hP1.put (tp := .phis 0) (j := i * 4 + 3) (u := .slice VA la va) (.inl (.inl rfl)) (upd_same _ _ _) HVV.out.2.2.1 HL2.out
                        have hP3 := OwnC.placed HQ2.out HP2.out HVV.out.1 HVV.out.2.1 (row2 := _) rfl hP2
                        have hpr : setPhi G2 0 i { p with fr := keepF (numOf S) p.fr lf, vals := keepV (numOf S) p.fr p.vals lf } = phisToF (numOf S) 0 (i + 1) G1 := by
                          rw [HG2.out.1, HLF.out]
                          exact phisToF_next HQ1.out (by rw [HQE.out]; exact HPI.out)
                        rw [hpr] at hP3
                        have HP3 := hideI hP3
                        obtain ⟨W35, hW35⟩ : ∃ W, W = wr.setCell ⟨gp, i * 4 + 2, none⟩ (.slice FA la fa) := ⟨_, rfl⟩
                        rw [← hW35] at HP3
                        have hP1' := hP1
                        rw [← hW35] at hP1'
                        have y0 := (HXB.out _ _ _ _ hP1').1
                        obtain ⟨V3, vc3, e3⟩ := own_form (HK.out.own.rows (.vals 0 i) (intsRow p.vals) (.inl (.inl ⟨rfl, hlti⟩)) ((rowK_zero _ rfl).trans (row_vals HQ2.out HP2.out)))
                        obtain ⟨lv, hlv⟩ : ∃ lv, lv = (intsRow p.vals).len := ⟨_, rfl⟩
                        rw [← hlv] at e3
                        have hc3 := hP1'.own.cell (tp := .phis 0) (j := i * 4 + 3) (.inl (.inl rfl)) (upd_same _ _ _) HVV.out.2.2.1 HL2.out (by show _ < nph * 4; omega)
                        have y3 : W35.cell? ⟨gp, i * 4 + 3, none⟩ = some (.slice V3 lv vc3) := hc3.1.trans (by
                          show ((cellsOf (phiCells vk 0) 0 q2.phis).set (i * 4 + 2) _)[i * 4 + 3]? = _
                          rw [List.getElem?_set_ne (by omega), phi_cell HP2.out (by omega)]
                          show some (vk (.vals 0 i)) = _
                          rw [e3])
                        have y4 := hc3.2
                        clear hd1 hP1 hP2 hP3 hpr hP1' e3 hlv hc3
                        go_upto_region 36 with fail
                        rw [← hW35]
                        clear hW35 x0 r2 r3 z2 z3 hltk
                        go_wp2
                        exact ⟨⟨i + 1, _, by omega, by go_num, hideI ⟨by rw [upd_ne _ _ (by simp), upd_ne _ _ (by simp)]; exact HVV.out.2.2.1, by rw [upd_ne _ _ (by simp), upd_ne _ _ (by simp)]; exact HVV.out.2.2.2.1, by rw [upd_ne _ _ (by simp), upd_ne _ _ (by simp)]; exact HVV.out.2.2.2.2⟩, HP3⟩, by simp [intOf]; omega⟩
                  · have hie : nph = i := by omega
                    subst hie
                    go_upto_region 37 with fail
                    clear x0
                    obtain ⟨kk, hkk⟩ : ∃ kk, kk = cntS S b := ⟨_, rfl⟩
                    obtain ⟨qP, hqP⟩ : ∃ qP, qP = pruneB (numOf S) q := ⟨_, rfl⟩
                    have hqPp : qP.phis.length = nph := by rw [hqP, HNQ.out.1]; show (q.phis.map _).length = _; rw [List.length_map]
                    have hqPc : qP.code.length = nco := by rw [hqP, HNQ.out.2.1]; rfl
                    have hqPt : qP.term.op = q.term.op ∧ qP.term.val = q.term.val ∧ qP.term.n = q.term.n := by rw [hqP]; exact ⟨rfl, rfl, rfl⟩
                    have hren : phisToF (numOf S) 0 nph G1 = oneF qP qP.phis.length qP.code.length := by
                      rw [one_block, HG1.out.1, HNQ.out.2.2, HNQ.out.1, ren_all HQG.out, HG0.out, hqP]
                      rfl
                    have hown := HSX.out.own
                    rw [hren] at hown
                    have hfk : fP.blocks[kk]? = some qP := by rw [hkk, hqP]; exact HQP.out
                    have hHO := HO.out
                    rw [← hkk] at hHO
                    have hkl : kk < fP.blocks.length := (List.getElem?_eq_some_iff.1 hfk).1
                    have hkn : kk < nb := by have := HPL.out; omega
                    have HSJ := hideI (hHO.join HSX.out.below (r3 := fun t => if blkOf t = some kk then rowOf (oneF qP qP.phis.length qP.code.length) vp (sh t) else rowOf (cutB fP kk) v t) (v3 := fun t => if blkOf t = some kk then vp (sh t) else v t) (hown.turn (D' := DD kk qP.phis.length qP.code.length) sh (fun t ht => by have := ht.sh; rw [hqPp, hqPc] at this; exact this) (fun t t' h h' e => h.inj h' e)) (fun t ht => ⟨if_neg fun e => EE.not e ht, if_neg fun e => EE.not e ht⟩) (fun t ht => ⟨if_pos ht.blk, if_pos ht.blk⟩))
                    obtain ⟨AB, cB, hvB⟩ := own_form (hHO.own.rows .blocks _ (.inr (.inl rfl)) rfl)
                    have hvB : v .blocks = .slice AB kk cB := by rw [hvB]; show Value.slice AB (fP.blocks.take kk).length cB = _; rw [List.length_take, Nat.min_eq_left (by omega)]
                    have o3 : wr.cell? ⟨gO, 3, none⟩ = some (.slice AB kk cB) := by rw [← hvB]; exact (HSJ.out.box (List.mem_cons_self ..) 3).1
                    have hxx := HSX.out.box (List.mem_cons_self ..)
                    rw [HXC.out] at hxx
                    have x0 : wr.cell? ⟨gx, 0, none⟩ = some (.slice A1 nph a1) := (hxx 0).1
                    have x1 : wr.cell? ⟨gx, 1, none⟩ = some (.slice A2 nco a2) := (hxx 1).1
                    have x2 : wr.cell? ⟨gx, 2, none⟩ = some (.int .i64 q.term.op) := (hxx 2).1
                    have x3 : wr.cell? ⟨gx, 3, none⟩ = some (.int .i64 q.term.val) := (hxx 3).1
                    have x4 : wr.cell? ⟨gx, 4, none⟩ = some (.slice A3 nto a3) := (hxx 4).1
                    have x5 : wr.cell? ⟨gx, 5, none⟩ = some (.int .i64 q.term.n) := (hxx 5).1
                    have hnob : blkOf Tag.blocks ≠ some kk := by simp [blkOf]
                    have hownB : (wr.alloc (.cells #[.slice A1 nph a1, .slice A2 nco a2, .int .i64 q.term.op, .int .i64 q.term.val, .slice A3 nto a3, .int .i64 q.term.n] 46)).ownsRow w5.heap.size 46 6 (.slice AB kk cB) kk (cellsOf (blockCells v) 0 (fP.blocks.take kk)) := by
                      have h := (HSJ.out.grows ((Below.refl _ _).alloc (Nat.le_refl _) (.cells #[.slice A1 nph a1, .slice A2 nco a2, .int .i64 q.term.op, .int .i64 q.term.val, .slice A3 nto a3, .int .i64 q.term.n] 46))).own.rows .blocks ⟨46, 6, (fP.blocks.take kk).length, cellsOf (blockCells v) 0 (fP.blocks.take kk)⟩ (.inl (.inr (.inl rfl))) (if_neg hnob)
                      rw [show (if blkOf Tag.blocks = some kk then vp (sh Tag.blocks) else v Tag.blocks) = v .blocks from if_neg hnob, hvB] at h
                      simp only [List.length_take] at h
                      rw [Nat.min_eq_left (by omega)] at h
                      exact h
                    obtain ⟨i2', hkx, hu0, hu1, hu2⟩ := info_parts block_info
                    have hnews := World.news_of_block (heap_alloc_new wr (.cells #[.slice A1 nph a1, .slice A2 nco a2, .int .i64 q.term.op, .int .i64 q.term.val, .slice A3 nto a3, .int .i64 q.term.n] 46))
                    have hw5 : w5.heap.size ≤ wr.heap.size := HSJ.out.below.size
                    have HKK := hideI hkk
                    have HFK := hideI hfk
                    have HVB := hideI hvB
                    have HQPT := hideI hqPt
                    have HNOB := hideI hnob
                    have HOWNB := hideI hownB
                    have HNEWS := hideI hnews
                    clear hkk hqP hqPp hqPc hqPt hren hown hfk hHO hkl hvB hxx hnob hownB hnews
                    go_wp2_with (first
                      | (at_builtin; go_loud (refine wpList_append_lies _ rfl _ _ _ rfl w5.heap.size 46 i2' _ 6 96 Try.underlying23 hkx hu0 hu1 hu2 rfl (by decide) (.slice AB kk cB) kk _ rfl HOWNB.out ⟨wr.heap.size, 0, none⟩ 1 1 [.slice A1 nph a1, .slice A2 nco a2, .int .i64 q.term.op, .int .i64 q.term.val, .slice A3 nto a3, .int .i64 q.term.n] rfl rfl HNEWS.out (by simp [Value.oneCell']) (by decide) (by unfold maxLen; omega) (by omega) (by simp; omega) _ rfl ?_; intro g1 cap1 w10 hown10 hgrow10 hor10 _; have HSG := hideI (OwnC.grow (t0 := .blocks) (d := ⟨46, 6, kk + 1, cellsOf (blockCells v) 0 (fP.blocks.take kk) ++ [.slice A1 nph a1, .slice A2 nco a2, .int .i64 q.term.op, .int .i64 q.term.val, .slice A3 nto a3, .int .i64 q.term.n]⟩) (HSJ.out.grows ((Below.refl _ _).alloc (Nat.le_refl _) _)) (.inl (.inr (.inl rfl))) hown10 (by rw [show (if blkOf Tag.blocks = some kk then vp (sh Tag.blocks) else v Tag.blocks) = v .blocks from if_neg HNOB.out, HVB.out]; exact hgrow10) rfl (by rw [show (if blkOf Tag.blocks = some kk then vp (sh Tag.blocks) else v Tag.blocks) = v .blocks from if_neg HNOB.out, HVB.out]; exact hor10)); have hbo := HSG.out.box (List.mem_cons_self ..) 3; clear o3; have o3 : w10.cell? ⟨gO, 3, none⟩ = some (.slice AB kk cB) := (by rw [← HVB.out]; exact hbo.1); have o3z := hbo.2; clear hbo hown10 hgrow10 hor10 x0 x1 x2 x3 x4 x5)))
                    have hs11 := HSG.out.store (j := 3) (.slice (some ⟨g1, 0, none⟩) (kk + 1) cap1)
                    simp only [List.setIfInBounds_toArray, List.set_cons_zero, List.set_cons_succ] at hs11
                    have hs12 := cp_next (f := fP) (k := kk) (b := qP) (val := v) (val1 := vp) (v := .slice (some ⟨g1, 0, none⟩) (kk + 1) cap1) HFK.out rfl (by rw [HVV.out.1, HVV.out.2.1, HVV.out.2.2, HQPT.out.1, HQPT.out.2.1, HQPT.out.2.2]) hs11
                    have hkb : cntS S (b + 1) = kk + 1 := by rw [HCS.out, HSB.out, HKK.out]; rfl
                    have HFIN := hideI hs12
                    clear hs11 hs12
                    exact ⟨⟨b + 1, upd (fun t => if blkOf t = some kk then vp (sh t) else v t) .blocks (.slice (some ⟨g1, 0, none⟩) (kk + 1) cap1), by omega, by go_num, hideI (by rw [upd_ne _ _ (by simp), if_neg (by simp [blkOf])]; exact HVP.out), by rw [hkb, upd_same]; exact HFIN⟩, by simp [intOf]; omega⟩
        · have hbe : nb = b := by omega
          subst hbe
          have hkk : cntS S nb = fP.blocks.length := by rw [HFP.out, prune_len, HN.out.1]
          have hHO := HO.out
          rw [hkk, show cutB fP fP.blocks.length = fP by simp [cutB]] at hHO
          have hown : Owned wr w5.heap.size fP v := Owned.of hHO.own
          have hsmP : SmallF fP := by rw [HFP.out]; exact prune_small H0.out
          have hftP : FnFits fP := by rw [HFP.out]; exact prune_fits HFT.out
          obtain ⟨nP, hnP⟩ : ∃ nP, nP = fP.blocks.length := ⟨_, rfl⟩
          obtain ⟨AB, cB, hvB⟩ := own_form (hown.rows .blocks _ rfl rfl)
          have hvB : v .blocks = .slice AB nP cB := by rw [hvB, hnP]; try rfl
          have hbo := hHO.box (List.mem_cons_self ..)
          have o0 : wr.cell? ⟨gO, 0, none⟩ = some (.slice PA np pa) := (hbo 0).1
          have o1 : wr.cell? ⟨gO, 1, none⟩ = some (.int .i64 f.arrays) := (hbo 1).1
          have o2 : wr.cell? ⟨gO, 2, none⟩ = some (.int .i64 f.cells) := (hbo 2).1
          have o3 : wr.cell? ⟨gO, 3, none⟩ = some (.slice AB nP cB) := by rw [← hvB]; exact (hbo 3).1
          obtain ⟨cz, hcz⟩ : ∃ cz, cz = (lookM fP).1 := ⟨_, rfl⟩
          have HRD : Hid (∀ W, Owned W w5.heap.size fP v → Ints W W.heap.size (.slice PA np pa) f.params ∧ BlocksR W W.heap.size (.slice AB nP cB) fP.blocks) := hideI fun W h => by
            have h2 := h.readsS hsmP hftP
            rw [HVP.out, HPP.out.1, hvB] at h2
            exact h2
          have HOWN := hideI hown
          have HHO := hideI hHO
          have HCZ := hideI hcz
          have HNP := hideI hnP
          have HVB0 := hideI hvB
          have HLP : Hid ((lookM fP).1 = (lookM (pruneM (inO o) f)).1 ∧ (pruneM (inO o) f).blocks = fP.blocks) := hideI (by rw [HFP.out, HSE.out]; exact ⟨rfl, rfl⟩)
          clear hkk hHO hown hsmP hftP hvB hbo hcz hnP
          go_upto_region 38 with fail
          go_wp2_with fail
          have hchk := refCheck_any fP wr.heap.size (.slice PA np pa) (.slice AB nP cB) wr (by rw [HPP.out.1]; exact (HRD.out wr HOWN.out).1) (HRD.out wr HOWN.out).2 (Nat.le_refl _)
          rw [HPP.out.2.1, HPP.out.2.2, ← HCZ.out] at hchk
          refine hchk.mono ?_
          rintro e w12 ⟨rfl, hb12⟩
          have HO12 := hideI (HHO.out.grows hb12)
          have HFX12 := hideI (HFX.out _ (HFX5.out _ HO12.out.below))
          have hrr := HFX12.out.2
          have s0 : w12.cell? ⟨w.heap.size + 1, 0, none⟩ = some (.slice none 0 0) := hrr.1 0
          have s1 : w12.cell? ⟨w.heap.size + 1, 1, none⟩ = some (.int .i64 0) := hrr.1 1
          have s2 : w12.cell? ⟨w.heap.size + 1, 2, none⟩ = some (.int .i64 0) := hrr.1 2
          have s3 : w12.cell? ⟨w.heap.size + 1, 3, none⟩ = some (.slice none 0 0) := hrr.1 3
          have g0 := hrr.2.1 0
          have g1 := hrr.2.1 1
          have g2 := hrr.2.1 2
          have g3 := hrr.2.1 3
          have HBL12 := hideI hrr.2.2
          have HOW12 := hideI (OwnG.below HOWN.out hb12)
          clear hchk hb12 hrr o0 o1 o2 o3
          by_cases hz : cz = 0
          · have hz1 : (cz != 0) = false := by simp [hz]
            have HZ := hideI hz
            have hbo := HO12.out.box (List.mem_cons_self ..)
            have o0 : w12.cell? ⟨gO, 0, none⟩ = some (.slice PA np pa) := (hbo 0).1
            have o1 : w12.cell? ⟨gO, 1, none⟩ = some (.int .i64 f.arrays) := (hbo 1).1
            have o2 : w12.cell? ⟨gO, 2, none⟩ = some (.int .i64 f.cells) := (hbo 2).1
            have o3 : w12.cell? ⟨gO, 3, none⟩ = some (v .blocks) := (hbo 3).1
            rw [HVB0.out] at o3
            have hno : ∀ t, TI fP t → (v t).ownBlock ≠ some (w.heap.size + 1) := fun t ht e => by
              have h1 := (HOW12.out.lt ht e).1
              have h2 := HGC.out.2.2
              have h3 := (HFX.out W0 (Below.refl _ _)).2.2.2.size
              have h4 := HW0.out
              have h5 : W0.heap.size = w.heap.size + 2 := by rw [h4]; simp
              omega
            have HNO := hideI hno
            clear hz hbo hno
            go_wp2
            refine bodyPost_ret (v := .tuple #[.agg #[.slice PA np pa, .int .i64 f.arrays, .int .i64 f.cells, .slice AB nP cB], .int .i64 0]) (by simp [results, Try.results6, go_sem, s0, s1, s2, s3]) rfl (.inr ⟨H0.out, o, PA, pa, AB, cB, HOR.out, by rw [← HLP.out.1, ← HCZ.out]; exact HZ.out, by rw [HLP.out.2, ← HNP.out, HN.out.2], ?_, ?_, ?_⟩)
            · rw [← HN.out.2]
              refine (HRD.out _ ?_).1
              exact (((OwnG.other HOW12.out HNO.out).other HNO.out).other HNO.out).other HNO.out
            · rw [HLP.out.2, ← HNP.out]
              refine (HRD.out _ ?_).2
              exact (((OwnG.other HOW12.out HNO.out).other HNO.out).other HNO.out).other HNO.out
            · exact (((HBL12.out.setCell (by simp) _).setCell (by simp) _).setCell (by simp) _).setCell (by simp) _
          · have hz1 : (cz != 0) = true := by simpa using hz
            have HZ := hideI hz
            clear hz
            go_wp2
            refine bodyPost_ret (v := .tuple #[.agg #[.slice none 0 0, .int .i64 0, .int .i64 0, .slice none 0 0], .int .i64 cz]) (by simp [results, Try.results6, go_sem, s0, s1, s2, s3]) rfl (.inl ⟨cz, HZ.out, .inr ⟨H0.out, o, HOR.out, by rw [← HLP.out.1]; exact HCZ.out⟩, rfl, ?_⟩)
            exact (((HBL12.out.setCell (by simp) _).setCell (by simp) _).setCell (by simp) _).setCell (by simp) _

theorem refPrune_any (f : FuncM) (B : Nat) (pv bv : Value) (w : World) (hpv : Ints w B pv f.params) (hbv : BlocksR w B bv f.blocks) (hB : B ≤ w.heap.size) :
    Calls Try.prog 6 #[.agg #[pv, .int .i64 f.arrays, .int .i64 f.cells, bv]] w (GPrunePost f w) := by
  by_cases h0 : (lookM f).1 = 0
  · obtain ⟨o, ho⟩ := order_exists h0
    exact refPrune_yes f o B pv bv w hpv hbv hB h0 ho
  · exact refPrune_no f B pv bv w hpv hbv hB h0

end Go.Proofs.Ytncmnbchkabgaaa

namespace Go.Proofs.Ytncmnbchkabgaaa
open Go.RowKit Go.Maps

def awakeF : FuncM := ⟨[], 0, 0, [⟨[], [⟨1, 0, [], 5⟩], ⟨3, 0, [], 0⟩⟩]⟩

theorem awake_look : lookM awakeF = (0, [(0, 1)]) := by decide
theorem awake_size : sizeM awakeF = 2 := by decide

theorem awake_reads (w W : World) (h0 : W.heap[w.heap.size]? = some (.cells #[.int .i64 1, .int .i64 0, .slice none 0 0, .int .i64 5] 53 (0, 0)))
    (h1 : W.heap[w.heap.size + 1]? = some (.cells #[.slice none 0 0, .slice (some ⟨w.heap.size, 0, none⟩) 1 1, .int .i64 3, .int .i64 0, .slice none 0 0, .int .i64 0] 46 (0, 0))) :
    BlocksR W (w.heap.size + 2) (.slice (some ⟨w.heap.size + 1, 0, none⟩) 1 1) awakeF.blocks := by
  have c0 := row_cells h0 (rfl : W.heap[w.heap.size]? = W.heap[w.heap.size]?)
  have c1 := row_cells h1 (rfl : W.heap[w.heap.size + 1]? = W.heap[w.heap.size + 1]?)
  refine ⟨_, _, rfl, by decide, fun k q hk => ?_⟩
  have hq : k = 0 ∧ q = ⟨[], [⟨1, 0, [], 5⟩], ⟨3, 0, [], 0⟩⟩ := by
    rcases k with _ | k
    · simp [awakeF] at hk
      exact ⟨rfl, hk.symm⟩
    · simp [awakeF] at hk
  obtain ⟨rfl, rfl⟩ := hq
  refine ⟨_, 0, _, _, _, rfl, by omega, c1 _, c1 _, c1 _, c1 _, c1 _, c1 _, ⟨none, 0, rfl, by decide, fun k p hp => by simp at hp⟩, ⟨_, _, rfl, by decide, fun k x hx => ?_⟩, Ints.nil _ _, by unfold I64; decide, by unfold I64; decide, by unfold I64; decide⟩
  have hx' : k = 0 ∧ x = ⟨1, 0, [], 5⟩ := by
    rcases k with _ | k
    · simp at hx
      exact ⟨rfl, hx.symm⟩
    · simp at hx
  obtain ⟨rfl, rfl⟩ := hx'
  exact ⟨_, 0, _, rfl, by omega, c0 _, c0 _, c0 _, c0 _, Ints.nil _ _, by unfold I64; decide, by unfold I64; decide, by unfold I64; decide⟩

end Go.Proofs.Ytncmnbchkabgaaa

namespace Go.Proofs.Ytncmnbchkabgaaa
open Go.RowKit Go.Maps

theorem awake_order {o : List Nat} (h : OrderIs awakeF.blocks o) : o = [0] := by
  refine h.one ⟨[0], [], ?_, rfl⟩
  have : succM awakeF.blocks 0 = [] := rfl
  rw [this]
  exact .nil _

theorem awake_uses : ∀ u ∈ usesM awakeF, I64 u.1 := by
  intro u hu
  simp [usesM, awakeF, usesBlock, usesInstr, usesTerm, takesS, shapeS] at hu
  subst hu
  unfold I64
  decide

/-- the simplest function, made anew -/
def awakeMade (w : World) : World := (w.alloc (.cells #[.int .i64 1, .int .i64 0, .slice none 0 0, .int .i64 5] 53)).alloc (.cells #[.slice none 0 0, .slice (some ⟨w.heap.size, 0, none⟩) 1 1, .int .i64 3, .int .i64 0, .slice none 0 0, .int .i64 0] 46)

theorem awakeMade_facts (w : World) : BlocksR (awakeMade w) (w.heap.size + 2) (.slice (some ⟨w.heap.size + 1, 0, none⟩) 1 1) awakeF.blocks ∧ (awakeMade w).heap.size = w.heap.size + 2 ∧ Below w.heap.size w (awakeMade w) := by
  have hsz : (awakeMade w).heap.size = w.heap.size + 2 := by unfold awakeMade; simp
  have hBl : Below w.heap.size w (awakeMade w) := by unfold awakeMade; exact (((Below.refl _ w).alloc (Nat.le_refl _) _).alloc (by simp) _)
  have h0 : (awakeMade w).heap[w.heap.size]? = some (.cells #[.int .i64 1, .int .i64 0, .slice none 0 0, .int .i64 5] 53 (0, 0)) := by
    unfold awakeMade
    rw [Below.heap_alloc _ _ _ (by simp)]
    exact heap_alloc_new w _
  have h1 : (awakeMade w).heap[w.heap.size + 1]? = some (.cells #[.slice none 0 0, .slice (some ⟨w.heap.size, 0, none⟩) 1 1, .int .i64 3, .int .i64 0, .slice none 0 0, .int .i64 0] 46 (0, 0)) := by
    unfold awakeMade
    have := heap_alloc_new (w.alloc (.cells #[.int .i64 1, .int .i64 0, .slice none 0 0, .int .i64 5] 53)) (.cells #[.slice none 0 0, .slice (some ⟨w.heap.size, 0, none⟩) 1 1, .int .i64 3, .int .i64 0, .slice none 0 0, .int .i64 0] 46)
    simpa using this
  exact ⟨awake_reads w _ h0 h1, hsz, hBl⟩

theorem awake_orderIs : OrderIs awakeF.blocks [0] := by
  refine ⟨[0], [], ?_, rfl⟩
  have : succM awakeF.blocks 0 = [] := rfl
  rw [this]
  exact .nil _

end Go.Proofs.Ytncmnbchkabgaaa

namespace Go.Proofs.Ytncmnbchkabgaaa
open Go.RowKit Go.Maps

set_option maxHeartbeats 1000000 in
theorem awake3_any (w : World) : Calls Try.prog 7 #[] w fun e w' => e = .returned (.bool true) ∧ Below w.heap.size w w' := by
  obtain ⟨W2, hW2⟩ : ∃ W2 : World, W2 = (w.alloc (.cells #[.int .i64 1, .int .i64 0, .slice none 0 0, .int .i64 5] 53)).alloc (.cells #[.slice none 0 0, .slice (some ⟨w.heap.size, 0, none⟩) 1 1, .int .i64 3, .int .i64 0, .slice none 0 0, .int .i64 0] 46) := ⟨_, rfl⟩
  have hsz : W2.heap.size = w.heap.size + 2 := by rw [hW2]; simp
  have hBl : Below w.heap.size w W2 := by rw [hW2]; exact (((Below.refl _ w).alloc (Nat.le_refl _) _).alloc (by simp) _)
  have h0 : W2.heap[w.heap.size]? = some (.cells #[.int .i64 1, .int .i64 0, .slice none 0 0, .int .i64 5] 53 (0, 0)) := by
    rw [hW2, Below.heap_alloc _ _ _ (by simp)]
    exact heap_alloc_new w _
  have h1 : W2.heap[w.heap.size + 1]? = some (.cells #[.slice none 0 0, .slice (some ⟨w.heap.size, 0, none⟩) 1 1, .int .i64 3, .int .i64 0, .slice none 0 0, .int .i64 0] 46 (0, 0)) := by
    rw [hW2]
    have := heap_alloc_new (w.alloc (.cells #[.int .i64 1, .int .i64 0, .slice none 0 0, .int .i64 5] 53)) (.cells #[.slice none 0 0, .slice (some ⟨w.heap.size, 0, none⟩) 1 1, .int .i64 3, .int .i64 0, .slice none 0 0, .int .i64 0] 46)
    simpa using this
  have HC := hideI (gOrder_any awakeF (w.heap.size + 2) (.slice none 0 0) _ W2 (Ints.nil _ _) (awake_reads w W2 h0 h1) (by omega) awake_uses)
  have HBl := hideI hBl
  have HSZ := hideI hsz
  clear h0 h1 hsz hBl
  subst hW2
  go_enter Try.func7, Try.ntmps7
  go_wp2_with (first
    | (go_at_call 18; go_must (refine HC.out.mono ?_); rintro e w1 (⟨hbad, _⟩ | ⟨_, o, g, cap, rfl, ho, _, _, hown, hb⟩); (exact absurd (congrArg Prod.fst awake_look) hbad); have ho := awake_order ho; subst ho; have hc := nat_cell hown (i := 0) rfl; have HB := hideI hb; clear hown hb))
  go_ret
  exact ⟨rfl, HBl.out.trans (HB.out.mono (by rw [HSZ.out]; omega))⟩

end Go.Proofs.Ytncmnbchkabgaaa
