/- What is proved: for every function f, in whatever memory it lies, LoopsDepths answers true: the depths and the odd blocks are the reference's. No condition. -/
import Derived.Test.YtglbepdjahddmaaGreatPkLoopsDepths8
import Derived.IntWalk
import Derived.BigQuiet
import Derived.Deep.QuietTactic
namespace Go.Proofs.YtglbepdjahddmaaGreat.loopsDepths
open Go.ChangeShapes Go.WideShapes Go.ChangeAt Go.RowKit Go.Maps

theorem deps_ints {w : World} {B n i j : Nat} {v : Value} {ls : List LpM} {c : List Nat} (h : w.ownsRow B 3 1 v n (depsR n ls i c j)) (hn : n ≤ 512) : Ints w w.heap.size v (((List.range n).map (depM ls i c j)).map fun (x : Nat) => (x : Int)) := by
  refine nat_ints (B := B) (n := n) ?_ (by simp; omega)
  have e : natInts ((List.range n).map (depM ls i c j)) = depsR n ls i c j := by
    unfold natInts depsR
    rw [List.map_map]
    rfl
  rw [e]
  exact h

theorem drew_le (B : Nat) {w w' : World} {n : Nat} (h : w' = w.drewN n) : Below B w w' := by rw [h]; exact ⟨rfl, rfl, rfl, Nat.le_refl _, fun _ _ => rfl⟩

theorem odds_len {bs : List BlockM} {D : Nat → Nat → Bool} {pl : Nat → Nat} (h : bs.length ≤ 512) : (oddsM bs D pl).length ≤ 100000 := by
  have h1 : (oddsM bs D pl).length ≤ (List.range bs.length).length := List.length_filter_le _ _
  rw [List.length_range] at h1
  omega

set_option maxRecDepth 100000 in
set_option maxHeartbeats 2000000 in
theorem walk_no (f : FuncM) (pv bv : Value) (w : World) (hF : FnIn w f pv bv) (hno : ¬ ∃ o, StrictM f o) :
    Calls Tryz.prog 3 #[.agg #[pv, .int .i64 f.arrays, .int .i64 f.cells, bv]] w fun e w' => e = .returned (.bool true) ∧ Below w.heap.size w w' := by
  have HF := hideI hF
  have HID := hideI (uses_i64 hF.ok)
  obtain ⟨P, pc, hpv, _⟩ := hF.par
  obtain ⟨A, cc, hbv, _⟩ := hF.blk
  subst hpv hbv
  have HB : Hid (Below w.heap.size w (w.alloc (.cells #[.slice P f.params.length pc, .int .i64 f.arrays, .int .i64 f.cells, .slice A f.blocks.length cc] 25))) := (Below.refl _ w).alloc (Nat.le_refl _) _
  have HX := hideI (heap_alloc_new w (.cells #[.slice P f.params.length pc, .int .i64 f.arrays, .int .i64 f.cells, .slice A f.blocks.length cc] 25))
  have HNG : Hid (∀ o, StrictM f o → False) := fun o h => hno ⟨o, h⟩
  clear hF hno
  go_enter Tryz.func3, Tryz.ntmps3
  go_wp2_with (first
    | (go_at_call 10; go_must (refine (lDepths_any f w.heap.size _ _ _ (HF.out.par.keeps (Keeps.of_below HB.out)) (HF.out.blk.keeps (Keeps.of_below HB.out)) HB.out.size HID.out).mono ?_); rintro e w1 (⟨x, y, hci, hy, rfl, hb⟩ | ⟨o, _, _, _, _, _, hk, _⟩); rotate_left; (exact (HNG.out o hk.strict).elim); have hyb : (y != 0) = true := (by rw [bne_iff_ne]; exact hy); have hyy : (y != y) = false := (by simp); have HCI := hideI hci; replace HX := hideI ((hb.block _ (lt_of_heap HX.out)).trans HX.out); have hx := row_cells HX.out rfl; have q0 := hx 0; have q1 := hx 1; have q2 := hx 2; have q3 := hx 3; clear hx; replace HB := hideI (HB.out.trans (hb.mono HB.out.size)); clear hb hci hy)
    | (go_at_call 11; go_must (refine (lOddT_any f w.heap.size _ _ _ (HF.out.par.keeps (Keeps.of_below HB.out)) (HF.out.blk.keeps (Keeps.of_below HB.out)) HB.out.size HID.out).mono ?_); rintro e w2 (⟨x2, y2, hci, hy, rfl, hb⟩ | ⟨o, _, _, _, _, _, hk, _⟩); rotate_left; (exact (HNG.out o hk.strict).elim); obtain ⟨rfl, rfl⟩ := Prod.mk.inj (hci.one HCI.out); clear q0 q1 q2 q3; replace HX := hideI ((hb.block _ (lt_of_heap HX.out)).trans HX.out); have hx := row_cells HX.out rfl; have q0 := hx 0; have q1 := hx 1; have q2 := hx 2; have q3 := hx 3; clear hx; replace HB := hideI (HB.out.trans (hb.mono HB.out.size)); clear hb hci hy)
    | (go_at_call 12; go_must (refine (refStrict_any f w.heap.size _ _ _ (HF.out.par.keeps (Keeps.of_below HB.out)) (HF.out.blk.keeps (Keeps.of_below HB.out)) HB.out.size HID.out order_exists).mono ?_); rintro e w3 ⟨x3, y3, rfl, hci, hb⟩; obtain ⟨rfl, rfl⟩ := Prod.mk.inj (hci.one HCI.out); replace HB := hideI (HB.out.trans (hb.mono HB.out.size)); clear hb hci)
    | (go_at_call 13; refine (awake9_any _).mono ?_; rintro e w5 ⟨rfl, hb⟩; replace HB := hideI (HB.out.trans (hb.mono HB.out.size)); clear hb))
  go_ret
  exact ⟨rfl, HB.out⟩

set_option maxRecDepth 100000 in
set_option maxHeartbeats 8000000 in
theorem walk_yes (f : FuncM) (o0 : List Nat) (pv bv : Value) (w : World) (hF : FnIn w f pv bv) (hs : StrictM f o0) :
    Calls Tryz.prog 3 #[.agg #[pv, .int .i64 f.arrays, .int .i64 f.cells, bv]] w fun e w' => e = .returned (.bool true) ∧ Below w.heap.size w w' := by
  have HF := hideI hF
  have HID := hideI (uses_i64 hF.ok)
  obtain ⟨P, pc, hpv, _⟩ := hF.par
  obtain ⟨A, cc, hbv, _⟩ := hF.blk
  subst hpv hbv
  have HB : Hid (Below w.heap.size w (w.alloc (.cells #[.slice P f.params.length pc, .int .i64 f.arrays, .int .i64 f.cells, .slice A f.blocks.length cc] 25))) := (Below.refl _ w).alloc (Nat.le_refl _) _
  have HX := hideI (heap_alloc_new w (.cells #[.slice P f.params.length pc, .int .i64 f.arrays, .int .i64 f.cells, .slice A f.blocks.length cc] 25))
  have HS := hideI hs
  have hn5 := (look_some_block hs.look).2
  have hn0 := (look_some_block hs.look).1
  have HIN := hideI (look_ends hs.look)
  obtain ⟨i0, hix, hz0, hz1, hz2⟩ := info_parts int_info
  clear hF hs
  go_enter Tryz.func3, Tryz.ntmps3
  go_upto_region 10 with (first
    | (go_at_call 10; go_must (refine (lDepths_any f w.heap.size _ _ _ (HF.out.par.keeps (Keeps.of_below HB.out)) (HF.out.blk.keeps (Keeps.of_below HB.out)) HB.out.size HID.out).mono ?_); rintro e w1 (⟨x, y, hci, hy, _⟩ | ⟨o, pl, par, D, L, gd, hk, rfl, hown, hb⟩); (exact absurd (Prod.mk.inj (HS.out.check hci)).2 hy); have HK := hideI hk; have HI1 := hideI (deps_ints hown hn5); replace HX := hideI ((hb.block _ (lt_of_heap HX.out)).trans HX.out); have hx := row_cells HX.out rfl; have q0 := hx 0; have q1 := hx 1; have q2 := hx 2; have q3 := hx 3; clear hx; replace HB := hideI (HB.out.trans (hb.mono HB.out.size)); clear hb hk hown)
    | (go_at_call 11; go_must (refine (lOddT_any f w.heap.size _ _ _ (HF.out.par.keeps (Keeps.of_below HB.out)) (HF.out.blk.keeps (Keeps.of_below HB.out)) HB.out.size HID.out).mono ?_); rintro e w2 (⟨x, y, hci, hy, _⟩ | ⟨o', pl', par', D', L', vo, hk, rfl, hown, hb⟩); (exact absurd (Prod.mk.inj (HS.out.check hci)).2 hy); have HK2 := hideI hk; have HI2 := hideI (nat_ints hown (odds_len hn5)); replace HI1 := hideI ((HI1.out.keep hb).more hb.size); clear q0 q1 q2 q3; replace HX := hideI ((hb.block _ (lt_of_heap HX.out)).trans HX.out); have hx := row_cells HX.out rfl; have q0 := hx 0; have q1 := hx 1; have q2 := hx 2; have q3 := hx 3; clear hx; replace HB := hideI (HB.out.trans (hb.mono HB.out.size)); clear hb hk hown)
    | (go_at_call 12; go_must (refine (refStrict_any f w.heap.size _ _ _ (HF.out.par.keeps (Keeps.of_below HB.out)) (HF.out.blk.keeps (Keeps.of_below HB.out)) HB.out.size HID.out order_exists).mono ?_); rintro e w3 ⟨x2, y2, rfl, hci, hb⟩; obtain ⟨rfl, rfl⟩ := Prod.mk.inj (HS.out.check hci); replace HI1 := hideI ((HI1.out.keep hb).more hb.size); replace HI2 := hideI ((HI2.out.keep hb).more hb.size); clear q0 q1 q2 q3; replace HX := hideI ((hb.block _ (lt_of_heap HX.out)).trans HX.out); have hx := row_cells HX.out rfl; have q0 := hx 0; have q1 := hx 1; have q2 := hx 2; have q3 := hx 3; clear hx; replace HB := hideI (HB.out.trans (hb.mono HB.out.size)); clear hb hci)
    | (go_at_call 13; refine (awake9_any _).mono ?_; rintro e w5 ⟨rfl, hb⟩; replace HI1 := hideI ((HI1.out.keep hb).more hb.size); replace HI2 := hideI ((HI2.out.keep hb).more hb.size); clear q0 q1 q2 q3; replace HX := hideI ((hb.block _ (lt_of_heap HX.out)).trans HX.out); have hx := row_cells HX.out rfl; have q0 := hx 0; have q1 := hx 1; have q2 := hx 2; have q3 := hx 3; clear hx; replace HB := hideI (HB.out.trans (hb.mono HB.out.size)); have HBZ := hideI HB.out; have hx5 : w.heap.size < w5.heap.size := lt_of_heap HX.out; clear hb)
    | (at_make; go_must (refine wpList_make_full _ rfl _ _ 22 rfl w5.heap.size 3 i0 (.int .i64 0) 1 Tryz.underlying22 hix hz0 hz1 .i64 .i64 _ _ f.blocks.length rfl rfl rfl rfl (by rw [hz2]; omega) (by unfold maxLen; omega) (Nat.le_refl _) ?_); intro w6 hown1 hg1; go_must (have HO1 := hideI hown1; have hb : Below w5.heap.size w5 w6 := (Below.refl _ _).grown hg1 (Nat.le_refl _) (by simp); have HG5 := hideI hb; clear q0 q1 q2 q3; replace HX := hideI ((hb.block _ (lt_of_heap HX.out)).trans HX.out); have hx := row_cells HX.out rfl; have q0 := hx 0; have q1 := hx 1; have q2 := hx 2; have q3 := hx 3; clear hx; replace HB := hideI (HB.out.trans (hb.mono HB.out.size)); clear hown1 hg1 hb))
    | (go_at_call 14; go_must (refine (refForest_any f.blocks o pl par D L w.heap.size _ _ _ _ _ HK.out.ok HK.out.strict.order hn0 HIN.out (HF.out.blk.keeps (Keeps.of_below HB.out)) HB.out.size ⟨_, rfl⟩).mono ?_); rintro e W ⟨uv, rfl, hlu, hb⟩; have HLU := hideI hlu; have HO2 := hideI (own_kept_below HO1.out hb (fun k hk => (HO1.out.lt k hk).2)); have HG6 := hideI (HG5.out.trans (hb.mono HG5.out.size)); clear q0 q1 q2 q3; replace HX := hideI ((hb.block _ (lt_of_heap HX.out)).trans HX.out); replace HB := hideI (HB.out.trans (hb.mono HB.out.size)); clear hb hlu))
  obtain ⟨ls, hls⟩ : ∃ ls, ls = loopsM f.blocks D L := ⟨_, rfl⟩
  obtain ⟨G, hG⟩ : ∃ G, G = w5.heap.size := ⟨_, rfl⟩
  have hG6 : G < w6.heap.size := by rw [hG]; exact (HO1.out.lt _ rfl).2
  have HR : Hid (Rising ls) := by show Rising ls; rw [hls]; exact loops_rising hn5
  have HINB : Hid (∀ x ∈ ls, ∀ b ∈ x.blocks, b < f.blocks.length) := by show ∀ x ∈ ls, _; rw [hls]; exact loops_blocks
  have hll : ls.length ≤ 512 := by rw [hls]; exact Nat.le_trans loops_len hn5
  have HOW : Hid (W.ownsRow G 3 1 (.slice (some ⟨G, 0, none⟩) f.blocks.length f.blocks.length) f.blocks.length (depsR f.blocks.length ls 0 [] 0)) := by
    show World.ownsRow _ _ _ _ _ _ _
    have h1 := HO2.out
    rw [show (Value.int IntKind.i64 0).cells = #[Value.int .i64 0] from rfl, toList_madeCells_one, Nat.mul_one] at h1
    rw [depsR_start, hG]
    exact h1
  obtain ⟨Av, cv, rfl⟩ : ∃ A c, uv = .slice A ls.length c := by obtain ⟨cs, h1, _⟩ := HLU.out.ex; rw [← hls] at h1; exact own_sl h1
  have hxG : w.heap.size < G := by rw [hG]; exact hx5
  rw [← hls, ← hG] at HI1
  rw [← hG] at HI2 HG6
  rw [← hls] at HLU
  have HBW := hideI HB.out
  have HXW := hideI HX.out
  have HOT : Hid (∀ wr : World, (∀ k, k ≠ G → wr.heap[k]? = W.heap[k]?) → ∀ a : Addr, a.block ≠ G → wr.cell? a = W.cell? a) := fun wr h a ha => World.cell?_of_block (h a.block ha)
  clear HO1 HO2 HG5 HX HB hix hz0 hz1 hz2 hls hx5
  go_wp2_with fail
  have HGE := hideI hG
  rw [← hG]
  clear hG
  go_loopw [11] (fun u wr => ∃ i : Nat, i ≤ ls.length ∧ u = .int .i64 i ∧ Hid (wr.ownsRow G 3 1 (.slice (some ⟨G, 0, none⟩) f.blocks.length f.blocks.length) f.blocks.length (depsR f.blocks.length ls i [] 0)) ∧ Hid (Below G w5 wr) ∧ Hid (∀ k, k ≠ G → wr.heap[k]? = W.heap[k]?)) (fun u _ => ls.length - (intOf u).toNat)
  case atStart => exact ⟨0, Nat.zero_le _, rfl, HOW, HG6, hideI (fun _ _ => rfl)⟩
  case round =>
    clear HOW HG6
    obtain ⟨i, hi, rfl, HO, HG7, HW⟩ := hrel
    by_cases hlt : i < ls.length
    · obtain ⟨x, hx⟩ : ∃ x, ls[i]? = some x := ⟨_, List.getElem?_eq_getElem hlt⟩
      have HX := hideI hx
      obtain ⟨g, cap0, b1, b2, b3, hv, hgb, hgl, _, k1, _, _, _, s1, _, _, _⟩ := HLU.out.cells hx
      cases hv
      have hgG : g ≠ G := by omega
      have HRX := hideI (HR.out x (List.mem_of_getElem? hx))
      have HINX := hideI (HINB.out x (List.mem_of_getElem? hx))
      obtain ⟨A1, c1, rfl⟩ := own_sl s1.1
      have HOL : Hid (∀ k, (Value.slice A1 x.blocks.length c1).ownBlock = some k → k ≠ G) := fun k hk => by have := (s1.1.lt k hk).1; omega
      obtain ⟨PA, pc2, e1, _, hpx⟩ := s1.ints (by have := HRX.out.2; omega)
      rw [List.length_map] at e1 hpx
      cases e1
      have HPX := hideI hpx
      have r1 := (HOT.out wr HW.out ⟨g, i * 5 + 1, none⟩ hgG).trans k1
      obtain ⟨cb, hcb⟩ : ∃ cb, cb = x.blocks := ⟨_, rfl⟩
      have HCB := hideI hcb
      have HOA : Hid (wr.ownsRow G 3 1 (.slice (some ⟨G, 0, none⟩) f.blocks.length f.blocks.length) f.blocks.length (depsR f.blocks.length ls i cb 0)) := by
        show World.ownsRow _ _ _ _ _ _ _
        rw [depsR_begin (c' := [])]
        exact HO.out
      have K1 := hideI k1
      rw [← hcb] at HPX HRX HINX K1 r1 HOL
      have hcl : cb.length ≤ 512 := HRX.out.2
      clear hx s1 hpx hcb k1
      go_wp2
      clear r1
      go_loopw [12] (fun u wr2 => ∃ j : Nat, j ≤ cb.length ∧ u = .int .i64 j ∧ Hid (wr2.ownsRow G 3 1 (.slice (some ⟨G, 0, none⟩) f.blocks.length f.blocks.length) f.blocks.length (depsR f.blocks.length ls i cb j)) ∧ Hid (Below G w5 wr2) ∧ Hid (∀ k, k ≠ G → wr2.heap[k]? = W.heap[k]?)) (fun u _ => cb.length - (intOf u).toNat)
      case atStart => exact ⟨0, Nat.zero_le _, rfl, HOA, HG7, HW⟩
      case round =>
        clear HOA HG7 HW HO
        obtain ⟨j, hj, rfl, HO2, HG8, HW2⟩ := hrel
        have r1 := (HOT.out wr HW2.out ⟨g, i * 5 + 1, none⟩ hgG).trans K1.out
        by_cases hltj : j < cb.length
        · obtain ⟨t, ht⟩ : ∃ t, cb[j]? = some t := ⟨_, List.getElem?_eq_getElem hltj⟩
          have htl := HINX.out t (List.mem_of_getElem? ht)
          obtain ⟨pb, po, rfl, hpb, d0⟩ := HPX.out j hltj
          rw [List.getElem?_map, ht] at d0
          simp only [Option.map_some, Option.getD_some] at d0
          have hne : pb ≠ G := HOL.out pb rfl
          have d1 := (HOT.out wr HW2.out ⟨pb, po + j, none⟩ hne).trans d0
          obtain ⟨y, hy⟩ : ∃ y, y = depM ls i cb j t := ⟨_, rfl⟩
          have hyl : y ≤ 600 := by rw [hy]; exact Nat.le_trans depM_le (by omega)
          have c1 : wr.cell? ⟨G, t, none⟩ = some (.int .i64 (y : Int)) := by rw [World.ownsRow.cellAt HO2.out t (by omega), hy]; exact depsR_at htl
          have c2 : wr.frozen? ⟨G, t, none⟩ = false := World.ownsRow.frozenAt HO2.out t
          have hst := (World.ownsRow.stored HO2.out t (.int .i64 ((y + 1 : Nat) : Int))).1
          rw [hy, depsR_step ht HRX.out.1, ← hy] at hst
          have HST := hideI hst
          have HBS : Hid (Below G w5 (wr.setCell ⟨G, t, none⟩ (.int .i64 ((y + 1 : Nat) : Int)))) := HG8.out.setCell (Nat.le_refl _) _
          have HWS : Hid (∀ k, k ≠ G → (wr.setCell ⟨G, t, none⟩ (.int .i64 ((y + 1 : Nat) : Int))).heap[k]? = W.heap[k]?) := fun k hk => (heap_setCell_other _ ⟨G, t, none⟩ k _ hk).trans (HW2.out k hk)
          have hcast : ((y + 1 : Nat) : Int) = (y : Int) + 1 := by omega
          rw [hcast] at HST HBS HWS
          clear ht d0 hst hy hcast
          go_wp2
          go_roundw
          case rel => exact ⟨j + 1, by omega, by go_num, HST, HBS, HWS⟩
          case measure => simp [intOf]; omega
        · have HNX := hideI (depsR_next (n := f.blocks.length) (j := j) HX.out HCB.out (by omega))
          rw [HNX.out] at HO2
          go_wp2
          go_roundw
          case rel => exact ⟨i + 1, by omega, by go_num, HO2, HG8, HW2⟩
          case measure => simp [intOf]; omega
    · obtain rfl : i = ls.length := by omega
      have HJ1 := hideI ((HI1.out.keep HG7.out).more (Nat.le_trans (Nat.le_of_eq HGE.out) HG7.out.size))
      have HJ2 := hideI ((HI2.out.keep HG7.out).more (Nat.le_trans (Nat.le_of_eq HGE.out) HG7.out.size))
      have HJW := hideI (deps_ints HO.out hn5)
      have HX := hideI ((HW.out _ (Nat.ne_of_lt hxG)).trans HXW.out)
      have HB : Hid (Below w.heap.size w wr) := HBZ.out.trans (HG7.out.mono (Nat.le_of_lt hxG))
      have hx := row_cells HX.out rfl
      have q0 := hx 0
      have q1 := hx 1
      have q2 := hx 2
      have q3 := hx 3
      clear hx HW HG7 HO
      go_wp2_with (first
        | (go_at_call_of 15 (Value.slice (some ⟨gd, 0, none⟩) f.blocks.length f.blocks.length); go_must (refine (sameInts_any _ _ _ _ _ _ HJ1.out HJW.out).mono ?_); rintro e z1 ⟨rfl, m1, hz1⟩; rw [beq_self_eq_true]; have hb := drew_le wr.heap.size hz1; replace HJ2 := hideI ((HJ2.out.keep hb).more hb.size); clear q0 q1 q2 q3; replace HX := hideI ((hb.block _ (lt_of_heap HX.out)).trans HX.out); have hx := row_cells HX.out rfl; have q0 := hx 0; have q1 := hx 1; have q2 := hx 2; have q3 := hx 3; clear hx; replace HB := hideI (HB.out.trans (hb.mono HB.out.size)); clear hb hz1)
        | (go_at_call 16; go_must (refine (refOdd_any f.blocks o' pl' par' D' L' w.heap.size _ _ _ _ _ HK2.out.ok HK2.out.strict.order hn0 HIN.out (HF.out.blk.keeps (Keeps.of_below HB.out)) HB.out.size).mono ?_); rintro e z2 ⟨v2, rfl, hown, hb⟩; have HJ3 := hideI (nat_ints hown (odds_len hn5)); replace HJ2 := hideI ((HJ2.out.keep hb).more hb.size); replace HB := hideI (HB.out.trans (hb.mono HB.out.size)); clear hb hown q0 q1 q2 q3)
        | (go_at_call_of 15 vo; go_must (refine (sameInts_any _ _ _ _ _ _ HJ2.out HJ3.out).mono ?_); rintro e z3 ⟨rfl, m3, hz3⟩; rw [beq_self_eq_true]; have hb := drew_le z2.heap.size hz3; replace HB := hideI (HB.out.trans (hb.mono HB.out.size)); clear hb hz3))
      go_ret
      exact ⟨rfl, HB.out⟩

theorem walk (f : FuncM) (pv bv : Value) (w : World) (hF : FnIn w f pv bv) :
    Calls Tryz.prog 3 #[.agg #[pv, .int .i64 f.arrays, .int .i64 f.cells, bv]] w fun e w' => e = .returned (.bool true) ∧ Below w.heap.size w w' := by
  by_cases h : ∃ o, StrictM f o
  · obtain ⟨o, ho⟩ := h
    exact walk_yes f o pv bv w hF ho
  · exact walk_no f pv bv w hF h

set_option maxRecDepth 100000 in
theorem lifted (os : Os) (started : os.Started) (H : Type) (enc : TypeId × Value → H) :
    ReturnsInHanded {} Tryz.checked os 3 .any (Rows.loopsDepthsSpec.pre6 enc Tryz.prog Tryz.f3 Rows.loopsDepthsRow.domain false) (Rows.loopsDepthsSpec.post enc Tryz.prog Tryz.f3 false true false false) := by
  refine returnsInHanded_of_change_sized (C := Tryz.checked) own started (by kernel_rfl) Tryz.func3
    (ChangeSpec.witness6 (enc := enc) (C := Tryz.checked) false ⟨#[], #[.agg #[.slice none 0 0, .int .i64 0, .int .i64 0, .slice none 0 0]], []⟩ 8 (by kernel_rfl) (by kernel_rfl) (by kernel_rfl) (by kernel_rfl)) ?_
  intro W base args ds gs before hval0 hW hcnd hsz _
  have hval : ∀ (j : Nat) t v, Tryz.f3.params[j]? = some t → args[j]? = some v → Value.okWide Tryz.prog W .any base t v := hval0
  have hW' := hW
  obtain ⟨p, q, hA0, hV, rfl, hfz, hnd⟩ := hW
  have hA : DataW.TrodAll enc Tryz.prog W 0 (fun _ => true) true Tryz.f3.params.toList args.toList ds p := hA0
  rw [Tryz.params3] at hA hval
  obtain ⟨v0, vs0, d0, ds0, p0, q0, hargs, rfl, rfl, h0, r0⟩ := trodAll_cons hA
  obtain ⟨rfl, rfl, rfl⟩ := trodAll_nil r0
  obtain rfl : args = #[v0] := by cases args; simp_all
  obtain ⟨rfl, rfl⟩ := trodVars_none hV
  obtain ⟨f, pv, bv, rfl, hF⟩ := open_func (hval 0 25 v0 rfl rfl) h0 hsz (j := 0) rfl rfl
  clear hA0 hval0
  refine (walk f pv bv W hF).mono fun e W' ⟨he, hg⟩ => ?_
  subst he
  exact ⟨_, rfl, law_post (by kernel_rfl) hW' rfl (by kernel_rfl) Tryz.underlying4 rfl rfl rfl (by rw [Tryz.params3]; decide +kernel) hg⟩

theorem over : Rows.loopsDepthsRow.holds Tryz.pinned (OpenSpec.ofChange Rows.loopsDepthsSpec) :=
  OpenClaim.holds_of_wide 3 Tryz.f3 rfl rfl rfl rfl rfl rfl rfl ⟨rfl, rfl, rfl, rfl, rfl⟩ rfl rfl rfl rfl rfl (by kernel_rfl) Tryz.func3 (by kernel_rfl)
    (of_decide_eq_true (by kernel_rfl)) (by unfold Func.isWrapper; first | (rw [if_pos (by decide +kernel)]; kernel_rfl) | (rw [if_neg (by decide +kernel)]; exact ⟨rfl, rfl⟩))
    (fun os started H enc _ => lifted os started H enc)

theorem proved : Rows.LoopsDepthsSaid := over
#print axioms proved
end Go.Proofs.YtglbepdjahddmaaGreat.loopsDepths
