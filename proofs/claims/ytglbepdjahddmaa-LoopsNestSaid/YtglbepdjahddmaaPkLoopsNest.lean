/- What is proved: for every function f, in whatever memory it lies, LoopsNest answers true: two loops lie within one another, or apart, or have one head; a loop's parent is around it. No condition. -/
import Derived.Test.YtglbepdjahddmaaPkLoopsNest1
import Derived.IntWalk
import Derived.BigQuiet
import Derived.Deep.QuietTactic
namespace Go.Proofs.Ytglbepdjahddmaa.loopsNest
open Go.ChangeShapes Go.WideShapes Go.ChangeAt Go.RowKit Go.Maps

theorem count_next {P : Nat → Bool} {l : List Nat} {j b : Nat} (hb : l[j]? = some b) : ((l.take (j + 1)).filter P).length = ((l.take j).filter P).length + if P b = true then 1 else 0 := by
  cases h : P b with
  | false => rw [filter_skip hb h]; simp
  | true => rw [filter_more hb h]; simp

set_option maxRecDepth 100000 in
set_option maxHeartbeats 2000000 in
theorem walk_no (f : FuncM) (pv bv : Value) (w : World) (hF : FnIn w f pv bv) (hno : ¬ ∃ o, StrictM f o) :
    Calls Try.prog 4 #[.agg #[pv, .int .i64 f.arrays, .int .i64 f.cells, bv]] w fun e w' => e = .returned (.bool true) ∧ Below w.heap.size w w' := by
  have HF := hideI hF
  have HID := hideI (uses_i64 hF.ok)
  obtain ⟨P, pc, hpv, _⟩ := hF.par
  obtain ⟨A, cc, hbv, _⟩ := hF.blk
  subst hpv hbv
  have HB : Hid (Below w.heap.size w (w.alloc (.cells #[.slice P f.params.length pc, .int .i64 f.arrays, .int .i64 f.cells, .slice A f.blocks.length cc] 25))) := (Below.refl _ w).alloc (Nat.le_refl _) _
  have HNG : Hid (∀ o, StrictM f o → False) := fun o h => hno ⟨o, h⟩
  clear hF hno
  go_enter Try.func4, Try.ntmps4
  go_wp2_with (first
    | (go_at_call 7; go_must (refine (lForest_any f w.heap.size _ _ _ (HF.out.par.keeps (Keeps.of_below HB.out)) (HF.out.blk.keeps (Keeps.of_below HB.out)) HB.out.size HID.out).mono ?_); rintro e w1 (⟨x, y, hci, hy, rfl, hb⟩ | ⟨o, _, _, _, _, _, hk, _⟩); rotate_left; (exact (HNG.out o hk.strict).elim); have hyb : (y != 0) = true := (by rw [bne_iff_ne]; exact hy); replace HB := hideI (HB.out.trans (hb.mono HB.out.size)); clear hb hci hy)
    | (go_at_call 9; refine (awake9_any _).mono ?_; rintro e w5 ⟨rfl, hb⟩; replace HB := hideI (HB.out.trans (hb.mono HB.out.size)); clear hb))
  go_ret
  exact ⟨rfl, HB.out⟩

set_option maxRecDepth 100000 in
set_option maxHeartbeats 40000000 in
theorem walk_yes (f : FuncM) (o0 : List Nat) (pv bv : Value) (w : World) (hF : FnIn w f pv bv) (hs : StrictM f o0) :
    Calls Try.prog 4 #[.agg #[pv, .int .i64 f.arrays, .int .i64 f.cells, bv]] w fun e w' => e = .returned (.bool true) ∧ Below w.heap.size w w' := by
  have HF := hideI hF
  have HID := hideI (uses_i64 hF.ok)
  obtain ⟨P, pc, hpv, _⟩ := hF.par
  obtain ⟨A, cc, hbv, _⟩ := hF.blk
  subst hpv hbv
  have HB : Hid (Below w.heap.size w (w.alloc (.cells #[.slice P f.params.length pc, .int .i64 f.arrays, .int .i64 f.cells, .slice A f.blocks.length cc] 25))) := (Below.refl _ w).alloc (Nat.le_refl _) _
  have HX := hideI (heap_alloc_new w (.cells #[.slice P f.params.length pc, .int .i64 f.arrays, .int .i64 f.cells, .slice A f.blocks.length cc] 25))
  have HS := hideI hs
  have hn5 := (look_some_block hs.look).2
  have HIN := hideI (look_ends hs.look)
  clear hF hs
  go_enter Try.func4, Try.ntmps4
  go_wp2_with (first
    | (go_at_call 7; go_must (refine (lForest_any f w.heap.size _ _ _ (HF.out.par.keeps (Keeps.of_below HB.out)) (HF.out.blk.keeps (Keeps.of_below HB.out)) HB.out.size HID.out).mono ?_); rintro e w1 (⟨x, y, hci, hy, _⟩ | ⟨o, pl, par, D, L, lv, hk, rfl, hlp, hb⟩); (exact absurd (Prod.mk.inj (HS.out.check hci)).2 hy); (obtain ⟨Av, cv, rfl⟩ : ∃ A c, lv = .slice A (loopsM f.blocks D L).length c := (by obtain ⟨cs, h1, _⟩ := hlp.ex; exact own_sl h1)); have HK := hideI hk; have HLP := hideI (hlp.mono (Nat.zero_le _)); replace HX := hideI ((hb.block _ (lt_of_heap HX.out)).trans HX.out); have hx := row_cells HX.out rfl; have q0 := hx 0; have q1 := hx 1; have q2 := hx 2; have q3 := hx 3; clear hx; replace HB := hideI (HB.out.trans (hb.mono HB.out.size)); clear hb hk hlp)
    | (go_at_call 9; refine (awake9_any _).mono ?_; rintro e w5 ⟨rfl, hb⟩; clear q0 q1 q2 q3; replace HX := hideI ((hb.block _ (lt_of_heap HX.out)).trans HX.out); have hx := row_cells HX.out rfl; have q0 := hx 0; have q1 := hx 1; have q2 := hx 2; have q3 := hx 3; clear hx; replace HLP := hideI (HLP.out.kept hb); replace HB := hideI (HB.out.trans (hb.mono HB.out.size)); clear hb))
  obtain ⟨W, hW⟩ : ∃ W : World, W = w5 := ⟨_, rfl⟩
  rw [← hW] at HLP HB HX ⊢
  clear hW q0 q1 q2 q3
  have hwW : w.heap.size < W.heap.size := lt_of_heap HX.out
  have HBLK := hideI ((HF.out.blk.keeps (Keeps.of_below HB.out)).more' HB.out.size)
  obtain ⟨ls, hls⟩ : ∃ ls, ls = loopsM f.blocks D L := ⟨_, rfl⟩
  rw [← hls] at HLP ⊢
  have HAT : Hid (∀ i x, ls[i]? = some x → LpIs f.blocks D L i x) := by intro i x hx; rw [hls] at hx; exact loops_at hx
  have HPAR : Hid (∀ (i : Nat) (x : LpM), ls[i]? = some x → x.parent = -1 ∨ ∃ (j : Nat) (y : LpM), x.parent = (j : Int) ∧ ls[j]? = some y ∧ x.blocks.length < y.blocks.length ∧ x.head ∈ y.blocks) := by intro i x hx; rw [hls] at hx ⊢; exact loops_par HK.out.ok hx
  have HRS : Hid (Rising ls) := by show Rising ls; rw [hls]; exact loops_rising hn5
  have hll : ls.length ≤ 512 := by rw [hls]; exact Nat.le_trans loops_len hn5
  have hlat : ∀ (i : Nat) (x : LpM), ls[i]? = some x → x.latches.length ≤ 512 := by
    intro i x hx
    rw [(HAT.out i x hx).latches]
    unfold latchesM
    exact Nat.le_trans (List.length_filter_le _ _) (Nat.le_trans (predsTo_len _ _ _) hn5)
  have HLT := hideI hlat
  clear hls hlat
  go_loopw [5] (fun u wr => ∃ i : Nat, i ≤ ls.length ∧ u = .int .i64 i ∧ Hid (Below W.heap.size W wr)) (fun u _ => ls.length - (intOf u).toNat)
  case atStart => exact ⟨0, Nat.zero_le _, rfl, hideI (Below.refl _ _)⟩
  case round =>
    obtain ⟨i, hi, rfl, HBr⟩ := hrel
    by_cases hlt : i < ls.length
    · obtain ⟨x, hx⟩ : ∃ x, ls[i]? = some x := ⟨_, List.getElem?_eq_getElem hlt⟩
      have HXI := hideI hx
      have HLX := hideI (HAT.out i x hx)
      have HRX := hideI (HRS.out x (List.mem_of_getElem? hx))
      have hltl := HLT.out i x hx
      obtain ⟨g, cap0, b1, b2, b3, hv, hgb, hgl, r0, r1, r2, r3, r4, s1, s2, s3, _⟩ := HLP.out.cells hx
      cases hv
      obtain ⟨A1, c1, rfl⟩ := own_sl s1.1
      obtain ⟨A2, c2, rfl⟩ := own_sl s2.1
      have HI1 := hideI (s1.ints (by have := HRX.out.2; omega))
      have HI2 := hideI (s2.ints (by omega))
      obtain ⟨nb, hnb⟩ : ∃ nb, nb = x.blocks.length := ⟨_, rfl⟩
      obtain ⟨nl, hnl⟩ : ∃ nl, nl = x.latches.length := ⟨_, rfl⟩
      have HNB := hideI hnb
      have HNL := hideI hnl
      have hnb5 : nb ≤ 512 := by rw [hnb]; exact HRX.out.2
      have hnl5 : nl ≤ 512 := by rw [hnl]; exact hltl
      have hnlp : 0 < nl := by rw [hnl]; exact HLX.out.latches_pos
      rw [← hnb] at r1 HI1
      rw [← hnl] at r2 HI2
      have R0 := hideI r0
      have R1 := hideI r1
      have R2 := hideI r2
      have R4 := hideI r4
      clear hx s1 s2 s3 r0 r1 r2 r3 r4 hnb hnl hltl
      have k0 := (HBr.out.cell (p := ⟨g, i * 5, none⟩) hgl).trans R0.out
      have k1 := (HBr.out.cell (p := ⟨g, i * 5 + 1, none⟩) hgl).trans R1.out
      have k2 := (HBr.out.cell (p := ⟨g, i * 5 + 2, none⟩) hgl).trans R2.out
      have HH1 : Hid (∀ a, _) := hideI (has_at (w := wr) (p := x.head) (r := true) (HI1.out.keep HBr.out) (decide_eq_true (HLX.out.head_mem HK.out.ok)))
      have hnl0 : ((nl : Int) == 0) = false := by rw [beq_eq_false_iff_ne]; omega
      go_upto_region 7 with fail
      go_cut [69] (fun u wx => u = .bool false ∧ Hid (Below W.heap.size W wx))
      case first =>
        by_cases hi0 : 0 < i
        · as_aux_lemma =>
            obtain ⟨y, hy⟩ : ∃ y, ls[i - 1]? = some y := ⟨_, List.getElem?_eq_getElem (by omega)⟩
            have hry := HLX.out.rise (HAT.out _ _ hy) (by omega)
            obtain ⟨_, _, _, _, _, hv, _, _, y0, _⟩ := HLP.out.cells hy
            cases hv
            obtain ⟨i1, hi1⟩ : ∃ i1, i1 = i - 1 := ⟨_, rfl⟩
            have y0' := (HBr.out.cell (p := ⟨g, (i - 1) * 5, none⟩) hgl).trans y0
            rw [← hi1] at y0'
            have ht : ((i : Int) - 1).toNat = i1 := by omega
            have hz : (i : Int) - 1 = (i1 : Int) := by omega
            have hz1 : i1 < ls.length := by omega
            clear hy y0 hi1
            go_wp2_with fail
            go_quiet ((go_at_call 12; exact Calls.quiet_of_same (HH1.out _)))
            go_wp2_with fail
            go_meet
            exact ⟨congrArg Value.bool (decide_eq_false (by omega)), hideI (drew_below HBr.out _)⟩
        · go_wp2_with fail
          go_quiet ((go_at_call 12; exact Calls.quiet_of_same (HH1.out _)))
          go_wp2_with fail
          go_meet
          exact ⟨rfl, hideI (drew_below HBr.out _)⟩
      case rest =>
        obtain ⟨rfl, HBc⟩ := hcut
        clear k0 k1 k2 HH1 HBr
        have k2 := (HBc.out.cell (p := ⟨g, i * 5 + 2, none⟩) hgl).trans R2.out
        obtain ⟨_, _, ei2, _, hpx2⟩ := HI2.out
        rw [List.length_map] at ei2 hpx2
        have HPX2 := hideI hpx2
        obtain ⟨_, _, ei1, _, hpx1⟩ := HI1.out
        rw [List.length_map] at ei1 hpx1
        have HPX1 := hideI hpx1
        rw [← HNL.out] at ei2
        rw [← HNB.out] at ei1
        cases ei2
        cases ei1
        rw [← HNL.out] at HPX2
        rw [← HNB.out] at HPX1
        clear hpx2 hpx1
        go_wp2_with fail
        go_loopw [6] (fun u wr => ∃ k : Nat, k ≤ nl ∧ u = .int .i64 k ∧ Hid (Below W.heap.size W wr)) (fun u _ => nl - (intOf u).toNat)
        case atStart => exact ⟨0, Nat.zero_le _, rfl, HBc⟩
        case round =>
          clear HBc k2
          obtain ⟨k, hk, rfl, HBr⟩ := hrel
          have k1 := (HBr.out.cell (p := ⟨g, i * 5 + 1, none⟩) hgl).trans R1.out
          have k2 := (HBr.out.cell (p := ⟨g, i * 5 + 2, none⟩) hgl).trans R2.out
          have k0 := (HBr.out.cell (p := ⟨g, i * 5, none⟩) hgl).trans R0.out
          by_cases hltk : k < nl
          · as_aux_lemma =>
              obtain ⟨p, hp⟩ : ∃ p, x.latches[k]? = some p := ⟨_, List.getElem?_eq_getElem (by rw [← HNL.out]; exact hltk)⟩
              obtain ⟨hpb, hps, hpl⟩ := HLX.out.latch HK.out.ok (List.mem_of_getElem? hp)
              obtain ⟨pb, po, rfl, hpb2, d0⟩ := HPX2.out k hltk
              rw [List.getElem?_map, hp] at d0
              simp only [Option.map_some, Option.getD_some] at d0
              have d1 := (HBr.out.cell (p := ⟨pb, po + k, none⟩) hpb2).trans d0
              obtain ⟨q, hq⟩ : ∃ q, f.blocks[p]? = some q := ⟨_, List.getElem?_eq_getElem hpl⟩
              obtain ⟨A', c', e0, _, hbx⟩ := HBLK.out.keeps (Keeps.of_below HBr.out)
              cases e0
              obtain ⟨ab, off, pq, cq, tv, rfl, hab, x0, x1, x2, x3, x4, x5, _, _, htv, _⟩ := hbx p q hq
              have HHa : Hid (∀ a, _) := hideI (has_at (w := wr) (p := p) (r := true) (HI1.out.keep HBr.out) (decide_eq_true hpb))
              have HHb : Hid (∀ a, _) := hideI (has_atI (w := wr) (p := (x.head : Int)) (r := true) htv (decide_eq_true ((mem_to HIN.out hq).2 hps)))
              obtain ⟨TA, tc, rfl, htm, _⟩ := htv
              have g3 := (row_cells HX.out (HBr.out.block w.heap.size hwW)) 3
              clear hbx hq x0 x1 x2 x3 x5 hp d0 hps hpb
              go_wp2_with fail
              go_quiet (first | (go_at_call_of 12 (Value.int IntKind.i64 (p : Int)); exact Calls.quiet_of_same (HHa.out _)) | (go_at_call_of 12 (Value.int IntKind.i64 (x.head : Int)); exact Calls.quiet_of_same (HHb.out _)))
              go_wp2_with fail
              go_roundw
              case rel => exact ⟨k + 1, by omega, by go_num, hideI (drew_below HBr.out _)⟩
              case measure => simp [intOf]; omega
          · go_wp2_with fail
            clear k0 k1 k2
            go_loopw [7] (fun u wr => ∃ k : Nat, k ≤ i ∧ u = .int .i64 k ∧ Hid (Below W.heap.size W wr)) (fun u _ => i - (intOf u).toNat)
            case atStart => exact ⟨0, Nat.zero_le _, rfl, HBr⟩
            case round =>
              clear HBr
              obtain ⟨k, hk, rfl, HBr⟩ := hrel
              have k0 := (HBr.out.cell (p := ⟨g, i * 5, none⟩) hgl).trans R0.out
              have k1 := (HBr.out.cell (p := ⟨g, i * 5 + 1, none⟩) hgl).trans R1.out
              have k4 := (HBr.out.cell (p := ⟨g, i * 5 + 4, none⟩) hgl).trans R4.out
              by_cases hltk : k < i
              · obtain ⟨y, hy⟩ : ∃ y, ls[k]? = some y := ⟨_, List.getElem?_eq_getElem (by omega)⟩
                have HLY := hideI (HAT.out _ _ hy)
                have HRY := hideI (HRS.out y (List.mem_of_getElem? hy))
                obtain ⟨_, _, b1', _, _, hv, _, _, _, y1, _, _, _, t1, _, _, _⟩ := HLP.out.cells hy
                cases hv
                obtain ⟨AY, cy, rfl⟩ := own_sl t1.1
                have HIY := hideI (t1.ints (by have := HRY.out.2; omega))
                obtain ⟨ny, hny⟩ : ∃ ny, ny = y.blocks.length := ⟨_, rfl⟩
                have HNY := hideI hny
                rw [← hny] at y1 HIY
                have Y1 := hideI y1
                have h1 := (HBr.out.cell (p := ⟨g, k * 5 + 1, none⟩) hgl).trans y1
                have HBO := hideI (HLX.out.both HK.out.ok HLY.out (by omega))
                clear hy t1 y1 hny k0 k4
                go_wp2_with fail
                go_quiet (fail)
                go_wp2_with fail
                clear k1 h1
                go_loopw [8, 11] (fun cv u wr => ∃ j : Nat, j ≤ nb ∧ u = .int .i64 j ∧ cv = .int .i64 (((x.blocks.take j).filter fun b => decide (b ∈ y.blocks)).length : Nat) ∧ Hid (Below W.heap.size W wr)) (fun _ u _ => nb - (intOf u).toNat)
                case atStart => exact ⟨0, Nat.zero_le _, rfl, rfl, hideI (drew_below HBr.out _)⟩
                case round =>
                  clear HBr
                  obtain ⟨j, hj, rfl, rfl, HBr⟩ := hrel
                  obtain ⟨C, hC⟩ : ∃ C, C = ((x.blocks.take j).filter fun b => decide (b ∈ y.blocks)).length := ⟨_, rfl⟩
                  rw [← hC]
                  have hC5 : C ≤ 512 := by rw [hC]; exact Nat.le_trans filter_len (by rw [← HNB.out]; exact hnb5)
                  have HC := hideI hC
                  clear hC
                  by_cases hltj : j < nb
                  · have k1 := (HBr.out.cell (p := ⟨g, i * 5 + 1, none⟩) hgl).trans R1.out
                    have h1 := (HBr.out.cell (p := ⟨g, k * 5 + 1, none⟩) hgl).trans Y1.out
                    obtain ⟨b, hb⟩ : ∃ b, x.blocks[j]? = some b := ⟨_, List.getElem?_eq_getElem (by rw [← HNB.out]; exact hltj)⟩
                    obtain ⟨pb, po, rfl, hpb, d0⟩ := HPX1.out j hltj
                    rw [List.getElem?_map, hb] at d0
                    simp only [Option.map_some, Option.getD_some] at d0
                    have d1 := (HBr.out.cell (p := ⟨pb, po + j, none⟩) hpb).trans d0
                    have HCN := hideI (count_next (P := fun b => decide (b ∈ y.blocks)) hb)
                    obtain ⟨r, hr⟩ : ∃ r, r = decide (b ∈ y.blocks) := ⟨_, rfl⟩
                    have HH : Hid (∀ a, _) := hideI (has_at (w := wr) (p := b) (r := r) (HIY.out.keep HBr.out) hr.symm)
                    simp only [← hr] at HCN
                    clear hb d0 hr
                    cases r with
                    | false =>
                      go_wp2_with fail
                      go_quiet ((go_at_call 12; exact Calls.quiet_of_same (HH.out _)))
                      go_wp2_with fail
                      go_roundw
                      case rel => exact ⟨j + 1, by omega, by go_num, by rw [HCN.out, ← HC.out]; rfl, hideI (drew_below HBr.out _)⟩
                      case measure => simp [intOf]; omega
                    | true =>
                      go_wp2_with fail
                      go_quiet ((go_at_call 12; exact Calls.quiet_of_same (HH.out _)))
                      go_wp2_with fail
                      go_roundw
                      case rel => exact ⟨j + 1, by omega, by go_num, by rw [HCN.out, ← HC.out]; rfl, hideI (drew_below HBr.out _)⟩
                      case measure => simp [intOf]; omega
                  · have hjn : j = nb := by omega
                    have HCB : Hid (C = 0 ∨ C = nb ∨ C = ny) := by
                      show _ ∨ _
                      have h2 := HC.out
                      rw [hjn, HNB.out, List.take_of_length_le (Nat.le_refl _)] at h2
                      rw [h2, HNB.out, HNY.out]
                      exact HBO.out
                    clear hjn
                    by_cases hC0 : C = 0
                    · have e1 : ((C : Int) != 0) = false := by rw [hC0]; rfl
                      clear hC0
                      go_wp2_with fail
                      go_roundw
                      case rel => exact ⟨k + 1, by omega, by go_num, HBr⟩
                      case measure => simp [intOf]; omega
                    · have e1 : ((C : Int) != 0) = true := by rw [bne_iff_ne]; omega
                      by_cases hCn : C = nb
                      · have e2 : ((C : Int) != (nb : Int)) = false := by rw [hCn]; simp
                        clear hC0 hCn
                        go_wp2_with fail
                        go_roundw
                        case rel => exact ⟨k + 1, by omega, by go_num, HBr⟩
                        case measure => simp [intOf]; omega
                      · have e2 : ((C : Int) != (nb : Int)) = true := by rw [bne_iff_ne]; omega
                        have e3 : ((C : Int) != (ny : Int)) = false := by
                          have h3 : C = ny := by rcases HCB.out with h | h | h <;> omega
                          rw [h3]; simp
                        clear hC0 hCn
                        go_wp2_with fail
                        go_roundw
                        case rel => exact ⟨k + 1, by omega, by go_num, HBr⟩
                        case measure => simp [intOf]; omega
              · rcases HPAR.out i x HXI.out with hpar | ⟨j, y, hpar, hy, hlen, hmem⟩
                · as_aux_lemma =>
                    rw [hpar] at k4
                    clear hpar
                    go_wp2_with fail
                    go_quiet (fail)
                    go_wp2_with fail
                    go_roundw
                    case rel => exact ⟨i + 1, by omega, by go_num, hideI (drew_below HBr.out _)⟩
                    case measure => simp [intOf]; omega
                · as_aux_lemma =>
                    rw [hpar] at k4
                    have hjl := (List.getElem?_eq_some_iff.1 hy).1
                    have HRY := hideI (HRS.out y (List.mem_of_getElem? hy))
                    obtain ⟨_, _, b1', _, _, hv, _, _, _, y1, _, _, _, t1, _, _, _⟩ := HLP.out.cells hy
                    cases hv
                    obtain ⟨AY, cy, rfl⟩ := own_sl t1.1
                    have HIY := hideI (t1.ints (by have := HRY.out.2; omega))
                    obtain ⟨ny, hny⟩ : ∃ ny, ny = y.blocks.length := ⟨_, rfl⟩
                    rw [← hny, ← HNB.out] at hlen
                    rw [← hny] at y1 HIY
                    have h1 := (HBr.out.cell (p := ⟨g, j * 5 + 1, none⟩) hgl).trans y1
                    have HH : Hid (∀ a, _) := hideI (has_at (w := wr) (p := x.head) (r := true) (HIY.out.keep HBr.out) (decide_eq_true hmem))
                    clear hpar hy t1 y1 hny hmem
                    go_wp2_with fail
                    go_quiet ((go_at_call 12; exact Calls.quiet_of_same (HH.out _)))
                    go_wp2_with fail
                    go_roundw
                    case rel => exact ⟨i + 1, by omega, by go_num, hideI (drew_below HBr.out _)⟩
                    case measure => simp [intOf]; omega
    · go_wp2_with fail
      go_ret
      exact ⟨rfl, HB.out.trans (HBr.out.mono HB.out.size)⟩

theorem walk (f : FuncM) (pv bv : Value) (w : World) (hF : FnIn w f pv bv) :
    Calls Try.prog 4 #[.agg #[pv, .int .i64 f.arrays, .int .i64 f.cells, bv]] w fun e w' => e = .returned (.bool true) ∧ Below w.heap.size w w' := by
  by_cases h : ∃ o, StrictM f o
  · obtain ⟨o, ho⟩ := h
    exact walk_yes f o pv bv w hF ho
  · exact walk_no f pv bv w hF h

set_option maxRecDepth 100000 in
theorem lifted (os : Os) (started : os.Started) (H : Type) (enc : TypeId × Value → H) :
    ReturnsInHanded {} Try.checked os 4 .any (Rows.loopsNestSpec.pre6 enc Try.prog Try.f4 Rows.loopsNestRow.domain false) (Rows.loopsNestSpec.post enc Try.prog Try.f4 false true false false) := by
  refine returnsInHanded_of_change_sized (C := Try.checked) own started (by kernel_rfl) Try.func4
    (ChangeSpec.witness6 (enc := enc) (C := Try.checked) false ⟨#[], #[.agg #[.slice none 0 0, .int .i64 0, .int .i64 0, .slice none 0 0]], []⟩ 8 (by kernel_rfl) (by kernel_rfl) (by kernel_rfl) (by kernel_rfl)) ?_
  intro W base args ds gs before hval0 hW hcnd hsz _
  have hval : ∀ (j : Nat) t v, Try.f4.params[j]? = some t → args[j]? = some v → Value.okWide Try.prog W .any base t v := hval0
  have hW' := hW
  obtain ⟨p, q, hA0, hV, rfl, hfz, hnd⟩ := hW
  have hA : DataW.TrodAll enc Try.prog W 0 (fun _ => true) true Try.f4.params.toList args.toList ds p := hA0
  rw [Try.params4] at hA hval
  obtain ⟨v0, vs0, d0, ds0, p0, q0, hargs, rfl, rfl, h0, r0⟩ := trodAll_cons hA
  obtain ⟨rfl, rfl, rfl⟩ := trodAll_nil r0
  obtain rfl : args = #[v0] := by cases args; simp_all
  obtain ⟨rfl, rfl⟩ := trodVars_none hV
  obtain ⟨f, pv, bv, rfl, hF⟩ := open_func (hval 0 25 v0 rfl rfl) h0 hsz (j := 0) rfl rfl
  clear hA0 hval0
  refine (walk f pv bv W hF).mono fun e W' ⟨he, hg⟩ => ?_
  subst he
  exact ⟨_, rfl, law_post (by kernel_rfl) hW' rfl (by kernel_rfl) Try.underlying4 rfl rfl rfl (by rw [Try.params4]; decide +kernel) hg⟩

theorem over : Rows.loopsNestRow.holds Try.pinned (OpenSpec.ofChange Rows.loopsNestSpec) :=
  OpenClaim.holds_of_wide 4 Try.f4 rfl rfl rfl rfl rfl rfl rfl ⟨rfl, rfl, rfl, rfl, rfl⟩ rfl rfl rfl rfl rfl (by kernel_rfl) Try.func4 (by kernel_rfl)
    (of_decide_eq_true (by kernel_rfl)) (by unfold Func.isWrapper; first | (rw [if_pos (by decide +kernel)]; kernel_rfl) | (rw [if_neg (by decide +kernel)]; exact ⟨rfl, rfl⟩))
    (fun os started H enc _ => lifted os started H enc)

theorem proved : Rows.LoopsNestSaid := over
#print axioms proved
end Go.Proofs.Ytglbepdjahddmaa.loopsNest
