/- What is proved: for every function f, in whatever memory it lies, LoopsWays answers true: each edge back to what dominates it lies in the loop of its head; each loop has such an edge from each latch. No condition. -/
import Derived.Test.YtglbepdjahddmaaPkLoopsWays1
import Derived.IntWalk
import Derived.BigQuiet
import Derived.Deep.QuietTactic
namespace Go.Proofs.Ytglbepdjahddmaa.loopsWays
open Go.ChangeShapes Go.WideShapes Go.ChangeAt Go.RowKit Go.Maps

/-- a way back lies in the loop of its head -/
theorem back_at {bs : List BlockM} {o : List Nat} {pl : Nat → Nat} {par : Nat → Option Nat} {D L : Nat → Nat → Bool} (K : LoopOk bs o pl par D L) {t b : Nat} (ht : t < bs.length) (hs : t ∈ succM bs b) (hd : D t b = true) :
    ∃ (i : Nat) (x : LpM), (loopsM bs D L)[i]? = some x ∧ x.head = t ∧ b ∈ x.latches ∧ b ∈ x.blocks ∧ ∀ (j : Nat) (y : LpM), j < i → (loopsM bs D L)[j]? = some y → y.head ≠ t := by
  have hb : BackP bs o t b := ⟨hs, (K.fn.dom t b).1 hd⟩
  have hm : t ∈ headsM bs D bs.length := mem_heads.2 ⟨ht, fun e => by
    have := K.fn.mem_latches.2 hb
    rw [e] at this
    cases this⟩
  obtain ⟨i, hi⟩ := List.getElem?_of_mem hm
  have hl : i < (loopsM bs D L).length := by
    have := (List.getElem?_eq_some_iff.1 hi).1
    unfold loopsM lp0M
    rw [parsTo_len, List.length_map]
    exact this
  obtain ⟨x, hx⟩ : ∃ x, (loopsM bs D L)[i]? = some x := ⟨_, List.getElem?_eq_getElem hl⟩
  have X := loops_at hx
  have hxt : x.head = t := by
    have h1 := X.at_
    rw [hi] at h1
    exact (Option.some.inj h1).symm
  have hlat : b ∈ x.latches := by rw [X.mem_latches K, hxt]; exact hb
  exact ⟨i, x, hx, hxt, hlat, (X.latch K hlat).1, fun j y hj hy e => by
    have := X.rise (loops_at hy) hj
    omega⟩

set_option maxRecDepth 100000 in
set_option maxHeartbeats 2000000 in
theorem walk_no (f : FuncM) (pv bv : Value) (w : World) (hF : FnIn w f pv bv) (hno : ¬ ∃ o, StrictM f o) :
    Calls Try.prog 6 #[.agg #[pv, .int .i64 f.arrays, .int .i64 f.cells, bv]] w fun e w' => e = .returned (.bool true) ∧ Below w.heap.size w w' := by
  have HF := hideI hF
  have HID := hideI (uses_i64 hF.ok)
  obtain ⟨P, pc, hpv, _⟩ := hF.par
  obtain ⟨A, cc, hbv, _⟩ := hF.blk
  subst hpv hbv
  have HB : Hid (Below w.heap.size w (w.alloc (.cells #[.slice P f.params.length pc, .int .i64 f.arrays, .int .i64 f.cells, .slice A f.blocks.length cc] 25))) := (Below.refl _ w).alloc (Nat.le_refl _) _
  have HNG : Hid (∀ o, StrictM f o → False) := fun o h => hno ⟨o, h⟩
  clear hF hno
  go_enter Try.func6, Try.ntmps6
  go_wp2_with (first
    | (go_at_call 7; go_must (refine (lForest_any f w.heap.size _ _ _ (HF.out.par.keeps (Keeps.of_below HB.out)) (HF.out.blk.keeps (Keeps.of_below HB.out)) HB.out.size HID.out).mono ?_); rintro e w1 (⟨x, y, hci, hy, rfl, hb⟩ | ⟨o, _, _, _, _, _, hk, _⟩); rotate_left; (exact (HNG.out o hk.strict).elim); have hyb : (y != 0) = true := (by rw [bne_iff_ne]; exact hy); replace HB := hideI (HB.out.trans (hb.mono HB.out.size)); clear hb hci hy)
    | (go_at_call 9; refine (awake9_any _).mono ?_; rintro e w5 ⟨rfl, hb⟩; replace HB := hideI (HB.out.trans (hb.mono HB.out.size)); clear hb))
  go_ret
  exact ⟨rfl, HB.out⟩

set_option maxRecDepth 100000 in
set_option maxHeartbeats 40000000 in
theorem walk_yes (f : FuncM) (o0 : List Nat) (pv bv : Value) (w : World) (hF : FnIn w f pv bv) (hs : StrictM f o0) :
    Calls Try.prog 6 #[.agg #[pv, .int .i64 f.arrays, .int .i64 f.cells, bv]] w fun e w' => e = .returned (.bool true) ∧ Below w.heap.size w w' := by
  have HF := hideI hF
  have HID := hideI (uses_i64 hF.ok)
  obtain ⟨P, pc, hpv, _⟩ := hF.par
  obtain ⟨A, cc, hbv, _⟩ := hF.blk
  subst hpv hbv
  have HB : Hid (Below w.heap.size w (w.alloc (.cells #[.slice P f.params.length pc, .int .i64 f.arrays, .int .i64 f.cells, .slice A f.blocks.length cc] 25))) := (Below.refl _ w).alloc (Nat.le_refl _) _
  have HX := hideI (heap_alloc_new w (.cells #[.slice P f.params.length pc, .int .i64 f.arrays, .int .i64 f.cells, .slice A f.blocks.length cc] 25))
  have HS := hideI hs
  have hn0 := (look_some_block hs.look).1
  have hn5 := (look_some_block hs.look).2
  have HIN := hideI (look_ends hs.look)
  clear hF hs
  by_cases hz2 : 100 < f.blocks.length
  · have hd2 : decide ((100 : Int) < (f.blocks.length : Int)) = true := by simp; omega
    go_enter Try.func6, Try.ntmps6
    go_wp2_with (first
      | (go_at_call 7; go_must (refine (lForest_any f w.heap.size _ _ _ (HF.out.par.keeps (Keeps.of_below HB.out)) (HF.out.blk.keeps (Keeps.of_below HB.out)) HB.out.size HID.out).mono ?_); rintro e w1 (⟨x, y, hci, hy, _⟩ | ⟨o, pl, par, D, L, lv, hk, rfl, hlp, hb⟩); (exact absurd (Prod.mk.inj (HS.out.check hci)).2 hy); (obtain ⟨Av, cv, rfl⟩ : ∃ A c, lv = .slice A (loopsM f.blocks D L).length c := (by obtain ⟨cs, h1, _⟩ := hlp.ex; exact own_sl h1)); have HK := hideI hk; have HLP := hideI (hlp.mono (Nat.zero_le _)); replace HX := hideI ((hb.block _ (lt_of_heap HX.out)).trans HX.out); have hx := row_cells HX.out rfl; have q0 := hx 0; have q1 := hx 1; have q2 := hx 2; have q3 := hx 3; clear hx; replace HB := hideI (HB.out.trans (hb.mono HB.out.size)); clear hb hk hlp)
      | (go_at_call 9; refine (awake9_any _).mono ?_; rintro e w5 ⟨rfl, hb⟩; clear q0 q1 q2 q3; replace HX := hideI ((hb.block _ (lt_of_heap HX.out)).trans HX.out); have hx := row_cells HX.out rfl; have q0 := hx 0; have q1 := hx 1; have q2 := hx 2; have q3 := hx 3; clear hx; replace HLP := hideI (HLP.out.kept hb); replace HB := hideI (HB.out.trans (hb.mono HB.out.size)); clear hb))
    go_ret
    exact ⟨rfl, HB.out⟩
  · have hd2 : decide ((100 : Int) < (f.blocks.length : Int)) = false := by simp; omega
    go_enter Try.func6, Try.ntmps6
    go_wp2_with (first
      | (go_at_call 7; go_must (refine (lForest_any f w.heap.size _ _ _ (HF.out.par.keeps (Keeps.of_below HB.out)) (HF.out.blk.keeps (Keeps.of_below HB.out)) HB.out.size HID.out).mono ?_); rintro e w1 (⟨x, y, hci, hy, _⟩ | ⟨o, pl, par, D, L, lv, hk, rfl, hlp, hb⟩); (exact absurd (Prod.mk.inj (HS.out.check hci)).2 hy); (obtain ⟨Av, cv, rfl⟩ : ∃ A c, lv = .slice A (loopsM f.blocks D L).length c := (by obtain ⟨cs, h1, _⟩ := hlp.ex; exact own_sl h1)); have HK := hideI hk; have HLP := hideI (hlp.mono (Nat.zero_le _)); replace HX := hideI ((hb.block _ (lt_of_heap HX.out)).trans HX.out); have hx := row_cells HX.out rfl; have q0 := hx 0; have q1 := hx 1; have q2 := hx 2; have q3 := hx 3; clear hx; replace HB := hideI (HB.out.trans (hb.mono HB.out.size)); clear hb hk hlp)
      | (go_at_call 9; refine (awake9_any _).mono ?_; rintro e w5 ⟨rfl, hb⟩; clear q0 q1 q2 q3; replace HX := hideI ((hb.block _ (lt_of_heap HX.out)).trans HX.out); have hx := row_cells HX.out rfl; have q0 := hx 0; have q1 := hx 1; have q2 := hx 2; have q3 := hx 3; clear hx; replace HLP := hideI (HLP.out.kept hb); replace HB := hideI (HB.out.trans (hb.mono HB.out.size)); clear hb)
      | (go_at_call 14; go_must (refine (refOver_any f.blocks o D w.heap.size _ _ _ _ _ (HF.out.blk.keeps (Keeps.of_below HB.out)) HB.out.size hn0 hn5 HIN.out (HK.out.strict.order) HK.out.ok.fn.dom).mono ?_); rintro e w6 ⟨ov, rfl, hgr, hb⟩; have HGR := hideI hgr; clear q0 q1 q2 q3; replace HX := hideI ((hb.block _ (lt_of_heap HX.out)).trans HX.out); replace HLP := hideI (HLP.out.kept hb); replace HB := hideI (HB.out.trans (hb.mono HB.out.size)); clear hb hgr))
    obtain ⟨W, hW⟩ : ∃ W : World, W = w6 := ⟨_, rfl⟩
    rw [← hW] at HLP HB HX HGR ⊢
    clear hW
    have hwW : w.heap.size < W.heap.size := lt_of_heap HX.out
    obtain ⟨gv, cg, rfl, hgv, hgrid⟩ := HGR.out
    have HGD := hideI hgrid
    have HBLK := hideI ((HF.out.blk.keeps (Keeps.of_below HB.out)).more' HB.out.size)
    obtain ⟨ls, hls⟩ : ∃ ls, ls = loopsM f.blocks D L := ⟨_, rfl⟩
    rw [← hls] at HLP ⊢
    have HAT : Hid (∀ i x, ls[i]? = some x → LpIs f.blocks D L i x) := by intro i x hx; rw [hls] at hx; exact loops_at hx
    have HBA : Hid (∀ t b : Nat, t < f.blocks.length → t ∈ succM f.blocks b → D t b = true → ∃ (i : Nat) (x : LpM), ls[i]? = some x ∧ x.head = t ∧ b ∈ x.latches ∧ b ∈ x.blocks ∧ ∀ (j : Nat) (y : LpM), j < i → ls[j]? = some y → y.head ≠ t) := by
      intro t b h1 h2 h3
      rw [hls]
      exact back_at HK.out.ok h1 h2 h3
    have HRS : Hid (Rising ls) := by show Rising ls; rw [hls]; exact loops_rising hn5
    have hll : ls.length ≤ 512 := by rw [hls]; exact Nat.le_trans loops_len hn5
    have hlat : ∀ (i : Nat) (x : LpM), ls[i]? = some x → x.latches.length ≤ 512 := by
      intro i x hx
      rw [(HAT.out i x hx).latches]
      unfold latchesM
      exact Nat.le_trans (List.length_filter_le _ _) (Nat.le_trans (predsTo_len _ _ _) hn5)
    have HLT := hideI hlat
    have hxr := row_cells HX.out rfl
    have g3 := hxr 3
    clear hls hlat hgrid hxr
    go_loopw [6] (fun u wr => ∃ b : Nat, b ≤ f.blocks.length ∧ u = .int .i64 b ∧ wr = W) (fun u _ => f.blocks.length - (intOf u).toNat)
    case atStart => exact ⟨0, Nat.zero_le _, rfl, rfl⟩
    case round =>
      obtain ⟨b, hb, rfl, hw⟩ := hrel
      obtain rfl := hw.symm
      by_cases hlt : b < f.blocks.length
      · obtain ⟨q, hq⟩ : ∃ q, f.blocks[b]? = some q := ⟨_, List.getElem?_eq_getElem hlt⟩
        obtain ⟨A', c', e0, _, hbx⟩ := HBLK.out
        cases e0
        obtain ⟨ab, off, pq, cq, tv, rfl, hab, x0, x1, x2, x3, x4, x5, _, _, htv, _⟩ := hbx b q hq
        have HTV := hideI htv
        have HQ := hideI hq
        have HSU : Hid (succM f.blocks b = q.term.to.map Int.toNat) := by show _ = _; unfold succM; rw [hq]
        obtain ⟨TA, tc, rfl, htm, _⟩ := htv
        obtain ⟨m, hm⟩ : ∃ m, m = q.term.to.length := ⟨_, rfl⟩
        have HM := hideI hm
        rw [← hm] at x4 htm
        clear hbx hq x0 x1 x2 x3 x5 hm
        go_wp2
        clear x4
        go_loopw [8] (fun u wr => ∃ j : Nat, j ≤ m ∧ u = .int .i64 j ∧ wr = W) (fun u _ => m - (intOf u).toNat)
        case atStart => exact ⟨0, Nat.zero_le _, rfl, rfl⟩
        case round =>
          obtain ⟨j, hj, rfl, hw⟩ := hrel
          obtain rfl := hw.symm
          by_cases hltj : j < m
          · obtain ⟨t, ht⟩ : ∃ t, q.term.to[j]? = some t := ⟨_, List.getElem?_eq_getElem (by rw [HM.out] at hltj; exact hltj)⟩
            have htn := HIN.out q (List.mem_of_getElem? HQ.out) t (List.mem_of_getElem? ht)
            obtain ⟨tn, rfl⟩ : ∃ tn : Nat, t = (tn : Int) := ⟨t.toNat, by omega⟩
            have htl : tn < f.blocks.length := by omega
            have hts : tn ∈ succM f.blocks b := (mem_to HIN.out HQ.out).1 (List.mem_of_getElem? ht)
            obtain ⟨TA', tc', e0, _, hxx⟩ := HTV.out
            cases e0
            obtain ⟨tb, toff, rfl, htb, hcell⟩ := hxx j (by rw [← HM.out]; exact hltj)
            rw [ht] at hcell
            simp only [Option.getD_some] at hcell
            obtain ⟨ga, hga, y1, y2⟩ := HGD.out tn htl
            have z := y2 b hlt
            cases hd : D tn b with
            | false =>
              rw [hd] at z
              clear hxx ht htn hd y2 hts
              go_wp2
              go_roundw
              case rel => exact ⟨j + 1, by omega, by go_num, by first | rfl | trivial⟩
              case measure => simp [intOf]; omega
            | true =>
              rw [hd] at z
              obtain ⟨i, x, hx, hxt, hlt1, hlt2, hfst⟩ := HBA.out tn b htl hts hd
              have hil := (List.getElem?_eq_some_iff.1 hx).1
              have HFI := hideI (refFind_yes ls i _ x _ W HLP.out hx (by rw [hxt]; exact hfst) hll)
              rw [hxt] at HFI
              obtain ⟨g, cap0, b1, b2, b3, hv, hgb, hgl, r0, r1, r2, r3, r4, s1, s2, s3, _⟩ := HLP.out.cells hx
              cases hv
              obtain ⟨A1, c1, rfl⟩ := own_sl s1.1
              obtain ⟨A2, c2, rfl⟩ := own_sl s2.1
              have hsl1 := (HRS.out x (List.mem_of_getElem? hx)).2
              have hsl2 := HLT.out i x hx
              have HI1 := hideI (has_at (w := W) (p := b) (r := true) (s1.ints (by omega)) (decide_eq_true hlt2) 0)
              have HI2 := hideI (has_at (w := W) (p := b) (r := true) (s2.ints (by omega)) (decide_eq_true hlt1) 0)
              obtain ⟨nb, hnb⟩ : ∃ nb, nb = x.blocks.length := ⟨_, rfl⟩
              obtain ⟨nl, hnl⟩ : ∃ nl, nl = x.latches.length := ⟨_, rfl⟩
              rw [← hnb] at r1 HI1
              rw [← hnl] at r2 HI2
              clear hxx ht htn hd y2 hts hx hxt hlt1 hlt2 hfst r0 r3 r4 s1 s2 s3 hnb hnl hsl1 hsl2
              go_wp2_with (first
                | (go_at_call 15; go_must (refine HFI.out.mono ?_); rintro e w7 ⟨rfl, rfl⟩)
                | (go_at_call_of 12 (Value.slice A2 nl c2); go_must (refine HI2.out.mono ?_); rintro e w8 ⟨rfl, h8⟩; (obtain rfl : W = w8 := h8.symm); clear h8)
                | (go_at_call_of 12 (Value.slice A1 nb c1); go_must (refine HI1.out.mono ?_); rintro e w9 ⟨rfl, h9⟩; (obtain rfl : W = w9 := h9.symm); clear h9))
              go_roundw
              case rel => exact ⟨j + 1, by omega, by go_num, by first | rfl | trivial⟩
              case measure => simp [intOf]; omega
          · go_wp2
            go_roundw
            case rel => exact ⟨b + 1, by omega, by go_num, by first | rfl | trivial⟩
            case measure => simp [intOf]; omega
      · go_wp2
        clear g3
        go_loopw [10] (fun u wr => ∃ i : Nat, i ≤ ls.length ∧ u = .int .i64 i ∧ Hid (Below W.heap.size W wr)) (fun u _ => ls.length - (intOf u).toNat)
        case atStart => exact ⟨0, Nat.zero_le _, rfl, hideI (Below.refl _ _)⟩
        case round =>
          obtain ⟨i, hi, rfl, HBr⟩ := hrel
          by_cases hlti : i < ls.length
          · obtain ⟨x, hx⟩ : ∃ x, ls[i]? = some x := ⟨_, List.getElem?_eq_getElem hlti⟩
            have HLX := hideI (HAT.out i x hx)
            obtain ⟨g, cap0, b1, b2, b3, hv, hgb, hgl, r0, r1, r2, r3, r4, s1, s2, s3, _⟩ := HLP.out.cells hx
            cases hv
            obtain ⟨A2, c2, rfl⟩ := own_sl s2.1
            obtain ⟨_, _, e1, _, hpx⟩ := s2.ints (by have := HLT.out i x hx; omega)
            rw [List.length_map] at e1 hpx
            cases e1
            have HPX := hideI hpx
            obtain ⟨nl, hnl⟩ : ∃ nl, nl = x.latches.length := ⟨_, rfl⟩
            have HNL := hideI hnl
            have hnl5 : nl ≤ 512 := by rw [hnl]; exact HLT.out i x hx
            rw [← hnl] at r2 HPX
            have R0 := hideI r0
            have R2 := hideI r2
            have hhl := HLX.out.head_lt
            obtain ⟨ga, hga, y1, y2⟩ := HGD.out x.head hhl
            have Y1 := hideI y1
            have Y2 := hideI y2
            clear hx s1 s2 s3 hpx r0 r1 r2 r3 r4 hnl y1 y2
            go_wp2
            go_loopw [11] (fun u wr => ∃ j : Nat, j ≤ nl ∧ u = .int .i64 j ∧ Hid (Below W.heap.size W wr)) (fun u _ => nl - (intOf u).toNat)
            case atStart => exact ⟨0, Nat.zero_le _, rfl, HBr⟩
            case round =>
              clear HBr
              obtain ⟨j, hj, rfl, HBr⟩ := hrel
              have k2 := (HBr.out.cell (p := ⟨g, i * 5 + 2, none⟩) hgl).trans R2.out
              by_cases hltj : j < nl
              · have k0 := (HBr.out.cell (p := ⟨g, i * 5, none⟩) hgl).trans R0.out
                have h1 := (HBr.out.cell (p := ⟨gv, x.head, none⟩) hgv).trans Y1.out
                obtain ⟨p, hp⟩ : ∃ p, x.latches[j]? = some p := ⟨_, List.getElem?_eq_getElem (by rw [← HNL.out]; exact hltj)⟩
                have hbk := (HLX.out.mem_latches HK.out.ok p).1 (List.mem_of_getElem? hp)
                have hpl := lsucc_lt hbk.1
                obtain ⟨pb, po, rfl, hpb, d0⟩ := HPX.out j hltj
                rw [List.getElem?_map, hp] at d0
                simp only [Option.map_some, Option.getD_some] at d0
                have d1 := (HBr.out.cell (p := ⟨pb, po + j, none⟩) hpb).trans d0
                have h2 := (HBr.out.cell (p := ⟨ga, p, none⟩) hga).trans (Y2.out p hpl)
                rw [(HK.out.ok.fn.dom x.head p).2 hbk.2] at h2
                clear hp hbk d0
                go_wp2_with fail
                go_quiet (fail)
                go_wp2_with fail
                go_roundw
                case rel => exact ⟨j + 1, by omega, by go_num, hideI (drew_below HBr.out _)⟩
                case measure => simp [intOf]; omega
              · go_wp2
                go_roundw
                case rel => exact ⟨i + 1, by omega, by go_num, HBr⟩
                case measure => simp [intOf]; omega
          · go_wp2
            go_ret
            exact ⟨rfl, HB.out.trans (HBr.out.mono HB.out.size)⟩

theorem walk (f : FuncM) (pv bv : Value) (w : World) (hF : FnIn w f pv bv) :
    Calls Try.prog 6 #[.agg #[pv, .int .i64 f.arrays, .int .i64 f.cells, bv]] w fun e w' => e = .returned (.bool true) ∧ Below w.heap.size w w' := by
  by_cases h : ∃ o, StrictM f o
  · obtain ⟨o, ho⟩ := h
    exact walk_yes f o pv bv w hF ho
  · exact walk_no f pv bv w hF h

set_option maxRecDepth 100000 in
theorem lifted (os : Os) (started : os.Started) (H : Type) (enc : TypeId × Value → H) :
    ReturnsInHanded {} Try.checked os 6 .any (Rows.loopsWaysSpec.pre6 enc Try.prog Try.f6 Rows.loopsWaysRow.domain false) (Rows.loopsWaysSpec.post enc Try.prog Try.f6 false true false false) := by
  refine returnsInHanded_of_change_sized (C := Try.checked) own started (by kernel_rfl) Try.func6
    (ChangeSpec.witness6 (enc := enc) (C := Try.checked) false ⟨#[], #[.agg #[.slice none 0 0, .int .i64 0, .int .i64 0, .slice none 0 0]], []⟩ 8 (by kernel_rfl) (by kernel_rfl) (by kernel_rfl) (by kernel_rfl)) ?_
  intro W base args ds gs before hval0 hW hcnd hsz _
  have hval : ∀ (j : Nat) t v, Try.f6.params[j]? = some t → args[j]? = some v → Value.okWide Try.prog W .any base t v := hval0
  have hW' := hW
  obtain ⟨p, q, hA0, hV, rfl, hfz, hnd⟩ := hW
  have hA : DataW.TrodAll enc Try.prog W 0 (fun _ => true) true Try.f6.params.toList args.toList ds p := hA0
  rw [Try.params6] at hA hval
  obtain ⟨v0, vs0, d0, ds0, p0, q0, hargs, rfl, rfl, h0, r0⟩ := trodAll_cons hA
  obtain ⟨rfl, rfl, rfl⟩ := trodAll_nil r0
  obtain rfl : args = #[v0] := by cases args; simp_all
  obtain ⟨rfl, rfl⟩ := trodVars_none hV
  obtain ⟨f, pv, bv, rfl, hF⟩ := open_func (hval 0 25 v0 rfl rfl) h0 hsz (j := 0) rfl rfl
  clear hA0 hval0
  refine (walk f pv bv W hF).mono fun e W' ⟨he, hg⟩ => ?_
  subst he
  exact ⟨_, rfl, law_post (by kernel_rfl) hW' rfl (by kernel_rfl) Try.underlying4 rfl rfl rfl (by rw [Try.params6]; decide +kernel) hg⟩

theorem over : Rows.loopsWaysRow.holds Try.pinned (OpenSpec.ofChange Rows.loopsWaysSpec) :=
  OpenClaim.holds_of_wide 6 Try.f6 rfl rfl rfl rfl rfl rfl rfl ⟨rfl, rfl, rfl, rfl, rfl⟩ rfl rfl rfl rfl rfl (by kernel_rfl) Try.func6 (by kernel_rfl)
    (of_decide_eq_true (by kernel_rfl)) (by unfold Func.isWrapper; first | (rw [if_pos (by decide +kernel)]; kernel_rfl) | (rw [if_neg (by decide +kernel)]; exact ⟨rfl, rfl⟩))
    (fun os started H enc _ => lifted os started H enc)

theorem proved : Rows.LoopsWaysSaid := over
#print axioms proved
end Go.Proofs.Ytglbepdjahddmaa.loopsWays
