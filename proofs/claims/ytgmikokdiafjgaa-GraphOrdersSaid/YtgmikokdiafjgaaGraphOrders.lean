/- What is proved: for every function f, in whatever memory it lies, GraphOrders answers true: block 0 is first in the order; each other block of it has one ahead that goes to it; just those that can be come to are there, once. No condition. -/
import Derived.Test.YtgmikokdiafjgaaAwake3
import Derived.Test.YtgmikokdiafjgaaGOutP
import Derived.Test.YtgmikokdiafjgaaLaw
import Derived.IntWalk
import Derived.BigQuiet
import Derived.Deep.QuietTactic
namespace Go.Proofs.Ytgmikokdiafjgaa.graphOrders
open Go.ChangeShapes Go.WideShapes Go.ChangeAt Go.RowKit

theorem drewN_below {B n : Nat} {w w' : World} (h : Below B w w') : Below B w (w'.drewN n) := ⟨h.os, h.tape, h.output, h.size, h.block⟩

/-- is one of the first k of l among the first i of o, or i nothing? -/
def OkIs (o l : List Nat) (i k : Nat) (ok : Bool) : Prop := ok = true ↔ i = 0 ∨ ∃ j y, j < k ∧ l[j]? = some y ∧ y ∈ o.take i

theorem OkIs.start (o l : List Nat) (i : Nat) : OkIs o l i 0 (decide (i = 0)) := by
  unfold OkIs
  constructor
  · intro h; exact .inl (by simpa using h)
  · rintro (h | ⟨j, _, hj, _⟩)
    · simpa using h
    · omega

theorem OkIs.step {o l : List Nat} {i k y : Nat} {ok : Bool} (h : OkIs o l i k ok) (hy : l[k]? = some y) : OkIs o l i (k + 1) (ok || decide (y ∈ o.take i)) := by
  unfold OkIs at *
  rw [Bool.or_eq_true, h, decide_eq_true_iff]
  constructor
  · rintro ((h1 | ⟨j, z, h2, h3, h4⟩) | h1)
    · exact .inl h1
    · exact .inr ⟨j, z, by omega, h3, h4⟩
    · exact .inr ⟨k, y, by omega, hy, h1⟩
  · rintro (h1 | ⟨j, z, h2, h3, h4⟩)
    · exact .inl (.inl h1)
    · by_cases e : j = k
      · subst e
        rw [hy] at h3
        cases h3
        exact .inr h4
      · exact .inl (.inr ⟨j, z, by omega, h3, h4⟩)

/-- in an order there is one ahead that goes there -/
theorem OkIs.all {bs : List BlockM} {o : List Nat} {i x : Nat} {ok : Bool} (ho : OrderIs bs o) (hr : ∀ y ∈ o, y < bs.length) (hx : o[i]? = some x) (h : OkIs o (predsTo bs bs.length x) i (predsTo bs bs.length x).length ok) : ok = true := by
  unfold OkIs at h
  rw [h]
  rcases Nat.eq_zero_or_pos i with h0 | h0
  · exact .inl h0
  · right
    obtain ⟨j, y, hj, hy, hs⟩ := ho.facts.2.2.2 i x h0 hx
    have hm : y ∈ predsTo bs bs.length x := by
      unfold predsTo
      rw [List.mem_filter]
      exact ⟨by rw [List.mem_range]; exact hr y (List.mem_of_getElem? hy), by simpa using hs⟩
    obtain ⟨k, hk⟩ := List.getElem?_of_mem hm
    refine ⟨k, y, (List.getElem?_eq_some_iff.1 hk).1, hk, ?_⟩
    rw [List.mem_take_iff_getElem]
    obtain ⟨h1, h2⟩ := List.getElem?_eq_some_iff.1 hy
    exact ⟨j, by omega, h2⟩

theorem not_take {o : List Nat} {i x : Nat} (hn : o.Nodup) (hx : o[i]? = some x) : x ∉ o.take i := by
  rw [List.mem_take_iff_getElem]
  rintro ⟨j, hj, he⟩
  obtain ⟨h1, h2⟩ := List.getElem?_eq_some_iff.1 hx
  have := (List.getElem?_inj (l := o) (i := j) (j := i) (by omega) hn).1 (by rw [List.getElem?_eq_getElem (by omega), hx, he])
  omega

set_option maxRecDepth 100000 in
set_option maxHeartbeats 2000000 in
/-- where f is not right -/
theorem walk_no (f : FuncM) (pv bv : Value) (w : World) (hF : FnIn w f pv bv) (hno : (lookM f).1 ≠ 0) :
    Calls Try.prog 6 #[.agg #[pv, .int .i64 f.arrays, .int .i64 f.cells, bv]] w fun e w' => e = .returned (.bool true) ∧ Below w.heap.size w w' := by
  have HF := hideI hF
  have HID := hideI (uses_i64 hF.ok)
  obtain ⟨P, pc, hpv, _⟩ := hF.par
  obtain ⟨A, c, hbv, _⟩ := hF.blk
  subst hpv hbv
  have HB : Hid (Below w.heap.size w (w.alloc (.cells #[.slice P f.params.length pc, .int .i64 f.arrays, .int .i64 f.cells, .slice A f.blocks.length c] 25))) := (Below.refl _ w).alloc (Nat.le_refl _) _
  have HX := hideI (heap_alloc_new w (.cells #[.slice P f.params.length pc, .int .i64 f.arrays, .int .i64 f.cells, .slice A f.blocks.length c] 25))
  have HNO := hideI hno
  have hn1 : ((lookM f).1 != 0) = true := by simpa using hno
  clear hF hno
  go_enter Try.func6, Try.ntmps6
  go_wp2_with (first
    | (go_at_call 12; go_must (refine (gOrder_no f w.heap.size _ _ _ (HF.out.par.keeps (Keeps.of_below HB.out)) (HF.out.blk.keeps (Keeps.of_below HB.out)) HB.out.size HID.out HNO.out).mono ?_); rintro e w2 ⟨rfl, hb⟩; replace HX := hideI ((hb.block _ (lt_of_heap HX.out)).trans HX.out); have hx := row_cells HX.out rfl; replace HB := hideI (HB.out.trans (hb.mono HB.out.size)); clear hb)
    | (go_at_call 10; go_must (refine (gPreds_no f w.heap.size _ _ _ (HF.out.par.keeps (Keeps.of_below HB.out)) (HF.out.blk.keeps (Keeps.of_below HB.out)) HB.out.size HID.out HNO.out).mono ?_); rintro e w3 ⟨rfl, hb⟩; clear hx; replace HX := hideI ((hb.block _ (lt_of_heap HX.out)).trans HX.out); have hx := row_cells HX.out rfl; replace HB := hideI (HB.out.trans (hb.mono HB.out.size)); clear hb)
    | (go_at_call 11; go_must (refine (gReach_no f w.heap.size _ _ _ (HF.out.par.keeps (Keeps.of_below HB.out)) (HF.out.blk.keeps (Keeps.of_below HB.out)) HB.out.size HID.out HNO.out).mono ?_); rintro e w4 ⟨rfl, hb⟩; clear hx; replace HB := hideI (HB.out.trans (hb.mono HB.out.size)); clear hb)
    | (go_at_call 13; refine (awake3_any _).mono ?_; rintro e w5 ⟨rfl, hb⟩; replace HB := hideI (HB.out.trans (hb.mono HB.out.size)); clear hb))
  go_ret
  exact ⟨by simp, HB.out⟩

set_option maxRecDepth 100000 in
set_option maxHeartbeats 4000000 in
theorem walk_yes (f : FuncM) (pv bv : Value) (w : World) (hF : FnIn w f pv bv) (h0 : (lookM f).1 = 0) :
    Calls Try.prog 6 #[.agg #[pv, .int .i64 f.arrays, .int .i64 f.cells, bv]] w fun e w' => e = .returned (.bool true) ∧ Below w.heap.size w w' := by
  have HF := hideI hF
  have HID := hideI (uses_i64 hF.ok)
  obtain ⟨P, pc, hpv, _⟩ := hF.par
  obtain ⟨A, c, hbv, _⟩ := hF.blk
  subst hpv hbv
  have HB : Hid (Below w.heap.size w (w.alloc (.cells #[.slice P f.params.length pc, .int .i64 f.arrays, .int .i64 f.cells, .slice A f.blocks.length c] 25))) := (Below.refl _ w).alloc (Nat.le_refl _) _
  have HX := hideI (heap_alloc_new w (.cells #[.slice P f.params.length pc, .int .i64 f.arrays, .int .i64 f.cells, .slice A f.blocks.length c] 25))
  have hnb := look_some_block h0
  have H0 := hideI h0
  obtain ⟨i0, hix, hz0, hz1, hz2⟩ := info_parts bool_info
  clear hF h0
  go_enter Try.func6, Try.ntmps6
  go_wp2_with (first
    | (go_at_call 12; go_must (refine (gOrder_yes f w.heap.size _ _ _ (HF.out.par.keeps (Keeps.of_below HB.out)) (HF.out.blk.keeps (Keeps.of_below HB.out)) HB.out.size HID.out H0.out).mono ?_); rintro e w2 ⟨o, g1, cap, rfl, ho, ho0, ho1, hown, hb⟩; have HO := hideI ho; have HW := hideI hown; clear ho hown; replace HX := hideI ((hb.block _ (lt_of_heap HX.out)).trans HX.out); have hx := row_cells HX.out rfl; replace HB := hideI (HB.out.trans (hb.mono HB.out.size)); clear hb)
    | (go_at_call 10; go_must (refine (gPreds_yes f w.heap.size _ _ _ (HF.out.par.keeps (Keeps.of_below HB.out)) (HF.out.blk.keeps (Keeps.of_below HB.out)) HB.out.size HID.out H0.out).mono ?_); rintro e w3 ⟨g2, vs, rfl, hls, hb⟩; have HLS := hideI hls; replace HW := hideI (own_kept_below HW.out hb (fun k hk => (HW.out.lt k hk).2)); clear hx hls; replace HX := hideI ((hb.block _ (lt_of_heap HX.out)).trans HX.out); have hx := row_cells HX.out rfl; replace HB := hideI (HB.out.trans (hb.mono HB.out.size)); clear hb)
    | (go_at_call 11; go_must (refine (gReach_yes f w.heap.size _ _ _ (HF.out.par.keeps (Keeps.of_below HB.out)) (HF.out.blk.keeps (Keeps.of_below HB.out)) HB.out.size HID.out H0.out).mono ?_); rintro e w4 ⟨o2, g3, rfl, ho2, hown2, hb⟩; obtain rfl := HO.out.one ho2; have HR := hideI hown2; replace HW := hideI (own_kept_below HW.out hb (fun k hk => (HW.out.lt k hk).2)); replace HLS := hideI (HLS.out.kept hb); clear hx hown2 ho2; replace HX := hideI ((hb.block _ (lt_of_heap HX.out)).trans HX.out); have hx := row_cells HX.out rfl; replace HB := hideI (HB.out.trans (hb.mono HB.out.size)); clear hb)
    | (go_at_call 13; refine (awake3_any _).mono ?_; rintro e w5 ⟨rfl, hb⟩; go_must (replace HW := hideI (own_kept_below HW.out hb (fun k hk => (HW.out.lt k hk).2)); replace HR := hideI (own_kept_below HR.out hb (fun k hk => (HR.out.lt k hk).2)); replace HLS := hideI (HLS.out.kept hb); clear hx; replace HX := hideI ((hb.block _ (lt_of_heap HX.out)).trans HX.out); have hx := row_cells HX.out rfl; replace HB := hideI (HB.out.trans (hb.mono HB.out.size)); clear hb))
    | (at_make; go_must (refine wpList_make_full _ rfl _ _ 31 rfl w5.heap.size 4 i0 (.bool false) 1 Try.underlying31 hix hz0 hz1 .i64 .i64 _ _ f.blocks.length rfl rfl rfl rfl (by rw [hz2]; omega) (by unfold maxLen; omega) (Nat.le_refl _) ?_); intro w6 hown6 hg6; go_must (rw [marks_made] at hown6; have HS6 := hideI hown6; have HB6 : Hid (Below w5.heap.size w5 w6) := hideI ((Below.refl _ _).grown hg6 (Nat.le_refl _) (by simp)); clear hown6 hg6)))
  clear hx hix hz0 hz1 hz2
  have hrange := HO.out.range (look_ends H0.out) hnb.1
  have HRG := hideI hrange
  have HND := hideI HO.out.facts.2.1
  have HHD := hideI HO.out.facts.1
  clear hrange
  go_loopw [10] (fun u wr => ∃ i : Nat, i ≤ o.length ∧ u = .int .i64 i ∧ Hid (wr.ownsRow w5.heap.size 4 1 (.slice (some ⟨w5.heap.size, 0, none⟩) f.blocks.length f.blocks.length) f.blocks.length (marks f.blocks.length (o.take i))) ∧ Hid (Below w5.heap.size w5 wr)) (fun u _ => o.length - (intOf u).toNat)
  case atStart => exact ⟨0, Nat.zero_le _, rfl, HS6, HB6⟩
  case round =>
    obtain ⟨i, hi, rfl, HSr, HBr⟩ := hrel
    have HWr := hideI (own_kept_below HW.out HBr.out (fun k hk => (HW.out.lt k hk).2))
    have HRr := hideI (own_kept_below HR.out HBr.out (fun k hk => (HR.out.lt k hk).2))
    have HLr := hideI (HLS.out.kept HBr.out)
    by_cases hlt : i < o.length
    · obtain ⟨x, hx⟩ : ∃ x, o[i]? = some x := ⟨_, List.getElem?_eq_getElem hlt⟩
      have hxl := HRG.out x (List.mem_of_getElem? hx)
      have c1 := nat_cell HWr.out hx
      have c2 : wr.cell? ⟨w5.heap.size, x, none⟩ = some (.bool false) := by
        rw [World.ownsRow.cellAt HSr.out x (by omega), marks_at hxl]
        simp [not_take HND.out hx]
      have c3 : wr.frozen? ⟨w5.heap.size, x, none⟩ = false := World.ownsRow.frozenAt HSr.out x
      have c4 : wr.cell? ⟨g3, x, none⟩ = some (.bool true) := by
        rw [World.ownsRow.cellAt HRr.out x (by omega), marks_at hxl]
        simp [List.mem_of_getElem? hx]
      obtain ⟨v, hv⟩ : ∃ v, vs[x]? = some v := ⟨_, List.getElem?_eq_getElem (by rw [HLr.out.vl]; exact hxl)⟩
      have c5 : wr.cell? ⟨g2, x, none⟩ = some v := by rw [World.ownsRow.cellAt HLr.out.row x (by omega)]; exact hv
      obtain ⟨l, hl0⟩ : ∃ l, l = predsTo f.blocks f.blocks.length x := ⟨_, rfl⟩
      have hl : (predsAt f.blocks f.blocks.length f.blocks.length 0)[x]? = some l := by rw [predsAt_at hxl, hl0]; simp
      have hll : l.length ≤ 512 := by rw [hl0]; exact Nat.le_trans (predsTo_len _ _ _) hnb.2
      have HV := hideI (HLr.out.own x v l hv hl)
      have hint := nat_ints HV.out (by omega)
      obtain ⟨PA, pc2, e1, _, hpx⟩ := hint
      rw [List.length_map] at e1 hpx
      subst e1
      have HPX := hideI hpx
      have HL0 := hideI hl0
      have HXX := hideI hx
      have hzero : Hid (i = 0 → x = 0) := fun h => by
        have h1 := HHD.out
        subst h
        rw [hx] at h1
        exact Option.some.inj h1
      clear hx hv hl hl0 hpx
      rcases i with _ | i'
      · obtain rfl : x = 0 := hzero.out rfl
        clear hzero
        have hne : ¬ f.blocks = [] := fun h => by have := hnb.1; rw [h] at this; simp at this
        go_wp2
        obtain ⟨wo, rfl⟩ : ∃ wo : World, wo = wr := ⟨_, rfl⟩
        go_loopw [12, 13] (fun b u wr => ∃ (k : Nat) (ok : Bool), k ≤ l.length ∧ b = .bool ok ∧ u = .int .i64 k ∧ Hid (OkIs o l 0 k ok) ∧ wr = wo) (fun _ u _ => l.length - (intOf u).toNat)
        case atStart => exact ⟨0, true, Nat.zero_le _, rfl, rfl, hideI (by have := OkIs.start o l 0; simpa using this), rfl⟩
        case round =>
          obtain ⟨k, ok, hk, rfl, rfl, HOK, rfl⟩ := hrel
          by_cases hltk : k < l.length
          · obtain ⟨y, hy⟩ : ∃ y, l[k]? = some y := ⟨_, List.getElem?_eq_getElem hltk⟩
            have hyl : y < f.blocks.length := predsTo_lt (bs := f.blocks) (t := 0) (by rw [← HL0.out]; exact List.mem_of_getElem? hy)
            obtain ⟨pb, po, rfl, _, d1⟩ := HPX.out k hltk
            rw [List.getElem?_map, hy] at d1
            simp only [Option.map_some, Option.getD_some] at d1
            have d2 : wr.cell? ⟨w5.heap.size, y, none⟩ = some (.bool (decide (y ∈ o.take 0))) := by rw [World.ownsRow.cellAt HSr.out y (by omega), marks_at hyl]
            have HOK2 := hideI (HOK.out.step hy)
            clear hy
            cases ok with
            | true =>
              clear d2
              go_wp2
              go_roundw
              case rel => exact ⟨k + 1, true, by omega, rfl, by go_num, hideI (by have := HOK2.out; simpa using this), by trivial⟩
              case measure => simp [intOf]; omega
            | false =>
              cases hyi : decide (y ∈ o.take 0) with
              | true =>
                rw [hyi] at d2 HOK2
                clear hyi
                go_wp2
                go_roundw
                case rel => exact ⟨k + 1, true, by omega, rfl, by go_num, hideI (by have := HOK2.out; simpa using this), by trivial⟩
                case measure => simp [intOf]; omega
              | false =>
                rw [hyi] at d2 HOK2
                clear hyi
                go_wp2
                go_roundw
                case rel => exact ⟨k + 1, false, by omega, rfl, by go_num, hideI (by have := HOK2.out; simpa using this), by trivial⟩
                case measure => simp [intOf]; omega
          · have hkl : k = l.length := by omega
            obtain rfl : ok = true := by
              have h1 := HOK.out
              rw [hkl] at h1
              rw [HL0.out] at h1
              exact h1.all HO.out HRG.out HXX.out
            have HS := World.ownsRow.stored HSr.out 0 (.bool true)
            rw [marks_set, marks_take HXX.out] at HS
            have HS2 := hideI HS
            have HB2 := hideI (show Below w5.heap.size w5 (wr.setCell ⟨w5.heap.size, 0, none⟩ (.bool true)) from HBr.out.setCell (Nat.le_refl _) _)
            clear hkl HS
            go_wp2
            go_roundw
            case rel => exact ⟨0 + 1, by omega, by go_num, hideI HS2.out.1, HB2⟩
            case measure => simp [intOf]; omega
      · clear hzero
        go_wp2
        obtain ⟨wo, rfl⟩ : ∃ wo : World, wo = wr := ⟨_, rfl⟩
        go_loopw [12, 13] (fun b u wr => ∃ (k : Nat) (ok : Bool), k ≤ l.length ∧ b = .bool ok ∧ u = .int .i64 k ∧ Hid (OkIs o l (i' + 1) k ok) ∧ wr = wo) (fun _ u _ => l.length - (intOf u).toNat)
        case atStart => exact ⟨0, false, Nat.zero_le _, rfl, rfl, hideI (by have := OkIs.start o l (i' + 1); simpa using this), rfl⟩
        case round =>
          obtain ⟨k, ok, hk, rfl, rfl, HOK, rfl⟩ := hrel
          by_cases hltk : k < l.length
          · obtain ⟨y, hy⟩ : ∃ y, l[k]? = some y := ⟨_, List.getElem?_eq_getElem hltk⟩
            have hyl : y < f.blocks.length := predsTo_lt (bs := f.blocks) (t := x) (by rw [← HL0.out]; exact List.mem_of_getElem? hy)
            obtain ⟨pb, po, rfl, _, d1⟩ := HPX.out k hltk
            rw [List.getElem?_map, hy] at d1
            simp only [Option.map_some, Option.getD_some] at d1
            have d2 : wr.cell? ⟨w5.heap.size, y, none⟩ = some (.bool (decide (y ∈ o.take (i' + 1)))) := by rw [World.ownsRow.cellAt HSr.out y (by omega), marks_at hyl]
            have HOK2 := hideI (HOK.out.step hy)
            clear hy
            cases ok with
            | true =>
              clear d2
              go_wp2
              go_roundw
              case rel => exact ⟨k + 1, true, by omega, rfl, by go_num, hideI (by have := HOK2.out; simpa using this), by trivial⟩
              case measure => simp [intOf]; omega
            | false =>
              cases hyi : decide (y ∈ o.take (i' + 1)) with
              | true =>
                rw [hyi] at d2 HOK2
                clear hyi
                go_wp2
                go_roundw
                case rel => exact ⟨k + 1, true, by omega, rfl, by go_num, hideI (by have := HOK2.out; simpa using this), by trivial⟩
                case measure => simp [intOf]; omega
              | false =>
                rw [hyi] at d2 HOK2
                clear hyi
                go_wp2
                go_roundw
                case rel => exact ⟨k + 1, false, by omega, rfl, by go_num, hideI (by have := HOK2.out; simpa using this), by trivial⟩
                case measure => simp [intOf]; omega
          · have hkl : k = l.length := by omega
            obtain rfl : ok = true := by
              have h1 := HOK.out
              rw [hkl] at h1
              rw [HL0.out] at h1
              exact h1.all HO.out HRG.out HXX.out
            have HS := World.ownsRow.stored HSr.out x (.bool true)
            rw [marks_set, marks_take HXX.out] at HS
            have HS2 := hideI HS
            have HB2 := hideI (show Below w5.heap.size w5 (wr.setCell ⟨w5.heap.size, x, none⟩ (.bool true)) from HBr.out.setCell (Nat.le_refl _) _)
            clear hkl HS
            go_wp2
            go_roundw
            case rel => exact ⟨i' + 1 + 1, by omega, by go_num, hideI HS2.out.1, HB2⟩
            case measure => simp [intOf]; omega
    · have HE : Hid (o.take i = o) := List.take_of_length_le (by omega)
      rw [HE.out] at HSr
      go_wp2
      obtain ⟨wq, rfl⟩ : ∃ wq : World, wq = wr := ⟨_, rfl⟩
      go_loopw [14] (fun u wr => ∃ k m : Nat, k ≤ f.blocks.length ∧ u = .int .i64 k ∧ wr = wq.drewN m) (fun u _ => f.blocks.length - (intOf u).toNat)
      case atStart => exact ⟨0, 0, Nat.zero_le _, rfl, rfl⟩
      case round =>
        obtain ⟨k, m, hk, rfl, rfl⟩ := hrel
        by_cases hltk : k < f.blocks.length
        · have d1 : wq.cell? ⟨w5.heap.size, k, none⟩ = some (.bool (decide (k ∈ o))) := by rw [World.ownsRow.cellAt HSr.out k (by omega), marks_at hltk]
          have d2 : wq.cell? ⟨g3, k, none⟩ = some (.bool (decide (k ∈ o))) := by rw [World.ownsRow.cellAt HRr.out k (by omega), marks_at hltk]
          obtain ⟨q, hq⟩ : ∃ q, q = decide (k ∈ o) := ⟨_, rfl⟩
          rw [← hq] at d1 d2
          clear hq
          cases q
          all_goals
            go_wp2
            go_quiet (fail)
            go_wp2
            go_roundw
            case rel => exact ⟨k + 1, _, by omega, by go_num, by rfl⟩
            case measure => simp [intOf]; omega
        · go_wp2
          go_ret
          exact ⟨rfl, HB.out.trans ((drewN_below HBr.out).mono HB.out.size)⟩

theorem walk (f : FuncM) (pv bv : Value) (w : World) (hF : FnIn w f pv bv) :
    Calls Try.prog 6 #[.agg #[pv, .int .i64 f.arrays, .int .i64 f.cells, bv]] w fun e w' => e = .returned (.bool true) ∧ Below w.heap.size w w' := by
  by_cases h0 : (lookM f).1 = 0
  · exact walk_yes f pv bv w hF h0
  · exact walk_no f pv bv w hF h0

set_option maxRecDepth 100000 in
theorem lifted (os : Os) (started : os.Started) (H : Type) (enc : TypeId × Value → H) :
    ReturnsInHanded {} Try.checked os 6 .any (Rows.graphOrdersSpec.pre6 enc Try.prog Try.f6 Rows.graphOrdersRow.domain false) (Rows.graphOrdersSpec.post enc Try.prog Try.f6 false true false false) := by
  refine returnsInHanded_of_change_sized (C := Try.checked) own started (by kernel_rfl) Try.func6
    (ChangeSpec.witness6 (enc := enc) (C := Try.checked) false ⟨#[], #[.agg #[.slice none 0 0, .int .i64 0, .int .i64 0, .slice none 0 0]], []⟩ 8 (by kernel_rfl) (by kernel_rfl) (by kernel_rfl) (by kernel_rfl)) ?_
  intro W base args ds gs before hval0 hW hcnd hsz _
  have hval : ∀ (j : Nat) t v, Try.f6.params[j]? = some t → args[j]? = some v → Value.okWide Try.prog W .any base t v := hval0
  have hW' := hW
  obtain ⟨p, q, hA0, hV, rfl, hfz, hnd⟩ := hW
  have hA : DataW.TrodAll enc Try.prog W 0 (fun _ => true) true Try.f6.params.toList args.toList ds p := hA0
  rw [Try.params6] at hA hval
  obtain ⟨v0, vs0, d0, ds0, p0, q0, hargs, rfl, rfl, h0, r0⟩ := trodAll_cons hA
  obtain ⟨rfl, rfl, rfl⟩ := trodAll_nil r0
  obtain rfl : args = #[v0] := by cases args; simp_all
  obtain ⟨rfl, rfl⟩ := trodVars_none hV
  obtain ⟨f, pv, bv, rfl, hF⟩ := open_func (hval 0 25 v0 rfl rfl) h0 hsz (j := 0) rfl rfl
  clear hA0 hval0
  refine (walk f pv bv W hF).mono fun e W' ⟨he, hg⟩ => ?_
  subst he
  exact ⟨_, rfl, law_post (by kernel_rfl) hW' rfl (by kernel_rfl) Try.underlying4 rfl rfl rfl (by rw [Try.params6]; decide +kernel) hg⟩

theorem over : Rows.graphOrdersRow.holds Try.pinned (OpenSpec.ofChange Rows.graphOrdersSpec) :=
  OpenClaim.holds_of_wide 6 Try.f6 rfl rfl rfl rfl rfl rfl rfl ⟨rfl, rfl, rfl, rfl, rfl⟩ rfl rfl rfl rfl rfl (by kernel_rfl) Try.func6 (by kernel_rfl)
    (of_decide_eq_true (by kernel_rfl)) (by unfold Func.isWrapper; first | (rw [if_pos (by decide +kernel)]; kernel_rfl) | (rw [if_neg (by decide +kernel)]; exact ⟨rfl, rfl⟩))
    (fun os started H enc _ => lifted os started H enc)

theorem proved : Rows.GraphOrdersSaid := over
#print axioms proved
end Go.Proofs.Ytgmikokdiafjgaa.graphOrders
