/- What LZ rests on, part 4: GOut, GOutP, RefUses, Used, RefPhi. -/
import Derived.Test.YtglbepdjahddmaaGreatPkLZ3
import Derived.Deep.RegionHeld3
import Derived.Deep.AppendLies
import Derived.BigQuiet

namespace Go.Proofs.YtglbepdjahddmaaGreat
open Go.RowKit Go.Maps

def GOrderPost (f : FuncM) (w : World) (e : Ending) (w' : World) : Prop :=
  ((lookM f).1 ≠ 0 ∧ e = .returned (.tuple #[.slice none 0 0, .int .i64 (lookM f).1]) ∧ Below w.heap.size w w') ∨
  ((lookM f).1 = 0 ∧ ∃ (o : List Nat) (g cap : Nat), e = .returned (.tuple #[.slice (some ⟨g, 0, none⟩) o.length cap, .int .i64 0]) ∧ OrderIs f.blocks o ∧ 0 < o.length ∧ o.length ≤ f.blocks.length ∧ w'.ownsRow w.heap.size 3 1 (.slice (some ⟨g, 0, none⟩) o.length cap) o.length (natInts o) ∧ Below w.heap.size w w')

set_option maxRecDepth 100000 in
set_option maxHeartbeats 1000000 in
theorem gOrder_any (f : FuncM) (B : Nat) (pv bv : Value) (w : World) (hpv : Ints w B pv f.params) (hbv : BlocksR w B bv f.blocks) (hB : B ≤ w.heap.size) (hid : ∀ u ∈ usesM f, I64 u.1) :
    Calls Tryz.prog 62 #[.agg #[pv, .int .i64 f.arrays, .int .i64 f.cells, bv]] w (GOrderPost f w) := by
  have HP := hideI hpv
  have HBL := hideI hbv
  have HID := hideI hid
  obtain ⟨P, pc, rfl, _⟩ := hpv
  obtain ⟨A, c, rfl, hbm, _⟩ := hbv
  have HX := hideI (heap_alloc_new w (.cells #[.slice P f.params.length pc, .int .i64 f.arrays, .int .i64 f.cells, .slice A f.blocks.length c] 25))
  have HK : Hid (Keeps B w (w.alloc (.cells #[.slice P f.params.length pc, .int .i64 f.arrays, .int .i64 f.cells, .slice A f.blocks.length c] 25))) := (Keeps.refl w).alloc hB _
  have HB0 : Hid (Below w.heap.size w (w.alloc (.cells #[.slice P f.params.length pc, .int .i64 f.arrays, .int .i64 f.cells, .slice A f.blocks.length c] 25))) := (Below.refl _ w).alloc (Nat.le_refl _) _
  clear hid
  by_cases h0 : (lookM f).1 = 0
  · have H0 := hideI h0
    have hnb := look_some_block h0
    clear h0
    go_enter Tryz.func62, Tryz.ntmps62
    go_wp2_with (first
      | (go_at_call 51; go_must (refine (check_any f B _ _ _ (HP.out.keeps HK.out) (HBL.out.keeps HK.out) (by simp; omega) HID.out).mono ?_); rw [H0.out]; rintro e w1 ⟨rfl, hb⟩; have HB1 := hideI (HB0.out.trans (hb.mono (by simp))); have hxx := row_cells ((hb.block _ (lt_of_heap HX.out)).trans HX.out) rfl; have q0 := hxx 0; have q1 := hxx 1; have q2 := hxx 2; have q3 := hxx 3; have hl1 : w.heap.size < w1.heap.size := (by have := hb.size; simp at this; omega); clear hb hxx)
      | (go_at_call 107; go_must (refine (order_any f.blocks w.heap.size _ _ _ _ _ ((HBL.out.more' hB).keeps (Keeps.of_below HB1.out)) (by omega) hnb.1 hnb.2 (look_ends H0.out)).mono ?_); rintro e w2 ⟨o, g, cap, rfl, ho, ho0, ho1, hown, hb2⟩; have HO := hideI ho; have HW := hideI hown; have HB2 := hideI hb2; clear ho hown hb2))
    go_ret2
    exact .inr ⟨H0.out, o, g, cap, rfl, HO.out, ho0, ho1, World.ownsRow.mono HW.out (by omega), HB1.out.trans (HB2.out.mono (by omega))⟩
  · have H0 := hideI h0
    have hb : ((lookM f).1 != 0) = true := by simpa using h0
    clear h0
    go_enter Tryz.func62, Tryz.ntmps62
    go_wp2_with (first
      | (go_at_call 51; go_must (refine (check_any f B _ _ _ (HP.out.keeps HK.out) (HBL.out.keeps HK.out) (by simp; omega) HID.out).mono ?_); rintro e w1 ⟨rfl, hb1⟩; have HB1 := hideI (HB0.out.trans (hb1.mono (by simp))); clear hb1))
    go_ret2
    exact .inl ⟨H0.out, rfl, HB1.out⟩

end Go.Proofs.YtglbepdjahddmaaGreat

namespace Go.Proofs.YtglbepdjahddmaaGreat
open Go.RowKit Go.Maps

def PredsPost (bs : List BlockM) (w : World) (e : Ending) (w' : World) : Prop :=
  ∃ (g : Nat) (vs : List Value), e = .returned (.slice (some ⟨g, 0, none⟩) bs.length bs.length) ∧ Lists w' w.heap.size g bs.length vs (predsAt bs bs.length bs.length 0) ∧ Below w.heap.size w w'

set_option maxRecDepth 100000 in
set_option maxHeartbeats 4000000 in
theorem preds_any (bs : List BlockM) (B : Nat) (pv av cv bv : Value) (w : World) (hbv : BlocksR w B bv bs) (hB : B ≤ w.heap.size) (hn5 : bs.length ≤ 512) (hin : EndsIn bs) :
    Calls Tryz.prog 52 #[.agg #[pv, av, cv, bv]] w (PredsPost bs w) := by
  have HBL := hideI hbv
  have HIN := hideI hin
  obtain ⟨A, c, rfl, hbm, _⟩ := hbv
  obtain ⟨i0, hix, hz0, hz1, hz2⟩ := info_parts ints_info
  clear hin
  go_enter Tryz.func52, Tryz.ntmps52
  go_wp2_with (first
    | (at_make; go_must (refine wpList_make_full _ rfl _ _ 39 rfl (w.heap.size + 1) 22 i0 (.slice none 0 0) 1 Tryz.underlying39 hix hz0 hz1 .i64 .i64 _ _ bs.length rfl rfl rfl rfl (by rw [hz2]; omega) (by unfold maxLen; omega) (by simp) ?_); intro w1 hown1 hg1; rw [World.size_alloc] at hown1; go_must (have HL1 := hideI (Lists.made hown1); have hgb := row_cells ((hg1.block w.heap.size (by simp) (by simp)).trans (heap_alloc_new w _)) rfl; have HGB := hideI ((hg1.block w.heap.size (by simp) (by simp)).trans (heap_alloc_new w _)); have HB0 : Hid (Below w.heap.size w w1) := ((Below.refl _ _).alloc (Nat.le_refl _) _).grown hg1 (by simp) (by simp); clear hown1 hg1; have g3 := hgb 3; clear hgb)))
  clear hix hz0 hz1 hz2
  rw [← predsAt_zero bs bs.length] at HL1
  clear g3
  go_loopw [16] (fun u wr => ∃ (k : Nat) (vs : List Value), k ≤ bs.length ∧ u = .int .i64 k ∧ Hid (Lists wr (w.heap.size + 1) (w.heap.size + 1) bs.length vs (predsAt bs bs.length k 0)) ∧ Hid (Below w.heap.size w wr) ∧ Hid (Below (w.heap.size + 1) w1 wr)) (fun u _ => bs.length - (intOf u).toNat)
  case atStart => exact ⟨0, _, Nat.zero_le _, rfl, HL1, HB0, hideI (Below.refl _ _)⟩
  case round =>
    obtain ⟨k, vs, hk, rfl, HL, HBr, HBo⟩ := hrel
    have hgl := HBo.out
    by_cases hlt : k < bs.length
    · obtain ⟨q, hq⟩ : ∃ q, bs[k]? = some q := ⟨_, List.getElem?_eq_getElem hlt⟩
      obtain ⟨A', c', e0, _, hbx⟩ := (HBL.out.more' hB).keeps (Keeps.of_below HBr.out)
      cases e0
      obtain ⟨ab, off, pq, cq, tv, rfl, hab, x0, x1, x2, x3, x4, x5, _, _, htv, _⟩ := hbx k q hq
      have HTV := hideI htv
      have HQ := hideI hq
      have HSU : Hid (succM bs k = q.term.to.map Int.toNat) := by show _ = _; unfold succM; rw [hq]
      obtain ⟨TA, tc, rfl, htm, _⟩ := htv
      obtain ⟨m, hm⟩ : ∃ m, m = q.term.to.length := ⟨_, rfl⟩
      have HM := hideI hm
      rw [← hm] at x4 htm
      have hxr := row_cells HGB.out (hgl.block w.heap.size (by omega))
      have g3 := hxr 3
      clear hbx hq x0 x1 x2 x3 x5 hm hgl hxr
      go_wp2
      clear x4 g3
      obtain ⟨wo, rfl⟩ : ∃ wo : World, wo = wr := ⟨_, rfl⟩
      go_loopw [28] (fun u wr => ∃ (i : Nat) (vs : List Value), i ≤ m ∧ u = .int .i64 i ∧ Hid (Lists wr (w.heap.size + 1) (w.heap.size + 1) bs.length vs (predsAt bs bs.length k i)) ∧ Hid (Below (w.heap.size + 1) wo wr)) (fun u _ => m - (intOf u).toNat)
      case atStart => exact ⟨0, vs, Nat.zero_le _, rfl, HL, hideI (Below.refl _ _)⟩
      case round =>
        obtain ⟨i, vs2, hi, rfl, HLi, HBi⟩ := hrel
        by_cases hlti : i < m
        · obtain ⟨t, ht⟩ : ∃ t, q.term.to[i]? = some t := ⟨_, List.getElem?_eq_getElem (by rw [HM.out] at hlti; exact hlti)⟩
          have htn := HIN.out q (List.mem_of_getElem? HQ.out) t (List.mem_of_getElem? ht)
          obtain ⟨tn, rfl⟩ : ∃ tn : Nat, t = (tn : Int) := ⟨t.toNat, by omega⟩
          have htl : tn < bs.length := by omega
          have HTI : Hid ((succM bs k)[i]? = some tn) := by
            show _ = _
            rw [HSU.out, List.getElem?_map, ht]
            rfl
          obtain ⟨TA', tc', e0, _, hxx⟩ := HTV.out.keep (HBi.out.mono (Nat.le_succ _))
          cases e0
          obtain ⟨tb, toff, rfl, htb, hcell⟩ := hxx i (by rw [← HM.out]; exact hlti)
          rw [ht] at hcell
          simp only [Option.getD_some] at hcell
          obtain ⟨v, hv⟩ : ∃ v, vs2[tn]? = some v := ⟨_, List.getElem?_eq_getElem (by rw [HLi.out.vl]; exact htl)⟩
          obtain ⟨l, hl0⟩ : ∃ l, l = predsTo bs k tn ++ if tn ∈ (succM bs k).take i then [k] else [] := ⟨_, rfl⟩
          have hl : (predsAt bs bs.length k i)[tn]? = some l := by rw [predsAt_at htl, hl0]
          have hmem : k ∈ l ↔ tn ∈ (succM bs k).take i := by rw [hl0]; exact predsAt_mem
          have hll : l.length ≤ 1000 := by
            rw [hl0, List.length_append]
            have := predsTo_len bs k tn
            split <;> simp <;> omega
          have q1 : wr.cell? ⟨w.heap.size + 1, tn, none⟩ = some v := by rw [World.ownsRow.cellAt HLi.out.row tn (by omega)]; exact hv
          have HOWN := hideI (HLi.out.own tn v l hv hl)
          have HINT := hideI (nat_ints HOWN.out (by omega))
          have hsz := HLi.out.lt.2
          have HV := hideI hv
          have HLL := hideI hl
          have HL0 := hideI hl0
          clear hxx ht htn hv hl hl0
          by_cases hin2 : tn ∈ (succM bs k).take i
          · have HC : Hid (decide ((k : Int) ∈ l.map fun (x : Nat) => (x : Int)) = true) := by show _ = _; rw [decide_eq_true_iff, mem_nat, hmem]; exact hin2
            have HIN2 := hideI hin2
            clear hin2 hmem
            go_wp2_with (go_at_call 97; go_must (refine (contains_any _ _ _ _ _ HINT.out).mono ?_); rw [HC.out]; rintro e w2 ⟨rfl, rfl⟩)
            go_roundw
            case rel => exact ⟨i + 1, vs2, by omega, by go_num, by rw [predsAt_skip HTI.out HIN2.out]; exact HLi, HBi⟩
            case measure => simp [intOf]; omega
          · have HC : Hid (decide ((k : Int) ∈ l.map fun (x : Nat) => (x : Int)) = false) := by show _ = _; rw [decide_eq_false_iff_not, mem_nat, hmem]; exact hin2
            have HIN2 := hideI hin2
            have hl0 := HL0.out
            rw [if_neg hin2, List.append_nil] at hl0
            have HL1 := hideI hl0
            obtain ⟨i1, hjx, hy0, hy1, hy2⟩ := info_parts int_info
            have H63 : Hid (l.length + 1 ≤ maxLen) := by show _ ≤ _; simp only [maxLen]; omega
            have HBY : Hid ((l.length + 1) * 8 ≤ 140737488355328) := by show _ ≤ _; omega
            have HBS : Hid (w.heap.size + 1 ≤ wr.heap.size) := by show _ ≤ _; omega
            clear hin2 hmem hl0
            go_wp2_with (first
              | (go_at_call 97; go_must (refine (contains_any _ _ _ _ _ HINT.out).mono ?_); rw [HC.out]; rintro e w2 ⟨rfl, rfl⟩)
              | (at_builtin; go_must (refine wpList_append_lies _ rfl _ _ _ rfl (w.heap.size + 1 + 1) 3 i1 (.int .i64 0) 1 8 Tryz.underlying22 hjx hy0 hy1 hy2 rfl (by decide) _ _ _ rfl (HOWN.out.alloc _) ⟨wr.heap.size, 0, none⟩ 1 1 [.int .i64 k] rfl rfl (one_new wr _) (by simp [Value.oneCell']) (by decide) H63.out HBY.out (by simp; exact HBS.out) _ rfl ?_); intro g1 cap1 w3 hown1 hgrow1 hor1 _; go_must (have HP := hideI (HLi.out.push HV.out HLL.out hown1 hgrow1 hor1); have HPB := hideI (HLi.out.pushed (u := .slice (some ⟨g1, 0, none⟩) (l.length + 1) cap1) HV.out HLL.out hgrow1 HBi.out (Nat.le_refl _)); obtain ⟨hc4, hf4⟩ := HLi.out.held HV.out HLL.out hgrow1; clear hown1 hgrow1 hor1 q1)))
            go_roundw
            case rel => exact ⟨i + 1, _, by omega, by go_num, by rw [← predsAt_push HTI.out HIN2.out htl, ← HL1.out]; exact HP, HPB⟩
            case measure => simp [intOf]; omega
        · have HE : Hid (predsAt bs bs.length k i = predsAt bs bs.length (k + 1) 0) := predsAt_next bs _ k (by rw [HSU.out, List.length_map, ← HM.out]; omega)
          rw [HE.out] at HLi
          go_wp2
          go_roundw
          case rel => exact ⟨k + 1, vs2, by omega, by go_num, HLi, hideI (HBr.out.trans (HBi.out.mono (Nat.le_succ _))), hideI (HBo.out.trans HBi.out)⟩
          case measure => simp [intOf]; omega
    · have hkn : k = bs.length := by omega
      have HKN := hideI hkn
      rw [hkn] at HL
      clear hkn
      go_wp2
      go_ret
      exact ⟨_, vs, rfl, ⟨HL.out.vl, HL.out.ll, World.ownsRow.mono HL.out.row (by omega), HL.out.own, HL.out.apart⟩, HBr.out⟩

end Go.Proofs.YtglbepdjahddmaaGreat

namespace Go.Proofs.YtglbepdjahddmaaGreat
open Go.RowKit Go.Maps

theorem Lists.mono {w : World} {base base' gb n : Nat} {vs : List Value} {ls : List (List Nat)} (h : Lists w base gb n vs ls) (hb : base' ≤ base) : Lists w base' gb n vs ls :=
  ⟨h.vl, h.ll, World.ownsRow.mono h.row hb, h.own, h.apart⟩

theorem Lists.kept {w w' : World} {base gb n : Nat} {vs : List Value} {ls : List (List Nat)} (h : Lists w base gb n vs ls) (hb : Below w.heap.size w w') : Lists w' base gb n vs ls :=
  ⟨h.vl, h.ll, own_kept_below h.row hb (fun k hk => (h.row.lt k hk).2), fun t v l hv hl => own_kept_below (h.own t v l hv hl) hb (fun k hk => ((h.own t v l hv hl).lt k hk).2), h.apart⟩

def GPredsPost (f : FuncM) (w : World) (e : Ending) (w' : World) : Prop :=
  ((lookM f).1 ≠ 0 ∧ e = .returned (.tuple #[.slice none 0 0, .int .i64 (lookM f).1]) ∧ Below w.heap.size w w') ∨
  ((lookM f).1 = 0 ∧ ∃ (g : Nat) (vs : List Value), e = .returned (.tuple #[.slice (some ⟨g, 0, none⟩) f.blocks.length f.blocks.length, .int .i64 0]) ∧ Lists w' w.heap.size g f.blocks.length vs (predsAt f.blocks f.blocks.length f.blocks.length 0) ∧ Below w.heap.size w w')

set_option maxRecDepth 100000 in
set_option maxHeartbeats 1000000 in
theorem gPreds_any (f : FuncM) (B : Nat) (pv bv : Value) (w : World) (hpv : Ints w B pv f.params) (hbv : BlocksR w B bv f.blocks) (hB : B ≤ w.heap.size) (hid : ∀ u ∈ usesM f, I64 u.1) :
    Calls Tryz.prog 22 #[.agg #[pv, .int .i64 f.arrays, .int .i64 f.cells, bv]] w (GPredsPost f w) := by
  have HP := hideI hpv
  have HBL := hideI hbv
  have HID := hideI hid
  obtain ⟨P, pc, rfl, _⟩ := hpv
  obtain ⟨A, c, rfl, hbm, _⟩ := hbv
  have HX := hideI (heap_alloc_new w (.cells #[.slice P f.params.length pc, .int .i64 f.arrays, .int .i64 f.cells, .slice A f.blocks.length c] 25))
  have HK : Hid (Keeps B w (w.alloc (.cells #[.slice P f.params.length pc, .int .i64 f.arrays, .int .i64 f.cells, .slice A f.blocks.length c] 25))) := (Keeps.refl w).alloc hB _
  have HB0 : Hid (Below w.heap.size w (w.alloc (.cells #[.slice P f.params.length pc, .int .i64 f.arrays, .int .i64 f.cells, .slice A f.blocks.length c] 25))) := (Below.refl _ w).alloc (Nat.le_refl _) _
  clear hid
  by_cases h0 : (lookM f).1 = 0
  · have H0 := hideI h0
    have hnb := look_some_block h0
    clear h0
    go_enter Tryz.func22, Tryz.ntmps22
    go_wp2_with (first
      | (go_at_call 51; go_must (refine (check_any f B _ _ _ (HP.out.keeps HK.out) (HBL.out.keeps HK.out) (by simp; omega) HID.out).mono ?_); rw [H0.out]; rintro e w1 ⟨rfl, hb⟩; have HB1 := hideI (HB0.out.trans (hb.mono (by simp))); have hxx := row_cells ((hb.block _ (lt_of_heap HX.out)).trans HX.out) rfl; have q0 := hxx 0; have q1 := hxx 1; have q2 := hxx 2; have q3 := hxx 3; have hl1 : w.heap.size < w1.heap.size := (by have := hb.size; simp at this; omega); clear hb hxx)
      | (go_at_call 52; go_must (refine (preds_any f.blocks w.heap.size _ _ _ _ _ ((HBL.out.more' hB).keeps (Keeps.of_below HB1.out)) (by omega) hnb.2 (look_ends H0.out)).mono ?_); rintro e w2 ⟨g, vs, rfl, hls, hb2⟩; have HLS := hideI hls; have HB2 := hideI hb2; clear hls hb2))
    go_ret2
    exact .inr ⟨H0.out, g, vs, rfl, HLS.out.mono (by omega), HB1.out.trans (HB2.out.mono (by omega))⟩
  · have H0 := hideI h0
    have hb : ((lookM f).1 != 0) = true := by simpa using h0
    clear h0
    go_enter Tryz.func22, Tryz.ntmps22
    go_wp2_with (first
      | (go_at_call 51; go_must (refine (check_any f B _ _ _ (HP.out.keeps HK.out) (HBL.out.keeps HK.out) (by simp; omega) HID.out).mono ?_); rintro e w1 ⟨rfl, hb1⟩; have HB1 := hideI (HB0.out.trans (hb1.mono (by simp))); clear hb1))
    go_ret2
    exact .inl ⟨H0.out, rfl, HB1.out⟩

theorem gOrder_no (f : FuncM) (B : Nat) (pv bv : Value) (w : World) (hpv : Ints w B pv f.params) (hbv : BlocksR w B bv f.blocks) (hB : B ≤ w.heap.size) (hid : ∀ u ∈ usesM f, I64 u.1) (h : (lookM f).1 ≠ 0) :
    Calls Tryz.prog 62 #[.agg #[pv, .int .i64 f.arrays, .int .i64 f.cells, bv]] w fun e w' => e = .returned (.tuple #[.slice none 0 0, .int .i64 (lookM f).1]) ∧ Below w.heap.size w w' := by
  refine (gOrder_any f B pv bv w hpv hbv hB hid).mono ?_
  rintro e w' (⟨_, h2⟩ | ⟨h2, _⟩)
  · exact h2
  · exact absurd h2 h

theorem gOrder_yes (f : FuncM) (B : Nat) (pv bv : Value) (w : World) (hpv : Ints w B pv f.params) (hbv : BlocksR w B bv f.blocks) (hB : B ≤ w.heap.size) (hid : ∀ u ∈ usesM f, I64 u.1) (h : (lookM f).1 = 0) :
    Calls Tryz.prog 62 #[.agg #[pv, .int .i64 f.arrays, .int .i64 f.cells, bv]] w fun e w' => ∃ (o : List Nat) (g cap : Nat), e = .returned (.tuple #[.slice (some ⟨g, 0, none⟩) o.length cap, .int .i64 0]) ∧ OrderIs f.blocks o ∧ 0 < o.length ∧ o.length ≤ f.blocks.length ∧ w'.ownsRow w.heap.size 3 1 (.slice (some ⟨g, 0, none⟩) o.length cap) o.length (natInts o) ∧ Below w.heap.size w w' := by
  refine (gOrder_any f B pv bv w hpv hbv hB hid).mono ?_
  rintro e w' (⟨h2, _⟩ | ⟨_, h2⟩)
  · exact absurd h h2
  · exact h2

theorem gPreds_no (f : FuncM) (B : Nat) (pv bv : Value) (w : World) (hpv : Ints w B pv f.params) (hbv : BlocksR w B bv f.blocks) (hB : B ≤ w.heap.size) (hid : ∀ u ∈ usesM f, I64 u.1) (h : (lookM f).1 ≠ 0) :
    Calls Tryz.prog 22 #[.agg #[pv, .int .i64 f.arrays, .int .i64 f.cells, bv]] w fun e w' => e = .returned (.tuple #[.slice none 0 0, .int .i64 (lookM f).1]) ∧ Below w.heap.size w w' := by
  refine (gPreds_any f B pv bv w hpv hbv hB hid).mono ?_
  rintro e w' (⟨_, h2⟩ | ⟨h2, _⟩)
  · exact h2
  · exact absurd h2 h

theorem gPreds_yes (f : FuncM) (B : Nat) (pv bv : Value) (w : World) (hpv : Ints w B pv f.params) (hbv : BlocksR w B bv f.blocks) (hB : B ≤ w.heap.size) (hid : ∀ u ∈ usesM f, I64 u.1) (h : (lookM f).1 = 0) :
    Calls Tryz.prog 22 #[.agg #[pv, .int .i64 f.arrays, .int .i64 f.cells, bv]] w fun e w' => ∃ (g : Nat) (vs : List Value), e = .returned (.tuple #[.slice (some ⟨g, 0, none⟩) f.blocks.length f.blocks.length, .int .i64 0]) ∧ Lists w' w.heap.size g f.blocks.length vs (predsAt f.blocks f.blocks.length f.blocks.length 0) ∧ Below w.heap.size w w' := by
  refine (gPreds_any f B pv bv w hpv hbv hB hid).mono ?_
  rintro e w' (⟨h2, _⟩ | ⟨_, h2⟩)
  · exact absurd h h2
  · exact h2

end Go.Proofs.YtglbepdjahddmaaGreat

namespace Go.Proofs.YtglbepdjahddmaaGreat
open Go.RowKit

theorem use_info : (Tryz.prog.info? 83).map (fun i => (i.zero, i.size, i.bytes)) = some (some (.agg #[.int .i64 0, .int .i64 0, .int .i64 0, .int .i64 0, .int .i64 0]), 5, 40) := by kernel_rfl

/-- the slice v is the call's own row of uses: of each the value and the type -/
def RU (w : World) (base : Nat) (v : Value) (us : List (Int × Int)) : Prop :=
  ∃ rows : List (List Int), rows.map (fun r => (r.getD 0 0, r.getD 1 0)) = us ∧ (∀ r ∈ rows, r.length = 5) ∧ w.ownsRow base 83 5 v us.length (rows.flatten.map (Value.int .i64))

theorem RU.push {w' : World} {base : Nat} {v' : Value} {us : List (Int × Int)} {rows : List (List Int)} (h1 : rows.map (fun r => (r.getD 0 0, r.getD 1 0)) = us) (h2 : ∀ r ∈ rows, r.length = 5) {a b c d e : Int}
    (h : w'.ownsRow base 83 5 v' (us.length + 1) (rows.flatten.map (Value.int .i64) ++ [.int .i64 a, .int .i64 b, .int .i64 c, .int .i64 d, .int .i64 e])) : RU w' base v' (us ++ [(a, b)]) := by
  refine ⟨rows ++ [[a, b, c, d, e]], by rw [List.map_append, h1]; rfl, ?_, ?_⟩
  · intro r hr
    rcases List.mem_append.1 hr with hr | hr
    · exact h2 r hr
    · simp at hr
      subst hr
      rfl
  · simpa using h

theorem RU.alloc {w : World} {base : Nat} {v : Value} {us : List (Int × Int)} (h : RU w base v us) (o : Obj) : RU (w.alloc o) base v us := by
  obtain ⟨rows, h1, h2, h3⟩ := h
  exact ⟨rows, h1, h2, h3.alloc o⟩

theorem RU.below {w w' : World} {base : Nat} {v : Value} {us : List (Int × Int)} (h : RU w base v us) (hb : Below w.heap.size w w') : RU w' base v us := by
  obtain ⟨rows, h1, h2, h3⟩ := h
  exact ⟨rows, h1, h2, h3.kept (row := none) ⟨hb.os, hb.tape, hb.output, hb.size, fun k hk _ => hb.block k hk⟩ (by
    cases hv : v.ownBlock with
    | none => exact .inl rfl
    | some k => exact .inr (by simp))⟩

theorem five_new (w : World) (cs : List Value) (t : TypeId) : ∀ (j : Nat) (u : Value), cs[j]? = some u → (w.alloc (.cells cs.toArray t)).cell? ((⟨w.heap.size, 0, none⟩ : Addr).add j) = some u := by
  intro j u hu
  rw [Go.WideShapes.add_plain, cell_of_row _ _ _ _ _ _ (heap_alloc_new w _), Nat.zero_add]
  simpa using hu

/-- what a walk keeps that appends to a row of uses: all but that row -/
structure Ka (base : Nat) (w w' : World) : Prop where
  os : w'.os = w.os
  tape : w'.tape = w.tape
  output : w'.output = w.output
  size : w.heap.size ≤ w'.heap.size
  low : ∀ b, b < base → w'.heap[b]? = w.heap[b]?
  other : ∀ (b : Nat) (cs : Array Value) (t : TypeId), w.heap[b]? = some (Obj.cells cs t (0, 0)) → t ≠ 83 → w'.heap[b]? = some (Obj.cells cs t (0, 0))

theorem Ka.refl (base : Nat) (w : World) : Ka base w w := ⟨rfl, rfl, rfl, Nat.le_refl _, fun _ _ => rfl, fun _ _ _ h _ => h⟩
theorem Ka.trans {base : Nat} {a b c : World} (h : Ka base a b) (k : Ka base b c) : Ka base a c :=
  ⟨k.os.trans h.os, k.tape.trans h.tape, k.output.trans h.output, Nat.le_trans h.size k.size, fun i hi => (k.low i hi).trans (h.low i hi), fun i cs t hi ht => k.other i cs t (h.other i cs t hi ht) ht⟩
theorem Ka.of_below {base : Nat} {w w' : World} (h : Below w.heap.size w w') (hb : base ≤ w.heap.size) : Ka base w w' :=
  ⟨h.os, h.tape, h.output, h.size, fun i hi => h.block i (by omega), fun i cs t hi _ => (h.block i (lt_of_heap hi)).trans hi⟩
theorem Ka.alloc {base : Nat} {a w : World} (h : Ka base a w) (hb : base ≤ w.heap.size) (o : Obj) : Ka base a (w.alloc o) := h.trans (Ka.of_below ((Below.refl _ _).alloc (Nat.le_refl _) o) hb)
theorem Ka.drew {base : Nat} {a w : World} (h : Ka base a w) : Ka base a w.drew := h.trans ⟨rfl, rfl, rfl, Nat.le_refl _, fun _ _ => rfl, fun _ _ _ h _ => h⟩
theorem own_ne' {w : World} {base : Nat} {e t : TypeId} {size n g : Nat} {v : Value} {xs : List Value} {cs : Array Value} (h : w.ownsRow base e size v n xs) (hg : w.heap[g]? = some (.cells cs t (0, 0))) (hne : e ≠ t) : some g ≠ v.ownBlock := by
  rcases h.2 with ⟨rfl, _⟩ | ⟨g2, cap, cur, rfl, _, hh, _⟩
  · simp [Value.ownBlock]
  · intro he
    have : g = g2 := by simpa [Value.ownBlock] using he
    subst this
    rw [hg] at hh
    injection hh with hh
    injection hh with _ ht
    exact hne ht.symm

theorem Ka.grown {base n : Nat} {w w' : World} {v : Value} {xs : List Value} (hg : w.grownBy w' v.ownBlock) (ho : w.ownsRow base 83 5 v n xs) (hb : base ≤ w.heap.size) : Ka base w w' :=
  ⟨hg.os, hg.tape, hg.output, hg.size, fun i hi => hg.block i (by omega) (fun e => by have := (ho.lt i e.symm).1; omega), fun i cs t hi ht => (hg.block i (lt_of_heap hi) (own_ne' ho hi (fun e => ht e.symm))).trans hi⟩
theorem Ka.keeps {base : Nat} {w w' : World} (h : Ka base w w') : Keeps base w w' := fun b o hb => World.cell?_of_block (a := ⟨b, o, none⟩) (h.low b hb)
theorem Keeps.mono' {B B' : Nat} {w w' : World} (h : Keeps B' w w') (hB : B ≤ B') : Keeps B w w' := fun b o hb => h b o (by omega)
theorem Ka.row {base g : Nat} {w w' : World} {cs : Array Value} {t : TypeId} (h : Ka base w w') (hg : w.heap[g]? = some (.cells cs t (0, 0))) (ht : t ≠ 83) : ∀ o, w'.cell? ⟨g, o, none⟩ = cs[o]? :=
  row_cells hg ((h.other g cs t hg ht).trans hg.symm)
theorem Ka.below {w w' : World} (h : Ka w.heap.size w w') : Below w.heap.size w w' := ⟨h.os, h.tape, h.output, h.size, h.low⟩

theorem nodup_lt : ∀ (n : Nat) (l : List Nat), l.Nodup → (∀ x ∈ l, x < n) → l.length ≤ n := by
  intro n
  induction n with
  | zero =>
    intro l _ h
    cases l with
    | nil => simp
    | cons a l => exact absurd (h a (List.mem_cons_self ..)) (by omega)
  | succ n ih =>
    intro l hn h
    have h1 := ih (l.erase n) (hn.erase _) (fun x hx => by
      have h2 := h x (List.mem_of_mem_erase hx)
      have h3 : x ≠ n := fun e => by subst e; exact (hn.not_mem_erase) hx
      omega)
    have h2 := List.length_erase (a := n) (l := l)
    split at h2 <;> omega

theorem once_nodup {nb : Nat} : ∀ (l seen : List Int), onceB nb seen l = true → l.Nodup ∧ (∀ x ∈ l, 0 ≤ x ∧ x ≤ nb - 1) ∧ ∀ x ∈ l, x ∉ seen := by
  intro l
  induction l with
  | nil => intro seen _; exact ⟨List.nodup_nil, (fun _ h => by cases h), (fun _ h => by cases h)⟩
  | cons b l ih =>
    intro seen h
    unfold onceB at h
    simp only [Bool.and_eq_true, Bool.not_eq_true'] at h
    obtain ⟨h1, h2, h3⟩ := ih _ h.2
    have hb := within_bd h.1.1
    have hbs : b ∉ seen := fun hm => by have := h.1.2; rw [List.contains_eq_mem] at this; simp [hm] at this
    refine ⟨List.nodup_cons.2 ⟨fun hm => h3 b hm (List.mem_cons_self ..), h1⟩, fun x hx => ?_, fun x hx => ?_⟩
    · rcases List.mem_cons.1 hx with rfl | hx
      · exact hb
      · exact h2 x hx
    · rcases List.mem_cons.1 hx with rfl | hx
      · exact hbs
      · exact fun hm => h3 x hx (List.mem_cons_of_mem _ hm)

theorem once_len {nb : Nat} {l : List Int} (h : onceB nb [] l = true) : l.length ≤ nb := by
  obtain ⟨h1, h2, _⟩ := once_nodup l [] h
  have h3 := nodup_lt nb (l.map Int.toNat) (by
    rw [List.Nodup, List.pairwise_map]
    refine List.Pairwise.imp_of_mem ?_ h1
    intro a b ha hb hne e
    have := h2 a ha
    have := h2 b hb
    omega) (fun x hx => by
    obtain ⟨a, ha, rfl⟩ := List.mem_map.1 hx
    have := h2 a ha
    omega)
  rw [List.length_map] at h3
  exact h3

theorem flat_take' {α β : Type} (g : α → List β) (l : List α) (k : Nat) (a : α) (h : l[k]? = some a) : (l.take (k + 1)).flatMap g = (l.take k).flatMap g ++ g a := by
  obtain ⟨hk, rfl⟩ := List.getElem?_eq_some_iff.1 h
  rw [List.take_succ_eq_append_getElem hk, List.flatMap_append]
  simp

theorem map_take' {α β : Type} (g : α → β) (l : List α) (k : Nat) (a : α) (h : l[k]? = some a) : (l.take (k + 1)).map g = (l.take k).map g ++ [g a] := by
  obtain ⟨hk, rfl⟩ := List.getElem?_eq_some_iff.1 h
  rw [List.take_succ_eq_append_getElem hk, List.map_append]
  rfl

theorem zip_take' {α β : Type} (l : List α) (r : List β) (k : Nat) (a : α) (b : β) (h : l[k]? = some a) (h2 : r[k]? = some b) : (l.take (k + 1)).zip (r.take (k + 1)) = (l.take k).zip (r.take k) ++ [(a, b)] := by
  obtain ⟨hk, rfl⟩ := List.getElem?_eq_some_iff.1 h
  obtain ⟨hk2, rfl⟩ := List.getElem?_eq_some_iff.1 h2
  rw [List.take_succ_eq_append_getElem hk, List.take_succ_eq_append_getElem hk2, List.zip_append (by simp; omega)]
  rfl

theorem flat_take_le {α β : Type} (g : α → List β) (l : List α) (k : Nat) : ((l.take k).flatMap g).length ≤ (l.flatMap g).length := by
  conv => rhs; rw [← List.take_append_drop k l, List.flatMap_append, List.length_append]
  omega

theorem flat_at_le {α β : Type} (g : α → List β) (l : List α) (k : Nat) (a : α) (h : l[k]? = some a) : ((l.take k).flatMap g).length + (g a).length ≤ (l.flatMap g).length := by
  have h1 := flat_take_le g l (k + 1)
  rw [flat_take' g l k a h, List.length_append] at h1
  exact h1

theorem usesBlock_parts (q : BlockM) : (usesBlock q).length = (q.phis.flatMap usesPhi).length + ((q.code.flatMap usesInstr).length + (usesTerm q.term).length) := by
  unfold usesBlock
  rw [List.length_append, List.length_append]

/-- the uses are few enough, whatever has been seen -/
def Few (bs : List BlockM) : Prop := (bs.flatMap usesBlock).length ≤ 3000000

theorem few_phi {bs : List BlockM} (hf : Few bs) {k j m : Nat} {q : BlockM} {p : PhiM} (hq : bs[k]? = some q) (hp : q.phis[j]? = some p) (hm : m < p.vals.length) (us1 us2 : List (Int × Int)) (h1 : us1 = (bs.take k).flatMap usesBlock) (h2 : us2 = us1 ++ (q.phis.take j).flatMap usesPhi) :
    (us2 ++ (p.vals.take m).map fun v => (v, p.typ)).length < 3000000 := by
  have a := flat_at_le usesBlock bs k q hq
  have b := flat_at_le usesPhi q.phis j p hp
  have c := usesBlock_parts q
  have d : (usesPhi p).length = p.vals.length := by unfold usesPhi; rw [List.length_map]
  unfold Few at hf
  rw [h2, h1]
  simp only [List.length_append, List.length_map, List.length_take]
  omega

theorem few_instr {bs : List BlockM} (hf : Few bs) {k j m : Nat} {q : BlockM} {x : InstrM} (hq : bs[k]? = some q) (hp : q.code[j]? = some x) (hm : m < x.args.length) (hl : x.args.length = (takesS x.op).length) (us1 us2 us3 : List (Int × Int)) (h1 : us1 = (bs.take k).flatMap usesBlock) (h2 : us2 = us1 ++ q.phis.flatMap usesPhi) (h3 : us3 = us2 ++ (q.code.take j).flatMap usesInstr) :
    (us3 ++ (x.args.take m).zip ((takesS x.op).take m)).length < 3000000 := by
  have a := flat_at_le usesBlock bs k q hq
  have b := flat_at_le usesInstr q.code j x hp
  have c := usesBlock_parts q
  have d : (usesInstr x).length = x.args.length := by unfold usesInstr; rw [List.length_zip]; omega
  unfold Few at hf
  rw [h3, h2, h1]
  simp only [List.length_append, List.length_zip, List.length_take]
  omega

theorem few_term {bs : List BlockM} (hf : Few bs) {k : Nat} {q : BlockM} (hq : bs[k]? = some q) (hm : 0 < (usesTerm q.term).length) (us1 us2 : List (Int × Int)) (h1 : us1 = (bs.take k).flatMap usesBlock) (h2 : us2 = us1 ++ q.phis.flatMap usesPhi) :
    (us2 ++ q.code.flatMap usesInstr).length < 3000000 := by
  have a := flat_at_le usesBlock bs k q hq
  have c := usesBlock_parts q
  unfold Few at hf
  rw [h2, h1]
  simp only [List.length_append]
  omega

set_option maxRecDepth 100000 in
set_option maxHeartbeats 8000000 in
theorem refUses_any (bs : List BlockM) (B : Nat) (pv xv cv bv : Value) (w : World) (hbv : BlocksR w B bv bs) (hB : B ≤ w.heap.size) (hfew : Few bs) (hl5 : bs.length ≤ 512)
    (hform : ∀ b ∈ bs, ∀ x ∈ b.code, x.args.length = (takesS x.op).length) (hphi : ∀ b ∈ bs, ∀ p ∈ b.phis, p.vals.length = p.fr.length) :
    Calls Tryz.prog 35 #[.agg #[pv, xv, cv, bv]] w fun e w' => ∃ v, e = .returned v ∧ RU w' w.heap.size v (bs.flatMap usesBlock) ∧ Below w.heap.size w w' := by
  have HFEW := hideI hfew
  have HFO := hideI hform
  have HPH := hideI hphi
  have HBB := hideI hbv
  obtain ⟨i0, hi, hz0, hz1, hz2⟩ := info_parts use_info
  obtain ⟨A, c, rfl, hbm, hbx⟩ := hbv
  have HX := hideI hbx
  clear hbx hfew hform hphi
  obtain ⟨W0, hW0⟩ : ∃ W0 : World, W0 = (w.alloc (.cells #[pv, xv, cv, .slice A bs.length c] 25)).alloc (.cells #[] 83) := ⟨_, rfl⟩
  have hK0 : Hid (Ka w.heap.size w W0) := by rw [hW0]; exact ((Ka.refl _ w).alloc (Nat.le_refl _) _).alloc (by simp) _
  have hbox0 : Hid (W0.heap[w.heap.size]? = some (.cells #[pv, xv, cv, .slice A bs.length c] 25 (0, 0))) := by
    show _ = _
    rw [hW0, Below.heap_alloc _ _ _ (by simp)]
    exact heap_alloc_new w _
  have hR0 : Hid (RU W0 w.heap.size (.slice (some ⟨w.heap.size + 1, 0, none⟩) 0 0) []) := by
    have := World.ownsRow_made (base := w.heap.size) (e := 83) (size := 5) (w.alloc (.cells #[pv, xv, cv, .slice A bs.length c] 25)) #[] 0 (by simp) (by decide) rfl
    show RU W0 _ _ _
    rw [hW0]
    exact ⟨[], rfl, (fun _ h => by cases h), by simpa using this⟩
  have HW0 := hideI hW0
  clear hW0
  go_enter Tryz.func35, Tryz.ntmps35
  go_wp2
  rw [← HW0.out]
  go_loopw [3, 4] (fun o i wr => ∃ k : Nat, k ≤ bs.length ∧ i = .int .i64 k ∧ RU wr w.heap.size o ((bs.take k).flatMap usesBlock) ∧ Ka w.heap.size W0 wr) (fun _ i _ => bs.length - (intOf i).toNat)
  case atStart => exact ⟨0, Nat.zero_le _, rfl, by simpa using hR0.out, Ka.refl _ _⟩
  case round =>
    obtain ⟨k, hk, rfl, hIk, hFk⟩ := hrel
    obtain ⟨u3, rfl⟩ : ∃ u3' : Value, u3' = u3 := ⟨_, rfl⟩
    have HIk := hideI hIk
    have HFk := hideI hFk
    have hx := hFk.row hbox0.out (by decide)
    have hsz : w.heap.size < wr.heap.size := by have h1 := hFk.size; have h2 := lt_of_heap hbox0.out; omega
    have HK := hideI (Keeps.mono' (hK0.out.trans hFk).keeps hB)
    clear hIk hFk
    by_cases hlt : k < bs.length
    · obtain ⟨q, hq⟩ : ∃ q, bs[k]? = some q := ⟨_, List.getElem?_eq_getElem hlt⟩
      obtain ⟨b, off, qpv, qcv, qtv, rfl, hb, e0, e1, e2, e3, e4, e5, hpv, hcv, htv, _⟩ := HX.out k q hq
      have c0 := (HK.out b (off + k * 6) hb).trans e0
      have c1 := (HK.out b (off + k * 6 + 1) hb).trans e1
      have c2 := (HK.out b (off + k * 6 + 2) hb).trans e2
      have c3 := (HK.out b (off + k * 6 + 3) hb).trans e3
      have c4 := (HK.out b (off + k * 6 + 4) hb).trans e4
      have c5 := (HK.out b (off + k * 6 + 5) hb).trans e5
      have HQ := hideI hq
      obtain ⟨PA, pc, rfl, hpm, hpx⟩ := hpv
      obtain ⟨CA, cc, rfl, hcm, hcx⟩ := hcv
      obtain ⟨TA, tc, rfl, _⟩ := htv
      have HPX := hideI hpx
      have HCX := hideI hcx
      clear e0 e1 e2 e3 e4 e5 hq hpx hcx
      obtain ⟨wo, rfl⟩ : ∃ wo : World, wo = wr := ⟨_, rfl⟩
      obtain ⟨W1, hW1⟩ : ∃ W1 : World, W1 = wo.alloc (.cells #[.slice PA q.phis.length pc, .slice CA q.code.length cc, .int .i64 q.term.op, .int .i64 q.term.val, .slice TA q.term.to.length tc, .int .i64 q.term.n] 59) := ⟨_, rfl⟩
      have HF1 : Hid (Ka w.heap.size W0 W1) := by rw [hW1]; exact HFk.out.alloc (by omega) _
      have HI1 : Hid (RU W1 w.heap.size u3 ((bs.take k).flatMap usesBlock)) := by rw [hW1]; exact HIk.out.alloc _
      have HB1 : Hid (W1.heap[wo.heap.size]? = some (.cells #[.slice PA q.phis.length pc, .slice CA q.code.length cc, .int .i64 q.term.op, .int .i64 q.term.val, .slice TA q.term.to.length tc, .int .i64 q.term.n] 59 (0, 0))) := by rw [hW1]; exact heap_alloc_new wo _
      have HW1 := hideI hW1
      clear hW1
      obtain ⟨us1, hus1⟩ : ∃ us1, us1 = (bs.take k).flatMap usesBlock := ⟨_, rfl⟩
      rw [← hus1] at HI1
      have HU1 := hideI hus1
      clear hus1
      go_wp2
      rw [← HW1.out]
      go_loopw [3, 6] (fun o i wr => ∃ j : Nat, j ≤ q.phis.length ∧ i = .int .i64 j ∧ RU wr w.heap.size o (us1 ++ (q.phis.take j).flatMap usesPhi) ∧ Ka w.heap.size W1 wr) (fun _ i _ => q.phis.length - (intOf i).toNat)
      case atStart => exact ⟨0, Nat.zero_le _, rfl, by simpa using HI1.out, Ka.refl _ _⟩
      case round =>
        obtain ⟨j, hj, rfl, hIj, hFj⟩ := hrel
        have HIj := hideI hIj
        have HFj := hideI hFj
        have hx1 := hFj.row HB1.out (by decide)
        have hsz1 : wo.heap.size < wr.heap.size := by have h1 := hFj.size; have h2 := lt_of_heap HB1.out; omega
        have HK1 := hideI (Keeps.mono' ((hK0.out.trans HF1.out).trans hFj).keeps hB)
        clear hIj hFj
        by_cases hlj : j < q.phis.length
        · obtain ⟨p, hp⟩ : ∃ p, q.phis[j]? = some p := ⟨_, List.getElem?_eq_getElem hlj⟩
          obtain ⟨b2, off2, fv, vv, rfl, hb2, e0, e1, e2, e3, hf, hv, _⟩ := HPX.out j p hp
          have HQ2 := hideI hp
          have hpl : Hid (p.vals.length = p.fr.length) := HPH.out q (List.mem_of_getElem? HQ.out) p (List.mem_of_getElem? hp)
          obtain ⟨FA, fc, rfl, hfm, hfx⟩ := hf
          obtain ⟨VA, vc, rfl, hvm, hvx⟩ := hv
          have HVX := hideI hvx
          have HFX := hideI hfx
          have HE := hideI (And.intro e1 (And.intro e2 e3))
          have d3 := (HK1.out b2 (off2 + j * 4 + 3) hb2).trans e3
          obtain ⟨wi, rfl⟩ : ∃ wi : World, wi = wr := ⟨_, rfl⟩
          obtain ⟨us2, hus2⟩ : ∃ us2, us2 = us1 ++ (q.phis.take j).flatMap usesPhi := ⟨_, rfl⟩
          rw [← hus2] at HIj
          have HU2 := hideI hus2
          clear e0 e1 e2 e3 hp hvx hfx hus2
          go_wp2
          clear d3
          go_loopw [3, 7] (fun o i wr => ∃ m : Nat, m ≤ p.vals.length ∧ i = .int .i64 m ∧ RU wr w.heap.size o (us2 ++ (p.vals.take m).map fun v => (v, p.typ)) ∧ Ka w.heap.size wi wr) (fun _ i _ => p.vals.length - (intOf i).toNat)
          case atStart => exact ⟨0, Nat.zero_le _, rfl, by simpa using HIj.out, Ka.refl _ _⟩
          case round =>
            obtain ⟨m, hm, rfl, hIm, hFm⟩ := hrel
            have hx2 := (HFj.out.trans hFm).row HB1.out (by decide)
            have HK2 := hideI (Keeps.mono' (((hK0.out.trans HF1.out).trans HFj.out).trans hFm).keeps hB)
            have hsz2 : w.heap.size ≤ wr.heap.size := by have h1 := hFm.size; omega
            have d1 := (HK2.out b2 (off2 + j * 4 + 1) hb2).trans HE.out.1
            have d2 := (HK2.out b2 (off2 + j * 4 + 2) hb2).trans HE.out.2.1
            have d3 := (HK2.out b2 (off2 + j * 4 + 3) hb2).trans HE.out.2.2
            have HIm := hideI hIm
            have HFm := hideI hFm
            clear hIm hFm
            by_cases hlm : m < p.vals.length
            · obtain ⟨b3, off3, rfl, hb3, e3⟩ := HVX.out m hlm
              obtain ⟨v, hv⟩ : ∃ v, p.vals[m]? = some v := ⟨_, List.getElem?_eq_getElem hlm⟩
              have hlf : m < p.fr.length := by rw [← hpl.out]; exact hlm
              obtain ⟨b4, off4, rfl, hb4, e4⟩ := HFX.out m hlf
              obtain ⟨fr, hfr⟩ : ∃ fr, p.fr[m]? = some fr := ⟨_, List.getElem?_eq_getElem hlf⟩
              rw [hv] at e3
              rw [hfr] at e4
              have f3 := (HK2.out b3 (off3 + m) hb3).trans e3
              have f4 := (HK2.out b4 (off4 + m) hb4).trans e4
              simp only [Option.getD_some] at f3 f4
              have HV := hideI hv
              have hfw := few_phi HFEW.out HQ.out HQ2.out hlm us1 us2 HU1.out HU2.out
              obtain ⟨uu, huu⟩ : ∃ uu, uu = us2 ++ (p.vals.take m).map fun v => (v, p.typ) := ⟨_, rfl⟩
              rw [← huu] at hfw HIm
              have HUU := hideI huu
              clear e3 e4 hv hfr huu
              have g0 : wr.cell? ⟨wo.heap.size, 0, none⟩ = some (.slice (some ⟨b2, off2, none⟩) q.phis.length pc) := hx2 0
              clear hx2
              obtain ⟨rows, hrw1, hrw2, hown⟩ := HIm.out
              have HR1 := hideI hrw1
              have HR2 := hideI hrw2
              clear hrw1 hrw2
              have G0 : Hid (∀ W, Ka w.heap.size wr W → W.cell? ⟨wo.heap.size, 0, none⟩ = some (.slice (some ⟨b2, off2, none⟩) q.phis.length pc) ∧ W.cell? ⟨b2, off2 + j * 4 + 1, none⟩ = some (.int .i64 p.typ) ∧ W.cell? ⟨b2, off2 + j * 4 + 2, none⟩ = some (.slice (some ⟨b4, off4, none⟩) p.fr.length fc) ∧ W.cell? ⟨b2, off2 + j * 4 + 3, none⟩ = some (.slice (some ⟨b3, off3, none⟩) p.vals.length vc) ∧ W.cell? ⟨b3, off3 + m, none⟩ = some (.int .i64 v) ∧ W.cell? ⟨b4, off4 + m, none⟩ = some (.int .i64 fr)) :=
                fun W hW => ⟨((HFj.out.trans HFm.out).trans hW).row HB1.out (by decide) 0, (hW.keeps _ _ (by omega)).trans d1, (hW.keeps _ _ (by omega)).trans d2, (hW.keeps _ _ (by omega)).trans d3, (hW.keeps _ _ (by omega)).trans f3, (hW.keeps _ _ (by omega)).trans f4⟩
              go_wp2
              go_region_held3 (fun w' => w'.cell? ⟨wo.heap.size, 0, none⟩ = some (.slice (some ⟨b2, off2, none⟩) q.phis.length pc) ∧ w'.cell? ⟨b2, off2 + j * 4 + 1, none⟩ = some (.int .i64 p.typ) ∧ w'.cell? ⟨b2, off2 + j * 4 + 2, none⟩ = some (.slice (some ⟨b4, off4, none⟩) p.fr.length fc) ∧ w'.cell? ⟨b2, off2 + j * 4 + 3, none⟩ = some (.slice (some ⟨b3, off3, none⟩) p.vals.length vc) ∧ w'.cell? ⟨b3, off3 + m, none⟩ = some (.int .i64 v) ∧ w'.cell? ⟨b4, off4 + m, none⟩ = some (.int .i64 fr)) (first | go_keep | exact G0.out _ ((((Ka.refl _ wr).alloc hsz2 _).drew).trans hka) | exact G0.out _ (((Ka.refl _ wr).alloc hsz2 _).trans hka))
                (first | (refine step_append_lies _ rfl (.tmp 44) (.tmp 71) _ rfl w.heap.size 83 i0 _ 5 40 Tryz.underlying80 hi hz0 hz1 hz2 rfl (by decide) _ _ _ rfl (hown.alloc _) ⟨wr.heap.size, 0, none⟩ 1 1 [.int .i64 v, .int .i64 p.typ, .int .i64 k, .int .i64 (-1), .int .i64 fr] rfl rfl (five_new _ _ _) (by simp [Value.oneCell']) (by decide) (by unfold maxLen; omega) (by omega) (by simp; omega) _ rfl ?_; intro g1 cap1 w4 hown1 hgrow1 hor hgl1; have hka := Ka.grown hgrow1 (hown.alloc _) (by simp; omega)))
              have HIN : Hid (RU w4 w.heap.size (.slice (some ⟨g1, 0, none⟩) (uu.length + 1) cap1) (us2 ++ (p.vals.take (m + 1)).map fun v => (v, p.typ))) := by
                have := RU.push (b := p.typ) HR1.out HR2.out hown1
                rw [map_take' (fun v => (v, p.typ)) p.vals m v HV.out, ← List.append_assoc, ← HUU.out]
                exact this
              have HFN : Hid (Ka w.heap.size wi w4) := (HFm.out.trans (((Ka.refl _ wr).alloc hsz2 _).drew)).trans hka
              clear hown1 hgrow1 hor hgl1 hka
              go_wp2
              go_roundw
              case rel => exact ⟨m + 1, by omega, by go_num, HIN.out, HFN.out⟩
              case measure => simp [intOf]; omega
            · have HIend : Hid (RU wr w.heap.size u3 (us2 ++ usesPhi p)) := by have := HIm.out; rw [List.take_of_length_le (by omega)] at this; exact this
              go_wp2
              go_roundw
              case rel => exact ⟨j + 1, by omega, by go_num, by rw [flat_take' _ _ _ _ HQ2.out, ← List.append_assoc, ← HU2.out]; exact HIend.out, HFj.out.trans HFm.out⟩
              case measure => simp [intOf]; omega
        · have HIend : Hid (RU wr w.heap.size u3 (us1 ++ q.phis.flatMap usesPhi)) := by have := HIj.out; rw [List.take_of_length_le (by omega)] at this; exact this
          go_wp2
          obtain ⟨wp, rfl⟩ : ∃ wp : World, wp = wr := ⟨_, rfl⟩
          clear hx1 hsz1 HK1 hlj
          obtain ⟨us3, hus3⟩ : ∃ us3, us3 = us1 ++ q.phis.flatMap usesPhi := ⟨_, rfl⟩
          rw [← hus3] at HIend
          have HU3 := hideI hus3
          clear hus3
          go_loopw [3, 8] (fun o i wr => ∃ j : Nat, j ≤ q.code.length ∧ i = .int .i64 j ∧ RU wr w.heap.size o (us3 ++ (q.code.take j).flatMap usesInstr) ∧ Ka w.heap.size W1 wr) (fun _ i _ => q.code.length - (intOf i).toNat)
          case atStart => exact ⟨0, Nat.zero_le _, rfl, by simpa using HIend.out, HFj.out⟩
          case round =>
            obtain ⟨j2, hj2, rfl, hIj2, hFj2⟩ := hrel
            have HIj2 := hideI hIj2
            have HFj2 := hideI hFj2
            have hx1 := hFj2.row HB1.out (by decide)
            have hsz1 : wo.heap.size < wr.heap.size := by have h1 := hFj2.size; have h2 := lt_of_heap HB1.out; omega
            have hsz0 : w.heap.size ≤ wr.heap.size := by omega
            have HK1 := hideI (Keeps.mono' ((hK0.out.trans HF1.out).trans hFj2).keeps hB)
            clear hIj2 hFj2
            by_cases hlj2 : j2 < q.code.length
            · obtain ⟨x, hp⟩ : ∃ x, q.code[j2]? = some x := ⟨_, List.getElem?_eq_getElem hlj2⟩
              have hxl : Hid (x.args.length = (takesS x.op).length) := HFO.out q (List.mem_of_getElem? HQ.out) x (List.mem_of_getElem? hp)
              obtain ⟨b2, off2, av, rfl, hb2, e0, e1, e2, e3, hf, _⟩ := HCX.out j2 x hp
              have d0 := (HK1.out b2 (off2 + j2 * 4) hb2).trans e0
              have HE2 := hideI e2
              have HQ2 := hideI hp
              obtain ⟨AA, ac, rfl, ham, hax⟩ := hf
              have HAX := hideI hax
              clear e0 e1 e2 e3 hp hax
              obtain ⟨wi, rfl⟩ : ∃ wi : World, wi = wr := ⟨_, rfl⟩
              go_wp2_with (go_at_call 70; refine (refArgs_any _ _).mono ?_; rintro e w3 ⟨tv, rfl, htv, hbA⟩; obtain ⟨TK, tkc, rfl, htm, htx⟩ := htv; have HTX := hideI htx; have HBA := hideI hbA; clear htx hbA)
              have HF3 : Hid (Ka w.heap.size W1 w3) := HFj2.out.trans (Ka.of_below HBA.out hsz0)
              have HI3 : Hid (RU w3 w.heap.size u3 (us3 ++ (q.code.take j2).flatMap usesInstr)) := HIj2.out.below HBA.out
              obtain ⟨us4, hus4⟩ : ∃ us4, us4 = us3 ++ (q.code.take j2).flatMap usesInstr := ⟨_, rfl⟩
              rw [← hus4] at HI3
              have HU4 := hideI hus4
              have hsz3 : wi.heap.size ≤ w3.heap.size := HBA.out.size
              clear hus4 hx1 d0
              go_loopw [3, 12] (fun o i wr => ∃ m : Nat, m ≤ (takesS x.op).length ∧ i = .int .i64 m ∧ RU wr w.heap.size o (us4 ++ (x.args.take m).zip ((takesS x.op).take m)) ∧ Ka w.heap.size w3 wr) (fun _ i _ => (takesS x.op).length - (intOf i).toNat)
              case atStart => exact ⟨0, Nat.zero_le _, rfl, by simpa using HI3.out, Ka.refl _ _⟩
              case round =>
                obtain ⟨m, hm, rfl, hIm, hFm⟩ := hrel
                have HIm := hideI hIm
                have HFm := hideI hFm
                have HK2 := hideI (Keeps.mono' ((hK0.out.trans HF1.out).trans (HF3.out.trans hFm)).keeps hB)
                have hsz2 : w.heap.size ≤ wr.heap.size := by have h1 := hFm.size; omega
                clear hIm hFm
                by_cases hlm : m < (takesS x.op).length
                · have hla : m < x.args.length := by rw [hxl.out]; exact hlm
                  obtain ⟨b3, off3, rfl, hb3, e3⟩ := HAX.out m hla
                  obtain ⟨v, hv⟩ : ∃ v, x.args[m]? = some v := ⟨_, List.getElem?_eq_getElem hla⟩
                  obtain ⟨t, ht⟩ : ∃ t, (takesS x.op)[m]? = some t := ⟨_, List.getElem?_eq_getElem hlm⟩
                  obtain ⟨g, cs, rfl, hg, hgb, hgc⟩ := HTX.out (by omega)
                  have hgx := (HFm.out.row hgb (by decide) m).trans (hgc m hlm)
                  rw [hv] at e3
                  rw [ht] at hgx
                  have f3 := (HK2.out b3 (off3 + m) hb3).trans e3
                  have d2 := (HK2.out b2 (off2 + j2 * 4 + 2) hb2).trans HE2.out
                  simp only [Option.getD_some] at f3 hgx
                  have HV := hideI hv
                  have HT2 := hideI ht
                  have HGB := hideI (And.intro hgb (hgc m hlm))
                  have hfw := few_instr HFEW.out HQ.out HQ2.out hla hxl.out us1 us3 us4 HU1.out HU3.out HU4.out
                  obtain ⟨uu, huu⟩ : ∃ uu, uu = us4 ++ (x.args.take m).zip ((takesS x.op).take m) := ⟨_, rfl⟩
                  rw [← huu] at hfw HIm
                  have HUU := hideI huu
                  obtain ⟨rows, hrw1, hrw2, hown⟩ := HIm.out
                  have HR1 := hideI hrw1
                  have HR2 := hideI hrw2
                  have g0 : wr.cell? ⟨wo.heap.size, 1, none⟩ = some (.slice (some ⟨b2, off2, none⟩) q.code.length cc) := ((HF3.out.trans HFm.out).row HB1.out (by decide) 1)
                  clear e3 hv ht hgb hgc huu hrw1 hrw2
                  have G0 : Hid (∀ W, Ka w.heap.size wr W → W.cell? ⟨wo.heap.size, 1, none⟩ = some (.slice (some ⟨b2, off2, none⟩) q.code.length cc) ∧ W.cell? ⟨b2, off2 + j2 * 4 + 2, none⟩ = some (.slice (some ⟨b3, off3, none⟩) x.args.length ac) ∧ W.cell? ⟨b3, off3 + m, none⟩ = some (.int .i64 v) ∧ W.cell? ⟨g, m, none⟩ = some (.int .i64 t)) :=
                    fun W hW => ⟨((HF3.out.trans HFm.out).trans hW).row HB1.out (by decide) 1, (hW.keeps _ _ (by omega)).trans d2, (hW.keeps _ _ (by omega)).trans f3, (by rw [((HFm.out.trans hW).row HGB.out.1 (by decide) m), ← hgx, HFm.out.row HGB.out.1 (by decide) m])⟩
                  go_wp2
                  go_region_held3 (fun w' => w'.cell? ⟨wo.heap.size, 1, none⟩ = some (.slice (some ⟨b2, off2, none⟩) q.code.length cc) ∧ w'.cell? ⟨b2, off2 + j2 * 4 + 2, none⟩ = some (.slice (some ⟨b3, off3, none⟩) x.args.length ac) ∧ w'.cell? ⟨b3, off3 + m, none⟩ = some (.int .i64 v) ∧ w'.cell? ⟨g, m, none⟩ = some (.int .i64 t)) (first | go_keep | exact G0.out _ ((((Ka.refl _ wr).alloc hsz2 _).drew).trans hka) | exact G0.out _ (((Ka.refl _ wr).alloc hsz2 _).trans hka))
                    (first | (refine step_append_lies _ rfl (.tmp 97) (.tmp 114) _ rfl w.heap.size 83 i0 _ 5 40 Tryz.underlying80 hi hz0 hz1 hz2 rfl (by decide) _ _ _ rfl (hown.alloc _) ⟨wr.heap.size, 0, none⟩ 1 1 [.int .i64 v, .int .i64 t, .int .i64 k, .int .i64 j2, .int .i64 0] rfl rfl (five_new _ _ _) (by simp [Value.oneCell']) (by decide) (by unfold maxLen; omega) (by omega) (by simp; omega) _ rfl ?_; intro g1 cap1 w4 hown1 hgrow1 hor hgl1; have hka := Ka.grown hgrow1 (hown.alloc _) (by simp; omega)))
                  have HIN : Hid (RU w4 w.heap.size (.slice (some ⟨g1, 0, none⟩) (uu.length + 1) cap1) (us4 ++ (x.args.take (m + 1)).zip ((takesS x.op).take (m + 1)))) := by
                    have := RU.push (b := t) HR1.out HR2.out hown1
                    rw [zip_take' _ _ _ _ _ HV.out HT2.out, ← List.append_assoc, ← HUU.out]
                    exact this
                  have HFN : Hid (Ka w.heap.size w3 w4) := (HFm.out.trans (((Ka.refl _ wr).alloc hsz2 _).drew)).trans hka
                  clear hown1 hgrow1 hor hgl1 hka
                  go_wp2
                  go_roundw
                  case rel => exact ⟨m + 1, by omega, by go_num, HIN.out, HFN.out⟩
                  case measure => simp [intOf]; omega
                · have HIe : Hid (RU wr w.heap.size u3 (us4 ++ usesInstr x)) := by
                    have := HIm.out
                    rw [List.take_of_length_le (by rw [hxl.out]; omega), List.take_of_length_le (by omega)] at this
                    exact this
                  go_wp2
                  go_roundw
                  case rel => exact ⟨j2 + 1, by omega, by go_num, by rw [flat_take' _ _ _ _ HQ2.out, ← List.append_assoc, ← HU4.out]; exact HIe.out, HF3.out.trans HFm.out⟩
                  case measure => simp [intOf]; omega
            · have HIe : Hid (RU wr w.heap.size u3 (us3 ++ q.code.flatMap usesInstr)) := by have := HIj2.out; rw [List.take_of_length_le (by omega)] at this; exact this
              have HUB : Hid ((bs.take (k + 1)).flatMap usesBlock = (us3 ++ q.code.flatMap usesInstr) ++ usesTerm q.term) := by
                show _ = _
                rw [flat_take' _ _ _ _ HQ.out, HU3.out, HU1.out]
                simp only [usesBlock, List.append_assoc]
              cases h2 : q.term.op == 2
              · cases h3 : q.term.op == 3
                · have hu : usesTerm q.term = [] := by
                    unfold usesTerm
                    rw [if_neg (by simpa using h2), if_neg (by simpa using h3)]
                  have HU := hideI hu
                  clear hu
                  go_wp2
                  go_roundw
                  case rel => exact ⟨k + 1, by omega, by go_num, by rw [HUB.out, HU.out, List.append_nil]; exact HIe.out, HF1.out.trans HFj2.out⟩
                  case measure => simp [intOf]; omega
                · have hu : usesTerm q.term = [(q.term.val, 0)] := by
                    unfold usesTerm
                    rw [if_neg (by simpa using h2), if_pos (by simpa using h3)]
                  have HU := hideI hu
                  have hfw := few_term HFEW.out HQ.out (by rw [hu]; exact Nat.zero_lt_one) us1 us3 HU1.out HU3.out
                  clear hu
                  obtain ⟨uu, huu⟩ : ∃ uu, uu = us3 ++ q.code.flatMap usesInstr := ⟨_, rfl⟩
                  rw [← huu] at hfw HIe HUB
                  clear huu
                  obtain ⟨rows, hrw1, hrw2, hown⟩ := HIe.out
                  have HR1 := hideI hrw1
                  have HR2 := hideI hrw2
                  clear hrw1 hrw2
                  go_wp2_with (at_builtin; refine wpList_append_lies _ rfl _ _ _ rfl w.heap.size 83 i0 _ 5 40 Tryz.underlying80 hi hz0 hz1 hz2 rfl (by decide) _ _ _ rfl (hown.alloc _) ⟨wr.heap.size, 0, none⟩ 1 1 [.int .i64 q.term.val, .int .i64 0, .int .i64 k, .int .i64 q.code.length, .int .i64 0] rfl rfl (five_new _ _ _) (by simp [Value.oneCell']) (by decide) (by unfold maxLen; omega) (by omega) (by simp; omega) _ rfl ?_; intro g1 cap1 w4 hown1 hgrow1 hor hgl1; have hka := hideI (Ka.grown hgrow1 (hown.alloc _) (by simp; omega)); have HO1 := hideI hown1; clear hown1 hgrow1 hor hgl1)
                  go_roundw
                  case rel => exact ⟨k + 1, by omega, by go_num, by rw [HUB.out, HU.out]; exact RU.push HR1.out HR2.out HO1.out, (HF1.out.trans (HFj2.out.alloc hsz0 _)).trans hka.out⟩
                  case measure => simp [intOf]; omega
              · have hu : usesTerm q.term = [(q.term.val, 2)] := by
                  unfold usesTerm
                  rw [if_pos (by simpa using h2)]
                have HU := hideI hu
                have hfw := few_term HFEW.out HQ.out (by rw [hu]; exact Nat.zero_lt_one) us1 us3 HU1.out HU3.out
                clear hu
                have h3 : (q.term.op == 3) = false := by
                  have : q.term.op = 2 := by simpa using h2
                  rw [this]; rfl
                obtain ⟨uu, huu⟩ : ∃ uu, uu = us3 ++ q.code.flatMap usesInstr := ⟨_, rfl⟩
                rw [← huu] at hfw HIe HUB
                clear huu
                obtain ⟨rows, hrw1, hrw2, hown⟩ := HIe.out
                have HR1 := hideI hrw1
                have HR2 := hideI hrw2
                clear hrw1 hrw2
                go_wp2_with (at_builtin; refine wpList_append_lies _ rfl _ _ _ rfl w.heap.size 83 i0 _ 5 40 Tryz.underlying80 hi hz0 hz1 hz2 rfl (by decide) _ _ _ rfl (hown.alloc _) ⟨wr.heap.size, 0, none⟩ 1 1 [.int .i64 q.term.val, .int .i64 2, .int .i64 k, .int .i64 q.code.length, .int .i64 0] rfl rfl (five_new _ _ _) (by simp [Value.oneCell']) (by decide) (by unfold maxLen; omega) (by omega) (by simp; omega) _ rfl ?_; intro g1 cap1 w4 hown1 hgrow1 hor hgl1; have hka := hideI (Ka.grown hgrow1 (hown.alloc _) (by simp; omega)); have HO1 := hideI hown1; have hx4 := ((HFj2.out.alloc hsz0 _).trans hka.out).row HB1.out (by decide); clear hown1 hgrow1 hor hgl1)
                go_roundw
                case rel => exact ⟨k + 1, by omega, by go_num, by rw [HUB.out, HU.out]; exact RU.push HR1.out HR2.out HO1.out, (HF1.out.trans (HFj2.out.alloc hsz0 _)).trans hka.out⟩
                case measure => simp [intOf]; omega
    · go_wp2
      go_ret
      refine ⟨_, rfl, ?_, (hK0.out.trans HFk.out).below⟩
      have := HIk.out
      rw [List.take_of_length_le (by omega)] at this
      exact this

end Go.Proofs.YtglbepdjahddmaaGreat

namespace Go.Proofs.YtglbepdjahddmaaGreat
open Go.RowKit

theorem makes_type {op : Int} (h : makesS op ≠ 0) : isTypeB (makesS op) = true := by
  unfold makesS at h ⊢
  rcases op_cases op with h1 | h1 | h1
  · rcases h1 with rfl | rfl | rfl | rfl | rfl | rfl | rfl | rfl | rfl | rfl | rfl | rfl | rfl <;> first | decide | exact absurd rfl h
  · rcases h1 with rfl | rfl | rfl | rfl | rfl | rfl | rfl | rfl | rfl | rfl | rfl | rfl <;> first | decide | exact absurd rfl h
  · rw [shapeS_none h1] at h; exact absurd rfl h

def Typed (ds d : Defs) : Prop := ∀ x ∈ d, x ∈ ds ∨ isTypeB x.2 = true
theorem Typed.refl (ds : Defs) : Typed ds ds := fun _ h => .inl h
theorem Typed.trans {a b c : Defs} (h : Typed a b) (k : Typed b c) : Typed a c := fun x hx => by
  rcases k x hx with h1 | h1
  · exact h x h1
  · exact .inr h1

theorem addDef_typed {np : Nat} {ds d : Defs} {id t : Int} (ht : isTypeB t = true) (h : addDef np ds id t = some d) : Typed ds d := by
  unfold addDef at h
  split at h
  · injection h with h
    subst h
    intro x hx
    rcases List.mem_append.1 hx with hx | hx
    · exact .inl hx
    · simp at hx
      subst hx
      exact .inr ht
  · cases h

theorem phisStep_all {f : FuncM} : ∀ {l : List PhiM} {ds d : Defs}, phisStep f ds l = some d → (∀ p ∈ l, phiB f p = true) ∧ Typed ds d := by
  intro l
  induction l with
  | nil => intro ds d h; injection h with h; subst h; exact ⟨(fun _ h => by cases h), Typed.refl _⟩
  | cons p l ih =>
    intro ds d h
    unfold phisStep at h
    rw [Option.bind_eq_some_iff] at h
    obtain ⟨d1, h1, h2⟩ := h
    obtain ⟨i1, i2⟩ := ih h2
    unfold phiStep at h1
    split at h1
    · rename_i hp
      have ht : isTypeB p.typ = true := by unfold phiB at hp; simp only [Bool.and_eq_true] at hp; exact hp.1
      refine ⟨fun x hx => ?_, (addDef_typed ht h1).trans i2⟩
      rcases List.mem_cons.1 hx with rfl | hx
      · exact hp
      · exact i1 x hx
    · cases h1

theorem codeStep_all {f : FuncM} : ∀ {l : List InstrM} {ds d : Defs}, codeStep f ds l = some d → (∀ x ∈ l, instrB f x = true) ∧ Typed ds d := by
  intro l
  induction l with
  | nil => intro ds d h; injection h with h; subst h; exact ⟨(fun _ h => by cases h), Typed.refl _⟩
  | cons p l ih =>
    intro ds d h
    unfold codeStep at h
    rw [Option.bind_eq_some_iff] at h
    obtain ⟨d1, h1, h2⟩ := h
    obtain ⟨i1, i2⟩ := ih h2
    unfold instrStep at h1
    split at h1
    · rename_i hp
      have hd : Typed ds d1 := by
        split at h1
        · split at h1
          · injection h1 with h1; subst h1; exact Typed.refl _
          · cases h1
        · rename_i hm
          exact addDef_typed (makes_type hm) h1
      refine ⟨fun x hx => ?_, hd.trans i2⟩
      rcases List.mem_cons.1 hx with rfl | hx
      · exact hp
      · exact i1 x hx
    · cases h1

def Right (f : FuncM) (b : BlockM) : Prop := (∀ p ∈ b.phis, phiB f p = true) ∧ ∀ x ∈ b.code, instrB f x = true

theorem blocksStep_all {f : FuncM} : ∀ {l : List BlockM} {ds d : Defs}, blocksStep f ds l = some d → (∀ b ∈ l, Right f b) ∧ Typed ds d := by
  intro l
  induction l with
  | nil => intro ds d h; injection h with h; subst h; exact ⟨(fun _ h => by cases h), Typed.refl _⟩
  | cons b l ih =>
    intro ds d h
    unfold blocksStep at h
    rw [Option.bind_eq_some_iff] at h
    obtain ⟨d1, h1, h2⟩ := h
    obtain ⟨i1, i2⟩ := ih h2
    unfold blockStep at h1
    rw [Option.bind_eq_some_iff] at h1
    obtain ⟨d2, h3, h4⟩ := h1
    rw [Option.bind_eq_some_iff] at h4
    obtain ⟨d3, h5, h6⟩ := h4
    obtain ⟨p1, p2⟩ := phisStep_all h3
    obtain ⟨c1, c2⟩ := codeStep_all h5
    split at h6
    · injection h6 with h6
      subst h6
      refine ⟨fun x hx => ?_, (p2.trans c2).trans i2⟩
      rcases List.mem_cons.1 hx with rfl | hx
      · exact ⟨p1, c1⟩
      · exact i1 x hx
    · cases h6

theorem paramDefs_typ (l : List Int) : ∀ j, ∀ d ∈ paramDefs j l, d.2 ∈ l := by
  induction l with
  | nil => intro j d h; cases h
  | cons t l ih =>
    intro j d h
    rcases List.mem_cons.1 h with rfl | h
    · exact List.mem_cons_self ..
    · exact List.mem_cons_of_mem _ (ih _ d h)

theorem formed_all {f : FuncM} {ds : Defs} (h : formedM f = some ds) : (∀ b ∈ f.blocks, Right f b) ∧ ∀ x ∈ ds, isTypeB x.2 = true := by
  unfold formedM at h
  split at h
  · rename_i hc
    simp only [Bool.and_eq_true] at hc
    obtain ⟨h1, h2⟩ := blocksStep_all h
    refine ⟨h1, fun x hx => ?_⟩
    rcases h2 x hx with h3 | h3
    · exact List.all_eq_true.1 hc.1.2 _ (paramDefs_typ _ _ x h3)
    · exact h3
  · cases h

theorem right_block {f : FuncM} {q : BlockM} (hb : f.blocks.length ≤ 512) (h : Right f q) : (usesBlock q).length ≤ sizeB q * 512 := by
  unfold usesBlock sizeB
  rw [List.length_append, List.length_append]
  have h1 := flat_len usesPhi 512 q.phis (fun p hp => by
    have h2 := h.1 p hp
    unfold phiB at h2
    simp only [Bool.and_eq_true, beq_iff_eq] at h2
    unfold usesPhi
    rw [List.length_map, h2.2.1]
    exact Nat.le_trans (once_len h2.2.2) hb)
  have h2 := flat_len usesInstr 512 q.code (fun x _ => by
    unfold usesInstr
    rw [List.length_zip]
    have := shapeS_short x.op
    unfold takesS
    rw [List.length_map]
    omega)
  have h3 : (usesTerm q.term).length ≤ 1 := by
    unfold usesTerm
    split
    · simp
    · split <;> simp
  rw [Nat.add_mul, Nat.add_mul]
  omega

theorem right_blocks {f : FuncM} (hb : f.blocks.length ≤ 512) : ∀ l : List BlockM, (∀ q ∈ l, Right f q) → (l.flatMap usesBlock).length ≤ (l.map sizeB).sum * 512 := by
  intro l
  induction l with
  | nil => intro _; simp
  | cons q l ih =>
    intro h
    rw [List.flatMap_cons, List.length_append, List.map_cons, List.sum_cons, Nat.add_mul]
    have h1 := right_block hb (h q (List.mem_cons_self ..))
    have h2 := ih (fun b hb => h b (List.mem_cons_of_mem _ hb))
    omega

theorem look_few {f : FuncM} (h : (lookM f).1 = 0) : Few f.blocks := by
  have h1 := right_blocks (look_bd h) f.blocks (formed_all (look_formed h)).1
  have h2 := look_size h
  unfold sizeM at h2
  unfold Few
  omega

theorem look_form {f : FuncM} (h : (lookM f).1 = 0) : ∀ b ∈ f.blocks, ∀ x ∈ b.code, x.args.length = (takesS x.op).length := by
  intro b hb x hx
  have h1 := ((formed_all (look_formed h)).1 b hb).2 x hx
  unfold instrB at h1
  simp only [Bool.and_eq_true, beq_iff_eq] at h1
  exact h1.2.1

theorem look_phi {f : FuncM} (h : (lookM f).1 = 0) : ∀ b ∈ f.blocks, ∀ p ∈ b.phis, p.vals.length = p.fr.length := by
  intro b hb x hx
  have h1 := ((formed_all (look_formed h)).1 b hb).1 x hx
  unfold phiB at h1
  simp only [Bool.and_eq_true, beq_iff_eq] at h1
  exact h1.2.1

theorem look_type {f : FuncM} (h : (lookM f).1 = 0) {id : Int} (hi : id ∈ idsS f) : ∃ t, (lookM f).2.at id = some t ∧ (t = 1 ∨ t = 2) := by
  rw [idsS_mem] at hi
  obtain ⟨t, ht⟩ := Option.isSome_iff_exists.1 (at_some.2 hi)
  refine ⟨t, ht, ?_⟩
  unfold Defs.at at ht
  rw [Option.map_eq_some_iff] at ht
  obtain ⟨d, hd, rfl⟩ := ht
  have := (formed_all (look_formed h)).2 d (List.mem_of_find?_eq_some hd)
  unfold isTypeB at this
  simpa using this

theorem idsS_nodup {f : FuncM} (h : (lookM f).1 = 0) : (idsS f).Nodup := by
  unfold idsS
  exact (List.mergeSort_perm _ _).nodup_iff.2 (formed_nodup (look_formed h))

theorem idsS_less {f : FuncM} (h : (lookM f).1 = 0) {k : Nat} {a b : Int} (ha : (idsS f)[k]? = some a) (hb : (idsS f)[k + 1]? = some b) : a < b := by
  obtain ⟨h1, rfl⟩ := List.getElem?_eq_some_iff.1 ha
  obtain ⟨h2, rfl⟩ := List.getElem?_eq_some_iff.1 hb
  have h3 := List.pairwise_iff_getElem.1 (idsS_sorted f) k (k + 1) h1 h2 (by omega)
  have h4 := List.pairwise_iff_getElem.1 (idsS_nodup h) k (k + 1) h1 h2 (by omega)
  omega

theorem idsS_bd {f : FuncM} (h : (lookM f).1 = 0) {x : Int} (hx : x ∈ idsS f) : 0 ≤ x ∧ x ≤ 1048575 := by
  rw [idsS_mem] at hx
  obtain ⟨d, hd, rfl⟩ := List.mem_map.1 hx
  exact (formed_keys (look_formed h)).1 d hd

theorem sub_len : ∀ l r : List Int, l.Nodup → (∀ x ∈ l, x ∈ r) → l.length ≤ r.length := by
  intro l
  induction l with
  | nil => intro r _ _; simp
  | cons a l ih =>
    intro r hn hs
    rw [List.nodup_cons] at hn
    have ha := hs a (List.mem_cons_self ..)
    have h1 := ih (r.erase a) hn.2 (fun x hx => (List.mem_erase_of_ne (fun e => hn.1 (by rw [← e]; exact hx))).2 (hs x (List.mem_cons_of_mem _ hx)))
    rw [List.length_erase_of_mem ha] at h1
    have h2 := List.length_pos_of_mem ha
    rw [List.length_cons]
    omega

theorem idsS_params {f : FuncM} (h : (lookM f).1 = 0) : f.params.length ≤ (idsS f).length := by
  have h1 := (formed_keys (look_formed h)).2
  have h2 : ((List.range f.params.length).map fun k : Nat => (k : Int)) ⊆ idsS f := by
    intro x hx
    obtain ⟨k, hk, rfl⟩ := List.mem_map.1 hx
    rw [idsS_mem]
    exact h1 k (List.mem_range.1 hk)
  have h3 : ((List.range f.params.length).map fun k : Nat => (k : Int)).Nodup := by
    rw [List.Nodup, List.pairwise_map]
    exact List.nodup_range.imp (fun h e => h (by omega))
  have h4 := sub_len _ _ h3 (fun x hx => h2 hx)
  simpa using h4

/-- the uses of the values of l, summed -/
def sumU (l : List Int) (us : List (Int × Int)) : Int := (l.map fun id => cntU id us).sum

theorem cnt_cons (id : Int) (u : Int × Int) (us : List (Int × Int)) : cntU id (u :: us) = cntU id us + if u.1 = id then 1 else 0 := by
  unfold cntU
  rw [List.countP_cons]
  by_cases h : u.1 = id <;> simp [h]

theorem sum_cons (u : Int × Int) (us : List (Int × Int)) : ∀ l : List Int, l.Nodup → sumU l (u :: us) = sumU l us + if u.1 ∈ l then 1 else 0 := by
  intro l
  induction l with
  | nil => intro _; simp [sumU]
  | cons a l ih =>
    intro h
    rw [List.nodup_cons] at h
    have h1 := ih h.2
    unfold sumU at h1 ⊢
    rw [List.map_cons, List.map_cons, List.sum_cons, List.sum_cons, h1, cnt_cons]
    by_cases e : u.1 = a
    · have : u.1 ∉ l := by rw [e]; exact h.1
      rw [if_pos e, if_neg this, if_pos (by rw [e]; exact List.mem_cons_self ..)]
      omega
    · by_cases e2 : u.1 ∈ l
      · rw [if_neg e, if_pos e2, if_pos (List.mem_cons_of_mem _ e2)]
        omega
      · rw [if_neg e, if_neg e2, if_neg (by rw [List.mem_cons]; exact fun h => by rcases h with h | h; exact e h; exact e2 h)]
        omega

theorem sum_le (l : List Int) (h : l.Nodup) : ∀ us : List (Int × Int), 0 ≤ sumU l us ∧ sumU l us ≤ us.length := by
  intro us
  induction us with
  | nil =>
    have : sumU l [] = 0 := by
      unfold sumU
      clear h
      induction l with
      | nil => rfl
      | cons a l ih => rw [List.map_cons, List.sum_cons, ih]; rfl
    rw [this]
    simp
  | cons u us ih =>
    rw [sum_cons u us l h, List.length_cons]
    split <;> omega

theorem sum_all (l : List Int) (h : l.Nodup) : ∀ us : List (Int × Int), (∀ u ∈ us, u.1 ∈ l) → sumU l us = us.length := by
  intro us
  induction us with
  | nil => intro _; have := sum_le l h []; simp at this ⊢; omega
  | cons u us ih =>
    intro hu
    rw [sum_cons u us l h, List.length_cons, ih (fun x hx => hu x (List.mem_cons_of_mem _ hx)), if_pos (hu u (List.mem_cons_self ..))]
    omega

theorem sum_take {l : List Int} {k : Nat} {id : Int} (us : List (Int × Int)) (h : l[k]? = some id) : sumU (l.take (k + 1)) us = sumU (l.take k) us + cntU id us := by
  obtain ⟨hk, rfl⟩ := List.getElem?_eq_some_iff.1 h
  unfold sumU
  rw [List.take_succ_eq_append_getElem hk, List.map_append, List.sum_append]
  simp

theorem look_sum {f : FuncM} (h : (lookM f).1 = 0) : sumU (idsS f) (usesM f) = (usesM f).length := by
  refine sum_all _ (idsS_nodup h) _ fun u hu => ?_
  rw [idsS_mem, ← at_some]
  have hun : unknownB (lookM f).2 (usesM f) = false := by
    cases hf : formedM f with
    | none => rw [look_none hf] at h; cases h
    | some ds =>
      unfold lookM at h ⊢
      rw [hf] at h ⊢
      simp only at h ⊢
      cases hx : unknownB ds (usesM f)
      · rw [hx] at h
        simp only [Bool.false_eq_true, if_false] at h ⊢
        split at h
        · cases h
        · rename_i hy
          rw [if_neg hy]
          exact hx
      · rw [hx] at h
        simp at h
  unfold unknownB at hun
  rw [List.any_eq_false] at hun
  have := hun u hu
  simpa [Option.isSome_iff_ne_none] using this

theorem cnt_nonneg (id : Int) (us : List (Int × Int)) : 0 ≤ cntU id us := by unfold cntU; omega

end Go.Proofs.YtglbepdjahddmaaGreat

namespace Go.Proofs.YtglbepdjahddmaaGreat
open Go.RowKit

theorem once_of {nb : Nat} : ∀ (l seen : List Int), l.Nodup → (∀ x ∈ l, 0 ≤ x ∧ x ≤ nb - 1) → (∀ x ∈ l, x ∉ seen) → onceB nb seen l = true := by
  intro l
  induction l with
  | nil => intro seen _ _ _; rfl
  | cons b l ih =>
    intro seen h1 h2 h3
    rw [List.nodup_cons] at h1
    unfold onceB
    simp only [Bool.and_eq_true, Bool.not_eq_true']
    have hb := h2 b (List.mem_cons_self ..)
    refine ⟨⟨?_, ?_⟩, ih _ h1.2 (fun x hx => h2 x (List.mem_cons_of_mem _ hx)) (fun x hx hm => ?_)⟩
    · unfold withinB
      simp only [Bool.and_eq_true, decide_eq_true_eq]
      exact hb
    · have := h3 b (List.mem_cons_self ..)
      simpa using this
    · rcases List.mem_cons.1 hm with rfl | hm
      · exact h1.1 hx
      · exact h3 x (List.mem_cons_of_mem _ hx) hm

/-- the first k blocks are blocks, none twice -/
def OkTo (nb : Nat) (l : List Int) (k : Nat) : Prop := (l.take k).Nodup ∧ ∀ x ∈ l.take k, 0 ≤ x ∧ x ≤ (nb : Int) - 1

theorem okTo_succ {nb k : Nat} {l : List Int} {x : Int} (h : OkTo nb l k) (hx : l[k]? = some x) (h1 : 0 ≤ x) (h2 : x ≤ (nb : Int) - 1) (hd : ∀ i, i < k → l[i]? ≠ some x) : OkTo nb l (k + 1) := by
  obtain ⟨hk, rfl⟩ := List.getElem?_eq_some_iff.1 hx
  unfold OkTo
  rw [List.take_succ_eq_append_getElem hk]
  refine ⟨?_, fun y hy => ?_⟩
  · rw [List.nodup_append]
    refine ⟨h.1, by simp, fun a ha b hb => ?_⟩
    simp at hb
    subst hb
    intro e
    subst e
    obtain ⟨i, hi⟩ := List.getElem?_of_mem ha
    rw [List.getElem?_take] at hi
    split at hi
    · rename_i hik
      exact hd i hik hi
    · cases hi
  · rcases List.mem_append.1 hy with hy | hy
    · exact h.2 y hy
    · simp at hy
      subst hy
      exact ⟨h1, h2⟩

theorem once_true {nb : Nat} {l : List Int} (h : OkTo nb l l.length) : onceB nb [] l = true := by
  unfold OkTo at h
  rw [List.take_of_length_le (Nat.le_refl _)] at h
  exact once_of l [] h.1 h.2 (fun x _ hx => by cases hx)

theorem once_range {nb k : Nat} {l : List Int} {x : Int} (hx : l[k]? = some x) (h : x < 0 ∨ (nb : Int) ≤ x) : onceB nb [] l = false := by
  cases ho : onceB nb [] l
  · rfl
  · have := (once_nodup l [] ho).2.1 x (List.mem_of_getElem? hx)
    omega

theorem once_twice {nb k j : Nat} {l : List Int} {x : Int} (hx : l[k]? = some x) (hj : l[j]? = some x) (hne : j < k) : onceB nb [] l = false := by
  cases ho : onceB nb [] l
  · rfl
  · have h := (once_nodup l [] ho).1
    obtain ⟨h1, e1⟩ := List.getElem?_eq_some_iff.1 hx
    obtain ⟨h2, e2⟩ := List.getElem?_eq_some_iff.1 hj
    have := List.pairwise_iff_getElem.1 h j k h2 h1 hne
    rw [e1, e2] at this
    exact absurd rfl this

theorem says_drew {b b' : Bool} {w : World} {o o2 : Obj} {m : Nat} (h : b = b') : Says b' w (.returned (.bool b)) (((w.alloc o).alloc o2).drewN m) := by
  subst h
  have : Below w.heap.size w ((w.alloc o).alloc o2) := ((Below.refl _ w).alloc (Nat.le_refl _) _).alloc (by simp) _
  exact ⟨rfl, ⟨this.os, this.tape, this.output, this.size, this.block⟩⟩

set_option maxRecDepth 100000 in
set_option maxHeartbeats 4000000 in
theorem refPhi_any (f : FuncM) (B : Nat) (pv av cv fv vv : Value) (A : Option Addr) (c : Nat) (p : PhiM) (w : World) (hfv : Ints w B fv p.fr) (hvv : Ints w B vv p.vals) (_hB : B ≤ w.heap.size) (_hl : f.blocks.length ≤ 512) :
    Calls Tryz.prog 109 #[.agg #[pv, av, cv, .slice A f.blocks.length c], .agg #[.int .i64 p.id, .int .i64 p.typ, fv, vv]] w (Says (phiB f p) w) := by
  obtain ⟨FA, fc, rfl, hfm, hfx⟩ := hfv
  obtain ⟨VA, vc, rfl, hvm, _⟩ := hvv
  obtain ⟨W2, hW2⟩ : ∃ W2, W2 = (w.alloc (.cells #[pv, av, cv, .slice A f.blocks.length c] 25)).alloc (.cells #[.int .i64 p.id, .int .i64 p.typ, .slice FA p.fr.length fc, .slice VA p.vals.length vc] 128) := ⟨_, rfl⟩
  have hbox : W2.heap[w.heap.size]? = some (.cells #[pv, av, cv, .slice A f.blocks.length c] 25 (0, 0)) := by
    rw [hW2, Below.heap_alloc _ _ _ (by simp)]
    exact heap_alloc_new w _
  have hbox2 : W2.heap[w.heap.size + 1]? = some (.cells #[.int .i64 p.id, .int .i64 p.typ, .slice FA p.fr.length fc, .slice VA p.vals.length vc] 128 (0, 0)) := by
    have h := heap_alloc_new (w.alloc (.cells #[pv, av, cv, .slice A f.blocks.length c] 25)) (.cells #[.int .i64 p.id, .int .i64 p.typ, .slice FA p.fr.length fc, .slice VA p.vals.length vc] 128)
    rw [hW2]
    simpa using h
  have hx1 := row_cells hbox rfl
  have hx2 := row_cells hbox2 rfl
  have HFX : Hid (∀ k, k < p.fr.length → ∃ b off, FA = some ⟨b, off, none⟩ ∧ b < B ∧ W2.cell? ⟨b, off + k, none⟩ = some (.int .i64 (p.fr[k]?.getD 0))) := by
    intro k hk
    obtain ⟨b, off, h1, h2, h3⟩ := hfx k hk
    refine ⟨b, off, h1, h2, ?_⟩
    rw [← h3]
    refine World.cell?_of_block (a := ⟨b, off + k, none⟩) ?_
    show W2.heap[b]? = w.heap[b]?
    rw [hW2, Below.heap_alloc _ _ _ (by simp; omega), Below.heap_alloc _ _ _ (by omega)]
  have HW2 := hideI hW2
  have hfin : ∀ (b b' : Bool) (m : Nat), b = b' → Says b' w (.returned (.bool b)) (W2.drewN m) := fun b b' m h => by rw [HW2.out]; exact says_drew h
  have HFIN := hideI hfin
  clear hfx hW2 hfin hbox hbox2
  have htyp : ((p.typ != 1) = false ∨ ((p.typ != 1) = true ∧ (p.typ != 2) = false)) ∧ isTypeB p.typ = true ∨ ((p.typ != 1) = true ∧ (p.typ != 2) = true) ∧ isTypeB p.typ = false := by
    unfold isTypeB
    by_cases h1 : p.typ = 1
    · exact .inl ⟨.inl (by simpa using h1), by simp [h1]⟩
    by_cases h2 : p.typ = 2
    · exact .inl ⟨.inr ⟨by simpa using h1, by simpa using h2⟩, by simp [h2]⟩
    exact .inr ⟨⟨by simpa using h1, by simpa using h2⟩, by simp [h1, h2]⟩
  rcases htyp with ⟨ht, hT⟩ | ⟨⟨t1, t2⟩, hT⟩
  · by_cases hlen : p.vals.length = p.fr.length
    · have hB2 : phiB f p = onceB f.blocks.length [] p.fr := by unfold phiB; rw [hT, hlen]; simp
      rw [hB2]
      have hne : ((p.fr.length : Int) != (p.vals.length : Int)) = false := by simp; omega
      clear hT hB2 hlen
      rcases ht with t1 | ⟨t1, t2⟩
      all_goals
        go_enter Tryz.func109, Tryz.ntmps109
        go_wp2
        rw [← HW2.out]
        go_loopw [5] (fun i wr => ∃ k m : Nat, k ≤ p.fr.length ∧ i = .int .i64 k ∧ Hid (OkTo f.blocks.length p.fr k) ∧ wr = W2.drewN m) (fun i _ => p.fr.length - (intOf i).toNat)
        case atStart => exact ⟨0, 0, Nat.zero_le _, rfl, ⟨by simp, by simp⟩, rfl⟩
        case round =>
          obtain ⟨k, m, hk, rfl, hok, rfl⟩ := hrel
          by_cases hlt : k < p.fr.length
          · obtain ⟨b, off, rfl, hb, hc⟩ := HFX.out k hlt
            obtain ⟨x, hx⟩ : ∃ x, p.fr[k]? = some x := ⟨_, List.getElem?_eq_getElem hlt⟩
            rw [hx] at hc
            simp only [Option.getD_some] at hc
            have HX := hideI hx
            clear hx
            cases h0 : decide (x < 0)
            · cases h1 : decide ((f.blocks.length : Int) ≤ x)
              · go_wp2
                go_quiet (fail)
                go_wp2
                go_loopw [6] (fun i wr => ∃ j n : Nat, j ≤ k ∧ i = .int .i64 j ∧ Hid (∀ i, i < j → p.fr[i]? ≠ some x) ∧ wr = W2.drewN n) (fun i _ => k - (intOf i).toNat)
                case atStart => exact ⟨0, m + nq, Nat.zero_le _, rfl, (fun i hi => absurd hi (by omega)), by rw [World.drewN_drewN]⟩
                case round =>
                  obtain ⟨j, n, hj, rfl, hd, rfl⟩ := hrel
                  by_cases hlj : j < k
                  · obtain ⟨b', off', hbe, hb', hc'⟩ := HFX.out j (by omega)
                    obtain ⟨rfl, rfl⟩ : b = b' ∧ off = off' := by simpa using hbe
                    obtain ⟨y, hy⟩ : ∃ y, p.fr[j]? = some y := ⟨_, List.getElem?_eq_getElem (by omega)⟩
                    rw [hy] at hc'
                    simp only [Option.getD_some] at hc'
                    have HY := hideI hy
                    clear hy
                    cases he : y == x
                    · have HE := hideI he
                      go_wp2
                      go_quiet (fail)
                      go_wp2
                      go_roundw
                      case rel =>
                        refine ⟨j + 1, _, by omega, by go_num, ?_, rfl⟩
                        intro i hi
                        rcases Nat.lt_or_ge i j with hij | hij
                        · exact hd.out i hij
                        · have hij' : i = j := by omega
                          rw [hij', HY.out]
                          intro e
                          injection e with e
                          have := HE.out
                          rw [e] at this
                          simp at this
                      case measure => simp [intOf]; omega
                    · have hyx : y = x := by simpa using he
                      have HYX := hideI hyx
                      clear hyx
                      go_wp2
                      go_quiet (fail)
                      go_wp2
                      go_ret
                      rw [World.drewN_drewN]
                      exact HFIN.out _ _ _ (once_twice HX.out (by rw [HY.out, HYX.out]) hlj).symm
                  · go_wp2
                    go_roundw
                    case rel => exact ⟨k + 1, n, by omega, by go_num, okTo_succ hok.out HX.out (by have := of_decide_eq_false h0; omega) (by have := of_decide_eq_false h1; omega) (fun i hi => hd.out i (by omega)), rfl⟩
                    case measure => simp [intOf]; omega
              · go_wp2
                go_quiet (fail)
                go_wp2
                go_ret
                rw [World.drewN_drewN]
                exact HFIN.out _ _ _ (once_range HX.out (.inr (of_decide_eq_true h1))).symm
            · go_wp2
              go_quiet (fail)
              go_wp2
              go_ret
              rw [World.drewN_drewN]
              exact HFIN.out _ _ _ (once_range HX.out (.inl (of_decide_eq_true h0))).symm
          · have hfull := hok.out
            rw [show k = p.fr.length by omega] at hfull
            have HO := hideI (once_true hfull)
            clear hfull
            go_wp2
            go_ret
            exact HFIN.out _ _ _ HO.out.symm
    · have hB2 : phiB f p = false := by
        have : (p.vals.length == p.fr.length) = false := by simpa using hlen
        unfold phiB; rw [hT, this]; rfl
      have hne : ((p.fr.length : Int) != (p.vals.length : Int)) = true := by simp; omega
      rw [hB2]
      rcases ht with t1 | ⟨t1, t2⟩
      all_goals
        go_enter Tryz.func109, Tryz.ntmps109
        go_wp2
        rw [← HW2.out]
        go_ret
        exact HFIN.out _ _ 0 rfl
  · have hB2 : phiB f p = false := by unfold phiB; rw [hT]; rfl
    rw [hB2]
    go_enter Tryz.func109, Tryz.ntmps109
    go_wp2
    rw [← HW2.out]
    go_ret
    exact HFIN.out _ _ 0 rfl

end Go.Proofs.YtglbepdjahddmaaGreat
