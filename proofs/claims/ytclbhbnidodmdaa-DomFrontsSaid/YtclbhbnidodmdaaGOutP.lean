/- graph.Preds, as it is called. -/
import Derived.Test.YtclbhbnidodmdaaGLists
import Derived.Test.YtclbhbnidodmdaaGOut
namespace Go.Proofs.Ytclbhbnidodmdaa
open Go.RowKit Go.Maps

def PredsPost (bs : List BlockM) (w : World) (e : Ending) (w' : World) : Prop :=
  ∃ (g : Nat) (vs : List Value), e = .returned (.slice (some ⟨g, 0, none⟩) bs.length bs.length) ∧ Lists w' w.heap.size g bs.length vs (predsAt bs bs.length bs.length 0) ∧ Below w.heap.size w w'

set_option maxRecDepth 100000 in
set_option maxHeartbeats 4000000 in
theorem preds_any (bs : List BlockM) (B : Nat) (pv av cv bv : Value) (w : World) (hbv : BlocksR w B bv bs) (hB : B ≤ w.heap.size) (hn5 : bs.length ≤ 512) (hin : EndsIn bs) :
    Calls Try.prog 46 #[.agg #[pv, av, cv, bv]] w (PredsPost bs w) := by
  have HBL := hideI hbv
  have HIN := hideI hin
  obtain ⟨A, c, rfl, hbm, _⟩ := hbv
  obtain ⟨i0, hix, hz0, hz1, hz2⟩ := info_parts ints_info
  clear hin
  go_enter Try.func46, Try.ntmps46
  go_wp2_with (first
    | (at_make; go_must (refine wpList_make_full _ rfl _ _ 28 rfl (w.heap.size + 1) 22 i0 (.slice none 0 0) 1 Try.underlying28 hix hz0 hz1 .i64 .i64 _ _ bs.length rfl rfl rfl rfl (by rw [hz2]; omega) (by unfold maxLen; omega) (by simp) ?_); intro w1 hown1 hg1; rw [World.size_alloc] at hown1; go_must (have HL1 := hideI (Lists.made hown1); have hgb := row_cells ((hg1.block w.heap.size (by simp) (by simp)).trans (heap_alloc_new w _)) rfl; have HGB := hideI ((hg1.block w.heap.size (by simp) (by simp)).trans (heap_alloc_new w _)); have HB0 : Hid (Below w.heap.size w w1) := ((Below.refl _ _).alloc (Nat.le_refl _) _).grown hg1 (by simp) (by simp); clear hown1 hg1; have g3 := hgb 3; clear hgb)))
  clear hix hz0 hz1 hz2
  rw [← predsAt_zero bs bs.length] at HL1
  clear g3
  go_loopw [16] (fun u wr => ∃ (k : Nat) (vs : List Value), k ≤ bs.length ∧ u = .int .i64 k ∧ Hid (Lists wr (w.heap.size + 1) (w.heap.size + 1) bs.length vs (predsAt bs bs.length k 0)) ∧ Hid (Below w.heap.size w wr) ∧ Hid (Below (w.heap.size + 1) w1 wr)) (fun u _ => bs.length - (intOf u).toNat)
  case atStart => exact ⟨0, _, Nat.zero_le _, rfl, HL1, HB0, hideI (Below.refl _ _)⟩
  case round =>
    obtain ⟨k, vs, hk, rfl, HL, HBr, HBo⟩ := hrel
    have hgl := HBo.out
    by_cases hlt : k < bs.length
    · obtain ⟨q, hq⟩ : ∃ q, bs[k]? = some q := ⟨_, List.getElem?_eq_getElem hlt⟩
      obtain ⟨A', c', e0, _, hbx⟩ := (HBL.out.more' hB).keeps (Keeps.of_below HBr.out)
      cases e0
      obtain ⟨ab, off, pq, cq, tv, rfl, hab, x0, x1, x2, x3, x4, x5, _, _, htv, _⟩ := hbx k q hq
      have HTV := hideI htv
      have HQ := hideI hq
      have HSU : Hid (succM bs k = q.term.to.map Int.toNat) := by show _ = _; unfold succM; rw [hq]
      obtain ⟨TA, tc, rfl, htm, _⟩ := htv
      obtain ⟨m, hm⟩ : ∃ m, m = q.term.to.length := ⟨_, rfl⟩
      have HM := hideI hm
      rw [← hm] at x4 htm
      have hxr := row_cells HGB.out (hgl.block w.heap.size (by omega))
      have g3 := hxr 3
      clear hbx hq x0 x1 x2 x3 x5 hm hgl hxr
      go_wp2
      clear x4 g3
      obtain ⟨wo, rfl⟩ : ∃ wo : World, wo = wr := ⟨_, rfl⟩
      go_loopw [28] (fun u wr => ∃ (i : Nat) (vs : List Value), i ≤ m ∧ u = .int .i64 i ∧ Hid (Lists wr (w.heap.size + 1) (w.heap.size + 1) bs.length vs (predsAt bs bs.length k i)) ∧ Hid (Below (w.heap.size + 1) wo wr)) (fun u _ => m - (intOf u).toNat)
      case atStart => exact ⟨0, vs, Nat.zero_le _, rfl, HL, hideI (Below.refl _ _)⟩
      case round =>
        obtain ⟨i, vs2, hi, rfl, HLi, HBi⟩ := hrel
        by_cases hlti : i < m
        · obtain ⟨t, ht⟩ : ∃ t, q.term.to[i]? = some t := ⟨_, List.getElem?_eq_getElem (by rw [HM.out] at hlti; exact hlti)⟩
          have htn := HIN.out q (List.mem_of_getElem? HQ.out) t (List.mem_of_getElem? ht)
          obtain ⟨tn, rfl⟩ : ∃ tn : Nat, t = (tn : Int) := ⟨t.toNat, by omega⟩
          have htl : tn < bs.length := by omega
          have HTI : Hid ((succM bs k)[i]? = some tn) := by
            show _ = _
            rw [HSU.out, List.getElem?_map, ht]
            rfl
          obtain ⟨TA', tc', e0, _, hxx⟩ := HTV.out.keep (HBi.out.mono (Nat.le_succ _))
          cases e0
          obtain ⟨tb, toff, rfl, htb, hcell⟩ := hxx i (by rw [← HM.out]; exact hlti)
          rw [ht] at hcell
          simp only [Option.getD_some] at hcell
          obtain ⟨v, hv⟩ : ∃ v, vs2[tn]? = some v := ⟨_, List.getElem?_eq_getElem (by rw [HLi.out.vl]; exact htl)⟩
          obtain ⟨l, hl0⟩ : ∃ l, l = predsTo bs k tn ++ if tn ∈ (succM bs k).take i then [k] else [] := ⟨_, rfl⟩
          have hl : (predsAt bs bs.length k i)[tn]? = some l := by rw [predsAt_at htl, hl0]
          have hmem : k ∈ l ↔ tn ∈ (succM bs k).take i := by rw [hl0]; exact predsAt_mem
          have hll : l.length ≤ 1000 := by
            rw [hl0, List.length_append]
            have := predsTo_len bs k tn
            split <;> simp <;> omega
          have q1 : wr.cell? ⟨w.heap.size + 1, tn, none⟩ = some v := by rw [World.ownsRow.cellAt HLi.out.row tn (by omega)]; exact hv
          have HOWN := hideI (HLi.out.own tn v l hv hl)
          have HINT := hideI (nat_ints HOWN.out (by omega))
          have hsz := HLi.out.lt.2
          have HV := hideI hv
          have HLL := hideI hl
          have HL0 := hideI hl0
          clear hxx ht htn hv hl hl0
          by_cases hin2 : tn ∈ (succM bs k).take i
          · have HC : Hid (decide ((k : Int) ∈ l.map fun (x : Nat) => (x : Int)) = true) := by show _ = _; rw [decide_eq_true_iff, mem_nat, hmem]; exact hin2
            have HIN2 := hideI hin2
            clear hin2 hmem
            go_wp2_with (go_at_call 72; go_must (refine (contains_any _ _ _ _ _ HINT.out).mono ?_); rw [HC.out]; rintro e w2 ⟨rfl, rfl⟩)
            go_roundw
            case rel => exact ⟨i + 1, vs2, by omega, by go_num, by rw [predsAt_skip HTI.out HIN2.out]; exact HLi, HBi⟩
            case measure => simp [intOf]; omega
          · have HC : Hid (decide ((k : Int) ∈ l.map fun (x : Nat) => (x : Int)) = false) := by show _ = _; rw [decide_eq_false_iff_not, mem_nat, hmem]; exact hin2
            have HIN2 := hideI hin2
            have hl0 := HL0.out
            rw [if_neg hin2, List.append_nil] at hl0
            have HL1 := hideI hl0
            obtain ⟨i1, hjx, hy0, hy1, hy2⟩ := info_parts int_info
            have H63 : Hid (l.length + 1 ≤ maxLen) := by show _ ≤ _; simp only [maxLen]; omega
            have HBY : Hid ((l.length + 1) * 8 ≤ 140737488355328) := by show _ ≤ _; omega
            have HBS : Hid (w.heap.size + 1 ≤ wr.heap.size) := by show _ ≤ _; omega
            clear hin2 hmem hl0
            go_wp2_with (first
              | (go_at_call 72; go_must (refine (contains_any _ _ _ _ _ HINT.out).mono ?_); rw [HC.out]; rintro e w2 ⟨rfl, rfl⟩)
              | (at_builtin; go_must (refine wpList_append_lies _ rfl _ _ _ rfl (w.heap.size + 1 + 1) 3 i1 (.int .i64 0) 1 8 Try.underlying22 hjx hy0 hy1 hy2 rfl (by decide) _ _ _ rfl (HOWN.out.alloc _) ⟨wr.heap.size, 0, none⟩ 1 1 [.int .i64 k] rfl rfl (one_new wr _) (by simp [Value.oneCell']) (by decide) H63.out HBY.out (by simp; exact HBS.out) _ rfl ?_); intro g1 cap1 w3 hown1 hgrow1 hor1 _; go_must (have HP := hideI (HLi.out.push HV.out HLL.out hown1 hgrow1 hor1); have HPB := hideI (HLi.out.pushed (u := .slice (some ⟨g1, 0, none⟩) (l.length + 1) cap1) HV.out HLL.out hgrow1 HBi.out (Nat.le_refl _)); obtain ⟨hc4, hf4⟩ := HLi.out.held HV.out HLL.out hgrow1; clear hown1 hgrow1 hor1 q1)))
            go_roundw
            case rel => exact ⟨i + 1, _, by omega, by go_num, by rw [← predsAt_push HTI.out HIN2.out htl, ← HL1.out]; exact HP, HPB⟩
            case measure => simp [intOf]; omega
        · have HE : Hid (predsAt bs bs.length k i = predsAt bs bs.length (k + 1) 0) := predsAt_next bs _ k (by rw [HSU.out, List.length_map, ← HM.out]; omega)
          rw [HE.out] at HLi
          go_wp2
          go_roundw
          case rel => exact ⟨k + 1, vs2, by omega, by go_num, HLi, hideI (HBr.out.trans (HBi.out.mono (Nat.le_succ _))), hideI (HBo.out.trans HBi.out)⟩
          case measure => simp [intOf]; omega
    · have hkn : k = bs.length := by omega
      have HKN := hideI hkn
      rw [hkn] at HL
      clear hkn
      go_wp2
      go_ret
      exact ⟨_, vs, rfl, ⟨HL.out.vl, HL.out.ll, World.ownsRow.mono HL.out.row (by omega), HL.out.own, HL.out.apart⟩, HBr.out⟩

end Go.Proofs.Ytclbhbnidodmdaa

namespace Go.Proofs.Ytclbhbnidodmdaa
open Go.RowKit Go.Maps

theorem Lists.mono {w : World} {base base' gb n : Nat} {vs : List Value} {ls : List (List Nat)} (h : Lists w base gb n vs ls) (hb : base' ≤ base) : Lists w base' gb n vs ls :=
  ⟨h.vl, h.ll, World.ownsRow.mono h.row hb, h.own, h.apart⟩

theorem Lists.kept {w w' : World} {base gb n : Nat} {vs : List Value} {ls : List (List Nat)} (h : Lists w base gb n vs ls) (hb : Below w.heap.size w w') : Lists w' base gb n vs ls :=
  ⟨h.vl, h.ll, own_kept_below h.row hb (fun k hk => (h.row.lt k hk).2), fun t v l hv hl => own_kept_below (h.own t v l hv hl) hb (fun k hk => ((h.own t v l hv hl).lt k hk).2), h.apart⟩

def GPredsPost (f : FuncM) (w : World) (e : Ending) (w' : World) : Prop :=
  ((lookM f).1 ≠ 0 ∧ e = .returned (.tuple #[.slice none 0 0, .int .i64 (lookM f).1]) ∧ Below w.heap.size w w') ∨
  ((lookM f).1 = 0 ∧ ∃ (g : Nat) (vs : List Value), e = .returned (.tuple #[.slice (some ⟨g, 0, none⟩) f.blocks.length f.blocks.length, .int .i64 0]) ∧ Lists w' w.heap.size g f.blocks.length vs (predsAt f.blocks f.blocks.length f.blocks.length 0) ∧ Below w.heap.size w w')

set_option maxRecDepth 100000 in
set_option maxHeartbeats 1000000 in
theorem gPreds_any (f : FuncM) (B : Nat) (pv bv : Value) (w : World) (hpv : Ints w B pv f.params) (hbv : BlocksR w B bv f.blocks) (hB : B ≤ w.heap.size) (hid : ∀ u ∈ usesM f, I64 u.1) :
    Calls Try.prog 16 #[.agg #[pv, .int .i64 f.arrays, .int .i64 f.cells, bv]] w (GPredsPost f w) := by
  have HP := hideI hpv
  have HBL := hideI hbv
  have HID := hideI hid
  obtain ⟨P, pc, rfl, _⟩ := hpv
  obtain ⟨A, c, rfl, hbm, _⟩ := hbv
  have HX := hideI (heap_alloc_new w (.cells #[.slice P f.params.length pc, .int .i64 f.arrays, .int .i64 f.cells, .slice A f.blocks.length c] 25))
  have HK : Hid (Keeps B w (w.alloc (.cells #[.slice P f.params.length pc, .int .i64 f.arrays, .int .i64 f.cells, .slice A f.blocks.length c] 25))) := (Keeps.refl w).alloc hB _
  have HB0 : Hid (Below w.heap.size w (w.alloc (.cells #[.slice P f.params.length pc, .int .i64 f.arrays, .int .i64 f.cells, .slice A f.blocks.length c] 25))) := (Below.refl _ w).alloc (Nat.le_refl _) _
  clear hid
  by_cases h0 : (lookM f).1 = 0
  · have H0 := hideI h0
    have hnb := look_some_block h0
    clear h0
    go_enter Try.func16, Try.ntmps16
    go_wp2_with (first
      | (go_at_call 45; go_must (refine (check_any f B _ _ _ (HP.out.keeps HK.out) (HBL.out.keeps HK.out) (by simp; omega) HID.out).mono ?_); rw [H0.out]; rintro e w1 ⟨rfl, hb⟩; have HB1 := hideI (HB0.out.trans (hb.mono (by simp))); have hxx := row_cells ((hb.block _ (lt_of_heap HX.out)).trans HX.out) rfl; have q0 := hxx 0; have q1 := hxx 1; have q2 := hxx 2; have q3 := hxx 3; have hl1 : w.heap.size < w1.heap.size := (by have := hb.size; simp at this; omega); clear hb hxx)
      | (go_at_call 46; go_must (refine (preds_any f.blocks w.heap.size _ _ _ _ _ ((HBL.out.more' hB).keeps (Keeps.of_below HB1.out)) (by omega) hnb.2 (look_ends H0.out)).mono ?_); rintro e w2 ⟨g, vs, rfl, hls, hb2⟩; have HLS := hideI hls; have HB2 := hideI hb2; clear hls hb2))
    go_ret2
    exact .inr ⟨H0.out, g, vs, rfl, HLS.out.mono (by omega), HB1.out.trans (HB2.out.mono (by omega))⟩
  · have H0 := hideI h0
    have hb : ((lookM f).1 != 0) = true := by simpa using h0
    clear h0
    go_enter Try.func16, Try.ntmps16
    go_wp2_with (first
      | (go_at_call 45; go_must (refine (check_any f B _ _ _ (HP.out.keeps HK.out) (HBL.out.keeps HK.out) (by simp; omega) HID.out).mono ?_); rintro e w1 ⟨rfl, hb1⟩; have HB1 := hideI (HB0.out.trans (hb1.mono (by simp))); clear hb1))
    go_ret2
    exact .inl ⟨H0.out, rfl, HB1.out⟩

theorem gOrder_no (f : FuncM) (B : Nat) (pv bv : Value) (w : World) (hpv : Ints w B pv f.params) (hbv : BlocksR w B bv f.blocks) (hB : B ≤ w.heap.size) (hid : ∀ u ∈ usesM f, I64 u.1) (h : (lookM f).1 ≠ 0) :
    Calls Try.prog 18 #[.agg #[pv, .int .i64 f.arrays, .int .i64 f.cells, bv]] w fun e w' => e = .returned (.tuple #[.slice none 0 0, .int .i64 (lookM f).1]) ∧ Below w.heap.size w w' := by
  refine (gOrder_any f B pv bv w hpv hbv hB hid).mono ?_
  rintro e w' (⟨_, h2⟩ | ⟨h2, _⟩)
  · exact h2
  · exact absurd h2 h

theorem gOrder_yes (f : FuncM) (B : Nat) (pv bv : Value) (w : World) (hpv : Ints w B pv f.params) (hbv : BlocksR w B bv f.blocks) (hB : B ≤ w.heap.size) (hid : ∀ u ∈ usesM f, I64 u.1) (h : (lookM f).1 = 0) :
    Calls Try.prog 18 #[.agg #[pv, .int .i64 f.arrays, .int .i64 f.cells, bv]] w fun e w' => ∃ (o : List Nat) (g cap : Nat), e = .returned (.tuple #[.slice (some ⟨g, 0, none⟩) o.length cap, .int .i64 0]) ∧ OrderIs f.blocks o ∧ 0 < o.length ∧ o.length ≤ f.blocks.length ∧ w'.ownsRow w.heap.size 3 1 (.slice (some ⟨g, 0, none⟩) o.length cap) o.length (natInts o) ∧ Below w.heap.size w w' := by
  refine (gOrder_any f B pv bv w hpv hbv hB hid).mono ?_
  rintro e w' (⟨h2, _⟩ | ⟨_, h2⟩)
  · exact absurd h h2
  · exact h2

theorem gReach_no (f : FuncM) (B : Nat) (pv bv : Value) (w : World) (hpv : Ints w B pv f.params) (hbv : BlocksR w B bv f.blocks) (hB : B ≤ w.heap.size) (hid : ∀ u ∈ usesM f, I64 u.1) (h : (lookM f).1 ≠ 0) :
    Calls Try.prog 17 #[.agg #[pv, .int .i64 f.arrays, .int .i64 f.cells, bv]] w fun e w' => e = .returned (.tuple #[.slice none 0 0, .int .i64 (lookM f).1]) ∧ Below w.heap.size w w' := by
  refine (gReach_any f B pv bv w hpv hbv hB hid).mono ?_
  rintro e w' (⟨_, h2⟩ | ⟨h2, _⟩)
  · exact h2
  · exact absurd h2 h

theorem gReach_yes (f : FuncM) (B : Nat) (pv bv : Value) (w : World) (hpv : Ints w B pv f.params) (hbv : BlocksR w B bv f.blocks) (hB : B ≤ w.heap.size) (hid : ∀ u ∈ usesM f, I64 u.1) (h : (lookM f).1 = 0) :
    Calls Try.prog 17 #[.agg #[pv, .int .i64 f.arrays, .int .i64 f.cells, bv]] w fun e w' => ∃ (o : List Nat) (g : Nat), e = .returned (.tuple #[.slice (some ⟨g, 0, none⟩) f.blocks.length f.blocks.length, .int .i64 0]) ∧ OrderIs f.blocks o ∧ w'.ownsRow w.heap.size 4 1 (.slice (some ⟨g, 0, none⟩) f.blocks.length f.blocks.length) f.blocks.length (marks f.blocks.length o) ∧ Below w.heap.size w w' := by
  refine (gReach_any f B pv bv w hpv hbv hB hid).mono ?_
  rintro e w' (⟨h2, _⟩ | ⟨_, h2⟩)
  · exact absurd h h2
  · exact h2

theorem gPreds_no (f : FuncM) (B : Nat) (pv bv : Value) (w : World) (hpv : Ints w B pv f.params) (hbv : BlocksR w B bv f.blocks) (hB : B ≤ w.heap.size) (hid : ∀ u ∈ usesM f, I64 u.1) (h : (lookM f).1 ≠ 0) :
    Calls Try.prog 16 #[.agg #[pv, .int .i64 f.arrays, .int .i64 f.cells, bv]] w fun e w' => e = .returned (.tuple #[.slice none 0 0, .int .i64 (lookM f).1]) ∧ Below w.heap.size w w' := by
  refine (gPreds_any f B pv bv w hpv hbv hB hid).mono ?_
  rintro e w' (⟨_, h2⟩ | ⟨h2, _⟩)
  · exact h2
  · exact absurd h2 h

theorem gPreds_yes (f : FuncM) (B : Nat) (pv bv : Value) (w : World) (hpv : Ints w B pv f.params) (hbv : BlocksR w B bv f.blocks) (hB : B ≤ w.heap.size) (hid : ∀ u ∈ usesM f, I64 u.1) (h : (lookM f).1 = 0) :
    Calls Try.prog 16 #[.agg #[pv, .int .i64 f.arrays, .int .i64 f.cells, bv]] w fun e w' => ∃ (g : Nat) (vs : List Value), e = .returned (.tuple #[.slice (some ⟨g, 0, none⟩) f.blocks.length f.blocks.length, .int .i64 0]) ∧ Lists w' w.heap.size g f.blocks.length vs (predsAt f.blocks f.blocks.length f.blocks.length 0) ∧ Below w.heap.size w w' := by
  refine (gPreds_any f B pv bv w hpv hbv hB hid).mono ?_
  rintro e w' (⟨h2, _⟩ | ⟨_, h2⟩)
  · exact absurd h h2
  · exact h2

end Go.Proofs.Ytclbhbnidodmdaa
