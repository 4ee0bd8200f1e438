/- What InterpSpareUpto rests on, part 15: RPreds, ITrace, ISame, IEndM, IRuns, IOpen, SpareB, Tags, FList, Own, RCopyI. -/
import Derived.Test.YtncmnbchkabgaaaGreatPkInterpSpareUpto14
import Derived.Deep.QuietTactic
import Derived.BigQuiet
import Derived.Deep.AppendLies
import Derived.Deep.Onto
import Derived.OneCell
import Derived.Laws.OwnMore

namespace Go.Proofs.YtncmnbchkabgaaaGreat
open Go.RowKit Go.Maps

/-- the reference's lists: those of blocks before t are done; of t, what comes from the first b -/
def predsRow (bs : List BlockM) (n t b : Nat) : List (List Nat) := (List.range n).map fun u => if u < t then predsTo bs n u else if u = t then predsTo bs b u else []

theorem predsRow_at {bs : List BlockM} {n t b u : Nat} (h : u < n) : (predsRow bs n t b)[u]? = some (if u < t then predsTo bs n u else if u = t then predsTo bs b u else []) := by
  unfold predsRow
  rw [List.getElem?_map, List.getElem?_eq_getElem (by simpa using h)]
  simp

theorem predsRow_zero (bs : List BlockM) (n : Nat) : predsRow bs n 0 0 = (List.range n).map fun _ => [] := by
  unfold predsRow
  apply List.map_congr_left
  intro u _
  rw [if_neg (by omega)]
  split
  · simp [predsTo]
  · rfl

theorem predsRow_skip {bs : List BlockM} {n t b : Nat} (h : t ∉ succM bs b) : predsRow bs n t (b + 1) = predsRow bs n t b := by
  unfold predsRow
  apply List.map_congr_left
  intro u _
  by_cases e : u = t
  · subst e
    rw [predsTo_succ, if_neg h, List.append_nil]
  · simp [e]

theorem predsRow_push {bs : List BlockM} {n t b : Nat} (h : t ∈ succM bs b) (_htn : t < n) : (predsRow bs n t b).set t (predsTo bs b t ++ [b]) = predsRow bs n t (b + 1) := by
  apply List.ext_getElem?
  intro u
  by_cases hu : u < n
  · rw [predsRow_at hu]
    by_cases e : t = u
    · subst e
      rw [List.getElem?_set_self (by unfold predsRow; simpa using hu), if_neg (by omega), if_pos rfl, predsTo_succ, if_pos h]
    · rw [List.getElem?_set_ne e, predsRow_at hu]
      have e' : ¬ u = t := fun x => e x.symm
      simp [e']
  · rw [List.getElem?_eq_none (by rw [List.length_set]; unfold predsRow; simp; omega), List.getElem?_eq_none (by unfold predsRow; simp; omega)]

theorem predsRow_next (bs : List BlockM) (n t : Nat) : predsRow bs n t n = predsRow bs n (t + 1) 0 := by
  unfold predsRow
  apply List.map_congr_left
  intro u _
  by_cases h1 : u < t
  · rw [if_pos h1, if_pos (by omega)]
  · rw [if_neg h1]
    by_cases h2 : u = t
    · subst h2
      rw [if_pos rfl, if_pos (by omega)]
    · rw [if_neg h2, if_neg (by omega)]
      split
      · simp [predsTo]
      · rfl

theorem predsRow_last (bs : List BlockM) (n : Nat) : predsRow bs n n 0 = predsAt bs n n 0 := by
  unfold predsRow predsAt
  apply List.map_congr_left
  intro u hu
  rw [if_pos (by simpa using hu)]
  simp

theorem mem_to {bs : List BlockM} {q : BlockM} {b t : Nat} (hin : EndsIn bs) (hq : bs[b]? = some q) : ((t : Int) ∈ q.term.to) ↔ t ∈ succM bs b := by
  unfold succM
  rw [hq]
  simp only [List.mem_map]
  constructor
  · exact fun h => ⟨(t : Int), h, by simp⟩
  · rintro ⟨x, hx, he⟩
    have := hin q (List.mem_of_getElem? hq) x hx
    have e : x = (t : Int) := by omega
    exact e ▸ hx

set_option maxRecDepth 100000 in
set_option maxHeartbeats 4000000 in
theorem refPreds_any (bs : List BlockM) (B : Nat) (pv av cv bv : Value) (w : World) (hbv : BlocksR w B bv bs) (hB : B ≤ w.heap.size) (hn5 : bs.length ≤ 512) (hin : EndsIn bs) :
    Calls Tryz.prog 36 #[.agg #[pv, av, cv, bv]] w (PredsPost bs w) := by
  have HBL := hideI hbv
  have HIN := hideI hin
  obtain ⟨A, c, rfl, hbm, _⟩ := hbv
  obtain ⟨i0, hix, hz0, hz1, hz2⟩ := info_parts ints_info
  clear hin
  go_enter Tryz.func36, Tryz.ntmps36
  go_wp2_with (first
    | (at_make; go_must (refine wpList_make_full _ rfl _ _ 26 rfl (w.heap.size + 1) 22 i0 (.slice none 0 0) 1 Tryz.underlying26 hix hz0 hz1 .i64 .i64 _ _ bs.length rfl rfl rfl rfl (by rw [hz2]; omega) (by unfold maxLen; omega) (by simp) ?_); intro w1 hown1 hg1; rw [World.size_alloc] at hown1; go_must (have HL1 := hideI (Lists.made hown1); have HGB := hideI ((hg1.block w.heap.size (by simp) (by simp)).trans (heap_alloc_new w _)); have HB0 : Hid (Below w.heap.size w w1) := ((Below.refl _ _).alloc (Nat.le_refl _) _).grown hg1 (by simp) (by simp); clear hown1 hg1)))
  clear hix hz0 hz1 hz2
  rw [← predsRow_zero bs bs.length] at HL1
  go_loopw [4] (fun u wr => ∃ (t : Nat) (vs : List Value), t ≤ bs.length ∧ u = .int .i64 t ∧ Hid (Lists wr (w.heap.size + 1) (w.heap.size + 1) bs.length vs (predsRow bs bs.length t 0)) ∧ Hid (Below w.heap.size w wr) ∧ Hid (Below (w.heap.size + 1) w1 wr)) (fun u _ => bs.length - (intOf u).toNat)
  case atStart => exact ⟨0, _, Nat.zero_le _, rfl, HL1, HB0, hideI (Below.refl _ _)⟩
  case round =>
    obtain ⟨t, vs, ht, rfl, HL, HBr, HBo⟩ := hrel
    have hxr := row_cells HGB.out (HBo.out.block w.heap.size (by omega))
    have g3 := hxr 3
    clear hxr
    by_cases hlt : t < bs.length
    · go_wp2
      clear g3
      obtain ⟨wo, rfl⟩ : ∃ wo : World, wo = wr := ⟨_, rfl⟩
      go_loopw [5] (fun u wr => ∃ (b : Nat) (vs : List Value), b ≤ bs.length ∧ u = .int .i64 b ∧ Hid (Lists wr (w.heap.size + 1) (w.heap.size + 1) bs.length vs (predsRow bs bs.length t b)) ∧ Hid (Below (w.heap.size + 1) wo wr)) (fun u _ => bs.length - (intOf u).toNat)
      case atStart => exact ⟨0, vs, Nat.zero_le _, rfl, HL, hideI (Below.refl _ _)⟩
      case round =>
        obtain ⟨b, vs2, hb, rfl, HLi, HBi⟩ := hrel
        have hxr := row_cells HGB.out ((HBo.out.trans HBi.out).block w.heap.size (by omega))
        have g3 := hxr 3
        clear hxr
        by_cases hltb : b < bs.length
        · obtain ⟨q, hq⟩ : ∃ q, bs[b]? = some q := ⟨_, List.getElem?_eq_getElem hltb⟩
          obtain ⟨A', c', e0, _, hbx⟩ := (HBL.out.more' hB).keeps (Keeps.of_below (HBr.out.trans (HBi.out.mono (Nat.le_succ _))))
          cases e0
          obtain ⟨ab, off, pq, cq, tv, rfl, hab, x0, x1, x2, x3, x4, x5, _, _, htv, _⟩ := hbx b q hq
          have HTV := hideI htv
          have HMEM := hideI (mem_to (t := t) HIN.out hq)
          obtain ⟨TA, tc, rfl, htm, _⟩ := htv
          obtain ⟨v, hv⟩ : ∃ v, vs2[t]? = some v := ⟨_, List.getElem?_eq_getElem (by rw [HLi.out.vl]; exact hlt)⟩
          obtain ⟨l, hl0⟩ : ∃ l, l = predsTo bs b t := ⟨_, rfl⟩
          have hl : (predsRow bs bs.length t b)[t]? = some l := by rw [predsRow_at hlt, if_neg (by omega), if_pos rfl, hl0]
          have hll : l.length ≤ 1000 := by have := predsTo_len bs b t; rw [hl0]; omega
          have q1 : wr.cell? ⟨w.heap.size + 1, t, none⟩ = some v := by rw [World.ownsRow.cellAt HLi.out.row t (by omega)]; exact hv
          have HOWN := hideI (HLi.out.own t v l hv hl)
          have hsz := HLi.out.lt.2
          have HV := hideI hv
          have HLL := hideI hl
          have HL0 := hideI hl0
          obtain ⟨tl, htl⟩ : ∃ tl, tl = q.term.to := ⟨_, rfl⟩
          rw [← htl] at HTV HMEM x4 htm
          clear hbx hq x0 x1 x2 x3 x5 hv hl hl0 htl
          by_cases hin2 : (t : Int) ∈ tl
          · have HC : Hid (decide ((t : Int) ∈ tl) = true) := by show _ = _; simpa using hin2
            have HIN2 := hideI (HMEM.out.1 hin2)
            obtain ⟨i1, hjx, hy0, hy1, hy2⟩ := info_parts int_info
            clear hin2
            go_wp2_with (first
              | (go_at_call 22; go_must (refine (has_any _ _ _ _ _ HTV.out).mono ?_); rw [HC.out]; rintro e w2 ⟨rfl, rfl⟩)
              | (at_builtin; go_must (refine wpList_append_lies _ rfl _ _ _ rfl (w.heap.size + 1 + 1) 3 i1 (.int .i64 0) 1 8 Tryz.underlying22 hjx hy0 hy1 hy2 rfl (by decide) _ _ _ rfl (HOWN.out.alloc _) ⟨wr.heap.size, 0, none⟩ 1 1 [.int .i64 b] rfl rfl (one_new wr _) (by simp [Value.oneCell']) (by decide) (by simp only [maxLen]; omega) (by omega) (by simp; omega) _ rfl ?_); intro g1 cap1 w3 hown1 hgrow1 hor1 _; go_must (have HP := hideI (HLi.out.push HV.out HLL.out hown1 hgrow1 hor1); have HPB := hideI (HLi.out.pushed (u := .slice (some ⟨g1, 0, none⟩) (l.length + 1) cap1) HV.out HLL.out hgrow1 HBi.out (Nat.le_refl _)); obtain ⟨hc4, hf4⟩ := HLi.out.held HV.out HLL.out hgrow1; clear hown1 hgrow1 hor1 q1)))
            go_roundw
            case rel => exact ⟨b + 1, _, by omega, by go_num, by rw [← predsRow_push HIN2.out hlt, ← HL0.out]; exact HP, HPB⟩
            case measure => simp [intOf]; omega
          · have HC : Hid (decide ((t : Int) ∈ tl) = false) := by show _ = _; simpa using hin2
            have HIN2 := hideI (fun h => hin2 (HMEM.out.2 h))
            clear hin2
            go_wp2_with (first
              | (go_at_call 22; go_must (refine (has_any _ _ _ _ _ HTV.out).mono ?_); rw [HC.out]; rintro e w2 ⟨rfl, rfl⟩))
            go_roundw
            case rel => exact ⟨b + 1, vs2, by omega, by go_num, by rw [predsRow_skip HIN2.out]; exact HLi, HBi⟩
            case measure => simp [intOf]; omega
        · have hbn : b = bs.length := by omega
          rw [hbn, predsRow_next] at HLi
          clear hbn
          go_wp2
          go_roundw
          case rel => exact ⟨t + 1, vs2, by omega, by go_num, HLi, hideI (HBr.out.trans (HBi.out.mono (Nat.le_succ _))), hideI (HBo.out.trans HBi.out)⟩
          case measure => simp [intOf]; omega
    · have hkn : t = bs.length := by omega
      rw [hkn, predsRow_last] at HL
      clear hkn
      go_wp2
      go_ret
      exact ⟨_, vs, rfl, ⟨HL.out.vl, HL.out.ll, World.ownsRow.mono HL.out.row (by omega), HL.out.own, HL.out.apart⟩, HBr.out⟩

set_option maxRecDepth 100000 in
set_option maxHeartbeats 2000000 in
/-- two lists of lists that are the same -/
theorem sameLists_yes (w : World) (b1 b2 g1 g2 n : Nat) (vs us : List Value) (ls : List (List Nat)) (h1 : Lists w b1 g1 n vs ls) (h2 : Lists w b2 g2 n us ls) (hl : ∀ l ∈ ls, l.length ≤ 1000) (hn5 : n ≤ 100000) :
    Calls Tryz.prog 14 #[.slice (some ⟨g1, 0, none⟩) n n, .slice (some ⟨g2, 0, none⟩) n n] w fun e w' => e = .returned (.bool true) ∧ ∃ m, w' = w.drewN m := by
  have H1 := hideI h1
  have H2 := hideI h2
  have HL := hideI hl
  clear h1 h2 hl
  go_enter Tryz.func14, Tryz.ntmps14
  go_wp2
  go_loopw [5] (fun u wr => ∃ k m : Nat, k ≤ n ∧ u = .int .i64 k ∧ wr = w.drewN m) (fun u _ => n - (intOf u).toNat)
  case atStart => exact ⟨0, 0, Nat.zero_le _, rfl, rfl⟩
  case round =>
    obtain ⟨k, m, hk, rfl, hwr⟩ := hrel
    have HWR := hideI hwr
    have R1 : Hid (Lists wr b1 g1 n vs ls) := by show Lists _ _ _ _ _ _; rw [hwr]; exact ⟨H1.out.vl, H1.out.ll, H1.out.row, H1.out.own, H1.out.apart⟩
    have R2 : Hid (Lists wr b2 g2 n us ls) := by show Lists _ _ _ _ _ _; rw [hwr]; exact ⟨H2.out.vl, H2.out.ll, H2.out.row, H2.out.own, H2.out.apart⟩
    clear hwr
    by_cases hlt : k < n
    · obtain ⟨v, hv⟩ : ∃ v, vs[k]? = some v := ⟨_, List.getElem?_eq_getElem (by rw [H1.out.vl]; exact hlt)⟩
      obtain ⟨u, hu⟩ : ∃ u, us[k]? = some u := ⟨_, List.getElem?_eq_getElem (by rw [H2.out.vl]; exact hlt)⟩
      obtain ⟨l, hl⟩ : ∃ l, ls[k]? = some l := ⟨_, List.getElem?_eq_getElem (by rw [H1.out.ll]; exact hlt)⟩
      have hll := HL.out l (List.mem_of_getElem? hl)
      have d1 : wr.cell? ⟨g1, k, none⟩ = some v := by rw [World.ownsRow.cellAt R1.out.row k (by omega)]; exact hv
      have d2 : wr.cell? ⟨g2, k, none⟩ = some u := by rw [World.ownsRow.cellAt R2.out.row k (by omega)]; exact hu
      have HI1 := hideI (nat_ints (R1.out.own k v l hv hl) (by omega))
      have HI2 := hideI (nat_ints (R2.out.own k u l hu hl) (by omega))
      have HC : Hid (∀ a, Calls Tryz.prog 28 #[v, u] (wr.drewN a) fun e w' => e = .returned (.bool true) ∧ ∃ m, w' = (wr.drewN a).drewN m) := fun a =>
        (sameInts_any (wr.drewN a) wr.heap.size _ _ _ _ (HI1.out.keeps (Keeps.heap' (Keeps.refl _) rfl)) (HI2.out.keeps (Keeps.heap' (Keeps.refl _) rfl))).mono fun e w' ⟨h1, h2⟩ => ⟨by rw [h1, beq_self_eq_true], h2⟩
      clear hv hu hl
      go_wp2
      go_quiet ((go_at_call 28; exact Calls.quiet_of (HC.out _)))
      go_wp2
      go_roundw
      case rel => exact ⟨k + 1, _, by omega, by go_num, by rw [HWR.out]; exact World.drewN_drewN ..⟩
      case measure => simp [intOf]; omega
    · go_wp2
      go_ret
      exact ⟨rfl, m, HWR.out⟩

end Go.Proofs.YtncmnbchkabgaaaGreat

namespace Go.Proofs.YtncmnbchkabgaaaGreat
open Go.RowKit Go.Maps

/-- a trace, as it is read -/
def TraceR (w : World) (B : Nat) (v : Value) (s : StM) (en : EndM) : Prop :=
  ∃ ov av vv, v = .agg #[.int .i64 en.1, .int .i64 en.2.1, .int .i64 en.2.2, ov, av, .int .i64 s.steps, .int .i64 s.checks, vv] ∧ Ints w B ov s.out ∧ ArrsR w B av s.arrs ∧ Ints w B vv s.vis

theorem TraceR.keeps {w W : World} {B : Nat} {v : Value} {s : StM} {en : EndM} (h : TraceR w B v s en) (k : Keeps B w W) : TraceR W B v s en := by
  obtain ⟨ov, av, vv, e, h1, h2, h3⟩ := h
  exact ⟨ov, av, vv, e, h1.keeps k, h2.keeps k, h3.keeps k⟩

theorem row_cap {w : World} {base : Nat} {e : TypeId} {size : Nat} {v : Value} {n : Nat} {xs : List Value} (h : w.ownsRow base e size v n xs) : ∀ A2 n2 c2, v = .slice A2 n2 c2 → n2 ≤ c2 := by
  intro A2 n2 c2 e2
  rcases h.2 with ⟨e1, e0⟩ | ⟨g, cap, cur, e1, _, _, hx, _⟩
  · rw [e1] at e2
    injection e2 with _ a b
    omega
  · rw [e1] at e2
    injection e2 with _ a b
    omega

theorem TraceAt.reads {base : Nat} {w : World} {v : Value} {s : StM} {en : EndM} (h : TraceAt base w v s en) (ho : s.out.length ≤ 140737488351232) (ha : s.arrs.length ≤ 140737488351232) (hl : ∀ l ∈ s.arrs, l.length ≤ 140737488351232) (hv : s.vis.length ≤ 140737488351232) : TraceR w w.heap.size v s en := by
  obtain ⟨nv, val, e, hr⟩ := h
  refine ⟨_, _, _, e, ints_own (hr .out _ rfl) ho, ?_, ints_own (hr .vis _ rfl) hv⟩
  have hrow := hr .arrs _ rfl
  obtain ⟨A, cp, ea⟩ := row_form hrow
  refine ⟨A, cp, ea, ha, fun k l hk => ?_⟩
  have hkl := (List.getElem?_eq_some_iff.1 hk).1
  obtain ⟨g, cap, ev, _, hg⟩ := World.ownsRow.form hrow (by show 0 < s.arrs.length; omega)
  rw [ev] at ea
  injection ea with e1 _ e3
  have hc := World.ownsRow.cellAt (by rw [ev] at hrow; exact hrow) k (by show k < s.arrs.length * 1; omega)
  refine ⟨g, 0, val (.arr k), e1.symm, hg, ?_, ?_, ?_⟩
  · rw [Nat.zero_add]
    rw [hc, List.getElem?_map, List.getElem?_range hkl]
    rfl
  · exact ints_own (hr (.arr k) (intRow l) (by show s.arrs[k]?.map intRow = _; rw [hk]; rfl)) (hl l (List.mem_of_getElem? hk))
  · exact row_cap (hr (.arr k) (intRow l) (by show s.arrs[k]?.map intRow = _; rw [hk]; rfl))

/-- a trace whose rows lie in these blocks -/
def TraceIn (lo hi : Nat) (w : World) (v : Value) (s : StM) (en : EndM) : Prop :=
  ∃ (nv : Nat) (val : MVals), v = .agg #[.int .i64 en.1, .int .i64 en.2.1, .int .i64 en.2.2, val .out, val .arrs, .int .i64 s.steps, .int .i64 s.checks, val .vis] ∧ ∀ t d, mRow s nv val t = some d → w.ownsRow lo d.elem 1 (val t) d.len d.cells ∧ ∀ g, (val t).ownBlock = some g → g < hi

theorem TraceAt.within {base : Nat} {w : World} {v : Value} {s : StM} {en : EndM} (h : TraceAt base w v s en) : TraceIn base w.heap.size w v s en := by
  obtain ⟨nv, val, e, h⟩ := h
  exact ⟨nv, val, e, fun t d ht => ⟨h t d ht, fun g hg => ((h t d ht).lt g hg).2⟩⟩

theorem TraceIn.at {lo hi : Nat} {w : World} {v : Value} {s : StM} {en : EndM} (h : TraceIn lo hi w v s en) : TraceAt lo w v s en := by
  obtain ⟨nv, val, e, h⟩ := h
  exact ⟨nv, val, e, fun t d ht => (h t d ht).1⟩

theorem TraceIn.kept {lo hi : Nat} {w W : World} {v : Value} {s : StM} {en : EndM} (h : TraceIn lo hi w v s en) (hk : ∀ b, lo ≤ b → b < hi → W.heap[b]? = w.heap[b]?) : TraceIn lo hi W v s en := by
  obtain ⟨nv, val, e, h⟩ := h
  exact ⟨nv, val, e, fun t d ht => ⟨owns_kept (h t d ht).1 fun g hg => hk g ((h t d ht).1.lt g hg).1 ((h t d ht).2 g hg), (h t d ht).2⟩⟩

end Go.Proofs.YtncmnbchkabgaaaGreat

namespace Go.Proofs.YtncmnbchkabgaaaGreat
open Go.RowKit Go.Maps

theorem ArrsR.drewN {w : World} {B : Nat} {v : Value} {xs : List (List Int)} (h : ArrsR w B v xs) (n : Nat) : ArrsR (w.drewN n) B v xs := h.keeps (Keeps.heap' (Keeps.refl _) rfl)

set_option maxRecDepth 100000 in
set_option maxHeartbeats 2000000 in
/-- two lists of lists that are the same -/
theorem sameArrs_yes (w : World) (B : Nat) (v u : Value) (xs : List (List Int)) (h1 : ArrsR w B v xs) (h2 : ArrsR w B u xs) :
    Calls Tryz.prog 14 #[v, u] w fun e w' => e = .returned (.bool true) ∧ ∃ m, w' = w.drewN m := by
  have H1 := hideI h1
  have H2 := hideI h2
  obtain ⟨A1, c1, rfl, hm, k1⟩ := h1
  obtain ⟨A2, c2, rfl, _, k2⟩ := h2
  obtain ⟨n, hn⟩ : ∃ n, n = xs.length := ⟨_, rfl⟩
  rw [← hn] at H1 H2 hm ⊢
  have HN := hideI hn
  have K1 := hideI k1
  have K2 := hideI k2
  clear k1 k2 hn
  go_enter Tryz.func14, Tryz.ntmps14
  go_wp2
  go_loopw [5] (fun u wr => ∃ k m : Nat, k ≤ n ∧ u = .int .i64 k ∧ wr = w.drewN m) (fun u _ => n - (intOf u).toNat)
  case atStart => exact ⟨0, 0, Nat.zero_le _, rfl, rfl⟩
  case round =>
    obtain ⟨k, m, hk, rfl, hwr⟩ := hrel
    have HWR := hideI hwr
    by_cases hlt : k < n
    · obtain ⟨l, hl⟩ : ∃ l, xs[k]? = some l := ⟨_, List.getElem?_eq_getElem (by have := HN.out; omega)⟩
      obtain ⟨b1, o1, v1, rfl, hb1, d1, i1, _⟩ := K1.out k l hl
      obtain ⟨b2, o2, v2, rfl, hb2, d2, i2, _⟩ := K2.out k l hl
      have d1 : wr.cell? ⟨b1, o1 + k, none⟩ = some v1 := by rw [hwr]; exact d1
      have d2 : wr.cell? ⟨b2, o2 + k, none⟩ = some v2 := by rw [hwr]; exact d2
      have HC : Hid (∀ a, Calls Tryz.prog 28 #[v1, v2] (wr.drewN a) fun e w' => e = .returned (.bool true) ∧ ∃ m, w' = (wr.drewN a).drewN m) := fun a =>
        (sameInts_any (wr.drewN a) B _ _ _ _ (i1.keeps (Keeps.heap' (Keeps.refl _) (by show wr.heap = _; rw [hwr]; rfl))) (i2.keeps (Keeps.heap' (Keeps.refl _) (by show wr.heap = _; rw [hwr]; rfl)))).mono fun e w' ⟨h1, h2⟩ => ⟨by rw [h1, beq_self_eq_true], h2⟩
      clear hl hwr i1 i2
      go_wp2
      go_quiet ((go_at_call 28; exact Calls.quiet_of (HC.out _)))
      go_wp2
      go_roundw
      case rel => exact ⟨k + 1, _, by omega, by go_num, by rw [HWR.out]; exact World.drewN_drewN ..⟩
      case measure => simp [intOf]; omega
    · go_wp2
      go_ret
      exact ⟨rfl, m, rfl⟩

theorem below_two (w : World) (o1 o2 : Obj) : Below w.heap.size w ((w.alloc o1).alloc o2) := ((Below.refl _ w).alloc (Nat.le_refl _) _).alloc (by simp) _
theorem keeps_two {w : World} {B : Nat} (hB : B ≤ w.heap.size) (o1 o2 : Obj) : Keeps B w ((w.alloc o1).alloc o2) := Keeps.of_below ((below_two w o1 o2).mono hB)

set_option maxRecDepth 100000 in
set_option maxHeartbeats 2000000 in
/-- two traces that are the same but for how much was done -/
theorem alike_yes (w : World) (B : Nat) (v u : Value) (s t : StM) (en : EndM) (h1 : TraceR w B v s en) (h2 : TraceR w B u t en) (hB : B ≤ w.heap.size) (ho : s.out = t.out) (ha : s.arrs = t.arrs) :
    Calls Tryz.prog 27 #[v, u] w fun e w' => e = .returned (.bool true) ∧ Below w.heap.size w w' := by
  have H1 := hideI h1
  have H2 := hideI h2
  obtain ⟨o1, a1, v1, rfl, i1, r1, _⟩ := h1
  obtain ⟨o2, a2, v2, rfl, i2, r2, _⟩ := h2
  obtain ⟨e0, e1, e2⟩ := en
  rw [← ho] at i2
  rw [← ha] at r2
  have HI : Hid (∀ W, Keeps B w W → Calls Tryz.prog 28 #[o1, o2] W fun e w' => e = .returned (.bool true) ∧ ∃ m, w' = W.drewN m) := hideI fun W k =>
    (sameInts_any W B _ _ _ _ (i1.keeps k) (i2.keeps k)).mono fun e w' ⟨h1, h2⟩ => ⟨by rw [h1, beq_self_eq_true], h2⟩
  have HA : Hid (∀ W, Keeps B w W → Calls Tryz.prog 14 #[a1, a2] W fun e w' => e = .returned (.bool true) ∧ ∃ m, w' = W.drewN m) := hideI fun W k => sameArrs_yes W B _ _ _ (r1.keeps k) (r2.keeps k)
  clear i1 i2 r1 r2 ho ha
  go_enter Tryz.func27, Tryz.ntmps27
  go_wp2_with (first
    | (go_at_call 28; go_must (refine (HI.out _ (by exact Keeps.heap' (keeps_two hB _ _) rfl)).mono ?_); rintro e w1 ⟨rfl, m, rfl⟩)
    | (go_at_call 14; go_must (refine (HA.out _ (by exact Keeps.heap' (keeps_two hB _ _) rfl)).mono ?_); rintro e w1 ⟨rfl, m2, rfl⟩))
  go_ret
  exact ⟨rfl, below_drewN (below_two w _ _) _⟩

set_option maxRecDepth 100000 in
set_option maxHeartbeats 2000000 in
/-- two traces that are the same -/
theorem same_yes (w : World) (B : Nat) (v u : Value) (s : StM) (en : EndM) (h1 : TraceR w B v s en) (h2 : TraceR w B u s en) (hB : B ≤ w.heap.size) :
    Calls Tryz.prog 9 #[v, u] w fun e w' => e = .returned (.bool true) ∧ Below w.heap.size w w' := by
  have H1 := hideI h1
  have H2 := hideI h2
  obtain ⟨o1, a1, v1, rfl, _, _, i1⟩ := h1
  obtain ⟨o2, a2, v2, rfl, _, _, i2⟩ := h2
  obtain ⟨e0, e1, e2⟩ := en
  have HI : Hid (∀ W, Keeps B w W → Calls Tryz.prog 28 #[v1, v2] W fun e w' => e = .returned (.bool true) ∧ ∃ m, w' = W.drewN m) := hideI fun W k =>
    (sameInts_any W B _ _ _ _ (i1.keeps k) (i2.keeps k)).mono fun e w' ⟨h1, h2⟩ => ⟨by rw [h1, beq_self_eq_true], h2⟩
  obtain ⟨W1, hW1⟩ : ∃ W1, W1 = ((w.alloc (.cells #[.int .i64 e0, .int .i64 e1, .int .i64 e2, o1, a1, .int .i64 s.steps, .int .i64 s.checks, v1] 32)).alloc (.cells #[.int .i64 e0, .int .i64 e1, .int .i64 e2, o2, a2, .int .i64 s.steps, .int .i64 s.checks, v2] 32)) := ⟨_, rfl⟩
  have hb1 : Below w.heap.size w W1 := by rw [hW1]; exact below_two w _ _
  have hs1 : W1.heap.size = w.heap.size + 2 := by rw [hW1]; simp
  have hf0 : W1.heap[w.heap.size]? = some (.cells #[.int .i64 e0, .int .i64 e1, .int .i64 e2, o1, a1, .int .i64 s.steps, .int .i64 s.checks, v1] 32 (0, 0)) := by
    rw [hW1, Below.heap_alloc _ _ _ (by simp)]
    exact heap_alloc_new w _
  have hf1 : W1.heap[w.heap.size + 1]? = some (.cells #[.int .i64 e0, .int .i64 e1, .int .i64 e2, o2, a2, .int .i64 s.steps, .int .i64 s.checks, v2] 32 (0, 0)) := by
    rw [hW1]
    have := heap_alloc_new (w.alloc (.cells #[.int .i64 e0, .int .i64 e1, .int .i64 e2, o1, a1, .int .i64 s.steps, .int .i64 s.checks, v1] 32)) (.cells #[.int .i64 e0, .int .i64 e1, .int .i64 e2, o2, a2, .int .i64 s.steps, .int .i64 s.checks, v2] 32)
    simpa using this
  have HAL : Hid (Calls Tryz.prog 27 #[.agg #[.int .i64 e0, .int .i64 e1, .int .i64 e2, o1, a1, .int .i64 s.steps, .int .i64 s.checks, v1], .agg #[.int .i64 e0, .int .i64 e1, .int .i64 e2, o2, a2, .int .i64 s.steps, .int .i64 s.checks, v2]] W1 fun e w' => e = .returned (.bool true) ∧ Below W1.heap.size W1 w') :=
    hideI (alike_yes W1 B _ _ s s _ (H1.out.keeps (Keeps.of_below (hb1.mono hB))) (H2.out.keeps (Keeps.of_below (hb1.mono hB))) (by omega) rfl rfl)
  have HB1 := hideI hb1
  have HW1 := hideI hW1
  have HX : Hid (∀ W, Below W1.heap.size W1 W → (∀ o, W.cell? ⟨w.heap.size, o, none⟩ = _) ∧ ∀ o, W.cell? ⟨w.heap.size + 1, o, none⟩ = _) := hideI fun W hW => ⟨row_cells hf0 (hW.block _ (by omega)), row_cells hf1 (hW.block _ (by omega))⟩
  have q := HX.out W1 (Below.refl _ _)
  obtain ⟨qa, qb⟩ := q
  have a0 := qa 0
  have a1' := qa 1
  have a2' := qa 2
  have a3 := qa 3
  have a4 := qa 4
  have a5 := qa 5
  have a6 := qa 6
  have a7 := qa 7
  have b0 := qb 0
  have b1 := qb 1
  have b2 := qb 2
  have b3 := qb 3
  have b4 := qb 4
  have b5 := qb 5
  have b6 := qb 6
  have b7 := qb 7
  have hlt0 : w.heap.size < W1.heap.size := by omega
  have hlt1 : w.heap.size + 1 < W1.heap.size := by omega
  clear qa qb hb1 hs1 hf0 hf1 hW1 i1 i2
  go_enter Tryz.func9, Tryz.ntmps9
  go_upto_region 1 with fail
  rw [← HW1.out]
  go_wp2_with (first
    | (go_at_call 27; go_must (refine HAL.out.mono ?_); rintro e w1 ⟨rfl, hb⟩; have HB2 := hideI hb; clear a0 a1' a2' a3 a4 a5 a6 a7 b0 b1 b2 b3 b4 b5 b6 b7; have q := HX.out w1 hb; obtain ⟨qa, qb⟩ := q; have a5 := qa 5; have a6 := qa 6; have a7 := qa 7; have b5 := qb 5; have b6 := qb 6; have b7 := qb 7; clear qa qb hb)
    | (go_at_call 28; go_must (refine (HI.out _ (by exact Keeps.heap' ((Keeps.of_below (HB1.out.mono hB)).trans (Keeps.of_below (HB2.out.mono (by omega)))) rfl)).mono ?_); rintro e w1 ⟨rfl, m, rfl⟩))
  go_ret
  exact ⟨rfl, below_drewN (HB1.out.trans (HB2.out.mono (by omega))) _⟩

end Go.Proofs.YtncmnbchkabgaaaGreat

namespace Go.Proofs.YtncmnbchkabgaaaGreat
open Go.RowKit Go.Maps

structure EndOk (en : EndM) : Prop where
  lo : 1 ≤ en.1
  hi : en.1 ≤ 5
  trap : en.1 = 2 ∨ en.2.2 = 0
  value : en.1 = 1 ∨ en.2.1 = 0

theorem miss_ok (op : Int) : EndOk (missM op) ∧ (missM op).1 ≠ 3 := by
  unfold missM
  split <;> exact ⟨⟨by decide, by decide, by decide, by decide⟩, by decide⟩

theorem made_ok (x : InstrM) (a : List Int) (s : StM) : ∀ e, (madeM x a s).2 = .inr e → EndOk e ∧ e.1 ≠ 3 := by
  intro e h
  unfold madeM at h
  repeat' split at h
  all_goals first
    | (cases h; done)
    | (injection h with h; subst h; first | exact miss_ok _ | exact ⟨⟨by decide, by decide, by decide, by decide⟩, by decide⟩)

theorem done_ok (x : InstrM) (s : StM) : ∀ e, (doM x s).2 = some e → EndOk e ∧ e.1 ≠ 3 := by
  intro e h
  have hm := made_ok x (x.args.map s.val) s
  unfold doM at h
  simp only at h
  split at h
  · split at h
    · cases h
    · injection h with h
      subst h
      exact miss_ok _
  · split at h
    · split at h
      · injection h with h
        subst h
        exact ⟨⟨by decide, by decide, by decide, by decide⟩, by decide⟩
      · cases h
    · split at h
      · cases h
      · split at h
        · cases h
        · rename_i h5
          injection h with h
          subst h
          exact hm _ (by rw [h5])

theorem leave_ok (f : FuncM) (b k : Nat) (s : StM) : ∀ e, (leaveM f b k s).fin = some e → EndOk e ∧ e.1 ≠ 3 := by
  intro e h
  unfold leaveM at h
  simp only at h
  split at h
  · injection h with h
    subst h
    exact ⟨⟨by show (1 : Int) ≤ 1; decide, by show (1 : Int) ≤ 5; decide, .inr rfl, .inl rfl⟩, by show (1 : Int) ≠ 3; decide⟩
  · split at h
    · injection h with h
      subst h
      exact ⟨⟨by show (1 : Int) ≤ 2; decide, by show (2 : Int) ≤ 5; decide, .inl rfl, .inr rfl⟩, by show (2 : Int) ≠ 3; decide⟩
    · cases h

theorem goN_ok (f : FuncM) (I : InM) : ∀ n e, (goN f n (startM f I)).fin = some e → EndOk e ∧ e.1 ≠ 3
  | 0, e, h => by cases h
  | n + 1, e, h => by
    cases h0 : (goN f n (startM f I)).fin with
    | some e2 =>
      rw [show goN f (n + 1) (startM f I) = goM f (goN f n (startM f I)) from rfl, goM_fin (by rw [h0]; simp)] at h
      exact goN_ok f I n e h
    | none =>
      rw [show goN f (n + 1) (startM f I) = goM f (goN f n (startM f I)) from rfl] at h
      unfold goM at h
      rw [h0] at h
      simp only at h
      split at h
      · exact done_ok _ _ e h
      · exact leave_ok _ _ _ _ e h

theorem end_ok {f : FuncM} {I : InM} {F : Nat} {s : StM} {en : EndM} (h : EndIs f I F s en) : EndOk en := by
  obtain ⟨_, rfl⟩ := h
  unfold finM
  cases h0 : (goN f F (startM f I)).fin with
  | none => exact ⟨by decide, by decide, by decide, by decide⟩
  | some e => exact (goN_ok f I F e h0).1

/-- a run that ends for want of fuel took all of it; one that ends by itself does so with more, too -/
theorem end_more {f : FuncM} {I : InM} {a b : Nat} {s t : StM} {en em : EndM} (hab : a ≤ b) (h : EndIs f I a s en) (k : EndIs f I b t em) (hne : en.1 ≠ 3) : s = t ∧ en = em := by
  obtain ⟨rfl, rfl⟩ := h
  obtain ⟨rfl, rfl⟩ := k
  cases h0 : (goN f a (startM f I)).fin with
  | none => exact absurd (by unfold finM; rw [h0]; rfl) hne
  | some e =>
    have := goN_ended hab (by rw [h0]; simp)
    rw [this]
    exact ⟨rfl, rfl⟩

theorem end_none {f : FuncM} {I : InM} {a : Nat} {s : StM} {en : EndM} (h : EndIs f I a s en) (h3 : en.1 = 3) : s.steps = a ∧ en = (3, 0, 0) := by
  obtain ⟨rfl, rfl⟩ := h
  cases h0 : (goN f a (startM f I)).fin with
  | none => exact ⟨goN_steps h0, by unfold finM; rw [h0]; rfl⟩
  | some e =>
    unfold finM at h3
    rw [h0] at h3
    exact absurd h3 (goN_ok f I a e h0).2

/-- what a longer run has told and looked at -/
theorem done_prefix (x : InstrM) (s : StM) : s.out <+: (doM x s).1.out := by
  have ho := lookS_out x.op s
  obtain ⟨_, m2, _⟩ := made_arrs x (x.args.map s.val) s
  unfold doM
  simp only
  split
  · split
    · show s.out <+: (lookS x.op s).out
      rw [ho]
      exact List.prefix_rfl
    · show s.out <+: (lookS x.op s).out
      rw [ho]
      exact List.prefix_rfl
  · split
    · split
      · exact List.prefix_rfl
      · exact List.prefix_append _ _
    · split
      · exact List.prefix_rfl
      · split
        · rename_i h5
          rw [h5] at m2
          show s.out <+: _
          simp only at m2 ⊢
          rw [m2]
          exact List.prefix_rfl
        · rename_i h5
          rw [h5] at m2
          simp only at m2 ⊢
          rw [m2]
          exact List.prefix_rfl

theorem go_prefix {f : FuncM} {c : CfgM} (h : 0 ≤ c.s.checks ∧ c.s.checks < 4294967296) : c.s.out <+: (goM f c).s.out ∧ c.s.checks ≤ (goM f c).s.checks ∧ c.s.steps ≤ (goM f c).s.steps := by
  unfold goM
  cases c.fin with
  | some e => exact ⟨List.prefix_rfl, Int.le_refl _, Nat.le_refl _⟩
  | none =>
    simp only
    split
    · rename_i x hx
      have d1 := done_prefix x (tickM c.s)
      have d2 := (done_told x (tickM c.s) h).2.1
      have d4 := doM_steps x (tickM c.s)
      refine ⟨d1, d2, ?_⟩
      rw [d4]
      simp only [tickM]
      omega
    · unfold leaveM enterM
      simp only
      split
      · exact ⟨List.prefix_rfl, Int.le_refl _, by simp only [tickM]; omega⟩
      · split
        · exact ⟨List.prefix_rfl, Int.le_refl _, by simp only [tickM]; omega⟩
        · exact ⟨List.prefix_rfl, Int.le_refl _, by simp only [tickM, arriveM]; omega⟩

theorem goN_prefix {f : FuncM} {I : InM} (hfit : Fit f (startS f I)) (a : Nat) : ∀ d, a + d ≤ 200000 → (goN f a (startM f I)).s.out <+: (goN f (a + d) (startM f I)).s.out ∧ (goN f a (startM f I)).s.checks ≤ (goN f (a + d) (startM f I)).s.checks ∧ (goN f a (startM f I)).s.steps ≤ (goN f (a + d) (startM f I)).s.steps
  | 0, _ => ⟨List.prefix_rfl, Int.le_refl _, Nat.le_refl _⟩
  | d + 1, hd => by
    obtain ⟨h1, h2, h3⟩ := goN_prefix hfit a d (by omega)
    obtain ⟨hk, hs⟩ := goN_keeps (f := f) (I := I) hfit (a + d) (by omega)
    have ht := hk.told
    obtain ⟨g1, g2, g3⟩ := go_prefix (f := f) (c := goN f (a + d) (startM f I)) (by omega)
    exact ⟨h1.trans g1, Int.le_trans h2 g2, Nat.le_trans h3 g3⟩

theorem end_prefix {f : FuncM} {I : InM} {a b : Nat} {s t : StM} {en em : EndM} (hfit : Fit f (startS f I)) (hab : a ≤ b) (hb : b ≤ 200000) (h : EndIs f I a s en) (k : EndIs f I b t em) : s.out <+: t.out ∧ s.checks ≤ t.checks ∧ s.steps ≤ t.steps := by
  obtain ⟨rfl, _⟩ := h
  obtain ⟨rfl, _⟩ := k
  obtain ⟨d, rfl⟩ : ∃ d, b = a + d := ⟨b - a, by omega⟩
  exact goN_prefix hfit a d hb

theorem end_one {f : FuncM} {I : InM} {a : Nat} {s t : StM} {en em : EndM} (h : EndIs f I a s en) (k : EndIs f I a t em) : s = t ∧ en = em := by
  obtain ⟨rfl, rfl⟩ := h
  obtain ⟨rfl, rfl⟩ := k
  exact ⟨rfl, rfl⟩

end Go.Proofs.YtncmnbchkabgaaaGreat

namespace Go.Proofs.YtncmnbchkabgaaaGreat
open Go.RowKit Go.Maps

/-- nothing was done -/
def noS : StM := ⟨fun _ => 0, [], [], [], 0, 0, []⟩

/-- how a run of any function ends -/
def Runs (f : FuncM) (I : InM) (F : Nat) (s : StM) (en : EndM) : Prop := (CheckIs f (0, 0) ∧ EndIs f I (min F 200000) s en) ∨ (¬ CheckIs f (0, 0) ∧ s = noS ∧ en = (6, 0, 0))

/-- what Run answers, as it is read -/
def RunR (f : FuncM) (I : InM) (F : Nat) (w : World) (e : Ending) (w' : World) : Prop := ∃ v s en, e = .returned v ∧ Runs f I F s en ∧ TraceR w' w'.heap.size v s en ∧ Below w.heap.size w w'

theorem noS_read (w : World) (B : Nat) : TraceR w B refusedV noS (6, 0, 0) := ⟨_, _, _, rfl, Ints.nil _ _, ⟨none, 0, rfl, by simp [noS], fun k l h => by simp [noS] at h⟩, Ints.nil _ _⟩

theorem noS_at (base : Nat) (w : World) : TraceAt base w refusedV noS (6, 0, 0) := by
  refine ⟨0, fun _ => .slice none 0 0, rfl, fun t d ht => ?_⟩
  cases t with
  | arr k => cases ht
  | _ => injection ht with ht; subst ht; exact World.ownsRow_nil _ _ _ _

theorem EndIs.bounds {f : FuncM} {I : InM} {F : Nat} {s : StM} {en : EndM} (_hs : CheckIs f (0, 0)) (h : EndIs f I (min F 200000) s en) : KeepM f I s ∧ s.steps ≤ min F 200000 := end_keeps (start_fit f I) h

/-- what Run answers, as it lies -/
def RunT (f : FuncM) (I : InM) (F : Nat) (w : World) (e : Ending) (w' : World) : Prop := ∃ v s en, e = .returned v ∧ Runs f I F s en ∧ TraceAt w.heap.size w' v s en ∧ Below w.heap.size w w'

theorem irun_laid (f : FuncM) (I : InM) (B : Nat) (pv bv av rv : Value) (F : Nat) (w : World) (hpv : Ints w B pv f.params) (hbv : BlocksR w B bv f.blocks) (hB : B ≤ w.heap.size) (hid : ∀ u ∈ usesM f, I64 u.1)
    (ha : Ints w B av I.args) (hr : ArrsR w B rv I.arrs) :
    Calls Tryz.prog 10 #[.agg #[pv, .int .i64 f.arrays, .int .i64 f.cells, bv], .agg #[av, rv], .int .i64 F] w (RunT f I F w) := by
  refine (irun_any f I B pv bv av rv F w hpv hbv hB hid ha hr).mono ?_
  rintro e w' (⟨hs, _, v, s, en, rfl, hend, htr, hb⟩ | ⟨hn, rfl, hb⟩)
  · rw [Int.toNat_natCast] at hend
    exact ⟨v, s, en, rfl, .inl ⟨hs, hend⟩, htr, hb⟩
  · have hn : ¬ CheckIs f (0, 0) := by
      rcases hn with h | h
      · exact h
      · omega
    exact ⟨_, noS, _, rfl, .inr ⟨hn, rfl, rfl⟩, noS_at _ _, hb⟩

theorem Runs.short {f : FuncM} {I : InM} {F : Nat} {s : StM} {en : EndM} (h : Runs f I F s en) : s.out.length ≤ 4096 ∧ s.arrs.length ≤ 8 ∧ (∀ l ∈ s.arrs, l.length ≤ 4096) ∧ s.vis.length ≤ 512 ∧ s.steps ≤ min F 200000 ∧ 0 ≤ s.checks ∧ (s.out.length : Int) + s.checks ≤ s.steps := by
  rcases h with ⟨hs, hend⟩ | ⟨_, rfl, _⟩
  · obtain ⟨hk, hst⟩ := hend.bounds hs
    obtain ⟨_, _, _, h8, h5⟩ := strict_bounds hs
    have hf := hk.fit
    exact ⟨hf.out, by have := hf.arrs; omega, hk.short, by have := hf.vis; omega, hst, hk.told.1, hk.told.2⟩
  · exact ⟨Nat.zero_le _, Nat.zero_le _, fun l hl => by simp [noS] at hl, Nat.zero_le _, Nat.zero_le _, Int.le_refl _, Int.le_refl _⟩

theorem Runs.reads {f : FuncM} {I : InM} {F : Nat} {s : StM} {en : EndM} {base : Nat} {w : World} {v : Value} (h : Runs f I F s en) (ht : TraceAt base w v s en) : TraceR w w.heap.size v s en := by
  obtain ⟨h1, h2, h3, h4, _⟩ := h.short
  exact ht.reads (by omega) (by omega) (fun l hl => by have := h3 l hl; omega) (by omega)

theorem irun_read (f : FuncM) (I : InM) (B : Nat) (pv bv av rv : Value) (F : Nat) (w : World) (hpv : Ints w B pv f.params) (hbv : BlocksR w B bv f.blocks) (hB : B ≤ w.heap.size) (hid : ∀ u ∈ usesM f, I64 u.1)
    (ha : Ints w B av I.args) (hr : ArrsR w B rv I.arrs) :
    Calls Tryz.prog 10 #[.agg #[pv, .int .i64 f.arrays, .int .i64 f.cells, bv], .agg #[av, rv], .int .i64 F] w (RunR f I F w) := by
  refine (irun_laid f I B pv bv av rv F w hpv hbv hB hid ha hr).mono ?_
  rintro e w' ⟨v, s, en, rfl, h1, h2, h3⟩
  exact ⟨v, s, en, rfl, h1, h1.reads h2, h3⟩

theorem Runs.more {f : FuncM} {I : InM} {a b : Nat} {s t : StM} {en em : EndM} (hab : a ≤ b) (hb : b ≤ 200000) (h : Runs f I a s en) (k : Runs f I b t em) :
    (en.1 ≠ 3 → s = t ∧ en = em) ∧ (en.1 = 3 → s.steps = a ∧ a ≤ t.steps ∧ s.out <+: t.out ∧ s.checks ≤ t.checks) := by
  rcases h with ⟨hs, h⟩ | ⟨hn, rfl, rfl⟩
  · rcases k with ⟨_, k⟩ | ⟨kn, _⟩
    · rw [Nat.min_eq_left (by omega)] at h k
      refine ⟨fun hne => end_more hab h k hne, fun h3 => ?_⟩
      have h1 := (end_none h h3).1
      obtain ⟨p1, p2, p3⟩ := end_prefix (start_fit f I) hab hb h k
      exact ⟨h1, by omega, p1, p2⟩
    · exact absurd hs kn
  · rcases k with ⟨ks, _⟩ | ⟨_, rfl, rfl⟩
    · exact absurd ks hn
    · exact ⟨fun _ => ⟨rfl, rfl⟩, fun h => absurd h (by decide)⟩

end Go.Proofs.YtncmnbchkabgaaaGreat

namespace Go.Proofs.YtncmnbchkabgaaaGreat
open Go.ChangeShapes Go.WideShapes Go.ChangeAt Go.RowKit Go.Deep
section
variable {H : Type} {enc : TypeId × Value → H} {w : World}

theorem bytes22 : Tryz.prog.bytesOf 22 = 24 := by kernel_rfl
theorem cellsI : Tryz.prog.cellsOf 26 = 1 := by kernel_rfl
theorem cellsIn : Tryz.prog.cellsOf 28 = 2 := by kernel_rfl

theorem rd_cap {fuel : Nat} {v : Value} {x : DataW H × List MemPlace} (h : Rd enc w fuel 22 [v] x) : ∀ A n c, v = .slice A n c → n ≤ c := by
  intro A n c e
  rcases open_ints Tryz.underlying22 Tryz.underlying3 cells3 h with ⟨hv, _⟩ | ⟨a, len', cap', zs, hv, _, hl, hm, hz, _⟩
  · injection hv with hv
    subst hv
    injection e with _ e1 e2
    omega
  · injection hv with hv
    subst hv
    injection e with _ e1 e2
    simp only [if_true] at hz
    omega

theorem rd_lists {fuel : Nat} {v : Value} {x : DataW H × List MemPlace} (h : Rd enc w fuel 26 [v] x) (hs : Sz 26 x.1) : ∃ xs, ArrsR w w.heap.size v xs := by
  obtain ⟨A, n, cap, rfl, hn, hk⟩ := rd_slice Tryz.underlying26 cells22 (by rw [bytes22]; omega) (by omega) h hs
  obtain ⟨xs, hl, hps⟩ := list_choose (α := List Int) (R := fun k l => ∃ b off lv, A = some ⟨b, off, none⟩ ∧ b < w.heap.size ∧ w.cell? ⟨b, off + k, none⟩ = some lv ∧ Ints w w.heap.size lv l ∧ ∀ A2 n2 c2, lv = .slice A2 n2 c2 → n2 ≤ c2) n (fun k hlt => by
      obtain ⟨b, off, cs, f, y, hA, hb, hlen, hc, hr, hz⟩ := hk k hlt
      obtain ⟨c0, rfl⟩ : ∃ c0, cs = [c0] := by
        match cs, hlen with
        | [a], _ => exact ⟨a, rfl⟩
      obtain ⟨l, hi, _⟩ := rd_ints hr hz
      exact ⟨l, b, off, c0, hA, hb, by have := hc 0 (by omega); rw [Nat.mul_one, Nat.add_zero] at this; exact this, hi, rd_cap hr⟩)
  subst hl
  exact ⟨xs, A, cap, rfl, hn, fun k l hk => hps k l hk⟩

/-- an input that lies in memory as it was handed in -/
structure InIn (w : World) (I : InM) (av rv : Value) : Prop where
  args : Ints w w.heap.size av I.args
  arrs : ArrsR w w.heap.size rv I.arrs

set_option maxRecDepth 100000 in
/-- the argument of type Input, opened -/
theorem open_input {ts : List TypeId} {ds : List (DataW H)} {base : Nat} {v : Value} {d : DataW H} {p : List MemPlace} (hok : Value.okWide Tryz.prog w .any base 28 v) (h : DataW.Trod enc Tryz.prog w 0 (fun _ => true) true 28 v d p)
    (hsz : (DataW.weightsEach Tryz.prog ts ds).all (· ≤ reachBytes) = true) {j : Nat} (ht : ts[j]? = some 28) (hd : ds[j]? = some d) :
    ∃ (I : InM) (av rv : Value), v = .agg #[av, rv] ∧ InIn w I av rv := by
  obtain ⟨cs, rfl, _⟩ := okWide_struct Tryz.underlying28 hok
  obtain ⟨fuel, hf⟩ := h
  have hs : Sz 28 d := by
    intro n hn
    have h1 := List.all_eq_true.1 hsz n (DataW.weights_mem_each ht hd n hn)
    rw [decide_eq_true_eq] at h1
    exact h1
  have hf' : Rd enc w fuel 28 cs.toList (d, p) := hf
  obtain ⟨ys, n, _, hx, hlen, _, hg⟩ := DataW.trod_struct Tryz.underlying28 hf'
  rw [cellsIn] at hlen
  obtain ⟨l, hl⟩ : ∃ l, l = cs.toList := ⟨_, rfl⟩
  rw [← hl] at hlen hf'
  obtain ⟨c0, c1, rfl⟩ : ∃ c0 c1, l = [c0, c1] := by
    match l, hlen with
    | [a, b], _ => exact ⟨a, b, rfl⟩
  obtain ⟨n0, y0, r0, z0⟩ := rd_field1 Tryz.underlying28 hf' hs 0 rfl 22 rfl 0 rfl cells22 rfl
  obtain ⟨n1, y1, r1, z1⟩ := rd_field1 Tryz.underlying28 hf' hs 1 rfl 26 rfl 1 rfl cellsI rfl
  obtain ⟨xs, hxs, _⟩ := rd_ints r0 z0
  obtain ⟨ls, hls⟩ := rd_lists r1 z1
  refine ⟨⟨xs, ls⟩, c0, c1, ?_, hxs, hls⟩
  congr 1
  rw [← Array.toArray_toList (xs := cs), ← hl]
end
end Go.Proofs.YtncmnbchkabgaaaGreat

namespace Go.Proofs.YtncmnbchkabgaaaGreat
open Go.ChangeShapes Go.WideShapes Go.ChangeAt Go.RowKit Go.Deep
section
variable {H : Type} {enc : TypeId × Value → H} {w : World}

theorem bulk_one (d : DataW H) : 1 ≤ Rows.uptoBulk d := by
  cases d with
  | lit l => cases l <;> simp [Rows.uptoBulk]
  | nil => simp [Rows.uptoBulk]
  | ptr d => simp [Rows.uptoBulk]
  | slice elems spare => simp [Rows.uptoBulk]
  | agg parts => simp [Rows.uptoBulk]
  | iface t d => simp [Rows.uptoBulk]
  | map entries => simp [Rows.uptoBulk]
  | held h => simp [Rows.uptoBulk]
theorem bulk_part {d : DataW H} {l : List (DataW H)} (h : d ∈ l) : Rows.uptoBulk d ≤ Rows.uptoBulkAll l := by
  induction l with
  | nil => cases h
  | cons x r ih =>
    simp only [Rows.uptoBulkAll]
    cases List.mem_cons.1 h with
    | inl e => subst e; omega
    | inr e => have := ih e; omega
theorem bulk_length (l : List (DataW H)) : l.length ≤ Rows.uptoBulkAll l := by
  induction l with
  | nil => simp [Rows.uptoBulkAll]
  | cons x r ih => have := bulk_one x; simp only [Rows.uptoBulkAll, List.length_cons]; omega
theorem bulk_slice (es sp : List (DataW H)) : es.length ≤ Rows.uptoBulk (.slice es sp) := by
  have := bulk_length es
  simp only [Rows.uptoBulk]
  omega
theorem bulk_agg {ps : List (DataW H)} {d : DataW H} (h : d ∈ ps) : Rows.uptoBulk d ≤ Rows.uptoBulk (.agg ps) := by
  have := bulk_part h
  simp only [Rows.uptoBulk]
  omega

theorem bulk_list {t e : TypeId} (ht : Tryz.prog.underlying t = some (.slice e)) {fuel : Nat} {A : Option Addr} {n c : Nat} {x : DataW H × List MemPlace} (h : Rd enc w fuel t [.slice A n c] x) : n ≤ Rows.uptoBulk x.1 := by
  rcases open_slice ht h with ⟨hv, _⟩ | ⟨a, len, cap, m, k, D, Pl, hv, _, hl, hm, hmm, hx, hi⟩
  · injection hv with hv
    injection hv with _ e1 _
    omega
  · injection hv with hv
    injection hv with _ e1 _
    rw [hx, e1]
    have h2 := bulk_slice ((List.range len).map D) ((List.range (m - len)).map fun j => D (len + j))
    rw [List.length_map, List.length_range] at h2
    exact h2

theorem rd_field1B {t : TypeId} {fs : Array Field} (ht : Tryz.prog.underlying t = some (.struct fs)) {fuel : Nat} {cs : List Value} {x : DataW H × List MemPlace} (h : Rd enc w fuel t cs x) (j : Nat) {f : Field} (hf : fs[j]? = some f)
    (ft : TypeId) (h1 : f.type = ft) (off : Nat) (h2 : f.offset = off) (hc : Tryz.prog.cellsOf ft = 1) {v : Value} (hv : cs[off]? = some v) : ∃ n y, Rd enc w n ft [v] y ∧ Rows.uptoBulk y.1 ≤ Rows.uptoBulk x.1 := by
  subst h1 h2
  obtain ⟨ys, n, _, hx, _, hlen, hg⟩ := DataW.trod_struct ht h
  have h1 := hg j f hf
  have hj : j < ys.length := by rw [hlen]; exact (Array.getElem?_eq_some_iff.1 hf).1
  rw [List.getElem?_eq_getElem hj] at h1
  refine ⟨n, ys[j], ?_, ?_⟩
  · rw [hc, drop_take_one hv] at h1
    exact h1
  · rw [hx]
    exact bulk_agg (List.mem_map.2 ⟨_, List.getElem_mem hj, rfl⟩)

theorem bulk_ints {w : World} {v : Value} {xs : List Int} {B : Nat} (h : Ints w B v xs) {fuel : Nat} {x : DataW H × List MemPlace} (hr : Rd enc w fuel 22 [v] x) : xs.length ≤ Rows.uptoBulk x.1 := by
  obtain ⟨A, c, rfl, _⟩ := h
  exact bulk_list Tryz.underlying22 hr
theorem bulk_arrs {w : World} {v : Value} {xs : List (List Int)} {B : Nat} (h : ArrsR w B v xs) {fuel : Nat} {x : DataW H × List MemPlace} (hr : Rd enc w fuel 26 [v] x) : xs.length ≤ Rows.uptoBulk x.1 := by
  obtain ⟨A, c, rfl, _⟩ := h
  exact bulk_list Tryz.underlying26 hr

set_option maxRecDepth 100000 in
/-- the lists of an input are no longer than all that is read of it -/
theorem bulk_input {I : InM} {av rv : Value} {d : DataW H} {p : List MemPlace} (h : DataW.Trod enc Tryz.prog w 0 (fun _ => true) true 28 (.agg #[av, rv]) d p) (hI : InIn w I av rv) :
    I.args.length ≤ Rows.uptoBulk d ∧ I.arrs.length ≤ Rows.uptoBulk d := by
  obtain ⟨fuel, hf⟩ := h
  have hf' : Rd enc w fuel 28 [av, rv] (d, p) := hf
  obtain ⟨n0, y0, r0, z0⟩ := rd_field1B Tryz.underlying28 hf' 0 rfl 22 rfl 0 rfl cells22 rfl
  obtain ⟨n1, y1, r1, z1⟩ := rd_field1B Tryz.underlying28 hf' 1 rfl 26 rfl 1 rfl cellsI rfl
  exact ⟨Nat.le_trans (bulk_ints hI.args r0) z0, Nat.le_trans (bulk_arrs hI.arrs r1) z1⟩
theorem bulk_nums {v : Value} {xs : List Int} {B : Nat} {d : DataW H} {p : List MemPlace} (h : DataW.Trod enc Tryz.prog w 0 (fun _ => true) true 22 v d p) (hx : Ints w B v xs) : xs.length ≤ Rows.uptoBulk d := by
  obtain ⟨fuel, hf⟩ := h
  have hx' := hx
  obtain ⟨A, c, rfl, _⟩ := hx'
  exact bulk_ints hx (x := (d, p)) hf
end
end Go.Proofs.YtncmnbchkabgaaaGreat

namespace Go.Proofs.YtncmnbchkabgaaaGreat
open Go.RowKit

inductive Tag
  | params
  | blocks
  | phis (k : Nat)
  | code (k : Nat)
  | ends (k : Nat)
  | fr (k i : Nat)
  | vals (k i : Nat)
  | args (k i : Nat)
  deriving DecidableEq

/-- a row as data -/
structure RowD where
  elem : TypeId
  size : Nat
  len : Nat
  cells : List Value

def intsRow (xs : List Int) : RowD := ⟨3, 1, xs.length, xs.map (Value.int .i64)⟩

def cellsOf {α : Type} (g : Nat → α → List Value) : Nat → List α → List Value
  | _, [] => []
  | i, a :: r => g i a ++ cellsOf g (i + 1) r

abbrev Vals := Tag → Value

def phiCells (val : Vals) (k i : Nat) (p : PhiM) : List Value := [.int .i64 p.id, .int .i64 p.typ, val (.fr k i), val (.vals k i)]
def instrCells (val : Vals) (k i : Nat) (x : InstrM) : List Value := [.int .i64 x.op, .int .i64 x.id, val (.args k i), .int .i64 x.n]
def blockCells (val : Vals) (k : Nat) (b : BlockM) : List Value := [val (.phis k), val (.code k), .int .i64 b.term.op, .int .i64 b.term.val, val (.ends k), .int .i64 b.term.n]

def rowOf (f : FuncM) (val : Vals) : Tag → Option RowD
  | .params => some (intsRow f.params)
  | .blocks => some ⟨53, 6, f.blocks.length, cellsOf (blockCells val) 0 f.blocks⟩
  | .phis k => f.blocks[k]?.map fun b => ⟨92, 4, b.phis.length, cellsOf (phiCells val k) 0 b.phis⟩
  | .code k => f.blocks[k]?.map fun b => ⟨59, 4, b.code.length, cellsOf (instrCells val k) 0 b.code⟩
  | .ends k => f.blocks[k]?.map fun b => intsRow b.term.to
  | .fr k i => (f.blocks[k]?.bind fun b => b.phis[i]?).map fun p => intsRow p.fr
  | .vals k i => (f.blocks[k]?.bind fun b => b.phis[i]?).map fun p => intsRow p.vals
  | .args k i => (f.blocks[k]?.bind fun b => b.code[i]?).map fun x => intsRow x.args

section
variable {α : Type} {g g' : Nat → α → List Value} {s : Nat}

theorem cellsOf_len (hs : ∀ i a, (g i a).length = s) : ∀ (l : List α) (i : Nat), (cellsOf g i l).length = l.length * s := by
  intro l
  induction l with
  | nil => intro i; simp [cellsOf]
  | cons a l ih => intro i; rw [cellsOf, List.length_append, hs, ih, List.length_cons]; rw [Nat.add_mul]; omega

theorem cellsOf_at (hs : ∀ i a, (g i a).length = s) : ∀ (l : List α) (i k r : Nat) (a : α), l[k]? = some a → r < s → (cellsOf g i l)[k * s + r]? = (g (i + k) a)[r]? := by
  intro l
  induction l with
  | nil => intro i k r a h; simp at h
  | cons b l ih =>
    intro i k r a h hr
    rw [cellsOf]
    cases k with
    | zero =>
      simp at h
      subst h
      rw [List.getElem?_append_left (by rw [hs]; omega)]
      simp
    | succ k =>
      rw [List.getElem?_append_right (by rw [hs, Nat.add_mul]; omega), hs]
      have := ih (i + 1) k r a (by simpa using h) hr
      rw [show (k + 1) * s + r - s = k * s + r by rw [Nat.add_mul]; omega, this]
      congr 2
      omega

theorem cellsOf_congr : ∀ (l : List α) (i : Nat), (∀ k a, l[k]? = some a → g (i + k) a = g' (i + k) a) → cellsOf g i l = cellsOf g' i l := by
  intro l
  induction l with
  | nil => intro i _; rfl
  | cons a l ih =>
    intro i h
    rw [cellsOf, cellsOf, ih (i + 1) (fun k b hb => by have := h (k + 1) b (by simpa using hb); rwa [show i + (k + 1) = i + 1 + k by omega] at this)]
    rw [show g i a = g' i a from by simpa using h 0 a rfl]

theorem cellsOf_div (hs : ∀ i a, (g i a).length = s) {l : List α} {j : Nat} {u : Value} (h : (cellsOf g 0 l)[j]? = some u) : ∃ k r a, j = k * s + r ∧ r < s ∧ l[k]? = some a ∧ (g k a)[r]? = some u := by
  have hj := (List.getElem?_eq_some_iff.1 h).1
  rw [cellsOf_len hs] at hj
  have hs0 : 0 < s := Nat.pos_of_ne_zero fun e => by subst e; simp at hj
  have hk : j / s < l.length := (Nat.div_lt_iff_lt_mul hs0).2 hj
  have hr := Nat.mod_lt j hs0
  have e : j = j / s * s + j % s := by rw [Nat.mul_comm]; exact (Nat.div_add_mod j s).symm
  refine ⟨j / s, j % s, _, e, hr, List.getElem?_eq_getElem hk, ?_⟩
  have h2 := cellsOf_at hs l 0 (j / s) (j % s) _ (List.getElem?_eq_getElem hk) hr
  rw [← e, h] at h2
  rw [Nat.zero_add] at h2
  exact h2.symm
end

/-- how a row is read -/
def RowR (w : World) (B : Nat) (v : Value) (d : RowD) : Prop :=
  ∃ A c, v = .slice A d.len c ∧ d.len ≤ 140737488351232 ∧ ∀ j u, d.cells[j]? = some u → ∃ b off, A = some ⟨b, off, none⟩ ∧ b < B ∧ w.cell? ⟨b, off + j, none⟩ = some u

/-- all rows of a function can be read -/
def RdF (w : World) (B : Nat) (f : FuncM) (val : Vals) : Prop := ∀ t d, rowOf f val t = some d → RowR w B (val t) d

theorem RowR.keeps {w w' : World} {B : Nat} {v : Value} {d : RowD} (h : RowR w B v d) (hk : Keeps B w w') : RowR w' B v d := by
  obtain ⟨A, c, rfl, hm, hx⟩ := h
  refine ⟨A, c, rfl, hm, fun j u hu => ?_⟩
  obtain ⟨b, off, rfl, hb, hc⟩ := hx j u hu
  exact ⟨b, off, rfl, hb, (hk _ _ hb).trans hc⟩

theorem RowR.more {w : World} {B B' : Nat} {v : Value} {d : RowD} (h : RowR w B v d) (hB : B ≤ B') : RowR w B' v d := by
  obtain ⟨A, c, rfl, hm, hx⟩ := h
  refine ⟨A, c, rfl, hm, fun j u hu => ?_⟩
  obtain ⟨b, off, rfl, hb, hc⟩ := hx j u hu
  exact ⟨b, off, rfl, by omega, hc⟩

theorem RdF.keeps {w w' : World} {B : Nat} {f : FuncM} {val : Vals} (h : RdF w B f val) (hk : Keeps B w w') : RdF w' B f val := fun t d hd => (h t d hd).keeps hk
theorem RdF.more {w : World} {B B' : Nat} {f : FuncM} {val : Vals} (h : RdF w B f val) (hB : B ≤ B') : RdF w B' f val := fun t d hd => (h t d hd).more hB

theorem RowR.ints {w : World} {B : Nat} {v : Value} {xs : List Int} (h : RowR w B v (intsRow xs)) : Ints w B v xs := by
  obtain ⟨A, c, rfl, hm, hx⟩ := h
  refine ⟨A, c, rfl, hm, fun k hk => ?_⟩
  obtain ⟨b, off, hA, hb, hc⟩ := hx k (.int .i64 xs[k]) (by show (xs.map _)[k]? = _; rw [List.getElem?_map, List.getElem?_eq_getElem hk]; rfl)
  exact ⟨b, off, hA, hb, by rw [hc, List.getElem?_eq_getElem hk]; rfl⟩

theorem Ints.row {w : World} {B : Nat} {v : Value} {xs : List Int} (h : Ints w B v xs) : RowR w B v (intsRow xs) := by
  obtain ⟨A, c, rfl, hm, hx⟩ := h
  refine ⟨A, c, rfl, hm, fun j u hu => ?_⟩
  have hu' : (xs.map (Value.int .i64))[j]? = some u := hu
  rw [List.getElem?_map] at hu'
  cases hj : xs[j]? with
  | none => rw [hj] at hu'; cases hu'
  | some x =>
    rw [hj] at hu'
    cases hu'
    obtain ⟨b, off, hA, hb, hc⟩ := hx j (List.getElem?_eq_some_iff.1 hj).1
    exact ⟨b, off, hA, hb, by rw [hc, hj]; rfl⟩

/-- numbers that fit -/
structure FnFits (f : FuncM) : Prop where
  phi : ∀ b ∈ f.blocks, ∀ p ∈ b.phis, I64 p.id ∧ I64 p.typ
  code : ∀ b ∈ f.blocks, ∀ x ∈ b.code, I64 x.op ∧ I64 x.id ∧ I64 x.n
  term : ∀ b ∈ f.blocks, I64 b.term.op ∧ I64 b.term.val ∧ I64 b.term.n

theorem phiCells_len (val : Vals) (k : Nat) : ∀ i p, (phiCells val k i p).length = 4 := fun _ _ => rfl
theorem instrCells_len (val : Vals) (k : Nat) : ∀ i p, (instrCells val k i p).length = 4 := fun _ _ => rfl
theorem blockCells_len (val : Vals) : ∀ i p, (blockCells val i p).length = 6 := fun _ _ => rfl

section
variable {w : World} {B : Nat} {f : FuncM} {val : Vals}

theorem RdF.params (h : RdF w B f val) : Ints w B (val .params) f.params := (h .params _ rfl).ints

theorem RdF.phis (h : RdF w B f val) (hf : FnFits f) {k : Nat} {b : BlockM} (hb : f.blocks[k]? = some b) : PhisR w B (val (.phis k)) b.phis := by
  obtain ⟨A, c, hv, hm, hx⟩ := h (.phis k) _ (by simp only [rowOf, hb]; rfl)
  rw [hv]
  refine ⟨A, c, rfl, hm, fun i p hp => ?_⟩
  have hat : ∀ r u, r < 4 → (phiCells val k i p)[r]? = some u → ∃ b off, A = some ⟨b, off, none⟩ ∧ b < B ∧ w.cell? ⟨b, off + (i * 4 + r), none⟩ = some u := fun r u hr hu => hx (i * 4 + r) u (by
    have := cellsOf_at (phiCells_len val k) b.phis 0 i r p hp hr
    rw [Nat.zero_add] at this
    exact this.trans hu)
  obtain ⟨g, off, rfl, hg, c0⟩ := hat 0 _ (by omega) rfl
  obtain ⟨_, _, e, _, c1⟩ := hat 1 _ (by omega) rfl
  cases e
  obtain ⟨_, _, e, _, c2⟩ := hat 2 _ (by omega) rfl
  cases e
  obtain ⟨_, _, e, _, c3⟩ := hat 3 _ (by omega) rfl
  cases e
  have hp2 : (f.blocks[k]?.bind fun b => b.phis[i]?) = some p := by rw [hb]; exact hp
  exact ⟨g, off, _, _, rfl, hg, c0, c1, c2, c3, (h (.fr k i) _ (by simp only [rowOf, hp2]; rfl)).ints, (h (.vals k i) _ (by simp only [rowOf, hp2]; rfl)).ints, hf.phi b (List.mem_of_getElem? hb) p (List.mem_of_getElem? hp)⟩

theorem RdF.code (h : RdF w B f val) (hf : FnFits f) {k : Nat} {b : BlockM} (hb : f.blocks[k]? = some b) : CodeR w B (val (.code k)) b.code := by
  obtain ⟨A, c, hv, hm, hx⟩ := h (.code k) _ (by simp only [rowOf, hb]; rfl)
  rw [hv]
  refine ⟨A, c, rfl, hm, fun i p hp => ?_⟩
  have hat : ∀ r u, r < 4 → (instrCells val k i p)[r]? = some u → ∃ b off, A = some ⟨b, off, none⟩ ∧ b < B ∧ w.cell? ⟨b, off + (i * 4 + r), none⟩ = some u := fun r u hr hu => hx (i * 4 + r) u (by
    have := cellsOf_at (instrCells_len val k) b.code 0 i r p hp hr
    rw [Nat.zero_add] at this
    exact this.trans hu)
  obtain ⟨g, off, rfl, hg, c0⟩ := hat 0 _ (by omega) rfl
  obtain ⟨_, _, e, _, c1⟩ := hat 1 _ (by omega) rfl
  cases e
  obtain ⟨_, _, e, _, c2⟩ := hat 2 _ (by omega) rfl
  cases e
  obtain ⟨_, _, e, _, c3⟩ := hat 3 _ (by omega) rfl
  cases e
  have hp2 : (f.blocks[k]?.bind fun b => b.code[i]?) = some p := by rw [hb]; exact hp
  exact ⟨g, off, _, rfl, hg, c0, c1, c2, c3, (h (.args k i) _ (by simp only [rowOf, hp2]; rfl)).ints, hf.code b (List.mem_of_getElem? hb) p (List.mem_of_getElem? hp)⟩

theorem RdF.blocks (h : RdF w B f val) (hf : FnFits f) : BlocksR w B (val .blocks) f.blocks := by
  obtain ⟨A, c, hv, hm, hx⟩ := h .blocks _ rfl
  rw [hv]
  refine ⟨A, c, rfl, hm, fun k b hb => ?_⟩
  have hat : ∀ r u, r < 6 → (blockCells val k b)[r]? = some u → ∃ b off, A = some ⟨b, off, none⟩ ∧ b < B ∧ w.cell? ⟨b, off + (k * 6 + r), none⟩ = some u := fun r u hr hu => hx (k * 6 + r) u (by
    have := cellsOf_at (blockCells_len val) f.blocks 0 k r b hb hr
    rw [Nat.zero_add] at this
    exact this.trans hu)
  obtain ⟨g, off, rfl, hg, c0⟩ := hat 0 _ (by omega) rfl
  obtain ⟨_, _, e, _, c1⟩ := hat 1 _ (by omega) rfl
  cases e
  obtain ⟨_, _, e, _, c2⟩ := hat 2 _ (by omega) rfl
  cases e
  obtain ⟨_, _, e, _, c3⟩ := hat 3 _ (by omega) rfl
  cases e
  obtain ⟨_, _, e, _, c4⟩ := hat 4 _ (by omega) rfl
  cases e
  obtain ⟨_, _, e, _, c5⟩ := hat 5 _ (by omega) rfl
  cases e
  have ht := hf.term b (List.mem_of_getElem? hb)
  exact ⟨g, off, _, _, _, rfl, hg, c0, c1, c2, c3, c4, c5, h.phis hf hb, h.code hf hb, (h (.ends k) _ (by simp only [rowOf, hb]; rfl)).ints, ht⟩
end

/-- what is in the block that is read fits -/
theorem BlocksR.fits {w : World} {B : Nat} {v : Value} {f : FuncM} (h : BlocksR w B v f.blocks) : FnFits f := by
  obtain ⟨A, c, _, _, hx⟩ := h
  refine ⟨fun b hb p hp => ?_, fun b hb x hx2 => ?_, fun b hb => ?_⟩
  · obtain ⟨k, hk⟩ := List.getElem?_of_mem hb
    obtain ⟨_, _, _, _, _, _, _, _, _, _, _, _, _, hph, _⟩ := hx k b hk
    obtain ⟨_, _, _, _, hpx⟩ := hph
    obtain ⟨i, hi⟩ := List.getElem?_of_mem hp
    obtain ⟨_, _, _, _, _, _, _, _, _, _, _, _, r⟩ := hpx i p hi
    exact r
  · obtain ⟨k, hk⟩ := List.getElem?_of_mem hb
    obtain ⟨_, _, _, _, _, _, _, _, _, _, _, _, _, _, hco, _⟩ := hx k b hk
    obtain ⟨_, _, _, _, hcx⟩ := hco
    obtain ⟨i, hi⟩ := List.getElem?_of_mem hx2
    obtain ⟨_, _, _, _, _, _, _, _, _, _, r⟩ := hcx i x hi
    exact r
  · obtain ⟨k, hk⟩ := List.getElem?_of_mem hb
    obtain ⟨_, _, _, _, _, _, _, _, _, _, _, _, _, _, _, _, r⟩ := hx k b hk
    exact r

end Go.Proofs.YtncmnbchkabgaaaGreat

namespace Go.Proofs.YtncmnbchkabgaaaGreat
open Go.RowKit

theorem phi_info : (Tryz.prog.info? 92).map (fun i => (i.zero, i.size, i.bytes)) = some (some (.agg #[.int .i64 0, .int .i64 0, .slice none 0 0, .slice none 0 0]), 4, 64) := by kernel_rfl
theorem instr_info : (Tryz.prog.info? 59).map (fun i => (i.zero, i.size, i.bytes)) = some (some (.agg #[.int .i64 0, .int .i64 0, .slice none 0 0, .int .i64 0]), 4, 48) := by kernel_rfl
theorem block_info : (Tryz.prog.info? 53).map (fun i => (i.zero, i.size, i.bytes)) = some (some (.agg #[.slice none 0 0, .slice none 0 0, .int .i64 0, .int .i64 0, .slice none 0 0, .int .i64 0]), 6, 96) := by kernel_rfl

def ListPost (e0 : TypeId) (s : Nat) (d : RowD) (w : World) (e : Ending) (w' : World) : Prop :=
  ∃ v', e = .returned v' ∧ w'.ownsRow w.heap.size e0 s v' d.len d.cells ∧ Below w.heap.size w w'

set_option maxRecDepth 100000 in
set_option maxHeartbeats 1000000 in
theorem listInt_any (d : RowD) (B : Nat) (v : Value) (w : World) (hx : RowR w B v d) (hl : d.cells.length = d.len * 1) (hn : d.len ≤ 100000) (h1 : ∀ u ∈ d.cells, u.oneCell' = true) :
    Calls Tryz.prog 124 #[v] w (ListPost 3 1 d w) := by
  obtain ⟨A, c, rfl, hm, hcell⟩ := hx
  have HC := hideI hcell
  have HL := hideI hl
  have H1 := hideI h1
  obtain ⟨n, hN⟩ : ∃ n, n = d.len := ⟨_, rfl⟩
  have HN := hideI hN
  rw [← hN] at hn hl ⊢
  obtain ⟨i0, hix, hz0, hz1, hz2⟩ := info_parts int_info
  clear hcell h1
  rcases Nat.eq_zero_or_pos n with rfl | hpos
  · have hnil : d.cells = [] := List.eq_nil_of_length_eq_zero (by omega)
    have HNIL := hideI hnil
    have hpure : Sem.run Tryz.prog (pure (#[] : Array Value)) w = .ok #[] w := rfl
    clear hl hN hnil
    cases A
    all_goals
      go_enter Tryz.func124, Tryz.ntmps124
      go_wp2
      go_ret
      exact ⟨.slice none 0 0, rfl, by rw [HNIL.out, ← HN.out]; exact World.ownsRow_nil _ _ _ _, Below.refl _ _⟩
  · obtain ⟨u, hu⟩ : ∃ u, d.cells[0]? = some u := ⟨_, List.getElem?_eq_getElem (by omega)⟩
    obtain ⟨b, off, rfl, hb, _⟩ := HC.out 0 u hu
    have HR : Hid (∀ j u, d.cells[j]? = some u → w.cell? ((⟨b, off, none⟩ : Addr).add j) = some u) := fun j u hu => by
      obtain ⟨b', off', e, _, h⟩ := HC.out j u hu
      cases e
      rw [Go.WideShapes.add_plain]
      exact h
    have HLN : Hid (d.cells.length = n * 1) := hl
    clear hu hl hN
    go_enter Tryz.func124, Tryz.ntmps124
    go_wp2_with (at_builtin; go_must (refine wpList_append_own _ rfl _ _ _ rfl w.heap.size 3 i0 _ 1 8 Tryz.underlying22 hix hz0 hz1 hz2 rfl (by decide) _ 0 [] rfl (World.ownsRow_nil _ _ _ _) ⟨b, off, none⟩ n c d.cells rfl HLN.out HR.out H1.out (by unfold maxLen; omega) (by omega) (Nat.le_refl _) ?_); intro v1 w1 hown1 hg1 _; have HO1 := hideI hown1; have HG1 := hideI hg1; clear hown1 hg1)
    go_ret
    refine ⟨v1, rfl, ?_, ⟨HG1.out.os, HG1.out.tape, HG1.out.output, HG1.out.size, fun k hk => HG1.out.block k hk (fun e => by simp [Value.ownBlock, Act.eval] at e)⟩⟩
    have := HO1.out
    rw [Nat.zero_add, List.nil_append] at this
    rw [← HN.out]
    exact this

set_option maxRecDepth 100000 in
set_option maxHeartbeats 1000000 in
theorem listPhi_any (d : RowD) (B : Nat) (v : Value) (w : World) (hx : RowR w B v d) (hl : d.cells.length = d.len * 4) (hn : d.len ≤ 100000) (h1 : ∀ u ∈ d.cells, u.oneCell' = true) :
    Calls Tryz.prog 164 #[v] w (ListPost 92 4 d w) := by
  obtain ⟨A, c, rfl, hm, hcell⟩ := hx
  have HC := hideI hcell
  have HL := hideI hl
  have H1 := hideI h1
  obtain ⟨n, hN⟩ : ∃ n, n = d.len := ⟨_, rfl⟩
  have HN := hideI hN
  rw [← hN] at hn hl ⊢
  obtain ⟨i0, hix, hz0, hz1, hz2⟩ := info_parts phi_info
  clear hcell h1
  rcases Nat.eq_zero_or_pos n with rfl | hpos
  · have hnil : d.cells = [] := List.eq_nil_of_length_eq_zero (by omega)
    have HNIL := hideI hnil
    have hpure : Sem.run Tryz.prog (pure (#[] : Array Value)) w = .ok #[] w := rfl
    clear hl hN hnil
    cases A
    all_goals
      go_enter Tryz.func164, Tryz.ntmps164
      go_wp2
      go_ret
      exact ⟨.slice none 0 0, rfl, by rw [HNIL.out, ← HN.out]; exact World.ownsRow_nil _ _ _ _, Below.refl _ _⟩
  · obtain ⟨u, hu⟩ : ∃ u, d.cells[0]? = some u := ⟨_, List.getElem?_eq_getElem (by omega)⟩
    obtain ⟨b, off, rfl, hb, _⟩ := HC.out 0 u hu
    have HR : Hid (∀ j u, d.cells[j]? = some u → w.cell? ((⟨b, off, none⟩ : Addr).add j) = some u) := fun j u hu => by
      obtain ⟨b', off', e, _, h⟩ := HC.out j u hu
      cases e
      rw [Go.WideShapes.add_plain]
      exact h
    have HLN : Hid (d.cells.length = n * 4) := hl
    clear hu hl hN
    go_enter Tryz.func164, Tryz.ntmps164
    go_wp2_with (at_builtin; go_must (refine wpList_append_own _ rfl _ _ _ rfl w.heap.size 92 i0 _ 4 64 Tryz.underlying48 hix hz0 hz1 hz2 rfl (by decide) _ 0 [] rfl (World.ownsRow_nil _ _ _ _) ⟨b, off, none⟩ n c d.cells rfl HLN.out HR.out H1.out (by unfold maxLen; omega) (by omega) (Nat.le_refl _) ?_); intro v1 w1 hown1 hg1 _; have HO1 := hideI hown1; have HG1 := hideI hg1; clear hown1 hg1)
    go_ret
    refine ⟨v1, rfl, ?_, ⟨HG1.out.os, HG1.out.tape, HG1.out.output, HG1.out.size, fun k hk => HG1.out.block k hk (fun e => by simp [Value.ownBlock, Act.eval] at e)⟩⟩
    have := HO1.out
    rw [Nat.zero_add, List.nil_append] at this
    rw [← HN.out]
    exact this

set_option maxRecDepth 100000 in
set_option maxHeartbeats 1000000 in
theorem listInstr_any (d : RowD) (B : Nat) (v : Value) (w : World) (hx : RowR w B v d) (hl : d.cells.length = d.len * 4) (hn : d.len ≤ 100000) (h1 : ∀ u ∈ d.cells, u.oneCell' = true) :
    Calls Tryz.prog 165 #[v] w (ListPost 59 4 d w) := by
  obtain ⟨A, c, rfl, hm, hcell⟩ := hx
  have HC := hideI hcell
  have HL := hideI hl
  have H1 := hideI h1
  obtain ⟨n, hN⟩ : ∃ n, n = d.len := ⟨_, rfl⟩
  have HN := hideI hN
  rw [← hN] at hn hl ⊢
  obtain ⟨i0, hix, hz0, hz1, hz2⟩ := info_parts instr_info
  clear hcell h1
  rcases Nat.eq_zero_or_pos n with rfl | hpos
  · have hnil : d.cells = [] := List.eq_nil_of_length_eq_zero (by omega)
    have HNIL := hideI hnil
    have hpure : Sem.run Tryz.prog (pure (#[] : Array Value)) w = .ok #[] w := rfl
    clear hl hN hnil
    cases A
    all_goals
      go_enter Tryz.func165, Tryz.ntmps165
      go_wp2
      go_ret
      exact ⟨.slice none 0 0, rfl, by rw [HNIL.out, ← HN.out]; exact World.ownsRow_nil _ _ _ _, Below.refl _ _⟩
  · obtain ⟨u, hu⟩ : ∃ u, d.cells[0]? = some u := ⟨_, List.getElem?_eq_getElem (by omega)⟩
    obtain ⟨b, off, rfl, hb, _⟩ := HC.out 0 u hu
    have HR : Hid (∀ j u, d.cells[j]? = some u → w.cell? ((⟨b, off, none⟩ : Addr).add j) = some u) := fun j u hu => by
      obtain ⟨b', off', e, _, h⟩ := HC.out j u hu
      cases e
      rw [Go.WideShapes.add_plain]
      exact h
    have HLN : Hid (d.cells.length = n * 4) := hl
    clear hu hl hN
    go_enter Tryz.func165, Tryz.ntmps165
    go_wp2_with (at_builtin; go_must (refine wpList_append_own _ rfl _ _ _ rfl w.heap.size 59 i0 _ 4 48 Tryz.underlying49 hix hz0 hz1 hz2 rfl (by decide) _ 0 [] rfl (World.ownsRow_nil _ _ _ _) ⟨b, off, none⟩ n c d.cells rfl HLN.out HR.out H1.out (by unfold maxLen; omega) (by omega) (Nat.le_refl _) ?_); intro v1 w1 hown1 hg1 _; have HO1 := hideI hown1; have HG1 := hideI hg1; clear hown1 hg1)
    go_ret
    refine ⟨v1, rfl, ?_, ⟨HG1.out.os, HG1.out.tape, HG1.out.output, HG1.out.size, fun k hk => HG1.out.block k hk (fun e => by simp [Value.ownBlock, Act.eval] at e)⟩⟩
    have := HO1.out
    rw [Nat.zero_add, List.nil_append] at this
    rw [← HN.out]
    exact this

set_option maxRecDepth 100000 in
set_option maxHeartbeats 1000000 in
theorem listBlock_any (d : RowD) (B : Nat) (v : Value) (w : World) (hx : RowR w B v d) (hl : d.cells.length = d.len * 6) (hn : d.len ≤ 100000) (h1 : ∀ u ∈ d.cells, u.oneCell' = true) :
    Calls Tryz.prog 125 #[v] w (ListPost 53 6 d w) := by
  obtain ⟨A, c, rfl, hm, hcell⟩ := hx
  have HC := hideI hcell
  have HL := hideI hl
  have H1 := hideI h1
  obtain ⟨n, hN⟩ : ∃ n, n = d.len := ⟨_, rfl⟩
  have HN := hideI hN
  rw [← hN] at hn hl ⊢
  obtain ⟨i0, hix, hz0, hz1, hz2⟩ := info_parts block_info
  clear hcell h1
  rcases Nat.eq_zero_or_pos n with rfl | hpos
  · have hnil : d.cells = [] := List.eq_nil_of_length_eq_zero (by omega)
    have HNIL := hideI hnil
    have hpure : Sem.run Tryz.prog (pure (#[] : Array Value)) w = .ok #[] w := rfl
    clear hl hN hnil
    cases A
    all_goals
      go_enter Tryz.func125, Tryz.ntmps125
      go_wp2
      go_ret
      exact ⟨.slice none 0 0, rfl, by rw [HNIL.out, ← HN.out]; exact World.ownsRow_nil _ _ _ _, Below.refl _ _⟩
  · obtain ⟨u, hu⟩ : ∃ u, d.cells[0]? = some u := ⟨_, List.getElem?_eq_getElem (by omega)⟩
    obtain ⟨b, off, rfl, hb, _⟩ := HC.out 0 u hu
    have HR : Hid (∀ j u, d.cells[j]? = some u → w.cell? ((⟨b, off, none⟩ : Addr).add j) = some u) := fun j u hu => by
      obtain ⟨b', off', e, _, h⟩ := HC.out j u hu
      cases e
      rw [Go.WideShapes.add_plain]
      exact h
    have HLN : Hid (d.cells.length = n * 6) := hl
    clear hu hl hN
    go_enter Tryz.func125, Tryz.ntmps125
    go_wp2_with (at_builtin; go_must (refine wpList_append_own _ rfl _ _ _ rfl w.heap.size 53 i0 _ 6 96 Tryz.underlying23 hix hz0 hz1 hz2 rfl (by decide) _ 0 [] rfl (World.ownsRow_nil _ _ _ _) ⟨b, off, none⟩ n c d.cells rfl HLN.out HR.out H1.out (by unfold maxLen; omega) (by omega) (Nat.le_refl _) ?_); intro v1 w1 hown1 hg1 _; have HO1 := hideI hown1; have HG1 := hideI hg1; clear hown1 hg1)
    go_ret
    refine ⟨v1, rfl, ?_, ⟨HG1.out.os, HG1.out.tape, HG1.out.output, HG1.out.size, fun k hk => HG1.out.block k hk (fun e => by simp [Value.ownBlock, Act.eval] at e)⟩⟩
    have := HO1.out
    rw [Nat.zero_add, List.nil_append] at this
    rw [← HN.out]
    exact this

end Go.Proofs.YtncmnbchkabgaaaGreat

namespace Go.Proofs.YtncmnbchkabgaaaGreat
open Go.RowKit

def ListPost' (e0 : TypeId) (s : Nat) (d : RowD) (w : World) (e : Ending) (w' : World) : Prop :=
  ∃ A c, e = .returned (.slice A d.len c) ∧ w'.ownsRow w.heap.size e0 s (.slice A d.len c) d.len d.cells ∧ Below w.heap.size w w'

theorem ListPost.form {e0 : TypeId} {s : Nat} {d : RowD} {w w' : World} {e : Ending} (h : ListPost e0 s d w e w') : ListPost' e0 s d w e w' := by
  obtain ⟨v, rfl, hown, hb⟩ := h
  rcases hown.2 with ⟨hv, h0⟩ | ⟨g, cap, cur, hv, _⟩
  · exact ⟨none, 0, by rw [hv, h0], by rw [h0] at hown ⊢; rw [← hv]; exact hown, hb⟩
  · exact ⟨_, _, by rw [hv], by rw [← hv]; exact hown, hb⟩

theorem free_row' {w w' : World} {g : Nat} {cs : Array Value} {t : TypeId} (h : w.heap[g]? = some (.cells cs t (0, 0))) (hk : w'.heap[g]? = w.heap[g]?) : ∀ o, w'.frozen? ⟨g, o, none⟩ = false := by
  intro o
  simp [World.frozen?, hk, h]

def upd {α : Type} (g : Tag → α) (t0 : Tag) (a : α) : Tag → α := fun t => if t = t0 then a else g t

theorem upd_same {α : Type} (g : Tag → α) (t0 : Tag) (a : α) : upd g t0 a t0 = a := by unfold upd; rw [if_pos rfl]
theorem upd_ne {α : Type} (g : Tag → α) {t0 t : Tag} (a : α) (h : t ≠ t0) : upd g t0 a t = g t := by unfold upd; rw [if_neg h]

abbrev Rows := Tag → Option RowD

structure OwnG (w : World) (base : Nat) (row : Rows) (val : Vals) (D : Tag → Prop) : Prop where
  has : ∀ t, D t → (row t).isSome = true
  rows : ∀ t d, D t → row t = some d → w.ownsRow base d.elem d.size (val t) d.len d.cells
  apart : ∀ t t' g, D t → D t' → (val t).ownBlock = some g → (val t').ownBlock = some g → t = t'

variable {w w1 : World} {base : Nat} {row : Rows} {val : Vals} {D : Tag → Prop}

theorem OwnG.nothing (w : World) (base : Nat) (row : Rows) (val : Vals) : OwnG w base row val (fun _ => False) := ⟨fun _ h => h.elim, fun _ _ h => h.elim, fun _ _ _ h => h.elim⟩

theorem OwnG.lt (h : OwnG w base row val D) {t : Tag} {g : Nat} (ht : D t) (hg : (val t).ownBlock = some g) : base ≤ g ∧ g < w.heap.size := by
  obtain ⟨d, hd⟩ := Option.isSome_iff_exists.1 (h.has t ht)
  exact (h.rows t d ht hd).lt g hg

theorem OwnG.kept (h : OwnG w base row val D) (hk : ∀ b, base ≤ b → b < w.heap.size → w1.heap[b]? = w.heap[b]?) : OwnG w1 base row val D := by
  refine ⟨h.has, fun t d ht hd => ?_, h.apart⟩
  have h0 := h.rows t d ht hd
  refine ⟨h0.1, ?_⟩
  rcases h0.2 with h2 | ⟨g, cap, cur, hv, hb, hg, r⟩
  · exact .inl h2
  · exact .inr ⟨g, cap, cur, hv, hb, (hk g hb (Array.getElem?_eq_some_iff.1 hg).1).trans hg, r⟩

theorem OwnG.below (h : OwnG w base row val D) (hb : Below w.heap.size w w1) : OwnG w1 base row val D := h.kept fun b _ hl => hb.block b hl

theorem OwnG.other (h : OwnG w base row val D) {a : Addr} {u : Value} (ha : ∀ t, D t → (val t).ownBlock ≠ some a.block) : OwnG (w.setCell a u) base row val D :=
  ⟨h.has, fun t d ht hd => ownsRow_setCell_other (h.rows t d ht hd) (ha t ht) u, h.apart⟩

theorem OwnG.congr {row' : Rows} {val' : Vals} {D' : Tag → Prop} (h : OwnG w base row val D) (hr : ∀ t, D' t → row' t = row t) (hv : ∀ t, D' t → val' t = val t) (hD : ∀ t, D' t → D t) : OwnG w base row' val' D' :=
  ⟨fun t ht => by rw [hr t ht]; exact h.has t (hD t ht), fun t d ht hd => by rw [hv t ht]; exact h.rows t d (hD t ht) (by rw [← hr t ht]; exact hd),
    fun t t' g ht ht' h1 h2 => h.apart t t' g (hD t ht) (hD t' ht') (by rw [← hv t ht]; exact h1) (by rw [← hv t' ht']; exact h2)⟩

theorem OwnG.add {t0 : Tag} {d : RowD} {v : Value} (h : OwnG w base row val D) (hn : ¬ D t0) (hb : Below w.heap.size w w1) (hown : w1.ownsRow w.heap.size d.elem d.size v d.len d.cells) (hbase : base ≤ w.heap.size) :
    OwnG w1 base (upd row t0 (some d)) (upd val t0 v) (fun t => D t ∨ t = t0) := by
  have h1 := h.below hb
  refine ⟨fun t ht => ?_, fun t d' ht hd => ?_, fun t t' g ht ht' e1 e2 => ?_⟩
  · by_cases e : t = t0
    · subst e; rw [upd_same]; rfl
    · rw [upd_ne _ _ e]; exact h.has t (ht.resolve_right e)
  · by_cases e : t = t0
    · subst e
      rw [upd_same] at hd ⊢
      cases hd
      exact World.ownsRow.mono hown hbase
    · rw [upd_ne _ _ e] at hd ⊢
      exact h1.rows t d' (ht.resolve_right e) hd
  · by_cases e : t = t0
    · by_cases e' : t' = t0
      · rw [e, e']
      · subst e
        rw [upd_same] at e1
        rw [upd_ne _ _ e'] at e2
        have := (hown.lt g e1).1
        have := (h.lt (ht'.resolve_right e') e2).2
        omega
    · by_cases e' : t' = t0
      · subst e'
        rw [upd_same] at e2
        rw [upd_ne _ _ e] at e1
        have := (hown.lt g e2).1
        have := (h.lt (ht.resolve_right e) e1).2
        omega
      · rw [upd_ne _ _ e] at e1
        rw [upd_ne _ _ e'] at e2
        exact h.apart t t' g (ht.resolve_right e) (ht'.resolve_right e') e1 e2

theorem OwnG.set {tp : Tag} {d : RowD} {g n cap j : Nat} {u : Value} (h : OwnG w base row val D) (hp : D tp) (hd : row tp = some d) (hv : val tp = .slice (some ⟨g, 0, none⟩) n cap) (hn : d.len = n) :
    OwnG (w.setCell ⟨g, j, none⟩ u) base (upd row tp (some { d with cells := d.cells.set j u })) val D := by
  have h0 := h.rows tp d hp hd
  rw [hv, hn] at h0
  have hs := h0.stored j u
  have hg : (val tp).ownBlock = some g := by rw [hv]; rfl
  refine ⟨fun t ht => ?_, fun t d' ht hd' => ?_, h.apart⟩
  · by_cases e : t = tp
    · subst e; rw [upd_same]; rfl
    · rw [upd_ne _ _ e]; exact h.has t ht
  · by_cases e : t = tp
    · subst e
      rw [upd_same] at hd'
      cases hd'
      rw [hv, hn]
      exact hs.1
    · rw [upd_ne _ _ e] at hd'
      refine (h.rows t d' ht hd').kept hs.2 (.inr fun e2 => e (h.apart t tp g ht hp e2 hg))

/-- a cell of an owned row -/
theorem OwnG.cell {tp : Tag} {d : RowD} {g n cap j : Nat} (h : OwnG w base row val D) (hp : D tp) (hd : row tp = some d) (hv : val tp = .slice (some ⟨g, 0, none⟩) n cap) (hn : d.len = n) (hj : j < n * d.size) :
    w.cell? ⟨g, j, none⟩ = d.cells[j]? ∧ w.frozen? ⟨g, j, none⟩ = false := by
  have h0 := h.rows tp d hp hd
  rw [hv, hn] at h0
  exact ⟨World.ownsRow.cellAt h0 j hj, World.ownsRow.frozenAt h0 j⟩

theorem OwnG.slice {tp : Tag} {d : RowD} (h : OwnG w base row val D) (hp : D tp) (hd : row tp = some d) (h0 : 0 < d.len) : ∃ g cap, val tp = .slice (some ⟨g, 0, none⟩) d.len cap ∧ base ≤ g ∧ g < w.heap.size :=
  (h.rows tp d hp hd).form h0

/-- which block a tag's row is of -/
def blkOf : Tag → Option Nat
  | .params => none
  | .blocks => none
  | .phis k => some k
  | .code k => some k
  | .ends k => some k
  | .fr k _ => some k
  | .vals k _ => some k
  | .args k _ => some k

theorem rowOf_some (f : FuncM) (val val' : Vals) (t : Tag) : (rowOf f val t).isSome = (rowOf f val' t).isSome := by
  cases t <;> simp [rowOf]

section
variable {α : Type} {g g' : Nat → α → List Value} {s : Nat}

theorem cellsOf_set (hs : ∀ i a, (g i a).length = s) (hs' : ∀ i a, (g' i a).length = s) {l : List α} {i r : Nat} {u : Value} (_hi : i < l.length) (hr : r < s) (h1 : ∀ k a, l[k]? = some a → k ≠ i → g' k a = g k a) (h2 : ∀ a, l[i]? = some a → g' i a = (g i a).set r u) :
    (cellsOf g 0 l).set (i * s + r) u = cellsOf g' 0 l := by
  apply List.ext_getElem?
  intro j
  by_cases hj : j < l.length * s
  · have hs0 : 0 < s := by omega
    have hk : j / s < l.length := (Nat.div_lt_iff_lt_mul hs0).2 hj
    have hm := Nat.mod_lt j hs0
    have e : j = j / s * s + j % s := by rw [Nat.mul_comm]; exact (Nat.div_add_mod j s).symm
    obtain ⟨a, ha⟩ : ∃ a, l[j / s]? = some a := ⟨_, List.getElem?_eq_getElem hk⟩
    have c1 := cellsOf_at hs l 0 (j / s) (j % s) _ ha hm
    have c2 := cellsOf_at hs' l 0 (j / s) (j % s) _ ha hm
    rw [← e, Nat.zero_add] at c1 c2
    rw [c2]
    by_cases ek : j / s = i
    · rw [ek] at ha c1 ⊢
      rw [h2 _ ha]
      by_cases er : j % s = r
      · have ej : j = i * s + r := by rw [← ek, ← er]; exact e
        rw [ej, List.getElem?_set_self (by rw [cellsOf_len hs]; rw [← ej]; exact hj), ← ej, er, List.getElem?_set_self (by rw [hs]; exact hr)]
      · have hne : i * s + r ≠ j := fun e2 => er (by rw [← e2, Nat.add_comm, Nat.add_mul_mod_self_right]; exact Nat.mod_eq_of_lt hr)
        rw [List.getElem?_set_ne hne, List.getElem?_set_ne (fun e2 => er e2.symm)]
        exact c1
    · have hne : i * s + r ≠ j := fun e2 => ek (by rw [← e2, Nat.add_comm, Nat.add_mul_div_right _ _ hs0, Nat.div_eq_of_lt hr, Nat.zero_add])
      rw [List.getElem?_set_ne hne, c1, h1 _ _ ha ek]
  · rw [List.getElem?_eq_none (by rw [List.length_set, cellsOf_len hs]; omega), List.getElem?_eq_none (by rw [cellsOf_len hs']; omega)]
end

theorem cellsOf_push {α : Type} {g g' : Nat → α → List Value} : ∀ (l : List α) (i : Nat) (a : α), (∀ k b, l[k]? = some b → g (i + k) b = g' (i + k) b) → cellsOf g i (l ++ [a]) = cellsOf g' i l ++ g (i + l.length) a := by
  intro l
  induction l with
  | nil => intro i a _; simp [cellsOf]
  | cons b l ih =>
    intro i a h
    rw [List.cons_append, cellsOf, cellsOf, ih (i + 1) a (fun k c hc => by have := h (k + 1) c (by simpa using hc); rwa [show i + (k + 1) = i + 1 + k by omega] at this)]
    rw [show g i b = g' i b from by simpa using h 0 b rfl, List.length_cons, List.append_assoc, show i + 1 + l.length = i + (l.length + 1) by omega]

/-- a row that grows -/
theorem OwnG.grow {w w1 : World} {base : Nat} {row : Rows} {val : Vals} {D : Tag → Prop} {t0 : Tag} {d : RowD} {v : Value} {g1 : Nat} (h : OwnG w base row val D) (ht0 : D t0) (hown : w1.ownsRow base d.elem d.size v d.len d.cells) (hg : w.grownBy w1 (val t0).ownBlock)
    (hv : v.ownBlock = some g1) (hor : (val t0).ownBlock = some g1 ∨ g1 = w.heap.size) : OwnG w1 base (upd row t0 (some d)) (upd val t0 v) D := by
  refine ⟨fun t ht => ?_, fun t d' ht hd => ?_, fun t t' g ht ht' e1 e2 => ?_⟩
  · by_cases e : t = t0
    · subst e; rw [upd_same]; rfl
    · rw [upd_ne _ _ e]; exact h.has t ht
  · by_cases e : t = t0
    · subst e; rw [upd_same] at hd ⊢; cases hd; exact hown
    · rw [upd_ne _ _ e] at hd ⊢
      cases ho : (val t).ownBlock with
      | none => exact (h.rows t d' ht hd).kept hg (.inl ho)
      | some b => exact (h.rows t d' ht hd).kept hg (.inr fun e2 => e (h.apart t t0 b ht ht0 ho (e2.symm.trans ho)))
  · by_cases e : t = t0
    · by_cases e' : t' = t0
      · rw [e, e']
      · subst e
        rw [upd_same, hv] at e1
        rw [upd_ne _ _ e'] at e2
        cases e1
        rcases hor with h1 | h1
        · exact h.apart t t' _ ht0 ht' h1 e2
        · have := (h.lt ht' e2).2; omega
    · by_cases e' : t' = t0
      · subst e'
        rw [upd_same, hv] at e2
        rw [upd_ne _ _ e] at e1
        cases e2
        rcases hor with h1 | h1
        · exact h.apart t t' _ ht ht0 e1 h1
        · have := (h.lt ht e1).2; omega
      · rw [upd_ne _ _ e] at e1
        rw [upd_ne _ _ e'] at e2
        exact h.apart t t' g ht ht' e1 e2

end Go.Proofs.YtncmnbchkabgaaaGreat

namespace Go.Proofs.YtncmnbchkabgaaaGreat
open Go.RowKit

theorem append_none (w : World) (g c ty : Nat) (_hpure : Sem.run Tryz.prog (pure (#[] : Array Value)) w = .ok #[] w) : (Builtin.append_ #[22, 22] ty #[.slice (some ⟨g, 0, none⟩) 0 0, .slice none 0 c]).run Tryz.prog w = .ok (.slice (some ⟨g, 0, none⟩) 0 0) w := by
  go_simp

set_option maxRecDepth 100000 in
/-- the law of the copy -/
theorem run_copy (w : World) (B g ty : Nat) (v : Value) (xs : List Int) (hi : Ints w B v xs) (hg : w.heap[g]? = some (.cells #[] 3 (0, 0))) (hn : xs.length ≤ 100000) (base : Nat) (hb : base ≤ g) :
    ∃ A' c' w', (Builtin.append_ #[22, 22] ty #[.slice (some ⟨g, 0, none⟩) 0 0, v]).run Tryz.prog w = .ok (.slice A' xs.length c') w' ∧ w'.ownsRow base 3 1 (.slice A' xs.length c') xs.length (xs.map (Value.int .i64)) ∧ w.grownBy w' (some g) ∧
      (∀ k, (Value.slice A' xs.length c').ownBlock = some k → k = g ∨ k = w.heap.size) := by
  have hgl : g < w.heap.size := (Array.getElem?_eq_some_iff.1 hg).1
  have hown0 : w.ownsRow base 3 1 (.slice (some ⟨g, 0, none⟩) 0 0) 0 [] := ⟨rfl, .inr ⟨g, 0, #[], rfl, hb, hg, Nat.le_refl _, by unfold maxLen; omega, rfl, rfl⟩⟩
  obtain ⟨A, c, rfl, _, hat⟩ := hi
  cases A with
  | none =>
    have h0 : xs.length = 0 := by
      rcases Nat.eq_zero_or_pos xs.length with h | h
      · exact h
      · obtain ⟨_, _, e, _⟩ := hat 0 h
        cases e
    have hx : xs = [] := List.eq_nil_of_length_eq_zero h0
    subst hx
    exact ⟨_, _, w, append_none w g c ty rfl, hown0, World.grownBy.refl w (some g), fun k hk => .inl (by simpa [Value.ownBlock] using hk.symm)⟩
  | some ad =>
    obtain ⟨i0, hix, hz0, hz1, hz2⟩ := info_parts int_info
    have hnews : ∀ j u, (xs.map (Value.int .i64))[j]? = some u → w.cell? (ad.add j) = some u := fun j u hu => by
      rw [List.getElem?_map] at hu
      cases hj : xs[j]? with
      | none => rw [hj] at hu; cases hu
      | some y =>
        rw [hj] at hu
        injection hu with hu
        obtain ⟨b, off, e, _, hc⟩ := hat j (List.getElem?_eq_some_iff.1 hj).1
        injection e with e
        subst e
        rw [Go.WideShapes.add_plain, hc, hj, ← hu]
        rfl
    obtain ⟨v', w', hr, h2, h3, _, h5⟩ := run_append_own_at (P := Tryz.prog) w base 22 ty 3 i0 _ 1 8 Tryz.underlying22 hix hz0 hz1 hz2 rfl (by decide) _ 0 [] hown0 ad xs.length c (xs.map (Value.int .i64)) (by simp) hnews (fun u hu => by
      obtain ⟨y, _, rfl⟩ := List.mem_map.1 hu
      rfl) (by unfold maxLen; omega) (by omega) (by omega)
    rw [Nat.zero_add, List.nil_append] at h2
    obtain ⟨A', c', rfl⟩ : ∃ A' c', v' = .slice A' xs.length c' := by
      rcases h2.2 with ⟨e, e0⟩ | ⟨g2, cap, cur, e, _⟩
      · exact ⟨none, 0, by rw [e, e0]⟩
      · exact ⟨_, _, e⟩
    refine ⟨A', c', w', hr, h2, h3, fun k hk => ?_⟩
    rcases h5 with h5 | h5
    · rw [h5] at hk
      exact .inl (by simpa [Value.ownBlock] using hk.symm)
    · rw [h5] at hk
      exact .inr (by simpa using hk.symm)

/-- at a plain region's list -/
theorem wpList_copy {ops : Array Oper} {rest : List Oper} {o : Oper} {a : Act} {Q : Exit → Act → World → Prop} {w : World} (hgd : o.guard = none) (s x : Operand) (ho : o.op = .call { callee := .builtin .append, args := #[s, x], argTypes := #[22, 22] })
    (B g : Nat) (v : Value) (xs : List Int) (hs : a.eval s = .slice (some ⟨g, 0, none⟩) 0 0) (hx : a.eval x = v) (hi : Ints w B v xs) (hg : w.heap[g]? = some (.cells #[] 3 (0, 0))) (hn : xs.length ≤ 100000) (base : Nat) (hb : base ≤ g)
    (h : ∀ A' c' w', w'.ownsRow base 3 1 (.slice A' xs.length c') xs.length (xs.map (Value.int .i64)) → w.grownBy w' (some g) → (∀ k, (Value.slice A' xs.length c').ownBlock = some k → k = g ∨ k = w.heap.size) → wpList Tryz.prog ops Q rest (a.put o.dst (.slice A' xs.length c')) w') : wpList Tryz.prog ops Q (o :: rest) a w :=
  wpList_plain hgd fun _ hK => by
    obtain ⟨A', c', w', hr, h1, h2, h3⟩ := run_copy w B g o.type v xs hi hg hn base hb
    unfold Oper.wp execOp
    simp only [ho, resolve, invoke, builtin, Sem.run_bind, Sem.run_pure, Result.andThen_ok, List.map_toArray, List.map_cons, List.map_nil, hs, hx, hr]
    exact hK _ _ (h A' c' w' h1 h2 h3)
end Go.Proofs.YtncmnbchkabgaaaGreat
