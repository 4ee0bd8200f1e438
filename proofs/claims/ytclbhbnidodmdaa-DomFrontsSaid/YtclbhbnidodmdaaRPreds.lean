/- The reference's Preds; SameLists of lists that are the same. -/
import Derived.Test.YtclbhbnidodmdaaGOutP
import Derived.Test.YtclbhbnidodmdaaRefFormed
import Derived.Deep.QuietTactic
import Derived.BigQuiet
namespace Go.Proofs.Ytclbhbnidodmdaa
open Go.RowKit Go.Maps

/-- the reference's lists: those of blocks before t are done; of t, what comes from the first b -/
def predsRow (bs : List BlockM) (n t b : Nat) : List (List Nat) := (List.range n).map fun u => if u < t then predsTo bs n u else if u = t then predsTo bs b u else []

theorem predsRow_at {bs : List BlockM} {n t b u : Nat} (h : u < n) : (predsRow bs n t b)[u]? = some (if u < t then predsTo bs n u else if u = t then predsTo bs b u else []) := by
  unfold predsRow
  rw [List.getElem?_map, List.getElem?_eq_getElem (by simpa using h)]
  simp

theorem predsRow_zero (bs : List BlockM) (n : Nat) : predsRow bs n 0 0 = (List.range n).map fun _ => [] := by
  unfold predsRow
  apply List.map_congr_left
  intro u _
  rw [if_neg (by omega)]
  split
  · simp [predsTo]
  · rfl

theorem predsRow_skip {bs : List BlockM} {n t b : Nat} (h : t ∉ succM bs b) : predsRow bs n t (b + 1) = predsRow bs n t b := by
  unfold predsRow
  apply List.map_congr_left
  intro u _
  by_cases e : u = t
  · subst e
    rw [predsTo_succ, if_neg h, List.append_nil]
  · simp [e]

theorem predsRow_push {bs : List BlockM} {n t b : Nat} (h : t ∈ succM bs b) (htn : t < n) : (predsRow bs n t b).set t (predsTo bs b t ++ [b]) = predsRow bs n t (b + 1) := by
  apply List.ext_getElem?
  intro u
  by_cases hu : u < n
  · rw [predsRow_at hu]
    by_cases e : t = u
    · subst e
      rw [List.getElem?_set_self (by unfold predsRow; simpa using hu), if_neg (by omega), if_pos rfl, predsTo_succ, if_pos h]
    · rw [List.getElem?_set_ne e, predsRow_at hu]
      have e' : ¬ u = t := fun x => e x.symm
      simp [e']
  · rw [List.getElem?_eq_none (by rw [List.length_set]; unfold predsRow; simp; omega), List.getElem?_eq_none (by unfold predsRow; simp; omega)]

theorem predsRow_next (bs : List BlockM) (n t : Nat) : predsRow bs n t n = predsRow bs n (t + 1) 0 := by
  unfold predsRow
  apply List.map_congr_left
  intro u _
  by_cases h1 : u < t
  · rw [if_pos h1, if_pos (by omega)]
  · rw [if_neg h1]
    by_cases h2 : u = t
    · subst h2
      rw [if_pos rfl, if_pos (by omega)]
    · rw [if_neg h2, if_neg (by omega)]
      split
      · simp [predsTo]
      · rfl

theorem predsRow_last (bs : List BlockM) (n : Nat) : predsRow bs n n 0 = predsAt bs n n 0 := by
  unfold predsRow predsAt
  apply List.map_congr_left
  intro u hu
  rw [if_pos (by simpa using hu)]
  simp

theorem mem_to {bs : List BlockM} {q : BlockM} {b t : Nat} (hin : EndsIn bs) (hq : bs[b]? = some q) : ((t : Int) ∈ q.term.to) ↔ t ∈ succM bs b := by
  unfold succM
  rw [hq]
  simp only [List.mem_map]
  constructor
  · exact fun h => ⟨(t : Int), h, by simp⟩
  · rintro ⟨x, hx, he⟩
    have := hin q (List.mem_of_getElem? hq) x hx
    have e : x = (t : Int) := by omega
    exact e ▸ hx

set_option maxRecDepth 100000 in
set_option maxHeartbeats 4000000 in
theorem refPreds_any (bs : List BlockM) (B : Nat) (pv av cv bv : Value) (w : World) (hbv : BlocksR w B bv bs) (hB : B ≤ w.heap.size) (hn5 : bs.length ≤ 512) (hin : EndsIn bs) :
    Calls Try.prog 22 #[.agg #[pv, av, cv, bv]] w (PredsPost bs w) := by
  have HBL := hideI hbv
  have HIN := hideI hin
  obtain ⟨A, c, rfl, hbm, _⟩ := hbv
  obtain ⟨i0, hix, hz0, hz1, hz2⟩ := info_parts ints_info
  clear hin
  go_enter Try.func22, Try.ntmps22
  go_wp2_with (first
    | (at_make; go_must (refine wpList_make_full _ rfl _ _ 28 rfl (w.heap.size + 1) 22 i0 (.slice none 0 0) 1 Try.underlying28 hix hz0 hz1 .i64 .i64 _ _ bs.length rfl rfl rfl rfl (by rw [hz2]; omega) (by unfold maxLen; omega) (by simp) ?_); intro w1 hown1 hg1; rw [World.size_alloc] at hown1; go_must (have HL1 := hideI (Lists.made hown1); have HGB := hideI ((hg1.block w.heap.size (by simp) (by simp)).trans (heap_alloc_new w _)); have HB0 : Hid (Below w.heap.size w w1) := ((Below.refl _ _).alloc (Nat.le_refl _) _).grown hg1 (by simp) (by simp); clear hown1 hg1)))
  clear hix hz0 hz1 hz2
  rw [← predsRow_zero bs bs.length] at HL1
  go_loopw [4] (fun u wr => ∃ (t : Nat) (vs : List Value), t ≤ bs.length ∧ u = .int .i64 t ∧ Hid (Lists wr (w.heap.size + 1) (w.heap.size + 1) bs.length vs (predsRow bs bs.length t 0)) ∧ Hid (Below w.heap.size w wr) ∧ Hid (Below (w.heap.size + 1) w1 wr)) (fun u _ => bs.length - (intOf u).toNat)
  case atStart => exact ⟨0, _, Nat.zero_le _, rfl, HL1, HB0, hideI (Below.refl _ _)⟩
  case round =>
    obtain ⟨t, vs, ht, rfl, HL, HBr, HBo⟩ := hrel
    have hxr := row_cells HGB.out (HBo.out.block w.heap.size (by omega))
    have g3 := hxr 3
    clear hxr
    by_cases hlt : t < bs.length
    · go_wp2
      clear g3
      obtain ⟨wo, rfl⟩ : ∃ wo : World, wo = wr := ⟨_, rfl⟩
      go_loopw [5] (fun u wr => ∃ (b : Nat) (vs : List Value), b ≤ bs.length ∧ u = .int .i64 b ∧ Hid (Lists wr (w.heap.size + 1) (w.heap.size + 1) bs.length vs (predsRow bs bs.length t b)) ∧ Hid (Below (w.heap.size + 1) wo wr)) (fun u _ => bs.length - (intOf u).toNat)
      case atStart => exact ⟨0, vs, Nat.zero_le _, rfl, HL, hideI (Below.refl _ _)⟩
      case round =>
        obtain ⟨b, vs2, hb, rfl, HLi, HBi⟩ := hrel
        have hxr := row_cells HGB.out ((HBo.out.trans HBi.out).block w.heap.size (by omega))
        have g3 := hxr 3
        clear hxr
        by_cases hltb : b < bs.length
        · obtain ⟨q, hq⟩ : ∃ q, bs[b]? = some q := ⟨_, List.getElem?_eq_getElem hltb⟩
          obtain ⟨A', c', e0, _, hbx⟩ := (HBL.out.more' hB).keeps (Keeps.of_below (HBr.out.trans (HBi.out.mono (Nat.le_succ _))))
          cases e0
          obtain ⟨ab, off, pq, cq, tv, rfl, hab, x0, x1, x2, x3, x4, x5, _, _, htv, _⟩ := hbx b q hq
          have HTV := hideI htv
          have HMEM := hideI (mem_to (t := t) HIN.out hq)
          obtain ⟨TA, tc, rfl, htm, _⟩ := htv
          obtain ⟨v, hv⟩ : ∃ v, vs2[t]? = some v := ⟨_, List.getElem?_eq_getElem (by rw [HLi.out.vl]; exact hlt)⟩
          obtain ⟨l, hl0⟩ : ∃ l, l = predsTo bs b t := ⟨_, rfl⟩
          have hl : (predsRow bs bs.length t b)[t]? = some l := by rw [predsRow_at hlt, if_neg (by omega), if_pos rfl, hl0]
          have hll : l.length ≤ 1000 := by have := predsTo_len bs b t; rw [hl0]; omega
          have q1 : wr.cell? ⟨w.heap.size + 1, t, none⟩ = some v := by rw [World.ownsRow.cellAt HLi.out.row t (by omega)]; exact hv
          have HOWN := hideI (HLi.out.own t v l hv hl)
          have hsz := HLi.out.lt.2
          have HV := hideI hv
          have HLL := hideI hl
          have HL0 := hideI hl0
          obtain ⟨tl, htl⟩ : ∃ tl, tl = q.term.to := ⟨_, rfl⟩
          rw [← htl] at HTV HMEM x4 htm
          clear hbx hq x0 x1 x2 x3 x5 hv hl hl0 htl
          by_cases hin2 : (t : Int) ∈ tl
          · have HC : Hid (decide ((t : Int) ∈ tl) = true) := by show _ = _; simpa using hin2
            have HIN2 := hideI (HMEM.out.1 hin2)
            obtain ⟨i1, hjx, hy0, hy1, hy2⟩ := info_parts int_info
            clear hin2
            go_wp2_with (first
              | (go_at_call 39; go_must (refine (has_any _ _ _ _ _ HTV.out).mono ?_); rw [HC.out]; rintro e w2 ⟨rfl, rfl⟩)
              | (at_builtin; go_must (refine wpList_append_lies _ rfl _ _ _ rfl (w.heap.size + 1 + 1) 3 i1 (.int .i64 0) 1 8 Try.underlying22 hjx hy0 hy1 hy2 rfl (by decide) _ _ _ rfl (HOWN.out.alloc _) ⟨wr.heap.size, 0, none⟩ 1 1 [.int .i64 b] rfl rfl (one_new wr _) (by simp [Value.oneCell']) (by decide) (by simp only [maxLen]; omega) (by omega) (by simp; omega) _ rfl ?_); intro g1 cap1 w3 hown1 hgrow1 hor1 _; go_must (have HP := hideI (HLi.out.push HV.out HLL.out hown1 hgrow1 hor1); have HPB := hideI (HLi.out.pushed (u := .slice (some ⟨g1, 0, none⟩) (l.length + 1) cap1) HV.out HLL.out hgrow1 HBi.out (Nat.le_refl _)); obtain ⟨hc4, hf4⟩ := HLi.out.held HV.out HLL.out hgrow1; clear hown1 hgrow1 hor1 q1)))
            go_roundw
            case rel => exact ⟨b + 1, _, by omega, by go_num, by rw [← predsRow_push HIN2.out hlt, ← HL0.out]; exact HP, HPB⟩
            case measure => simp [intOf]; omega
          · have HC : Hid (decide ((t : Int) ∈ tl) = false) := by show _ = _; simpa using hin2
            have HIN2 := hideI (fun h => hin2 (HMEM.out.2 h))
            clear hin2
            go_wp2_with (first
              | (go_at_call 39; go_must (refine (has_any _ _ _ _ _ HTV.out).mono ?_); rw [HC.out]; rintro e w2 ⟨rfl, rfl⟩))
            go_roundw
            case rel => exact ⟨b + 1, vs2, by omega, by go_num, by rw [predsRow_skip HIN2.out]; exact HLi, HBi⟩
            case measure => simp [intOf]; omega
        · have hbn : b = bs.length := by omega
          rw [hbn, predsRow_next] at HLi
          clear hbn
          go_wp2
          go_roundw
          case rel => exact ⟨t + 1, vs2, by omega, by go_num, HLi, hideI (HBr.out.trans (HBi.out.mono (Nat.le_succ _))), hideI (HBo.out.trans HBi.out)⟩
          case measure => simp [intOf]; omega
    · have hkn : t = bs.length := by omega
      rw [hkn, predsRow_last] at HL
      clear hkn
      go_wp2
      go_ret
      exact ⟨_, vs, rfl, ⟨HL.out.vl, HL.out.ll, World.ownsRow.mono HL.out.row (by omega), HL.out.own, HL.out.apart⟩, HBr.out⟩

set_option maxRecDepth 100000 in
set_option maxHeartbeats 2000000 in
/-- two lists of lists that are the same -/
theorem sameLists_yes (w : World) (b1 b2 g1 g2 n : Nat) (vs us : List Value) (ls : List (List Nat)) (h1 : Lists w b1 g1 n vs ls) (h2 : Lists w b2 g2 n us ls) (hl : ∀ l ∈ ls, l.length ≤ 1000) (hn5 : n ≤ 100000) :
    Calls Try.prog 21 #[.slice (some ⟨g1, 0, none⟩) n n, .slice (some ⟨g2, 0, none⟩) n n] w fun e w' => e = .returned (.bool true) ∧ ∃ m, w' = w.drewN m := by
  have H1 := hideI h1
  have H2 := hideI h2
  have HL := hideI hl
  clear h1 h2 hl
  go_enter Try.func21, Try.ntmps21
  go_wp2
  go_loopw [5] (fun u wr => ∃ k m : Nat, k ≤ n ∧ u = .int .i64 k ∧ wr = w.drewN m) (fun u _ => n - (intOf u).toNat)
  case atStart => exact ⟨0, 0, Nat.zero_le _, rfl, rfl⟩
  case round =>
    obtain ⟨k, m, hk, rfl, hwr⟩ := hrel
    have HWR := hideI hwr
    have R1 : Hid (Lists wr b1 g1 n vs ls) := by show Lists _ _ _ _ _ _; rw [hwr]; exact ⟨H1.out.vl, H1.out.ll, H1.out.row, H1.out.own, H1.out.apart⟩
    have R2 : Hid (Lists wr b2 g2 n us ls) := by show Lists _ _ _ _ _ _; rw [hwr]; exact ⟨H2.out.vl, H2.out.ll, H2.out.row, H2.out.own, H2.out.apart⟩
    clear hwr
    by_cases hlt : k < n
    · obtain ⟨v, hv⟩ : ∃ v, vs[k]? = some v := ⟨_, List.getElem?_eq_getElem (by rw [H1.out.vl]; exact hlt)⟩
      obtain ⟨u, hu⟩ : ∃ u, us[k]? = some u := ⟨_, List.getElem?_eq_getElem (by rw [H2.out.vl]; exact hlt)⟩
      obtain ⟨l, hl⟩ : ∃ l, ls[k]? = some l := ⟨_, List.getElem?_eq_getElem (by rw [H1.out.ll]; exact hlt)⟩
      have hll := HL.out l (List.mem_of_getElem? hl)
      have d1 : wr.cell? ⟨g1, k, none⟩ = some v := by rw [World.ownsRow.cellAt R1.out.row k (by omega)]; exact hv
      have d2 : wr.cell? ⟨g2, k, none⟩ = some u := by rw [World.ownsRow.cellAt R2.out.row k (by omega)]; exact hu
      have HI1 := hideI (nat_ints (R1.out.own k v l hv hl) (by omega))
      have HI2 := hideI (nat_ints (R2.out.own k u l hu hl) (by omega))
      have HC : Hid (∀ a, Calls Try.prog 23 #[v, u] (wr.drewN a) fun e w' => e = .returned (.bool true) ∧ ∃ m, w' = (wr.drewN a).drewN m) := fun a =>
        (sameInts_any (wr.drewN a) wr.heap.size _ _ _ _ (HI1.out.keeps (Keeps.heap' (Keeps.refl _) rfl)) (HI2.out.keeps (Keeps.heap' (Keeps.refl _) rfl))).mono fun e w' ⟨h1, h2⟩ => ⟨by rw [h1, beq_self_eq_true], h2⟩
      clear hv hu hl
      go_wp2
      go_quiet ((go_at_call 23; exact Calls.quiet_of (HC.out _)))
      go_wp2
      go_roundw
      case rel => exact ⟨k + 1, _, by omega, by go_num, by rw [HWR.out]; exact World.drewN_drewN ..⟩
      case measure => simp [intOf]; omega
    · go_wp2
      go_ret
      exact ⟨rfl, m, HWR.out⟩

end Go.Proofs.Ytclbhbnidodmdaa
