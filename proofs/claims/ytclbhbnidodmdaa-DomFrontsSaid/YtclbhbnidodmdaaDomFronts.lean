/- What is proved: for every function f, in whatever memory it lies, DomFronts answers true: Frontiers answers as the definition of dominance says, and its errors are Check's. No condition. -/
import Derived.Test.YtclbhbnidodmdaaRefIdoms
import Derived.Test.YtclbhbnidodmdaaDFrontiers
import Derived.Test.YtclbhbnidodmdaaRPreds
import Derived.Deep.AppendLies
import Derived.BigQuiet
import Derived.Deep.QuietTactic
import Derived.Test.YtclbhbnidodmdaaAwake4
import Derived.Test.YtclbhbnidodmdaaRefCheck
import Derived.Test.YtclbhbnidodmdaaOpen
import Derived.Test.YtclbhbnidodmdaaLaw
namespace Go.Proofs.Ytclbhbnidodmdaa
open Go.RowKit Go.Maps

/-- the lists, when all rows ahead of a are done, and b of row a -/
def rfRow (n : Nat) (F : Nat → Nat → Bool) (a b c : Nat) : List Nat := if c < a then (List.range n).filter (fun x => F c x) else if c = a then (List.range b).filter (fun x => F c x) else []
def rfRows (n : Nat) (F : Nat → Nat → Bool) (a b : Nat) : List (List Nat) := (List.range n).map (rfRow n F a b)

section
variable {n a b : Nat} {F : Nat → Nat → Bool}
theorem rfRows_at {c : Nat} (h : c < n) : (rfRows n F a b)[c]? = some (rfRow n F a b c) := by
  unfold rfRows
  rw [List.getElem?_map, List.getElem?_eq_getElem (by simpa using h)]
  simp

theorem rfRows_congr {a' b' : Nat} (h : ∀ c, c < n → rfRow n F a b c = rfRow n F a' b' c) : rfRows n F a b = rfRows n F a' b' := by
  unfold rfRows
  apply List.map_congr_left
  intro c hc
  exact h c (by simpa using hc)

theorem rfRows_zero : rfRows n F 0 0 = (List.range n).map fun _ => [] := by
  unfold rfRows rfRow
  apply List.map_congr_left
  intro c _
  simp

theorem rfRows_next : rfRows n F a n = rfRows n F (a + 1) 0 := by
  apply rfRows_congr
  intro c _
  unfold rfRow
  by_cases h1 : c < a
  · rw [if_pos h1, if_pos (by omega)]
  · by_cases h2 : c = a
    · rw [if_neg h1, if_pos h2, if_pos (by omega)]
    · rw [if_neg h1, if_neg h2, if_neg (by omega)]
      by_cases h3 : c = a + 1
      · rw [if_pos h3]; simp
      · rw [if_neg h3]

theorem rfRows_none (h : ∀ b, F a b = false) : rfRows n F a 0 = rfRows n F (a + 1) 0 := by
  rw [← rfRows_next]
  apply rfRows_congr
  intro c _
  unfold rfRow
  by_cases h1 : c < a
  · rw [if_pos h1, if_pos h1]
  · by_cases h2 : c = a
    · rw [if_neg h1, if_pos h2, if_neg h1, if_pos h2]
      subst h2
      simp [h]
    · rw [if_neg h1, if_neg h2, if_neg h1, if_neg h2]

theorem rfRows_skip (h : F a b = false) : rfRows n F a b = rfRows n F a (b + 1) := by
  apply rfRows_congr
  intro c _
  unfold rfRow
  by_cases h1 : c < a
  · rw [if_pos h1, if_pos h1]
  · by_cases h2 : c = a
    · rw [if_neg h1, if_pos h2, if_neg h1, if_pos h2]
      subst h2
      rw [List.range_succ, List.filter_append]
      simp [h]
    · rw [if_neg h1, if_neg h2, if_neg h1, if_neg h2]

theorem rfRows_push (h : F a b = true) (ha : a < n) : (rfRows n F a b).set a (rfRow n F a b a ++ [b]) = rfRows n F a (b + 1) := by
  apply List.ext_getElem?
  intro c
  by_cases hc : c < n
  · rw [rfRows_at hc]
    by_cases e : a = c
    · subst e
      rw [List.getElem?_set_self (by unfold rfRows; simpa using ha)]
      unfold rfRow
      rw [if_neg (Nat.lt_irrefl _), if_pos rfl, if_neg (Nat.lt_irrefl _), if_pos rfl, List.range_succ, List.filter_append]
      simp [h]
    · rw [List.getElem?_set_ne e, rfRows_at hc]
      unfold rfRow
      rw [if_neg (fun h2 => e h2.symm : ¬ c = a), if_neg (fun h2 => e h2.symm : ¬ c = a)]
  · rw [List.getElem?_eq_none (by rw [List.length_set]; unfold rfRows; simp; omega), List.getElem?_eq_none (by unfold rfRows; simp; omega)]

theorem rfRow_len : (rfRow n F a b a).length ≤ b := by
  unfold rfRow
  rw [if_neg (Nat.lt_irrefl _), if_pos rfl]
  have h := List.length_filter_le (fun x => F a x) (List.range b)
  rwa [List.length_range] at h

theorem rfRows_all : rfRows n F n 0 = frontRows n F n (fun _ => false) := by
  unfold rfRows frontRows
  apply List.map_congr_left
  intro c hc
  unfold rfRow frontRow
  rw [if_pos (by simpa using hc)]
  simp
end

/-- does a dominate one of the first i of l? -/
def AnyTo (G : Nat → Nat → Bool) (a : Nat) (l : List Nat) (i : Nat) (is : Bool) : Prop := is = true ↔ ∃ (j p : Nat), j < i ∧ l[j]? = some p ∧ G a p = true

theorem AnyTo.start (G : Nat → Nat → Bool) (a : Nat) (l : List Nat) : AnyTo G a l 0 false := ⟨(fun h => by cases h), fun ⟨j, p, h, _⟩ => by omega⟩

theorem AnyTo.step {G : Nat → Nat → Bool} {a i p : Nat} {l : List Nat} {is : Bool} (h : AnyTo G a l i is) (hp : l[i]? = some p) : AnyTo G a l (i + 1) (is || G a p) := by
  unfold AnyTo at *
  rw [Bool.or_eq_true, h]
  constructor
  · rintro (⟨j, q, h1, h2, h3⟩ | h1)
    · exact ⟨j, q, by omega, h2, h3⟩
    · exact ⟨i, p, by omega, hp, h1⟩
  · rintro ⟨j, q, h1, h2, h3⟩
    by_cases e : j = i
    · subst e; rw [hp] at h2; cases h2; exact .inr h3
    · exact .inl ⟨j, q, by omega, h2, h3⟩

theorem AnyTo.front {bs : List BlockM} {o : List Nat} {G F : Nat → Nat → Bool} {a b : Nat} {is : Bool} (hR : ∀ x ∈ o, x < bs.length) (hG : ∀ a b, G a b = true ↔ OverP bs o a b) (hF : ∀ a b, F a b = true ↔ FrontP bs o a b) (h : AnyTo G a (predsTo bs bs.length b) (predsTo bs bs.length b).length is) : F a b = (is && (decide (a = b) || !G a b)) := by
  have h' : is = true ↔ _ := h
  rw [Bool.eq_iff_iff, hF, Bool.and_eq_true, h']
  unfold FrontP
  have h2 : (∃ (j p : Nat), j < (predsTo bs bs.length b).length ∧ (predsTo bs bs.length b)[j]? = some p ∧ G a p = true) ↔ ∃ p, b ∈ succM bs p ∧ OverP bs o a p := by
    constructor
    · rintro ⟨j, p, _, h2, h3⟩
      exact ⟨p, (mem_preds.1 (List.mem_of_getElem? h2)).2, (hG a p).1 h3⟩
    · rintro ⟨p, h2, h3⟩
      obtain ⟨j, hj⟩ := List.getElem?_of_mem (mem_preds.2 ⟨hR p h3.2.1, h2⟩)
      exact ⟨j, p, (List.getElem?_eq_some_iff.1 hj).1, hj, (hG a p).2 h3⟩
  rw [h2]
  have h3 : ((decide (a = b) || !G a b) = true) ↔ (a = b ∨ ¬ OverP bs o a b) := by
    rw [Bool.or_eq_true, decide_eq_true_eq, Bool.not_eq_true', ← hG a b]
    simp
  rw [h3]

def RefFrontsPost (n : Nat) (F : Nat → Nat → Bool) (w : World) (e : Ending) (w' : World) : Prop :=
  ∃ (g : Nat) (vs : List Value), e = .returned (.slice (some ⟨g, 0, none⟩) n n) ∧ Lists w' w.heap.size g n vs (frontRows n F n (fun _ => false)) ∧ Below w.heap.size w w'

set_option maxRecDepth 100000 in
set_option maxHeartbeats 4000000 in
theorem refFronts_any (bs : List BlockM) (o : List Nat) (G F : Nat → Nat → Bool) (B : Nat) (pv av cv bv : Value) (w : World) (hbv : BlocksR w B bv bs) (hB : B ≤ w.heap.size) (h0 : 0 < bs.length) (hn5 : bs.length ≤ 512) (hin : EndsIn bs) (ho : OrderIs bs o) (hG : ∀ a b, G a b = true ↔ OverP bs o a b) (hF : ∀ a b, F a b = true ↔ FrontP bs o a b) :
    Calls Try.prog 36 #[.agg #[pv, av, cv, bv]] w (RefFrontsPost bs.length F w) := by
  have HBL := hideI hbv
  have HIN := hideI hin
  have HO := hideI ho
  have HG := hideI hG
  have HF := hideI hF
  have HR := hideI (ho.range hin h0)
  obtain ⟨A, c, rfl, hbm, _⟩ := hbv
  obtain ⟨W, hW⟩ : ∃ W : World, W = w.alloc (.cells #[pv, av, cv, .slice A bs.length c] 25) := ⟨_, rfl⟩
  have HBW : Hid (Below w.heap.size w W) := by show Below _ _ _; rw [hW]; exact (Below.refl _ _).alloc (Nat.le_refl _) _
  have HXW : Hid (W.heap[w.heap.size]? = some (.cells #[pv, av, cv, .slice A bs.length c] 25 (0, 0))) := by show _ = _; rw [hW]; exact heap_alloc_new w _
  have hwW : w.heap.size < W.heap.size := lt_of_heap HXW.out
  have HW0 := hideI hW
  have G0 : Hid (∀ W2, Below W.heap.size W W2 → (∀ o, W2.cell? ⟨w.heap.size, o, none⟩ = (#[pv, av, cv, .slice A bs.length c] : Array Value)[o]?) ∧ BlocksR W2 B (.slice A bs.length c) bs ∧ B ≤ W2.heap.size) := fun W2 h2 => by
    have h3 : Below w.heap.size w W2 := HBW.out.trans (h2.mono HBW.out.size)
    exact ⟨row_cells HXW.out (h2.block _ hwW), HBL.out.keeps (Keeps.of_below (h3.mono hB)), Nat.le_trans hB h3.size⟩
  obtain ⟨hx, _, _⟩ := G0.out W (Below.refl _ _)
  have q0 := hx 0
  have q1 := hx 1
  have q2 := hx 2
  have q3 := hx 3
  obtain ⟨i0, hix, hz0, hz1, hz2⟩ := info_parts ints_info
  clear hin ho hG hF hW hx
  go_enter Try.func36, Try.ntmps36
  go_upto_region 1 with fail
  rw [← HW0.out]
  clear HW0
  go_wp2_with (first
    | (go_at_call 34; go_must (refine (refOver_any bs o G B pv av cv _ _ (G0.out _ (Below.refl _ _)).2.1 (G0.out _ (Below.refl _ _)).2.2 h0 hn5 HIN.out HO.out HG.out).mono ?_); rintro e w1 ⟨gvv, rfl, hgr, hb1⟩; have HGR := hideI hgr; have HB1 := hideI hb1; clear hgr hb1 q0 q1 q2 q3; (obtain ⟨hx, _, _⟩ := G0.out _ HB1.out); have q0 := hx 0; have q1 := hx 1; have q2 := hx 2; have q3 := hx 3; clear hx)
    | (go_at_call 22; go_must (refine (refPreds_any bs B pv av cv _ _ (G0.out _ HB1.out).2.1 (G0.out _ HB1.out).2.2 hn5 HIN.out).mono ?_); rintro e w2 ⟨gp, pvs, rfl, hls, hb2⟩; have HPL := hideI hls; have HGR2 := hideI (HGR.out.kept hb2); have HB2 := hideI (HB1.out.trans (hb2.mono HB1.out.size)); clear hls hb2 q0 q1 q2 q3; (obtain ⟨hx, _, _⟩ := G0.out _ HB2.out); have q3 := hx 3; clear hx)
    | (at_make; go_must (refine wpList_make_full _ rfl _ _ 28 rfl w2.heap.size 22 i0 (.slice none 0 0) 1 Try.underlying28 hix hz0 hz1 .i64 .i64 _ _ bs.length rfl rfl rfl rfl (by rw [hz2]; omega) (by unfold maxLen; omega) (Nat.le_refl _) ?_); intro w3 hown3 hg3; go_must (have HL3 := hideI (Lists.made hown3); have HB3 : Hid (Below w2.heap.size w2 w3) := (Below.refl _ _).grown hg3 (Nat.le_refl _) (by simp); clear hown3 hg3 q3)))
  clear hix hz0 hz1 hz2
  rw [← rfRows_zero (n := bs.length) (F := F)] at HL3
  obtain ⟨gb, gc, rfl, _, _⟩ := HGR2.out
  have hsW2 : W.heap.size ≤ w2.heap.size := HB2.out.size
  have GR : Hid (∀ W2, Below w2.heap.size w2 W2 → ∀ a b, a < bs.length → b < bs.length → ∃ ga, W2.cell? ⟨gb, a, none⟩ = some (.slice (some ⟨ga, 0, none⟩) bs.length bs.length) ∧ W2.cell? ⟨ga, b, none⟩ = some (.bool (G a b))) := fun W2 h2 a b ha hb => by
    obtain ⟨gb2, gc2, e, _, hg⟩ := HGR2.out.kept h2
    cases e
    obtain ⟨ga, _, k1, k2⟩ := hg a ha
    exact ⟨ga, k1, k2 b hb⟩
  have GP : Hid (∀ W2, Below w2.heap.size w2 W2 → ∀ b, b < bs.length → ∃ v, W2.cell? ⟨gp, b, none⟩ = some v ∧ Ints W2 W2.heap.size v ((predsTo bs bs.length b).map fun (x : Nat) => (x : Int))) := fun W2 h2 b hb => by
    have h3 := HPL.out.kept h2
    obtain ⟨v, hv⟩ : ∃ v, pvs[b]? = some v := ⟨_, List.getElem?_eq_getElem (by rw [h3.vl]; exact hb)⟩
    have hl : (predsAt bs bs.length bs.length 0)[b]? = some (predsTo bs bs.length b) := by rw [predsAt_at hb]; simp
    exact ⟨v, by rw [World.ownsRow.cellAt h3.row b (by omega)]; exact hv, nat_ints (h3.own b v _ hv hl) (by have := predsTo_len bs bs.length b; omega)⟩
  go_loopw [6] (fun u6 wr => ∃ (a : Nat) (vs : List Value), a ≤ bs.length ∧ u6 = .int .i64 a ∧ Hid (Lists wr w2.heap.size w2.heap.size bs.length vs (rfRows bs.length F a 0)) ∧ Hid (Below w2.heap.size w2 wr)) (fun u6 _ => bs.length - (intOf u6).toNat)
  case atStart => exact ⟨0, _, Nat.zero_le _, rfl, HL3, HB3⟩
  case round =>
    obtain ⟨a, vs, ha, rfl, HL, HBr⟩ := hrel
    obtain ⟨hx, _, _⟩ := G0.out wr (HB2.out.trans (HBr.out.mono hsW2))
    have q3 := hx 3
    clear hx
    by_cases hlt : a < bs.length
    · cases hga : G a a with
      | false =>
        have HNONE : Hid (rfRows bs.length F a 0 = rfRows bs.length F (a + 1) 0) := rfRows_none (fun b => by
          cases hf : F a b with
          | false => rfl
          | true =>
            obtain ⟨⟨p, _, hp⟩, _⟩ := (HF.out a b).1 hf
            have := (HG.out a a).2 (OverP.refl hp.1)
            rw [hga] at this
            cases this)
        obtain ⟨ga, k1, k2⟩ := GR.out wr HBr.out a a hlt hlt
        rw [hga] at k2
        rw [HNONE.out] at HL
        clear hga
        go_wp2
        obtain ⟨wo, rfl⟩ : ∃ wo : World, wo = wr := ⟨_, rfl⟩
        go_loopw [7] (fun u7 wr => u7 = .int .i64 0 ∧ wr = wo) (fun _ _ => 0)
        case atStart => exact ⟨rfl, rfl⟩
        case round =>
          obtain ⟨rfl, rfl⟩ := hrel
          go_wp2
          go_roundw
          case rel => exact ⟨a + 1, vs, by omega, by go_num, HL, HBr⟩
          case measure => simp [intOf]; omega
      | true =>
        have HGA : Hid (G a a = true) := hga
        clear hga
        go_wp2
        clear q3
        go_loopw [7] (fun u7 wr => ∃ (b : Nat) (vs : List Value), b ≤ bs.length ∧ u7 = .int .i64 b ∧ Hid (Lists wr w2.heap.size w2.heap.size bs.length vs (rfRows bs.length F a b)) ∧ Hid (Below w2.heap.size w2 wr)) (fun u7 _ => bs.length - (intOf u7).toNat)
        case atStart => exact ⟨0, vs, Nat.zero_le _, rfl, HL, HBr⟩
        case round =>
          clear HL HBr
          obtain ⟨b, vs, hb, rfl, HL, HBr⟩ := hrel
          obtain ⟨hx, _, _⟩ := G0.out wr (HB2.out.trans (HBr.out.mono hsW2))
          have q3 := hx 3
          obtain ⟨ga, k1, k2⟩ := GR.out wr HBr.out a a hlt hlt
          rw [HGA.out] at k2
          clear hx
          by_cases hltb : b < bs.length
          · obtain ⟨pv2, hpc, hpi⟩ := GP.out wr HBr.out b hltb
            obtain ⟨l, hl⟩ : ∃ l, l = predsTo bs bs.length b := ⟨_, rfl⟩
            rw [← hl] at hpi
            have HLL := hideI hl
            obtain ⟨PA, pc2, e1, hlm, hpx⟩ := hpi
            rw [List.length_map] at e1 hpx hlm
            subst e1
            have HPX := hideI hpx
            have hgp : gp < wr.heap.size := Nat.lt_of_lt_of_le HPL.out.lt.2 HBr.out.size
            clear hl hpx
            go_wp2
            clear q3 k1 k2
            obtain ⟨wo, rfl⟩ : ∃ wo : World, wo = wr := ⟨_, rfl⟩
            go_loopw [8, 9] (fun u8 u9 wr => ∃ (i m : Nat) (is : Bool), i ≤ l.length ∧ u8 = .bool is ∧ u9 = .int .i64 i ∧ Hid (AnyTo G a l i is) ∧ wr = wo.drewN m) (fun _ u9 _ => l.length - (intOf u9).toNat)
            case atStart => exact ⟨0, 0, false, Nat.zero_le _, rfl, rfl, hideI (AnyTo.start _ _ _), rfl⟩
            case round =>
              obtain ⟨i, m, is, hi, rfl, rfl, HA, rfl⟩ := hrel
              by_cases hlti : i < l.length
              · obtain ⟨p, hp⟩ : ∃ p, l[i]? = some p := ⟨_, List.getElem?_eq_getElem hlti⟩
                have hpl : p < bs.length := by
                  have := List.mem_of_getElem? hp
                  rw [HLL.out] at this
                  exact (mem_preds.1 this).1
                obtain ⟨pb, po, rfl, _, d1⟩ := HPX.out i hlti
                rw [List.getElem?_map, hp] at d1
                simp only [Option.map_some, Option.getD_some] at d1
                obtain ⟨ga2, k1, k2⟩ := GR.out wo HBr.out a p hlt hpl
                have HST := hideI (HA.out.step hp)
                clear hp
                cases is with
                | true =>
                  clear d1 k1 k2
                  go_wp2_with fail
                  go_quiet (fail)
                  go_wp2
                  go_roundw
                  case rel => exact ⟨i + 1, _, true, by omega, by trivial, by go_num, hideI (by have := HST.out; simpa using this), rfl⟩
                  case measure => simp [intOf]; omega
                | false =>
                  obtain ⟨x, hx⟩ : ∃ x, x = G a p := ⟨_, rfl⟩
                  rw [← hx] at k2 HST
                  clear hx
                  cases x
                  all_goals
                    go_wp2_with fail
                    go_quiet (fail)
                    go_wp2
                    go_roundw
                    case rel => exact ⟨i + 1, _, _, by omega, by first | rfl | trivial, by go_num, hideI (by have := HST.out; simpa using this), rfl⟩
                    case measure => simp [intOf]; omega
              · obtain rfl : i = l.length := by omega
                have HFF : Hid (F a b = (is && (decide (a = b) || !G a b))) := by
                  have h1 := HA.out
                  rw [HLL.out] at h1
                  exact h1.front HR.out HG.out HF.out
                obtain ⟨ga2, k1, k2⟩ := GR.out wo HBr.out a b hlt hltb
                obtain ⟨wd, hwd⟩ : ∃ wd, wd = wo.drewN m := ⟨_, rfl⟩
                have HBD : Hid (Below w2.heap.size w2 wd) := by rw [hwd]; exact drew_below HBr.out m
                have HLD : Hid (Lists wd w2.heap.size w2.heap.size bs.length vs (rfRows bs.length F a b)) := by rw [hwd]; exact HL.out.kept (drew_below (Below.refl wo.heap.size wo) m)
                have hpd := ((show Below wo.heap.size wo wd by rw [hwd]; exact drew_below (Below.refl _ _) m).cell (p := ⟨gp, b, none⟩) hgp).trans hpc
                rw [← hwd]
                obtain ⟨hx, _, _⟩ := G0.out wd (HB2.out.trans (HBD.out.mono hsW2))
                have q3 := hx 3
                obtain ⟨ga3, m1, m2⟩ := GR.out wd HBD.out a b hlt hltb
                obtain ⟨va, hva⟩ : ∃ va, vs[a]? = some va := ⟨_, List.getElem?_eq_getElem (by rw [HL.out.vl]; exact hlt)⟩
                have hla := rfRows_at (F := F) (a := a) (b := b) hlt
                have HVA := hideI hva
                have HLA := hideI hla
                have hoa := HLD.out.own a va _ hva hla
                have hlen : (rfRow bs.length F a b a).length ≤ 512 := by have := rfRow_len (n := bs.length) (F := F) (a := a) (b := b); omega
                have c3 : wd.cell? ⟨w2.heap.size, a, none⟩ = some va := by rw [World.ownsRow.cellAt HLD.out.row a (by omega)]; exact hva
                obtain ⟨R, hR⟩ : ∃ R, R = rfRow bs.length F a b a := ⟨_, rfl⟩
                have HRR := hideI hR
                rw [← hR] at hlen hoa
                have HOA := hideI hoa
                have hwo : w2.heap.size + 1 ≤ wd.heap.size := HLD.out.lt.2
                have HWO := hideI hwo
                have H63 : Hid (R.length + 1 ≤ maxLen) := by show _ ≤ _; simp only [maxLen]; omega
                have HBY : Hid ((R.length + 1) * 8 ≤ 140737488355328) := by show _ ≤ _; omega
                obtain ⟨i1, hjx, hy0, hy1, hy2⟩ := info_parts int_info
                clear hva hla hR hoa hwd k1 k2 HL HBr hx
                cases is with
                | false =>
                  have HE : Hid (rfRows bs.length F a b = rfRows bs.length F a (b + 1)) := rfRows_skip (by rw [HFF.out]; rfl)
                  rw [HE.out] at HLD
                  clear q3 m1 m2 c3
                  go_wp2
                  go_roundw
                  case rel => exact ⟨b + 1, vs, by omega, by go_num, HLD, HBD⟩
                  case measure => simp [intOf]; omega
                | true =>
                  by_cases hab : a = b
                  · have hd : ((a : Int) == (b : Int)) = true := by rw [hab]; simp
                    have HT : Hid (F a b = true) := by show _ = _; rw [HFF.out]; simp [hab]
                    clear hab q3 m1 m2
                    go_wp2_with (at_builtin; go_must (refine wpList_append_lies _ rfl _ _ _ rfl (w2.heap.size + 1) 3 i1 (.int .i64 0) 1 8 Try.underlying22 hjx hy0 hy1 hy2 rfl (by decide) _ _ _ rfl (HOA.out.alloc _) ⟨wd.heap.size, 0, none⟩ 1 1 [.int .i64 b] rfl rfl (one_new wd _) (by simp [Value.oneCell']) (by decide) H63.out HBY.out (by have := HWO.out; simp; omega) _ rfl ?_); intro g1 cap1 w6 hown1 hgrow1 hor1 _; go_must (rw [HRR.out] at hown1; have HP := hideI (HLD.out.push HVA.out HLA.out hown1 hgrow1 hor1); have HPB := hideI (HLD.out.pushed (u := .slice (some ⟨g1, 0, none⟩) ((rfRow bs.length F a b a).length + 1) cap1) HVA.out HLA.out hgrow1 HBD.out (Nat.le_refl _)); obtain ⟨hc4, hf4⟩ := HLD.out.held HVA.out HLA.out hgrow1; rw [HRR.out]; clear hown1 hgrow1 hor1 c3))
                    go_roundw
                    case rel => exact ⟨b + 1, _, by omega, by go_num, by rw [← rfRows_push HT.out hlt]; exact HP, HPB⟩
                    case measure => simp [intOf]; omega
                  · have hd : ((a : Int) == (b : Int)) = false := by rw [beq_eq_false_iff_ne]; omega
                    cases hgab : G a b with
                    | true =>
                      have HE : Hid (rfRows bs.length F a b = rfRows bs.length F a (b + 1)) := rfRows_skip (by rw [HFF.out, hgab]; simp [hab])
                      rw [HE.out] at HLD
                      rw [hgab] at m2
                      clear hgab hab q3 c3
                      go_wp2
                      go_roundw
                      case rel => exact ⟨b + 1, vs, by omega, by go_num, HLD, HBD⟩
                      case measure => simp [intOf]; omega
                    | false =>
                      have HT : Hid (F a b = true) := by show _ = _; rw [HFF.out, hgab]; simp
                      rw [hgab] at m2
                      clear hgab hab q3
                      go_wp2_with (at_builtin; go_must (refine wpList_append_lies _ rfl _ _ _ rfl (w2.heap.size + 1) 3 i1 (.int .i64 0) 1 8 Try.underlying22 hjx hy0 hy1 hy2 rfl (by decide) _ _ _ rfl (HOA.out.alloc _) ⟨wd.heap.size, 0, none⟩ 1 1 [.int .i64 b] rfl rfl (one_new wd _) (by simp [Value.oneCell']) (by decide) H63.out HBY.out (by have := HWO.out; simp; omega) _ rfl ?_); intro g1 cap1 w6 hown1 hgrow1 hor1 _; go_must (rw [HRR.out] at hown1; have HP := hideI (HLD.out.push HVA.out HLA.out hown1 hgrow1 hor1); have HPB := hideI (HLD.out.pushed (u := .slice (some ⟨g1, 0, none⟩) ((rfRow bs.length F a b a).length + 1) cap1) HVA.out HLA.out hgrow1 HBD.out (Nat.le_refl _)); obtain ⟨hc4, hf4⟩ := HLD.out.held HVA.out HLA.out hgrow1; rw [HRR.out]; clear hown1 hgrow1 hor1 c3 m1 m2))
                      go_roundw
                      case rel => exact ⟨b + 1, _, by omega, by go_num, by rw [← rfRows_push HT.out hlt]; exact HP, HPB⟩
                      case measure => simp [intOf]; omega
          · obtain rfl : b = bs.length := by omega
            rw [rfRows_next] at HL
            go_wp2
            go_roundw
            case rel => exact ⟨a + 1, vs, by omega, by go_num, HL, HBr⟩
            case measure => simp [intOf]; omega
    · obtain rfl : a = bs.length := by omega
      rw [rfRows_all] at HL
      go_wp2
      go_ret
      exact ⟨_, vs, rfl, HL.out.mono (by omega), HBW.out.trans ((HB2.out.trans (HBr.out.mono hsW2)).mono HBW.out.size)⟩

end Go.Proofs.Ytclbhbnidodmdaa

namespace Go.Proofs.Ytclbhbnidodmdaa.domFronts
open Go.ChangeShapes Go.WideShapes Go.ChangeAt Go.RowKit

theorem rel_bool (R : Nat → Nat → Prop) : ∃ G : Nat → Nat → Bool, ∀ a b, G a b = true ↔ R a b := by
  have h : ∀ p : Prop, ∃ r : Bool, r = true ↔ p := fun p => by
    by_cases h : p
    · exact ⟨true, by simp [h]⟩
    · exact ⟨false, by simp [h]⟩
  exact ⟨fun a b => Classical.choose (h (R a b)), fun a b => Classical.choose_spec (h (R a b))⟩

def SomeFronts (f : FuncM) (w : World) (e : Ending) (w' : World) : Prop := ∃ (o : List Nat) (F : Nat → Nat → Bool), OrderIs f.blocks o ∧ (∀ a b, F a b = true ↔ FrontP f.blocks o a b) ∧ FrontiersPost f F w e w'

set_option maxRecDepth 100000 in
set_option maxHeartbeats 1000000 in
theorem domFronts_some (f : FuncM) (B : Nat) (pv bv : Value) (w : World) (hpv : Ints w B pv f.params) (hbv : BlocksR w B bv f.blocks) (hB : B ≤ w.heap.size) (hid : ∀ u ∈ usesM f, I64 u.1) (h0 : (lookM f).1 = 0) :
    Calls Try.prog 35 #[.agg #[pv, .int .i64 f.arrays, .int .i64 f.cells, bv]] w (SomeFronts f w) := by
  have HP := hideI hpv
  have HBL := hideI hbv
  have HID := hideI hid
  obtain ⟨P, pc, rfl, _⟩ := hpv
  obtain ⟨A, c, rfl, hbm, _⟩ := hbv
  have HB0 : Hid (Below w.heap.size w (w.alloc (.cells #[.slice P f.params.length pc, .int .i64 f.arrays, .int .i64 f.cells, .slice A f.blocks.length c] 25))) := (Below.refl _ w).alloc (Nat.le_refl _) _
  have HT := hideI (treeOf_any f B _ _ (w.alloc (.cells #[.slice P f.params.length pc, .int .i64 f.arrays, .int .i64 f.cells, .slice A f.blocks.length c] 25)) (HP.out.keeps (Keeps.of_below (HB0.out.mono hB))) (HBL.out.keeps (Keeps.of_below (HB0.out.mono hB))) (by simp; omega) HID.out)
  have H0 := hideI h0
  clear hid h0
  go_enter Try.func35, Try.ntmps35
  go_wp2_with (first
    | (go_at_call 59; go_must (refine HT.out.mono ?_); rintro e w1 (⟨hbad, _⟩ | ⟨_, o, pl, par, B1, gp, vs, go, capo, gl, gi, rfl, hfs, hdone, htree, hlow, hb1⟩); (exact absurd H0.out hbad); (obtain ⟨F, hFF⟩ := rel_bool (FrontP f.blocks o)); have HF := hideI hFF; clear hFF; have HFS := hideI hfs; have HDONE := hideI hdone; have HTREE := hideI htree; have HB1 := hideI (HB0.out.trans (hb1.mono (by simp))); clear hfs hdone htree hb1 hlow)
    | (go_at_call 63; go_must (refine (frontiers_any f.blocks o pl par B1 gp go capo gl gi vs F _ (HTREE.out.kept ((Below.refl _ w1).alloc (Nat.le_refl _) _)) (HFS.out.ok HDONE.out) HDONE.out HF.out).mono ?_); rintro e w2 ⟨g, vs2, rfl, hls, hb2⟩; have HLS := hideI hls; have HB2 := hideI ((HB1.out.alloc HB1.out.size _).trans (hb2.mono (by have := HB1.out.size; simp; omega))); have hs2 : w.heap.size ≤ w1.heap.size := HB1.out.size; clear hls hb2))
  go_ret2
  exact ⟨o, F, HFS.out.order, HF.out, g, vs2, rfl, HLS.out.mono (by simp; omega), HB2.out⟩

set_option maxRecDepth 100000 in
set_option maxHeartbeats 2000000 in
theorem walk_no (f : FuncM) (pv bv : Value) (w : World) (hF : FnIn w f pv bv) (hno : (lookM f).1 ≠ 0) :
    Calls Try.prog 10 #[.agg #[pv, .int .i64 f.arrays, .int .i64 f.cells, bv]] w fun e w' => e = .returned (.bool true) ∧ Below w.heap.size w w' := by
  have HF := hideI hF
  have HID := hideI (uses_i64 hF.ok)
  obtain ⟨P, pc, hpv, _⟩ := hF.par
  obtain ⟨A, cc, hbv, _⟩ := hF.blk
  subst hpv hbv
  have HB : Hid (Below w.heap.size w (w.alloc (.cells #[.slice P f.params.length pc, .int .i64 f.arrays, .int .i64 f.cells, .slice A f.blocks.length cc] 25))) := (Below.refl _ w).alloc (Nat.le_refl _) _
  have HX := hideI (heap_alloc_new w (.cells #[.slice P f.params.length pc, .int .i64 f.arrays, .int .i64 f.cells, .slice A f.blocks.length cc] 25))
  have HNO := hideI hno
  have hn1 : ((lookM f).1 != 0) = true := by simpa using hno
  have hn2 : ((lookM f).1 != (lookM f).1) = false := by simp
  clear hF hno
  go_enter Try.func10, Try.ntmps10
  go_wp2_with (first
    | (go_at_call 35; go_must (refine (domFronts_no f w.heap.size _ _ _ (HF.out.par.keeps (Keeps.of_below HB.out)) (HF.out.blk.keeps (Keeps.of_below HB.out)) HB.out.size HID.out HNO.out).mono ?_); rintro e w1 ⟨rfl, hb⟩; replace HX := hideI ((hb.block _ (lt_of_heap HX.out)).trans HX.out); have hx := row_cells HX.out rfl; replace HB := hideI (HB.out.trans (hb.mono HB.out.size)); clear hb)
    | (go_at_call 15; go_must (refine (refCheck_any f w.heap.size _ _ _ (HF.out.par.keeps (Keeps.of_below HB.out)) (HF.out.blk.keeps (Keeps.of_below HB.out)) HB.out.size).mono ?_); rintro e w2 ⟨rfl, hb⟩; clear hx; replace HB := hideI (HB.out.trans (hb.mono HB.out.size)); clear hb)
    | (go_at_call 32; refine (awake4_any _).mono ?_; rintro e w5 ⟨rfl, hb⟩; replace HB := hideI (HB.out.trans (hb.mono HB.out.size)); clear hb))
  go_ret
  exact ⟨by simp, HB.out⟩

theorem frontRows_short {n b : Nat} {F : Nat → Nat → Bool} {P : Nat → Bool} (hb : b ≤ 512) : ∀ l ∈ frontRows n F b P, l.length ≤ 1000 := by
  intro l hl
  unfold frontRows at hl
  obtain ⟨a, _, rfl⟩ := List.mem_map.1 hl
  have := frontRow_len (F := F) (b := b) (P := P) (a := a)
  omega

set_option maxRecDepth 100000 in
set_option maxHeartbeats 4000000 in
theorem walk_yes (f : FuncM) (pv bv : Value) (w : World) (hF : FnIn w f pv bv) (h0 : (lookM f).1 = 0) :
    Calls Try.prog 10 #[.agg #[pv, .int .i64 f.arrays, .int .i64 f.cells, bv]] w fun e w' => e = .returned (.bool true) ∧ Below w.heap.size w w' := by
  have HF := hideI hF
  have HID := hideI (uses_i64 hF.ok)
  obtain ⟨P, pc, hpv, _⟩ := hF.par
  obtain ⟨A, cc, hbv, _⟩ := hF.blk
  subst hpv hbv
  have HB : Hid (Below w.heap.size w (w.alloc (.cells #[.slice P f.params.length pc, .int .i64 f.arrays, .int .i64 f.cells, .slice A f.blocks.length cc] 25))) := (Below.refl _ w).alloc (Nat.le_refl _) _
  have HX := hideI (heap_alloc_new w (.cells #[.slice P f.params.length pc, .int .i64 f.arrays, .int .i64 f.cells, .slice A f.blocks.length cc] 25))
  have H0 := hideI h0
  have hnb := look_some_block h0
  have hn0 := hnb.1
  have hn5 := hnb.2
  clear hF h0 hnb
  go_enter Try.func10, Try.ntmps10
  go_wp2_with (first
    | (go_at_call 35; go_must (refine (domFronts_some f w.heap.size _ _ _ (HF.out.par.keeps (Keeps.of_below HB.out)) (HF.out.blk.keeps (Keeps.of_below HB.out)) HB.out.size HID.out H0.out).mono ?_); rintro e w1 ⟨o, F, ho, hFF, g, vs, rfl, hls, hb⟩; have HO := hideI ho; have HFF := hideI hFF; (obtain ⟨G, hG⟩ := rel_bool (OverP f.blocks o)); have HG := hideI hG; have HLS := hideI (hls.mono (Nat.zero_le _)); replace HX := hideI ((hb.block _ (lt_of_heap HX.out)).trans HX.out); have hx := row_cells HX.out rfl; replace HB := hideI (HB.out.trans (hb.mono HB.out.size)); clear hb hls ho hFF hG)
    | (go_at_call 15; go_must (refine (refCheck_any f w.heap.size _ _ _ (HF.out.par.keeps (Keeps.of_below HB.out)) (HF.out.blk.keeps (Keeps.of_below HB.out)) HB.out.size).mono ?_); rw [H0.out]; rintro e w2 ⟨rfl, hb⟩; clear hx; replace HLS := hideI (HLS.out.kept hb); replace HX := hideI ((hb.block _ (lt_of_heap HX.out)).trans HX.out); replace HB := hideI (HB.out.trans (hb.mono HB.out.size)); clear hb)
    | (go_at_call 32; refine (awake4_any _).mono ?_; rintro e w5 ⟨rfl, hb⟩; replace HLS := hideI (HLS.out.kept hb); replace HX := hideI ((hb.block _ (lt_of_heap HX.out)).trans HX.out); have hx := row_cells HX.out rfl; replace HB := hideI (HB.out.trans (hb.mono HB.out.size)); clear hb)
    | (go_at_call 36; go_must (refine (refFronts_any f.blocks o G F w.heap.size _ _ _ _ _ (HF.out.blk.keeps (Keeps.of_below HB.out)) HB.out.size hn0 hn5 (look_ends H0.out) HO.out HG.out HFF.out).mono ?_); rintro e w6 ⟨g2, vs2, rfl, hls2, hb⟩; have HL2 := hideI (hls2.mono (Nat.zero_le _)); clear hx hls2; replace HLS := hideI (HLS.out.kept hb); replace HB := hideI (HB.out.trans (hb.mono HB.out.size)); clear hb)
    | (go_at_call 21; go_must (refine (sameLists_yes _ 0 0 g g2 f.blocks.length vs vs2 _ HLS.out HL2.out (frontRows_short hn5) (by omega)).mono ?_); rintro e w7 ⟨rfl, m7, rfl⟩; replace HB := hideI (drew_below HB.out m7)))
  go_ret
  exact ⟨rfl, HB.out⟩

theorem walk (f : FuncM) (pv bv : Value) (w : World) (hF : FnIn w f pv bv) :
    Calls Try.prog 10 #[.agg #[pv, .int .i64 f.arrays, .int .i64 f.cells, bv]] w fun e w' => e = .returned (.bool true) ∧ Below w.heap.size w w' := by
  by_cases h0 : (lookM f).1 = 0
  · exact walk_yes f pv bv w hF h0
  · exact walk_no f pv bv w hF h0

set_option maxRecDepth 100000 in
theorem lifted (os : Os) (started : os.Started) (H : Type) (enc : TypeId × Value → H) :
    ReturnsInHanded {} Try.checked os 10 .any (Rows.domFrontsSpec.pre6 enc Try.prog Try.f10 Rows.domFrontsRow.domain false) (Rows.domFrontsSpec.post enc Try.prog Try.f10 false true false false) := by
  refine returnsInHanded_of_change_sized (C := Try.checked) own started (by kernel_rfl) Try.func10
    (ChangeSpec.witness6 (enc := enc) (C := Try.checked) false ⟨#[], #[.agg #[.slice none 0 0, .int .i64 0, .int .i64 0, .slice none 0 0]], []⟩ 8 (by kernel_rfl) (by kernel_rfl) (by kernel_rfl) (by kernel_rfl)) ?_
  intro W base args ds gs before hval0 hW hcnd hsz _
  have hval : ∀ (j : Nat) t v, Try.f10.params[j]? = some t → args[j]? = some v → Value.okWide Try.prog W .any base t v := hval0
  have hW' := hW
  obtain ⟨p, q, hA0, hV, rfl, hfz, hnd⟩ := hW
  have hA : DataW.TrodAll enc Try.prog W 0 (fun _ => true) true Try.f10.params.toList args.toList ds p := hA0
  rw [Try.params10] at hA hval
  obtain ⟨v0, vs0, d0, ds0, p0, q0, hargs, rfl, rfl, h0, r0⟩ := trodAll_cons hA
  obtain ⟨rfl, rfl, rfl⟩ := trodAll_nil r0
  obtain rfl : args = #[v0] := by cases args; simp_all
  obtain ⟨rfl, rfl⟩ := trodVars_none hV
  obtain ⟨f, pv, bv, rfl, hF⟩ := open_func (hval 0 25 v0 rfl rfl) h0 hsz (j := 0) rfl rfl
  clear hA0 hval0
  refine (walk f pv bv W hF).mono fun e W' ⟨he, hg⟩ => ?_
  subst he
  exact ⟨_, rfl, law_post (by kernel_rfl) hW' rfl (by kernel_rfl) Try.underlying4 rfl rfl rfl (by rw [Try.params10]; decide +kernel) hg⟩

theorem over : Rows.domFrontsRow.holds Try.pinned (OpenSpec.ofChange Rows.domFrontsSpec) :=
  OpenClaim.holds_of_wide 10 Try.f10 rfl rfl rfl rfl rfl rfl rfl ⟨rfl, rfl, rfl, rfl, rfl⟩ rfl rfl rfl rfl rfl (by kernel_rfl) Try.func10 (by kernel_rfl)
    (of_decide_eq_true (by kernel_rfl)) (by unfold Func.isWrapper; first | (rw [if_pos (by decide +kernel)]; kernel_rfl) | (rw [if_neg (by decide +kernel)]; exact ⟨rfl, rfl⟩))
    (fun os started H enc _ => lifted os started H enc)

theorem proved : Rows.DomFrontsSaid := over
#print axioms proved
end Go.Proofs.Ytclbhbnidodmdaa.domFronts
