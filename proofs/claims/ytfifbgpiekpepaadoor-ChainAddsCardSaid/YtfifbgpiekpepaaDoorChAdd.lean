/- chain.Add, whole. -/
import Derived.Test.YtfifbgpiekpepaaDoorChFits
namespace Go.Proofs.YtfifbgpiekpepaaDoor.Chn
open Go.RowKit

/-- a list of chains that came in -/
def LR (w : World) (B : Nat) (v : Value) (css : List (List Int)) : Prop :=
  ∃ A c, v = .slice A css.length c ∧ css.length ≤ 140737488351232 ∧ ∀ k cs, css[k]? = some cs → ∃ b off u, A = some ⟨b, off, none⟩ ∧ b < B ∧ w.cell? ⟨b, off + k, none⟩ = some u ∧ CI w B u cs

theorem LR.keep {w w' : World} {B : Nat} {v : Value} {css : List (List Int)} (h : LR w B v css) (hk : Below B w w') : LR w' B v css := by
  obtain ⟨A, c, rfl, hm, h⟩ := h
  refine ⟨A, c, rfl, hm, fun k cs hc => ?_⟩
  obtain ⟨b, off, u, rfl, hb, hcl, hu⟩ := h k cs hc
  exact ⟨b, off, u, rfl, hb, (hk.cell (p := ⟨b, off + k, none⟩) hb).trans hcl, hu.keep hk⟩
theorem LR.more {w : World} {B B' : Nat} {v : Value} {css : List (List Int)} (h : LR w B v css) (hB : B ≤ B') : LR w B' v css := by
  obtain ⟨A, c, rfl, hm, h⟩ := h
  refine ⟨A, c, rfl, hm, fun k cs hc => ?_⟩
  obtain ⟨b, off, u, rfl, hb, hcl, hu⟩ := h k cs hc
  exact ⟨b, off, u, rfl, by omega, hcl, hu.more hB⟩

/-- the sum of all the numbers at one place -/
def tot : List (List Int) → Nat → Int
  | [], _ => 0
  | c :: r, j => c.getD j 0 + tot r j

theorem tot_snoc : ∀ (l : List (List Int)) (c : List Int) (j : Nat), tot (l ++ [c]) j = tot l j + c.getD j 0
  | [], c, j => by simp [tot]
  | d :: l, c, j => by
    rw [List.cons_append, tot, tot, tot_snoc l c j]
    omega

theorem tot_take {css : List (List Int)} {i : Nat} {c : List Int} (h : css[i]? = some c) (j : Nat) : tot (css.take (i + 1)) j = tot (css.take i) j + c.getD j 0 := by
  obtain ⟨hi, rfl⟩ := List.getElem?_eq_some_iff.1 h
  rw [List.take_succ_eq_append_getElem hi, tot_snoc]

/-- the sums, held in 64 bits -/
def sumW (css : List (List Int)) (m : Nat) : List Int := (List.range m).map fun j => wrp (tot css j)

/-- what chain.Add answers -/
def addAM (css : List (List Int)) : Option (List Int) := if ∃ c ∈ css, 16 < (trimM c).length then none else ansM (trimM (sumW css 16))

/-- the sums so far: of i chains, and the first j numbers of the next -/
structure PartS (zs : List Int) (css : List (List Int)) (i : Nat) (c : List Int) (j : Nat) : Prop where
  len : zs.length = 16
  at_ : ∀ m, m < 16 → zs[m]? = some (wrp (tot (css.take i) m + if m < j then c.getD m 0 else 0))

theorem PartS.put {zs : List Int} {css : List (List Int)} {i : Nat} {c : List Int} {j : Nat} {x y : Int} (h : PartS zs css i c j) (hj : j < 16) (hx : c[j]? = some x) (hy : y = wrp (wrp (tot (css.take i) j) + x)) : PartS (zs.set j y) css i c (j + 1) := by
  refine ⟨by rw [List.length_set]; exact h.len, fun m hm => ?_⟩
  by_cases e : m = j
  · subst e
    rw [List.getElem?_set_self (by rw [h.len]; exact hm), if_pos (by omega), hy, List.getD_eq_getElem?_getD, hx]
    congr 1
    exact wrp_of ((wrp_eq _).add (Eq64.rfl' _))
  · rw [List.getElem?_set_ne (by omega), h.at_ m hm]
    by_cases h1 : m < j
    · rw [if_pos h1, if_pos (by omega)]
    · rw [if_neg h1, if_neg (by omega)]

theorem PartS.next {zs : List Int} {css : List (List Int)} {i : Nat} {c : List Int} (h : PartS zs css i (trimM c) (trimM c).length) (hc : css[i]? = some c) (d : List Int) : PartS zs css (i + 1) d 0 := by
  refine ⟨h.len, fun m hm => ?_⟩
  have e0 : (if m < 0 then d.getD m 0 else 0) = 0 := if_neg (by omega)
  rw [h.at_ m hm, e0, tot_take hc]
  congr 2
  split
  · rw [trimM_at]; omega
  · rename_i h5
    have h6 : c.getD m 0 = 0 := by rw [← trimM_at, getD_over (m := (trimM c).length) (Nat.le_refl _) (by omega)]
    rw [h6]; omega

theorem PartS.zero (css : List (List Int)) (c : List Int) : PartS (List.replicate 16 0) css 0 c 0 := by
  refine ⟨rfl, fun m hm => ?_⟩
  rw [List.getElem?_replicate, if_pos hm, List.take_zero, if_neg (by omega), tot]
  rfl

theorem PartS.done {zs : List Int} {css : List (List Int)} {c : List Int} (h : PartS zs css css.length c 0) : zs = sumW css 16 := by
  apply List.ext_getElem?
  intro j
  unfold sumW
  rcases Nat.lt_or_ge j 16 with hj | hj
  · rw [h.at_ j hj, List.getElem?_map, List.getElem?_range hj, List.take_length, if_neg (by omega), Int.add_zero]
    rfl
  · rw [List.getElem?_eq_none (by rw [h.len]; exact hj), List.getElem?_eq_none (by simpa using hj)]

set_option maxRecDepth 100000 in
set_option maxHeartbeats 4000000 in
theorem chAdd_any (css : List (List Int)) (B : Nat) (v : Value) (w : World) (hx : LR w B v css) (hB : B ≤ w.heap.size) :
    Calls Tryd.prog 12 #[v] w (AnsE w (addAM css)) := by
  have HX := hideI hx
  obtain ⟨A, c, rfl, hm, _⟩ := hx
  have HM := hideI hm
  have HB := hideI hB
  obtain ⟨N, hN⟩ : ∃ N, N = css.length := ⟨_, rfl⟩
  have HN := hideI hN
  rw [← hN] at HX HM ⊢
  clear hB hN hm
  go_enter Tryd.func12, Tryd.ntmps12
  go_upto_region 2 with fail
  generalize hW1 : w.alloc (Obj.cells _ _) = W1
  obtain ⟨g, hg⟩ : ∃ g, g = w.heap.size := ⟨_, rfl⟩
  have HB1 : Hid (Below w.heap.size w W1) := hideI (by rw [← hW1]; exact (Below.refl _ w).alloc (Nat.le_refl _) _)
  have HR1 : Hid (RowC W1 g (List.replicate 16 0)) := hideI ⟨(List.replicate 16 (Value.int .i64 0)).toArray, _, by rw [← hW1, hg]; exact heap_alloc_new w _, fun j x hj => by
    rw [List.getElem?_replicate] at hj
    rw [List.getElem?_toArray, List.getElem?_replicate]
    split at hj
    · injection hj with hj
      subst hj
      rename_i h5
      rw [if_pos h5]
    · cases hj⟩
  have HG := hideI hg
  rw [← hg]
  clear hW1 hg
  have hN63 : N ≤ 140737488351232 := HM.out
  go_wp2
  go_loopw [6, 7, 8, 11] (fun u6 u7 u8 u11 wv => ∃ (i : Nat) (zs : List Int), i ≤ N ∧ u11 = .int .i64 i ∧ Hid (∀ c ∈ css.take i, ¬ 16 < (trimM c).length) ∧ Hid (PartS zs css i [] 0) ∧ Hid (RowC wv g zs) ∧ Hid (Below w.heap.size w wv)) (fun _ _ _ u11 _ => N - (intOf u11).toNat)
  case atStart => exact ⟨0, _, Nat.zero_le _, rfl, hideI (by simp), hideI (PartS.zero css []), HR1, HB1⟩
  case round =>
    obtain ⟨i, zs, hi, rfl, HAL, HPS, HRW, HBr⟩ := hrel
    by_cases hlt : i < N
    · have hl : (i : Int) < (N : Int) := by omega
      obtain ⟨cs, hcs⟩ : ∃ cs, css[i]? = some cs := ⟨_, List.getElem?_eq_getElem (by rw [← HN.out]; exact hlt)⟩
      have HXr := (HX.out.keep (HBr.out.mono HB.out))
      obtain ⟨A', c', e, _, hat⟩ := HXr
      injection e with e e1 e2
      subst e e2
      obtain ⟨b, off, u, hA, hb, hcl, hu⟩ := hat i cs hcs
      subst hA
      have HTR := hideI (trimmed_any cs B u wr hu)
      obtain ⟨⟨Au, cu, rfl, _, _⟩, _⟩ := hu
      have HCS := hideI hcs
      clear hat hcs hb e1
      go_upto_region 6 with (go_at_call 27; go_must (refine HTR.out.mono ?_); rintro e w1 ⟨v1, rfl, hv, hw⟩; obtain rfl := hw.symm; have HV := hideI hv; obtain ⟨⟨A1, c1, rfl, _, _⟩, _⟩ := hv)
      obtain ⟨ts, hts⟩ : ∃ ts, ts = trimM cs := ⟨_, rfl⟩
      obtain ⟨L, hL⟩ : ∃ L, L = ts.length := ⟨_, rfl⟩
      have HTS := hideI hts
      have HLL := hideI hL
      rw [← hts] at HV ⊢
      rw [← hL] at HV ⊢
      clear hts hL HTR hcl
      by_cases hl1 : 16 < L
      · have hd : decide (16 < L) = true := by simpa using hl1
        have HE : Hid (addAM css = none) := hideI (if_pos ⟨cs, List.mem_of_getElem? HCS.out, by rw [← HTS.out, ← HLL.out]; exact hl1⟩)
        clear hl1
        go_wp2_with (go_at_call 28; go_must (refine (tooLong_any _ _ _ _).mono ?_); rintro e w2 ⟨rfl, hw⟩; obtain rfl := hw.symm; rw [hd])
        refine bodyPost_ret (results_tmp2 rfl _ _ _) (by rfl) ?_
        rw [HE.out]
        exact AnsE.no HBr.out
      · have hd : decide (16 < L) = false := by simpa using hl1
        have hL16 : L ≤ 16 := by omega
        clear hl1
        go_upto_region 8 with (go_at_call 28; go_must (refine (tooLong_any _ _ _ _).mono ?_); rintro e w2 ⟨rfl, hw⟩; obtain rfl := hw.symm; rw [hd])
        obtain ⟨wo, hwo⟩ : ∃ wo, wo = wr := ⟨_, rfl⟩
        go_wp2
        rw [← hwo] at HV HBr HRW
        go_loopw [7, 8, 21] (fun u7 u8 u21 wv => ∃ (j : Nat) (zs : List Int), j ≤ L ∧ u21 = .int .i64 j ∧ Hid (PartS zs css i ts j) ∧ Hid (RowC wv g zs) ∧ Hid (Below w.heap.size wo wv)) (fun _ _ u21 _ => L - (intOf u21).toNat)
        case atStart => exact ⟨0, zs, Nat.zero_le _, rfl, hideI ⟨HPS.out.len, fun m hm => by have h1 := HPS.out.at_ m hm; rw [if_neg (by omega)] at h1 ⊢; exact h1⟩, by rw [← hwo]; exact HRW, by rw [← hwo]; exact hideI (Below.refl _ _)⟩
        case round =>
          obtain ⟨j, zs, hj, rfl, HPJ, HRJ, HBJ⟩ := hrel
          by_cases hjt : j < L
          · have hl2 : (j : Int) < (L : Int) := by omega
            obtain ⟨x, hx⟩ : ∃ x, ts[j]? = some x := ⟨_, List.getElem?_eq_getElem (by rw [← HLL.out]; exact hjt)⟩
            obtain ⟨A'', c'', e, _, hat⟩ := (HV.out.1.keep (HBJ.out.mono HB.out))
            injection e with e e1 e2
            subst e e2
            obtain ⟨b2, off2, hA, hb, hc⟩ := hat j (by rw [← HLL.out]; exact hjt)
            subst hA
            rw [hx] at hc
            have k1 : wr.cell? ⟨b2, off2 + j, none⟩ = some (.int .i64 x) := hc
            have h16 : j < 16 := by omega
            have h16i : (j : Int) < 16 := by omega
            have k2 := HRJ.out.cell (HPJ.out.at_ j h16)
            have k3 := HRJ.out.open_ j
            rw [if_neg (by omega), Int.add_zero] at k2
            have HX5 := hideI hx
            clear hat hx hb hc e1 hwo
            go_wp2
            go_roundw
            case rel => exact ⟨j + 1, zs.set j (wrap64 (wrp (tot (css.take i) j) + x)), by omega, by go_num, hideI (HPJ.out.put h16 HX5.out (odd_wrap _)), hideI HRJ.out.set, hideI (HBJ.out.setCell (p := ⟨g, j, none⟩) (Nat.le_of_eq HG.out.symm) _)⟩
            case measure => simp [intOf]; omega
          · have hjL : j = L := by omega
            have hnl : ¬ (j : Int) < (L : Int) := by omega
            have HPN : Hid (PartS zs css (i + 1) [] 0) := hideI (by
              have h1 := HPJ.out
              rw [hjL, HLL.out, HTS.out] at h1
              exact h1.next HCS.out [])
            have HALN : Hid (∀ c ∈ css.take (i + 1), ¬ 16 < (trimM c).length) := hideI (by
              intro c hc
              have h1 := HCS.out
              obtain ⟨h2, h3⟩ := List.getElem?_eq_some_iff.1 h1
              rw [List.take_succ_eq_append_getElem h2] at hc
              rcases List.mem_append.1 hc with hc | hc
              · exact HAL.out c hc
              · rw [List.mem_singleton.1 hc, h3, ← HTS.out, ← HLL.out]
                omega)
            clear hjL hwo
            go_wp2
            go_roundw
            case rel => exact ⟨i + 1, zs, by omega, by go_num, HALN, HPN, HRJ, hideI (HBr.out.trans (HBJ.out.mono (Nat.le_refl _)))⟩
            case measure => simp [intOf]; omega
    · have hiN : i = N := by omega
      have hnl : ¬ (i : Int) < (N : Int) := by omega
      have HZ : Hid (zs = sumW css 16) := hideI (by have h1 := HPS.out; rw [hiN, HN.out] at h1; exact h1.done)
      have HE : Hid (addAM css = ansM (trimM (sumW css 16))) := hideI (if_neg (by
        rintro ⟨c, hc, h1⟩
        have h2 := HAL.out
        rw [hiN, HN.out, List.take_length] at h2
        exact h2 c hc h1))
      have HCI := hideI (HRW.out.ci (c := 16) (by rw [HPS.out.len]; exact Nat.le_refl _) (by rw [HPS.out.len]; decide))
      rw [HPS.out.len] at HCI
      have HANS := hideI (answer_any zs _ _ wr HCI.out)
      clear hiN
      go_wp2_with (go_at_call 29; go_must (refine HANS.out.mono ?_); rintro e w5 ⟨A5, n5, c5, en5, rfl, h5⟩; have H5 := hideI h5; clear h5)
      refine bodyPost_ret (results_tmp2 rfl _ _ _) (by rfl) ?_
      rw [HE.out, ← HZ.out]
      exact AnsE.of ⟨A5, n5, c5, en5, rfl, H5.out⟩ HBr.out
end Go.Proofs.YtfifbgpiekpepaaDoor.Chn
