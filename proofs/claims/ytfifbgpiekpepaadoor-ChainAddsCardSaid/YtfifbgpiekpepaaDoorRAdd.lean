/- The reference's Add: the sum of any chains. -/
import Derived.Test.YtfifbgpiekpepaaDoorChAdd
import Derived.Test.YtfifbgpiekpepaaDoorRTrimB
import Derived.Test.YtfifbgpiekpepaaDoorLate
namespace Go.Proofs.YtfifbgpiekpepaaDoor.Chn
open Go.RowKit

/-- the greatest length -/
def maxL : List (List Int) → Nat
  | [] => 0
  | c :: r => max c.length (maxL r)

theorem maxL_snoc : ∀ (l : List (List Int)) (c : List Int), maxL (l ++ [c]) = max (maxL l) c.length
  | [], c => by simp [maxL]
  | d :: l, c => by
    rw [List.cons_append, maxL, maxL, maxL_snoc l c]
    omega

theorem maxL_take {css : List (List Int)} {i : Nat} {c : List Int} (h : css[i]? = some c) : maxL (css.take (i + 1)) = max (maxL (css.take i)) c.length := by
  obtain ⟨hi, rfl⟩ := List.getElem?_eq_some_iff.1 h
  rw [List.take_succ_eq_append_getElem hi, maxL_snoc]

theorem maxL_le : ∀ (css : List (List Int)) (c : List Int), c ∈ css → c.length ≤ maxL css
  | d :: l, c, h => by
    rw [maxL]
    rcases List.mem_cons.1 h with rfl | h
    · omega
    · have := maxL_le l c h; omega

theorem maxL_in : ∀ (css : List (List Int)) (m : Nat), (∀ c ∈ css, c.length ≤ m) → maxL css ≤ m
  | [], m, _ => Nat.zero_le _
  | d :: l, m, h => by
    rw [maxL]
    have h1 := h d (List.mem_cons_self ..)
    have h2 := maxL_in l m fun c hc => h c (List.mem_cons_of_mem _ hc)
    omega

/-- the sums so far: of i chains, and the first j numbers of the next -/
structure PartN (zs : List Int) (css : List (List Int)) (M i : Nat) (c : List Int) (j : Nat) : Prop where
  len : zs.length = M
  at_ : ∀ m, m < M → zs[m]? = some (wrp (tot (css.take i) m + if m < j then c.getD m 0 else 0))

theorem PartN.put {zs : List Int} {css : List (List Int)} {M i : Nat} {c : List Int} {j : Nat} {x y : Int} (h : PartN zs css M i c j) (hj : j < M) (hx : c[j]? = some x) (hy : y = wrp (wrp (tot (css.take i) j) + x)) : PartN (zs.set j y) css M i c (j + 1) := by
  refine ⟨by rw [List.length_set]; exact h.len, fun m hm => ?_⟩
  by_cases e : m = j
  · subst e
    rw [List.getElem?_set_self (by rw [h.len]; exact hm), if_pos (by omega), hy, List.getD_eq_getElem?_getD, hx]
    congr 1
    exact wrp_of ((wrp_eq _).add (Eq64.rfl' _))
  · rw [List.getElem?_set_ne (by omega), h.at_ m hm]
    by_cases h1 : m < j
    · rw [if_pos h1, if_pos (by omega)]
    · rw [if_neg h1, if_neg (by omega)]

theorem PartN.next {zs : List Int} {css : List (List Int)} {M i : Nat} {c : List Int} (h : PartN zs css M i c c.length) (hc : css[i]? = some c) (d : List Int) : PartN zs css M (i + 1) d 0 := by
  refine ⟨h.len, fun m hm => ?_⟩
  have e0 : (if m < 0 then d.getD m 0 else 0) = 0 := if_neg (by omega)
  rw [h.at_ m hm, e0, tot_take hc]
  congr 2
  split
  · omega
  · rename_i h5
    rw [getD_over (c := c) (m := c.length) (Nat.le_refl _) (by omega)]
    omega

theorem PartN.zero (css : List (List Int)) (M : Nat) (c : List Int) : PartN (List.replicate M 0) css M 0 c 0 := by
  refine ⟨by simp, fun m hm => ?_⟩
  rw [List.getElem?_replicate, if_pos hm, List.take_zero, if_neg (by omega), tot]
  rfl

theorem PartN.start {zs : List Int} {css : List (List Int)} {M i : Nat} {d : List Int} (h : PartN zs css M i d 0) (c : List Int) : PartN zs css M i c 0 :=
  ⟨h.len, fun m hm => by have h1 := h.at_ m hm; rw [if_neg (by omega)] at h1 ⊢; exact h1⟩

theorem PartN.done {zs : List Int} {css : List (List Int)} {M : Nat} {c : List Int} (h : PartN zs css M css.length c 0) : zs = sumW css M := by
  apply List.ext_getElem?
  intro j
  unfold sumW
  rcases Nat.lt_or_ge j M with hj | hj
  · rw [h.at_ j hj, List.getElem?_map, List.getElem?_range hj, List.take_length, if_neg (by omega), Int.add_zero]
    rfl
  · rw [List.getElem?_eq_none (by rw [h.len]; exact hj), List.getElem?_eq_none (by simpa using hj)]

theorem numZeros {w : World} {base g n : Nat} (h : w.ownsRow base 3 1 (.slice (some ⟨g, 0, none⟩) n n) n (madeCells (Value.int .i64 0).cells (n * 1)).toList) : Num w base (.slice (some ⟨g, 0, none⟩) n n) (List.replicate n 0) := by
  rw [show (Value.int .i64 0).cells = #[Value.int .i64 0] from rfl, toList_madeCells_one, Nat.mul_one] at h
  unfold Num
  rw [List.length_replicate, List.map_replicate]
  exact h

set_option maxRecDepth 100000 in
set_option maxHeartbeats 4000000 in
theorem refAdd_any (css : List (List Int)) (B : Nat) (v : Value) (w : World) (hx : LR w B v css) (hB : B ≤ w.heap.size) (hr : ∀ c ∈ css, c.length * 8 ≤ 140737488351232) :
    Calls Tryd.prog 15 #[v] w fun e w' => ∃ v', e = .returned v' ∧ Num w' w.heap.size v' (trimM (sumW css (maxL css))) ∧ Below w.heap.size w w' := by
  have HX := hideI hx
  obtain ⟨A, c, rfl, hm, _⟩ := hx
  have HM := hideI hm
  have HB := hideI hB
  have HR := hideI hr
  obtain ⟨N, hN⟩ : ∃ N, N = css.length := ⟨_, rfl⟩
  have HN := hideI hN
  have HML := hideI (maxL_in css 17592186043904 fun c hc => by have := hr c hc; omega)
  rw [← hN] at HX HM ⊢
  clear hB hN hm hr
  have hN63 : N ≤ 140737488351232 := HM.out
  go_enter Tryd.func15, Tryd.ntmps15
  go_wp2
  go_loopw [3, 4] (fun u3 u4 wv => ∃ (i mx : Nat), i ≤ N ∧ u4 = .int .i64 i ∧ u3 = .int .i64 mx ∧ Hid (mx = maxL (css.take i)) ∧ wv = w) (fun _ u4 _ => N - (intOf u4).toNat)
  case atStart => exact ⟨0, 0, Nat.zero_le _, rfl, rfl, hideI (by rw [List.take_zero]; rfl), rfl⟩
  case round =>
    obtain ⟨i, mx, hi, rfl, rfl, HMX, hw⟩ := hrel
    obtain rfl := hw.symm
    by_cases hlt : i < N
    · have hl : (i : Int) < (N : Int) := by omega
      obtain ⟨cs, hcs⟩ : ∃ cs, css[i]? = some cs := ⟨_, List.getElem?_eq_getElem (by rw [← HN.out]; exact hlt)⟩
      obtain ⟨A', c', e, _, hat⟩ := HX.out
      injection e with e e1 e2
      subst e e2
      obtain ⟨b, off, u, hA, hb, hcl, hu⟩ := hat i cs hcs
      subst hA
      obtain ⟨⟨Au, cu, rfl, _, _⟩, _⟩ := hu
      have HT := hideI (maxL_take hcs)
      clear hat hcs hb e1
      by_cases hgt : mx < cs.length
      · have hg2 : (mx : Int) < (cs.length : Int) := by omega
        have HE : Hid (cs.length = maxL (css.take (i + 1))) := hideI (by rw [HT.out, ← HMX.out]; omega)
        go_wp2
        go_roundw
        case rel => exact ⟨i + 1, cs.length, by omega, by go_num, rfl, HE, trivial⟩
        case measure => simp [intOf]; omega
      · have hg2 : ¬ (mx : Int) < (cs.length : Int) := by omega
        have HE : Hid (mx = maxL (css.take (i + 1))) := hideI (by rw [HT.out, ← HMX.out]; omega)
        go_wp2
        go_roundw
        case rel => exact ⟨i + 1, mx, by omega, by go_num, rfl, HE, trivial⟩
        case measure => simp [intOf]; omega
    · have hiN : i = N := by omega
      have hnl : ¬ (i : Int) < (N : Int) := by omega
      have HMM : Hid (mx = maxL css) := hideI (by rw [HMX.out, hiN, HN.out, List.take_length])
      have hmx : mx ≤ 17592186043904 := by have h1 := HML.out; have h2 := HMM.out; omega
      obtain ⟨i0, hix, hz0, hz1, hz2⟩ := info_parts int_info
      clear hiN
      go_upto_region 8 with (at_make; go_must (refine wpList_make_full _ rfl _ _ 24 rfl w.heap.size 3 i0 (.int .i64 0) 1 Tryd.underlying24 hix hz0 hz1 .i64 .i64 _ _ mx rfl rfl rfl rfl (by rw [hz2]; omega) (by unfold maxLen; omega) (Nat.le_refl _) ?_); intro w8 hown8 hg8; have HN8 := hideI (numZeros hown8); have HB8 : Hid (Below w.heap.size w w8) := hideI ⟨hg8.os, hg8.tape, hg8.output, hg8.size, fun k hk => hg8.block k hk (by simp)⟩; clear hown8 hg8)
      obtain ⟨g, hg⟩ : ∃ g, g = w.heap.size := ⟨_, rfl⟩
      have HG := hideI hg
      rw [← hg]
      rw [← hg] at HN8
      have HG8 := hideI (show g ≤ g from Nat.le_refl _)
      clear hg hnl
      go_wp2
      go_loopw [6, 7] (fun u6 u7 wv => ∃ (i : Nat) (zs : List Int), i ≤ N ∧ u6 = .int .i64 i ∧ Hid (PartN zs css mx i [] 0) ∧ Hid (Num wv g (.slice (some ⟨g, 0, none⟩) mx mx) zs) ∧ Hid (Below w.heap.size w wv)) (fun u6 _ _ => N - (intOf u6).toNat)
      case atStart => exact ⟨0, _, Nat.zero_le _, rfl, hideI (PartN.zero css mx []), HN8, HB8⟩
      case round =>
        obtain ⟨i, zs, hi, rfl, HPS, HNU, HBr⟩ := hrel
        by_cases hlt : i < N
        · have hl : (i : Int) < (N : Int) := by omega
          obtain ⟨cs, hcs⟩ : ∃ cs, css[i]? = some cs := ⟨_, List.getElem?_eq_getElem (by rw [← HN.out]; exact hlt)⟩
          have HCS := hideI hcs
          obtain ⟨L, hL⟩ : ∃ L, L = cs.length := ⟨_, rfl⟩
          have HLL := hideI hL
          have hLm : L ≤ mx := by rw [HMM.out, hL]; exact maxL_le css cs (List.mem_of_getElem? hcs)
          have HLA : Hid (∃ b off, A = some ⟨b, off, none⟩ ∧ ∃ Au cu, ∀ V, Below w.heap.size w V → V.cell? ⟨b, off + i, none⟩ = some (.slice Au L cu) ∧ Ints V B (.slice Au L cu) cs) := hideI (by
            obtain ⟨A', c', e, _, hat⟩ := HX.out
            injection e with e e1 e2
            subst e e2
            obtain ⟨b, off, u, hA, hb, hcl, hu⟩ := hat i cs hcs
            obtain ⟨⟨Au, cu, rfl, hh⟩, _⟩ := hu
            refine ⟨b, off, hA, Au, cu, fun V hV => ⟨?_, ?_⟩⟩
            · rw [hL]
              exact (hV.cell (p := ⟨b, off + i, none⟩) (show b < w.heap.size from Nat.lt_of_lt_of_le hb HB.out)).trans hcl
            · rw [hL]
              exact Ints.keep ⟨Au, cu, rfl, hh⟩ (hV.mono HB.out))
          obtain ⟨b, off, hA, Au, cu, hVV⟩ := HLA.out
          subst hA
          have HVV := hideI hVV
          clear hcs hL hVV HLA
          obtain ⟨wo, hwo⟩ : ∃ wo, wo = wr := ⟨_, rfl⟩
          rw [← hwo] at HNU HBr
          go_wp2
          go_loopw [7] (fun u7 wv => ∃ (k : Nat) (zs : List Int), k ≤ L ∧ u7 = .int .i64 k ∧ Hid (PartN zs css mx i cs k) ∧ Hid (Num wv g (.slice (some ⟨g, 0, none⟩) mx mx) zs) ∧ Hid (Below w.heap.size w wv)) (fun u7 _ => L - (intOf u7).toNat)
          case atStart => exact ⟨0, zs, Nat.zero_le _, rfl, hideI (HPS.out.start cs), by rw [← hwo]; exact HNU, by rw [← hwo]; exact HBr⟩
          case round =>
            obtain ⟨k, zs, hk, rfl, HPK, HNK, HBK⟩ := hrel
            obtain ⟨hlc, hli⟩ := HVV.out wr HBK.out
            by_cases hkl : k < L
            · have hl2 : (k : Int) < (L : Int) := by omega
              have hkm : k < mx := by omega
              have hl3 : (k : Int) < (mx : Int) := by omega
              have hk0 : (0 : Int) ≤ (k : Int) := by omega
              have hi0 : (0 : Int) ≤ (i : Int) := by omega
              obtain ⟨x, hx⟩ : ∃ x, cs[k]? = some x := ⟨_, List.getElem?_eq_getElem (by rw [← HLL.out]; exact hkl)⟩
              obtain ⟨A'', c'', e, _, hat⟩ := hli
              injection e with e e1 e2
              subst e e2
              obtain ⟨b2, off2, hA, hb, hc⟩ := hat k (by rw [← HLL.out]; exact hkl)
              subst hA
              rw [hx] at hc
              have d3 : wr.cell? ⟨b2, off2 + k, none⟩ = some (.int .i64 x) := hc
              obtain ⟨y, hy⟩ : ∃ y, y = wrp (tot (css.take i) k) := ⟨_, rfl⟩
              have hz := HPK.out.at_ k hkm
              rw [if_neg (by omega), Int.add_zero, ← hy] at hz
              have d1 := (Num.rowC HNK.out).1.cell hz
              have z1 := (Num.rowC HNK.out).1.open_ k
              have HY := hideI hy
              have HX5 := hideI hx
              have hS0 : wr.cell? ⟨g, k, none⟩ = some (.int .i64 y) ∧ wr.cell? ⟨b, off + i, none⟩ = some (.slice (some ⟨b2, off2, none⟩) L cu) ∧ wr.cell? ⟨b2, off2 + k, none⟩ = some (.int .i64 x) := ⟨d1, hlc, d3⟩
              clear hx hat hb hc e1 hz hy hwo
              go_upto_region 14 with fail
              refine wp_region_late (by kernel_rfl) (fun V => V.cell? ⟨g, k, none⟩ = some (.int .i64 y) ∧ V.cell? ⟨b, off + i, none⟩ = some (.slice (some ⟨b2, off2, none⟩) L cu) ∧ V.cell? ⟨b2, off2 + k, none⟩ = some (.int .i64 x)) [13] ?_
              refine wpAnyT_quiet (i := 0) (v := ?_) rfl (by kernel_rfl) (by kernel_rfl) (by kernel_rfl) (fun _ _ _ h => h) (Or.inl ⟨by rfl, ?_⟩) ?_
              rotate_left
              · (intro w; go_simp; try with_reducible rfl)
              try simp only [Act.put, List.setIfInBounds_toArray, List.set_cons_zero, List.set_cons_succ]
              refine wpAnyT_quiet (i := 1) (v := ?_) rfl (by kernel_rfl) (by kernel_rfl) (by kernel_rfl) (fun _ _ _ h => h) (Or.inl ⟨by rfl, ?_⟩) ?_
              rotate_left
              · (intro w; go_simp; try with_reducible rfl)
              try simp only [Act.put, List.setIfInBounds_toArray, List.set_cons_zero, List.set_cons_succ]
              refine wpAnyT_quiet (i := 2) (v := ?_) rfl (by kernel_rfl) (by kernel_rfl) (by kernel_rfl) (fun _ _ _ h => h) (Or.inl ⟨by rfl, ?_⟩) ?_
              rotate_left
              · (intro w; go_simp; try with_reducible rfl)
              try simp only [Act.put, List.setIfInBounds_toArray, List.set_cons_zero, List.set_cons_succ]
              refine wpAnyT_take [13] (i := 3) (v := ?_) rfl (by kernel_rfl) (by kernel_rfl) (by kernel_rfl) (by kernel_rfl) (by kernel_rfl) (by kernel_rfl) (fun _ _ _ h => h) hS0 (Or.inl ⟨by rfl, ?_⟩) ?_
              rotate_left
              · (intro w hSw; go_split_ands; go_simp; try with_reducible rfl)
              try simp only [Act.put, List.setIfInBounds_toArray, List.set_cons_zero, List.set_cons_succ]
              refine wpAnyT_quiet (i := 4) (v := ?_) rfl (by kernel_rfl) (by kernel_rfl) (by kernel_rfl) (fun _ _ _ h => h) (Or.inl ⟨by rfl, ?_⟩) ?_
              rotate_left
              · (intro w; go_simp; try with_reducible rfl)
              try simp only [Act.put, List.setIfInBounds_toArray, List.set_cons_zero, List.set_cons_succ]
              refine wpAnyT_quiet (i := 5) (v := ?_) rfl (by kernel_rfl) (by kernel_rfl) (by kernel_rfl) (fun _ _ _ h => h) (Or.inl ⟨by rfl, ?_⟩) ?_
              rotate_left
              · (intro w; go_simp; try with_reducible rfl)
              try simp only [Act.put, List.setIfInBounds_toArray, List.set_cons_zero, List.set_cons_succ]
              refine wpAnyT_quiet (i := 6) (v := ?_) rfl (by kernel_rfl) (by kernel_rfl) (by kernel_rfl) (fun _ _ _ h => h) (Or.inl ⟨by rfl, ?_⟩) ?_
              rotate_left
              · (intro w; go_simp; try with_reducible rfl)
              try simp only [Act.put, List.setIfInBounds_toArray, List.set_cons_zero, List.set_cons_succ]
              refine wpAnyT_take [13] (i := 7) (v := ?_) rfl (by kernel_rfl) (by kernel_rfl) (by kernel_rfl) (by kernel_rfl) (by kernel_rfl) (by kernel_rfl) (fun _ _ _ h => h) hS0 (Or.inl ⟨by rfl, ?_⟩) ?_
              rotate_left
              · (intro w hSw; go_split_ands; go_simp; try with_reducible rfl)
              try simp only [Act.put, List.setIfInBounds_toArray, List.set_cons_zero, List.set_cons_succ]
              refine wpAnyT_quiet (i := 8) (v := ?_) rfl (by kernel_rfl) (by kernel_rfl) (by kernel_rfl) (fun _ _ _ h => h) (Or.inl ⟨by rfl, ?_⟩) ?_
              rotate_left
              · (intro w; go_simp; try with_reducible rfl)
              try simp only [Act.put, List.setIfInBounds_toArray, List.set_cons_zero, List.set_cons_succ]
              refine wpAnyT_quiet (i := 9) (v := ?_) rfl (by kernel_rfl) (by kernel_rfl) (by kernel_rfl) (fun _ _ _ h => h) (Or.inl ⟨by rfl, ?_⟩) ?_
              rotate_left
              · (intro w; go_simp; try with_reducible rfl)
              try simp only [Act.put, List.setIfInBounds_toArray, List.set_cons_zero, List.set_cons_succ]
              refine wpAnyT_take [13] (i := 10) (v := ?_) rfl (by kernel_rfl) (by kernel_rfl) (by kernel_rfl) (by kernel_rfl) (by kernel_rfl) (by kernel_rfl) (fun _ _ _ h => h) hS0 (Or.inl ⟨by rfl, ?_⟩) ?_
              rotate_left
              · (intro w hSw; go_split_ands; go_simp; try with_reducible rfl)
              try simp only [Act.put, List.setIfInBounds_toArray, List.set_cons_zero, List.set_cons_succ]
              refine wpAnyT_quiet (i := 11) (v := ?_) rfl (by kernel_rfl) (by kernel_rfl) (by kernel_rfl) (fun _ _ _ h => h) (Or.inl ⟨by rfl, ?_⟩) ?_
              rotate_left
              · (intro w; go_simp; try with_reducible rfl)
              try simp only [Act.put, List.setIfInBounds_toArray, List.set_cons_zero, List.set_cons_succ]
              refine wpAnyT_quiet (i := 12) (v := ?_) rfl (by kernel_rfl) (by kernel_rfl) (by kernel_rfl) (fun _ _ _ h => h) (Or.inl ⟨by rfl, ?_⟩) ?_
              rotate_left
              · (intro w; go_simp; try with_reducible rfl)
              try simp only [Act.put, List.setIfInBounds_toArray, List.set_cons_zero, List.set_cons_succ]
              refine wpAnyT_ready (rs := [13]) (by kernel_rfl) (by simp) ?_
              refine AllReadyT.cons rfl (fun K hK => ?_) ?_
              · 
                go_simp
                refine hK.out _ _ (fun h => absurd (by simp) h) ?_
                clear hK K
                try simp only [Act.put, List.setIfInBounds_toArray, List.set_cons_zero, List.set_cons_succ]
                refine wpAnyT_done (by kernel_rfl) ?_ _
                go_wp2
                go_roundw
                case rel => exact ⟨k + 1, zs.set k (wrap64 (y + x)), by omega, by go_num, hideI (HPK.out.put hkm HX5.out (by rw [odd_wrap, HY.out]; rfl)), hideI (World.ownsRow.drew HNK.out.set), hideI (HBK.out.setCell (p := ⟨g, k, none⟩) (Nat.le_of_eq HG.out.symm) _).drew⟩
                case measure => simp [intOf]; omega
              · exact AllReadyT.nil
            · have hkL : k = L := by omega
              have hnl2 : ¬ (k : Int) < (L : Int) := by omega
              have hi0 : (0 : Int) ≤ (i : Int) := by omega
              have HPN : Hid (PartN zs css mx (i + 1) [] 0) := hideI (by
                have h1 := HPK.out
                rw [hkL, HLL.out] at h1
                exact h1.next HCS.out [])
              clear hkL hwo hli
              go_wp2
              go_roundw
              case rel => exact ⟨i + 1, zs, by omega, by go_num, HPN, HNK, HBK⟩
              case measure => simp [intOf]; omega
        · have hiN : i = N := by omega
          have hnl : ¬ (i : Int) < (N : Int) := by omega
          have HZ : Hid (zs = sumW css (maxL css)) := hideI (by
            have h1 := HPS.out
            rw [hiN, HN.out] at h1
            rw [← HMM.out]
            exact h1.done)
          have hzl : zs.length = mx := HPS.out.len
          have HTR := hideI (refTrimB_any zs wr.heap.size (.slice (some ⟨g, 0, none⟩) mx mx) wr (HNU.out.ints (by omega)) (Nat.le_refl _) (by omega))
          clear hiN hzl
          go_wp2_with (go_at_call 19; go_must (refine HTR.out.mono ?_); rintro e w9 ⟨v9, rfl, hv, hb⟩; have HV9 := hideI hv; have HB9 := hideI hb; clear hv hb)
          go_ret
          exact ⟨_, rfl, by rw [← HZ.out]; exact HV9.out.mono HBr.out.size, HBr.out.trans (HB9.out.mono HBr.out.size)⟩
end Go.Proofs.YtfifbgpiekpepaaDoor.Chn
