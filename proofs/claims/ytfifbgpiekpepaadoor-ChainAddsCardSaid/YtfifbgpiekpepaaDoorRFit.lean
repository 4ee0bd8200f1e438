/- The reference's Fit: the chain of values, by differences. -/
import Derived.Test.YtfifbgpiekpepaaDoorFitW
import Derived.Deep.QuietTactic
namespace Go.Proofs.YtfifbgpiekpepaaDoor.Chn
open Go.RowKit

/-- two lists of numbers of the call's own, apart -/
structure TwoR (w : World) (base : Nat) (v u : Value) (ys r : List Int) : Prop where
  out : Num w base v ys
  row : Num w base u r
  apart : ∀ k, v.ownBlock = some k → u.ownBlock ≠ some k

theorem one_new (w : World) (x : Value) : ∀ (j : Nat) (u : Value), [x][j]? = some u → (w.alloc (.cells #[x] 3)).cell? ((⟨w.heap.size, 0, none⟩ : Addr).add j) = some u := by
  intro j u hu
  cases j with
  | zero =>
    have e : x = u := by simpa using hu
    subst e
    exact row_cells (heap_alloc_new w (.cells #[x] 3)) rfl 0
  | succ j => simp at hu

theorem TwoR.put {w : World} {base g n c j : Nat} {v : Value} {ys r : List Int} {y : Int} (h : TwoR w base v (.slice (some ⟨g, 0, none⟩) n c) ys r) : TwoR (w.setCell ⟨g, j, none⟩ (.int .i64 y)).drew base v (.slice (some ⟨g, 0, none⟩) n c) ys (r.set j y) := by
  have hn : n = r.length := by
    obtain ⟨A, c2, e, _⟩ := h.row.read
    injection e
  subst hn
  refine ⟨World.ownsRow.drew (World.ownsRow.kept h.out (World.ownsRow.stored h.row j (.int .i64 y)).2 ?_), World.ownsRow.drew h.row.set, h.apart⟩
  cases hv : v.ownBlock with
  | none => exact .inl rfl
  | some k => exact .inr (fun e => by injection e with e; exact h.apart k hv (by rw [e]; rfl))

theorem Num.cell {w : World} {base g n c j : Nat} {ys : List Int} {y : Int} (h : Num w base (.slice (some ⟨g, 0, none⟩) n c) ys) (hy : ys[j]? = some y) : w.cell? ⟨g, j, none⟩ = some (.int .i64 y) := by
  obtain ⟨A, c, e, hr⟩ := h.read
  injection e with e
  subst e
  obtain ⟨g, e, _, _, hc⟩ := hr j y hy
  injection e with e
  injection e with e
  subst e
  exact hc

theorem Num.open_ {w : World} {base g n c j : Nat} {ys : List Int} (h : Num w base (.slice (some ⟨g, 0, none⟩) n c) ys) : w.frozen? ⟨g, j, none⟩ = false := by
  have hn : n = ys.length := by
    obtain ⟨A, c2, e, _⟩ := h.read
    injection e
  subst hn
  exact World.ownsRow.frozenAt h j

/-- a row of values whose first i numbers are their differences -/
structure DiffTo (zs l : List Int) (i : Nat) : Prop where
  len : zs.length = l.length
  low : ∀ j, j < i → zs[j]? = some (wrp (l.getD (j + 1) 0 - l.getD j 0))
  high : ∀ j, i ≤ j → zs[j]? = l[j]?

theorem DiffTo.put {zs l : List Int} {i : Nat} {a b : Int} (h : DiffTo zs l i) (ha : l[i + 1]? = some a) (hb : l[i]? = some b) : DiffTo (zs.set i (wrp (a - b))) l (i + 1) := by
  have hi := (List.getElem?_eq_some_iff.1 hb).1
  refine ⟨by rw [List.length_set]; exact h.len, fun j hj => ?_, fun j hj => ?_⟩
  · by_cases e : j = i
    · subst e
      rw [List.getElem?_set_self (by rw [h.len]; exact hi), List.getD_eq_getElem?_getD, List.getD_eq_getElem?_getD, ha, hb]
      rfl
    · rw [List.getElem?_set_ne (by omega)]
      exact h.low j (by omega)
  · rw [List.getElem?_set_ne (by omega)]
    exact h.high j (by omega)

theorem DiffTo.done {zs l : List Int} {n : Nat} (h : DiffTo zs l n) (hl : l.length = n + 1) : zs.take n = dW l := by
  apply List.ext_getElem?
  intro j
  unfold dW
  rw [List.getElem?_map, List.getElem?_take]
  split
  · rename_i hj
    rw [h.low j hj, List.getElem?_range (by omega)]
    rfl
  · rename_i hj
    rw [List.getElem?_eq_none (by simp; omega)]
    rfl

set_option maxRecDepth 100000 in
set_option maxHeartbeats 4000000 in
theorem refFit_any (xs : List Int) (B : Nat) (v : Value) (w : World) (hx : Ints w B v xs) (hB : B ≤ w.heap.size) (hn : xs.length ≤ 10000) :
    Calls Tryd.prog 23 #[v] w fun e w' => ∃ v', e = .returned v' ∧ Num w' w.heap.size v' (trimM (fitW xs.length xs)) ∧ Below w.heap.size w w' := by
  have HX := hideI hx
  obtain ⟨A, c, rfl, _, _⟩ := hx
  have HB := hideI hB
  have HN := hideI hn
  clear hB hn
  obtain ⟨i0, hi, hz0, hz1, hz2⟩ := info_parts int_info
  obtain ⟨W0, hW0⟩ : ∃ W0 : World, W0 = w.alloc (.cells #[] 3) := ⟨_, rfl⟩
  have HO0 : Hid (Num W0 w.heap.size (.slice (some ⟨w.heap.size, 0, none⟩) 0 0) []) := hideI (by rw [hW0]; exact World.ownsRow_made (base := w.heap.size) (e := 3) (size := 1) w #[] 0 (Nat.le_refl _) (by decide) rfl)
  have HB0 : Hid (Below w.heap.size w W0) := hideI (by rw [hW0]; exact (Below.refl _ w).alloc (Nat.le_refl _) _)
  have hs0 : w.heap.size < W0.heap.size := by rw [hW0]; simp
  have HW0 := hideI hW0
  clear hW0
  go_enter Tryd.func23, Tryd.ntmps23
  go_upto_region 2 with fail
  rw [← HW0.out]
  go_upto_region 3 with (at_builtin; go_must (refine wpList_copy rfl _ _ rfl B W0.heap.size (.slice A xs.length c) xs rfl rfl ((HX.out.keep (HB0.out.mono HB.out)).keep ((Below.refl _ W0).alloc (Nat.le_trans HB.out (Nat.le_of_lt hs0)) _)) (heap_alloc_new W0 _) (Nat.le_trans HN.out (by decide)) W0.heap.size (Nat.le_refl _) ?_); intro A1 c1 w1 hown hg hv)
  have HT1 : Hid (TwoR w1 w.heap.size (.slice (some ⟨w.heap.size, 0, none⟩) 0 0) (.slice A1 xs.length c1) [] xs) := hideI ⟨(HO0.out.kept (grown_below hg hown (Nat.le_refl _))), Num.mono hown (Nat.le_of_lt hs0), fun k hk e => by
    have h1 := (World.ownsRow.lt hown k e).1
    have h2 : w.heap.size = k := by simpa [Value.ownBlock] using hk
    omega⟩
  have HB1 : Hid (Below w.heap.size w w1) := hideI (HB0.out.trans ((grown_below hg hown (Nat.le_refl _)).mono (Nat.le_of_lt hs0)))
  clear hown hg hv
  go_loopw [3, 4] (fun u3 u4 wv => ∃ (ys r : List Int) (A3 A4 : Option Addr) (c3 c4 : Nat), u3 = .slice A3 ys.length c3 ∧ u4 = .slice A4 r.length c4 ∧ Hid (ys.length + r.length = xs.length) ∧ Hid (TwoR wv w.heap.size (.slice A3 ys.length c3) (.slice A4 r.length c4) ys r) ∧ Hid (ys ++ fitW r.length r = fitW xs.length xs) ∧ Hid (Below w.heap.size w wv)) (fun _ u4 _ => sliceLen u4)
  case atStart => exact ⟨[], xs, _, _, _, _, rfl, rfl, hideI (by simp), HT1, hideI rfl, HB1⟩
  case round =>
    obtain ⟨ys, r, A3, A4, c3, c4, rfl, rfl, HL, HT, HF, HBr⟩ := hrel
    have hn5 := HN.out
    have hl5 := HL.out
    cases r with
    | nil =>
      have hE : ys = fitW xs.length xs := by have h := HF.out; simpa [fitW] using h
      have HTR := hideI (refTrim_any ys wr.heap.size (.slice A3 ys.length c3) wr (HT.out.out.ints (by omega)) (Nat.le_refl _) (by omega))
      have HE := hideI hE
      clear hE
      go_wp2_with (go_at_call 19; go_must (refine HTR.out.mono ?_); rintro e w6 ⟨v6, rfl, hv, hb⟩; have HV := hideI hv; have HB6 := hideI hb; clear hv hb)
      go_ret
      exact ⟨_, rfl, by rw [← HE.out]; exact HV.out.mono HBr.out.size, HBr.out.trans (HB6.out.mono HBr.out.size)⟩
    | cons x r =>
      obtain ⟨n, hn⟩ : ∃ n, n = r.length := ⟨_, rfl⟩
      have HNR := hideI hn
      simp only [List.length_cons]
      simp only [List.length_cons] at hl5
      rw [← hn] at hl5 ⊢
      have HT2 : Hid (TwoR wr w.heap.size (.slice A3 ys.length c3) (.slice A4 (n + 1) c4) ys (x :: r)) := hideI (by rw [hn]; exact HT.out)
      obtain ⟨A4', c4', e4, hr4⟩ := HT2.out.row.read
      obtain ⟨g4, hg4, hb4, hl4, hc4⟩ := hr4 0 x rfl
      injection e4 with e4 e5 e6
      subst e4 e6 hg4
      clear hr4 HT e5
      subst hn
      have hown := HT2.out.out
      unfold Num at hown
      have hn0 : (0 : Int) < (r.length : Int) + 1 := by omega
      go_upto_region 5 with (at_builtin; refine wpList_append_lies _ rfl _ _ _ rfl w.heap.size 3 i0 _ 1 8 Tryd.underlying24 hi hz0 hz1 hz2 rfl (by decide) _ _ _ rfl (hown.alloc _) ⟨wr.heap.size, 0, none⟩ 1 1 [.int .i64 x] rfl rfl (one_new _ _) (by simp [Value.oneCell']) (by decide) (by unfold maxLen; omega) (by omega) (by simp; omega) _ rfl ?_; intro g1 cap1 w2 hown1 hgrow1 hor hgl1)
      have hg14 : g1 ≠ g4 := by
        rcases hor with h | h
        · have h : (Value.slice A3 ys.length c3).ownBlock = some g1 := h
          intro e
          exact HT2.out.apart g1 h (by rw [e]; rfl)
        · have h : g1 = wr.heap.size + 1 := by first | simpa using h | (simpa [Value.ownBlock] using h) 
          omega
      have HT3 : Hid (TwoR w2 w.heap.size (.slice (some ⟨g1, 0, none⟩) (ys.length + 1) cap1) (.slice (some ⟨g4, 0, none⟩) (r.length + 1) c4) (ys ++ [x]) (x :: r)) := hideI ⟨Num.push rfl hown1, by
          refine World.ownsRow.kept (World.ownsRow.alloc HT2.out.row _) hgrow1 (.inr fun e => ?_)
          exact HT2.out.apart g4 e.symm rfl, fun k hk e => by
            have e1 : g1 = k := by simpa [Value.ownBlock] using hk
            have e2 : g4 = k := by simpa [Value.ownBlock] using e
            omega⟩
      have HB2 : Hid (Below w.heap.size w w2) := hideI (HBr.out.trans (by
        have hz := HBr.out.size
        refine ⟨hgrow1.os, hgrow1.tape, hgrow1.output, by have := hgrow1.size; simp at this; omega, fun k hk => ?_⟩
        rw [hgrow1.block k (by simp; omega) (fun e => by have := (World.ownsRow.lt hown k e.symm).1; omega), Below.heap_alloc _ _ _ (by omega)]))
      have HLN : Hid ((x :: r).length = r.length + 1) := hideI rfl
      have HF2 : Hid ((ys ++ [x]) ++ fitW r.length (dW (x :: r)) = fitW xs.length xs) := hideI (by
        have h := HF.out
        rw [List.length_cons, fitW] at h
        rw [List.append_assoc]
        exact h)
      clear hown hown1 hgrow1 hor hgl1 HT2 HBr HF hc4 hb4 hl4
      obtain ⟨l, hl⟩ : ∃ l, l = x :: r := ⟨_, rfl⟩
      rw [← hl] at HT3 HF2 HLN
      obtain ⟨n2, hn2⟩ : ∃ n2, n2 = r.length := ⟨_, rfl⟩
      have HN2 := hideI hn2
      rw [← hn2] at HT3 HF2 HLN ⊢
      have hn5b : n2 < 10001 := by omega
      clear hl hn2 hl5
      go_wp2
      go_loopw [5] (fun u5 wv => ∃ (i : Nat) (zs : List Int), i ≤ n2 ∧ u5 = .int .i64 i ∧ Hid (DiffTo zs l i) ∧ Hid (TwoR wv w.heap.size (.slice (some ⟨g1, 0, none⟩) (ys.length + 1) cap1) (.slice (some ⟨g4, 0, none⟩) (n2 + 1) c4) (ys ++ [x]) zs) ∧ Hid (Below w.heap.size w wv)) (fun u5 _ => n2 - (intOf u5).toNat)
      case atStart => exact ⟨0, l, Nat.zero_le _, rfl, hideI ⟨rfl, fun j hj => by omega, fun j _ => rfl⟩, HT3, HB2⟩
      case round =>
        obtain ⟨i, zs, hi, rfl, HDF, HTW, HBW⟩ := hrel
        by_cases hlt : i < n2
        · obtain ⟨va, hva⟩ : ∃ a, l[i + 1]? = some a := ⟨_, List.getElem?_eq_getElem (by rw [HLN.out]; omega)⟩
          obtain ⟨vb, hvb⟩ : ∃ a, l[i]? = some a := ⟨_, List.getElem?_eq_getElem (by rw [HLN.out]; omega)⟩
          have HVA := hideI hva
          have HVB := hideI hvb
          have d1 := HTW.out.row.cell (j := i + 1) (by rw [HDF.out.high (i + 1) (by omega)]; exact hva)
          have d2 := HTW.out.row.cell (j := i) (by rw [HDF.out.high i (by omega)]; exact hvb)
          have z1 := HTW.out.row.open_ (j := i)
          clear hva hvb
          have hk0 : (0 : Int) ≤ (i : Int) + 1 := by omega
          have hk1 : (i : Int) < (n2 : Int) + 1 := by omega
          have hk2 : (i : Int) + 1 < (n2 : Int) + 1 := by omega
          have hwk : IntKind.i64.wrap ((i : Int) + 1) = (i : Int) + 1 := IntWalk.i64_in _ (by omega)
          have hS0 : wr.cell? ⟨g4, i + 1, none⟩ = some (.int .i64 va) ∧ wr.cell? ⟨g4, i, none⟩ = some (.int .i64 vb) := ⟨d1, d2⟩
          clear d1
          go_upto_region 8 with fail
          refine wp_region_late (by kernel_rfl) (fun V => V.cell? ⟨g4, i + 1, none⟩ = some (.int .i64 va) ∧ V.cell? ⟨g4, i, none⟩ = some (.int .i64 vb)) [13] ?_
          refine wpAnyT_quiet (i := 0) (v := ?_) rfl (by kernel_rfl) (by kernel_rfl) (by kernel_rfl) (fun _ _ _ h => h) (Or.inl ⟨by rfl, ?_⟩) ?_
          rotate_left
          · (intro w; go_simp; try with_reducible rfl)
          try simp only [Act.put, List.setIfInBounds_toArray, List.set_cons_zero, List.set_cons_succ]
          refine wpAnyT_quiet (i := 1) (v := ?_) rfl (by kernel_rfl) (by kernel_rfl) (by kernel_rfl) (fun _ _ _ h => h) (Or.inl ⟨by rfl, ?_⟩) ?_
          rotate_left
          · (intro w; go_simp; try with_reducible rfl)
          try simp only [Act.put, List.setIfInBounds_toArray, List.set_cons_zero, List.set_cons_succ]
          refine wpAnyT_quiet (i := 2) (v := ?_) rfl (by kernel_rfl) (by kernel_rfl) (by kernel_rfl) (fun _ _ _ h => h) (Or.inl ⟨by rfl, ?_⟩) ?_
          rotate_left
          · (intro w; go_simp; try with_reducible rfl)
          try simp only [Act.put, List.setIfInBounds_toArray, List.set_cons_zero, List.set_cons_succ]
          refine wpAnyT_quiet (i := 3) (v := ?_) rfl (by kernel_rfl) (by kernel_rfl) (by kernel_rfl) (fun _ _ _ h => h) (Or.inl ⟨by rfl, ?_⟩) ?_
          rotate_left
          · (intro w; go_simp; try with_reducible rfl)
          try simp only [Act.put, List.setIfInBounds_toArray, List.set_cons_zero, List.set_cons_succ]
          refine wpAnyT_quiet (i := 4) (v := ?_) rfl (by kernel_rfl) (by kernel_rfl) (by kernel_rfl) (fun _ _ _ h => h) (Or.inl ⟨by rfl, ?_⟩) ?_
          rotate_left
          · (intro w; go_simp; try with_reducible rfl)
          try simp only [Act.put, List.setIfInBounds_toArray, List.set_cons_zero, List.set_cons_succ]
          refine wpAnyT_quiet (i := 5) (v := ?_) rfl (by kernel_rfl) (by kernel_rfl) (by kernel_rfl) (fun _ _ _ h => h) (Or.inl ⟨by rfl, ?_⟩) ?_
          rotate_left
          · (intro w; go_simp; try with_reducible rfl)
          try simp only [Act.put, List.setIfInBounds_toArray, List.set_cons_zero, List.set_cons_succ]
          refine wpAnyT_take [13] (i := 6) (v := ?_) rfl (by kernel_rfl) (by kernel_rfl) (by kernel_rfl) (by kernel_rfl) (by kernel_rfl) (by kernel_rfl) (fun _ _ _ h => h) hS0 (Or.inl ⟨by rfl, ?_⟩) ?_
          rotate_left
          · (intro w hSw; go_split_ands; go_simp; try with_reducible rfl)
          try simp only [Act.put, List.setIfInBounds_toArray, List.set_cons_zero, List.set_cons_succ]
          refine wpAnyT_quiet (i := 7) (v := ?_) rfl (by kernel_rfl) (by kernel_rfl) (by kernel_rfl) (fun _ _ _ h => h) (Or.inl ⟨by rfl, ?_⟩) ?_
          rotate_left
          · (intro w; go_simp; try with_reducible rfl)
          try simp only [Act.put, List.setIfInBounds_toArray, List.set_cons_zero, List.set_cons_succ]
          refine wpAnyT_quiet (i := 8) (v := ?_) rfl (by kernel_rfl) (by kernel_rfl) (by kernel_rfl) (fun _ _ _ h => h) (Or.inl ⟨by rfl, ?_⟩) ?_
          rotate_left
          · (intro w; go_simp; try with_reducible rfl)
          try simp only [Act.put, List.setIfInBounds_toArray, List.set_cons_zero, List.set_cons_succ]
          refine wpAnyT_quiet (i := 9) (v := ?_) rfl (by kernel_rfl) (by kernel_rfl) (by kernel_rfl) (fun _ _ _ h => h) (Or.inl ⟨by rfl, ?_⟩) ?_
          rotate_left
          · (intro w; go_simp; try with_reducible rfl)
          try simp only [Act.put, List.setIfInBounds_toArray, List.set_cons_zero, List.set_cons_succ]
          refine wpAnyT_take [13] (i := 10) (v := ?_) rfl (by kernel_rfl) (by kernel_rfl) (by kernel_rfl) (by kernel_rfl) (by kernel_rfl) (by kernel_rfl) (fun _ _ _ h => h) hS0 (Or.inl ⟨by rfl, ?_⟩) ?_
          rotate_left
          · (intro w hSw; go_split_ands; go_simp; try with_reducible rfl)
          try simp only [Act.put, List.setIfInBounds_toArray, List.set_cons_zero, List.set_cons_succ]
          refine wpAnyT_quiet (i := 11) (v := ?_) rfl (by kernel_rfl) (by kernel_rfl) (by kernel_rfl) (fun _ _ _ h => h) (Or.inl ⟨by rfl, ?_⟩) ?_
          rotate_left
          · (intro w; go_simp; try with_reducible rfl)
          try simp only [Act.put, List.setIfInBounds_toArray, List.set_cons_zero, List.set_cons_succ]
          refine wpAnyT_quiet (i := 12) (v := ?_) rfl (by kernel_rfl) (by kernel_rfl) (by kernel_rfl) (fun _ _ _ h => h) (Or.inl ⟨by rfl, ?_⟩) ?_
          rotate_left
          · (intro w; go_simp; try with_reducible rfl)
          try simp only [Act.put, List.setIfInBounds_toArray, List.set_cons_zero, List.set_cons_succ]
          refine wpAnyT_ready (rs := [13]) (by kernel_rfl) (by simp) ?_
          refine AllReadyT.cons rfl (fun K hK => ?_) ?_
          · 
            go_simp
            refine hK.out _ _ (fun h => absurd (by simp) h) ?_
            clear hK K
            try simp only [Act.put, List.setIfInBounds_toArray, List.set_cons_zero, List.set_cons_succ]
            refine wpAnyT_done (by kernel_rfl) ?_ _
            go_wp2
            go_roundw
            case rel =>
              refine ⟨i + 1, _, by omega, by go_num, hideI (?_ : DiffTo (zs.set i (wrap64 (va - vb))) l (i + 1)), hideI HTW.out.put, hideI (HBW.out.setCell (World.ownsRow.lt HTW.out.row g4 rfl).1 _).drew⟩
              rw [odd_wrap]
              exact HDF.out.put HVA.out HVB.out
            case measure => simp [intOf]; omega
          · exact AllReadyT.nil
        · have hin : i = n2 := by omega
          subst hin
          have hcap := HTW.out.row.cap.1
          have k1 : (i : Int) ≤ (c4 : Int) := by omega
          have k2 : ¬ c4 = 0 := by omega
          have hz := HDF.out.done HLN.out
          have HRW : Hid (TwoR wr w.heap.size (.slice (some ⟨g1, 0, none⟩) (ys.length + 1) cap1) (.slice (some ⟨g4, 0, none⟩) i c4) (ys ++ [x]) (dW l)) := hideI ⟨HTW.out.out, HTW.out.row.less i (by omega) hz.symm, HTW.out.apart⟩
          have HDL : Hid ((dW l).length = i) := hideI (by rw [dW_len, HLN.out]; rfl)
          have HSUM : Hid ((ys ++ [x]).length + (dW l).length = xs.length) := hideI (by
            have h1 := HL.out
            have h2 := HN2.out
            rw [HDL.out]
            simp only [List.length_cons, List.length_append, List.length_nil] at h1 ⊢
            omega)
          clear hz hcap HDF HTW
          go_wp2
          go_roundw
          case rel => exact ⟨ys ++ [x], dW l, some ⟨g1, 0, none⟩, some ⟨g4, 0, none⟩, cap1, c4, by simp, by rw [HDL.out], HSUM, hideI (by have h := HRW.out; rw [List.length_append, HDL.out]; exact h), hideI (by rw [HDL.out]; exact HF2.out), HBW⟩
          case measure =>
            have h2 := HN2.out
            simp [sliceLen]
            omega
end Go.Proofs.YtfifbgpiekpepaaDoor.Chn
