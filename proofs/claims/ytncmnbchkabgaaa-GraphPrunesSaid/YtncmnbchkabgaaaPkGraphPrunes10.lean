/- What GraphPrunes rests on, part 10: PruneN, PrunePhi, PruneOwn, PruneBlock, RWithout. -/
import Derived.Test.YtncmnbchkabgaaaPkGraphPrunes9
import Derived.BigRegion
import Derived.Deep.LoopGhost
import Derived.ArgAppend

namespace Go.Proofs.Ytncmnbchkabgaaa
open Go.RowKit Go.Maps

/-- how many of the first b stay -/
def cntS (S : Nat → Bool) : Nat → Nat
  | 0 => 0
  | b + 1 => cntS S b + if S b then 1 else 0
/-- the number of a block, when those that do not stay are left out -/
def nowI (S : Nat → Bool) (b : Nat) : Int := if S b then (cntS S b : Int) else -1
/-- the numbers, of the first k -/
def nowTo (S : Nat → Bool) (n k : Nat) : List Int := (List.range n).map fun b => if b < k then nowI S b else 0

theorem cntS_le (S : Nat → Bool) : ∀ b, cntS S b ≤ b
  | 0 => Nat.le_refl _
  | b + 1 => by
    have := cntS_le S b
    unfold cntS
    split <;> omega

theorem nowTo_at {S : Nat → Bool} {n k b : Nat} (h : b < n) : (nowTo S n k)[b]? = some (if b < k then nowI S b else 0) := by
  unfold nowTo
  rw [List.getElem?_map, List.getElem?_eq_getElem (by simpa using h)]
  simp

theorem nowTo_len (S : Nat → Bool) (n k : Nat) : (nowTo S n k).length = n := by simp [nowTo]

theorem nowTo_set {S : Nat → Bool} {n k : Nat} : (nowTo S n k).set k (nowI S k) = nowTo S n (k + 1) := by
  apply List.ext_getElem?
  intro i
  by_cases hi : i < n
  · by_cases e : k = i
    · subst e
      rw [List.getElem?_set_self (by rw [nowTo_len]; exact hi), nowTo_at hi, if_pos (by omega)]
    · rw [List.getElem?_set_ne e, nowTo_at hi, nowTo_at hi]
      by_cases h : i < k
      · rw [if_pos h, if_pos (by omega)]
      · rw [if_neg h, if_neg (by omega)]
  · rw [List.getElem?_eq_none (by rw [List.length_set, nowTo_len]; omega), List.getElem?_eq_none (by rw [nowTo_len]; omega)]

theorem nowTo_made (S : Nat → Bool) (n : Nat) : (madeCells (Value.int .i64 0).cells (n * 1)).toList = (nowTo S n 0).map (Value.int .i64) := by
  rw [show (Value.int .i64 0).cells = #[Value.int .i64 0] from rfl, toList_madeCells_one, Nat.mul_one]
  unfold nowTo
  rw [List.map_map]
  apply List.ext_getElem?
  intro i
  by_cases hi : i < n
  · rw [List.getElem?_replicate, if_pos hi, List.getElem?_map, List.getElem?_eq_getElem (by simpa using hi)]
    simp
  · rw [List.getElem?_eq_none (by simp; omega), List.getElem?_eq_none (by simp; omega)]

def NowPost (bs : List BlockM) (w : World) (e : Ending) (w' : World) : Prop :=
  ∃ (o : List Nat) (g : Nat), e = .returned (.slice (some ⟨g, 0, none⟩) bs.length bs.length) ∧ OrderIs bs o ∧
    w'.ownsRow w.heap.size 3 1 (.slice (some ⟨g, 0, none⟩) bs.length bs.length) bs.length ((nowTo (fun b => decide (b ∈ o)) bs.length bs.length).map (Value.int .i64)) ∧ Below w.heap.size w w'

theorem now_stored {w w0 : World} {base g n cap k : Nat} {S : Nat → Bool} (h : w.ownsRow base 3 1 (.slice (some ⟨g, 0, none⟩) n cap) n ((nowTo S n k).map (Value.int .i64))) (hg : w0.grownBy w (some g)) :
    (S k = false → (w.setCell ⟨g, k, none⟩ (.int .i64 (-1))).ownsRow base 3 1 (.slice (some ⟨g, 0, none⟩) n cap) n ((nowTo S n (k + 1)).map (Value.int .i64)) ∧ w0.grownBy (w.setCell ⟨g, k, none⟩ (.int .i64 (-1))) (some g)) ∧
    (S k = true → ((w.setCell ⟨g, k, none⟩ (.int .i64 (-1))).setCell ⟨g, k, none⟩ (.int .i64 (cntS S k))).ownsRow base 3 1 (.slice (some ⟨g, 0, none⟩) n cap) n ((nowTo S n (k + 1)).map (Value.int .i64)) ∧ w0.grownBy ((w.setCell ⟨g, k, none⟩ (.int .i64 (-1))).setCell ⟨g, k, none⟩ (.int .i64 (cntS S k))) (some g)) := by
  have h1 := World.ownsRow.stored h k (.int .i64 (-1))
  refine ⟨fun hs => ⟨?_, hg.trans_grown h1.2⟩, fun hs => ?_⟩
  · have e := h1.1
    rw [← List.map_set (f := Value.int .i64) (a := (-1 : Int))] at e
    rw [← nowTo_set]
    unfold nowI
    rw [hs]
    exact e
  · have h2 := World.ownsRow.stored h1.1 k (.int .i64 (cntS S k))
    refine ⟨?_, (hg.trans_grown h1.2).trans_grown h2.2⟩
    have e := h2.1
    rw [List.set_set, ← List.map_set (f := Value.int .i64) (a := (cntS S k : Int))] at e
    rw [← nowTo_set]
    unfold nowI
    rw [hs]
    exact e

set_option maxRecDepth 100000 in
set_option maxHeartbeats 2000000 in
theorem numbersNow_any (bs : List BlockM) (B : Nat) (pv av cv bv : Value) (w : World) (hbv : BlocksR w B bv bs) (hB : B ≤ w.heap.size) (h0 : 0 < bs.length) (hn5 : bs.length ≤ 512) (hin : EndsIn bs) :
    Calls Try.prog 30 #[.agg #[pv, av, cv, bv]] w (NowPost bs w) := by
  have HBL := hideI hbv
  have HIN := hideI hin
  obtain ⟨A, c, rfl, hbm, _⟩ := hbv
  obtain ⟨i0, hix, hz0, hz1, hz2⟩ := info_parts int_info
  clear hin
  go_enter Try.func30, Try.ntmps30
  go_wp2_with (first
    | (at_make; go_must (refine wpList_make_full _ rfl _ _ 22 rfl (w.heap.size + 1) 3 i0 (.int .i64 0) 1 Try.underlying22 hix hz0 hz1 .i64 .i64 _ _ bs.length rfl rfl rfl rfl (by rw [hz2]; omega) (by unfold maxLen; omega) (by simp) ?_); intro w1 hown1 hg1; rw [World.size_alloc] at hown1; go_must (have hgb := row_cells ((hg1.block w.heap.size (by simp) (by simp)).trans (heap_alloc_new w _)) rfl; have HB0 : Hid (Below w.heap.size w w1) := ((Below.refl _ _).alloc (Nat.le_refl _) _).grown hg1 (by simp) (by simp); have hlt1 : w.heap.size + 1 < w1.heap.size := (hown1.lt _ rfl).2; have HO1 := hideI hown1; clear hown1 hg1; have g0 := hgb 0; have g1 := hgb 1; have g2 := hgb 2; have g3 := hgb 3; clear hgb))
    | (go_at_call 45; go_must (refine (reach_any bs B _ _ _ _ _ (HBL.out.keeps (Keeps.of_below (HB0.out.mono hB))) (Nat.le_trans hB HB0.out.size) h0 hn5 HIN.out).mono ?_); rintro e w2 ⟨o, g, rfl, ho, hown2, hb2⟩; go_must (have HORD := hideI ho; have HX := hideI hown2; have hg0 := hown2.lt g rfl; have HO2 := hideI (own_kept_below HO1.out hb2 (fun k hk => by cases hk; exact hlt1)); have HB2 := hideI (HB0.out.trans (hb2.mono HB0.out.size)); have hlt2 := hb2.size; clear ho hown2 hb2 g0 g1 g2 g3)))
  obtain ⟨S, hS⟩ : ∃ S : Nat → Bool, S = fun b => decide (b ∈ o) := ⟨_, rfl⟩
  have HS := hideI hS
  rw [nowTo_made S] at HO2
  clear hS
  go_loopw [4, 15] (fun u4 u15 wr => ∃ (k l : Nat), k ≤ bs.length ∧ l ≤ k ∧ u4 = .int .i64 l ∧ u15 = .int .i64 k ∧ Hid (l = cntS S k) ∧ Hid (wr.ownsRow (w.heap.size + 1) 3 1 (.slice (some ⟨w.heap.size + 1, 0, none⟩) bs.length bs.length) bs.length ((nowTo S bs.length k).map (Value.int .i64))) ∧ Hid (w2.grownBy wr (some (w.heap.size + 1)))) (fun _ u _ => bs.length - (intOf u).toNat)
  case atStart => exact ⟨0, 0, Nat.zero_le _, Nat.le_refl _, rfl, rfl, hideI rfl, HO2, hideI (World.grownBy.refl _ _)⟩
  case round =>
    obtain ⟨k, l, hk, hl, rfl, rfl, HL, HR, HG⟩ := hrel
    by_cases hlt : k < bs.length
    · have hr : wr.ownsRow w1.heap.size 4 1 (.slice (some ⟨g, 0, none⟩) bs.length bs.length) bs.length (marks bs.length o) := HX.out.kept HG.out (.inr (by simp [Value.ownBlock]; omega))
      have c1 : wr.cell? ⟨g, k, none⟩ = some (.bool (decide (k ∈ o))) := by rw [World.ownsRow.cellAt hr k (by omega), marks_at hlt]
      have c2 : wr.cell? ⟨w.heap.size + 1, k, none⟩ = some (.int .i64 0) := by
        rw [World.ownsRow.cellAt HR.out k (by omega), List.getElem?_map, nowTo_at hlt, if_neg (by omega)]
        rfl
      have c3 : wr.frozen? ⟨w.heap.size + 1, k, none⟩ = false := World.ownsRow.frozenAt HR.out k
      have HN := hideI (now_stored HR.out HG.out)
      clear hr
      cases hd : decide (k ∈ o)
      · have HSK : Hid (S k = false) := by show _ = _; rw [HS.out]; exact hd
        have HL2 : Hid (l = cntS S (k + 1)) := by show _ = _; rw [cntS, HSK.out]; exact HL.out
        rw [hd] at c1
        clear hd
        go_wp2
        go_roundw
        case rel => exact ⟨k + 1, l, by omega, by omega, rfl, by go_num, HL2, hideI (HN.out.1 HSK.out).1, hideI (HN.out.1 HSK.out).2⟩
        case measure => simp [intOf]; omega
      · have HSK : Hid (S k = true) := by show _ = _; rw [HS.out]; exact hd
        have HL2 : Hid (l + 1 = cntS S (k + 1)) := by show _ = _; rw [cntS, HSK.out, if_pos rfl, ← HL.out]
        have hn2 := HN.out.2 HSK.out
        rw [← HL.out] at hn2
        have HN2 := hideI hn2
        rw [hd] at c1
        clear hd hn2
        go_wp2
        go_roundw
        case rel => exact ⟨k + 1, l + 1, by omega, by omega, by go_num, by go_num, HL2, hideI HN2.out.1, hideI HN2.out.2⟩
        case measure => simp [intOf]; omega
    · have e : k = bs.length := by omega
      rw [e, HS.out] at HR
      clear e
      go_wp2
      go_ret
      exact ⟨o, _, rfl, HORD.out, World.ownsRow.mono HR.out (by omega), HB2.out.trans ⟨HG.out.os, HG.out.tape, HG.out.output, HG.out.size, fun b hb => HG.out.block b (Nat.lt_of_lt_of_le hb HB2.out.size) (by simp; omega)⟩⟩

end Go.Proofs.Ytncmnbchkabgaaa

namespace Go.Proofs.Ytncmnbchkabgaaa
open Go.RowKit Go.Maps

/-- of the first k places of a phi those that stay -/
def keepF (num : Int → Int) (fr : List Int) : Nat → List Int
  | 0 => []
  | k + 1 => keepF num fr k ++ match fr[k]? with | some x => if num x = -1 then [] else [num x] | none => []
def keepV (num : Int → Int) (fr vals : List Int) : Nat → List Int
  | 0 => []
  | k + 1 => keepV num fr vals k ++ match fr[k]? with | some x => if num x = -1 then [] else [vals[k]?.getD 0] | none => []

def prunePhi (num : Int → Int) (p : PhiM) : PhiM := { p with fr := keepF num p.fr p.fr.length, vals := keepV num p.fr p.vals p.fr.length }

theorem keep_len (num : Int → Int) (fr vals : List Int) : ∀ k, (keepV num fr vals k).length = (keepF num fr k).length
  | 0 => rfl
  | k + 1 => by
    unfold keepV keepF
    rw [List.length_append, List.length_append, keep_len num fr vals k]
    cases fr[k]? with
    | none => rfl
    | some x => simp only; split <;> rfl

theorem keepF_le (num : Int → Int) (fr : List Int) : ∀ k, (keepF num fr k).length ≤ k
  | 0 => Nat.le_refl _
  | k + 1 => by
    have := keepF_le num fr k
    unfold keepF
    rw [List.length_append]
    cases fr[k]? with
    | none => simp; omega
    | some x => simp only; split <;> simp <;> omega

/-- a row that is written over from the front -/
def over (kept l : List Int) : List Int := kept ++ l.drop kept.length

theorem over_len {kept l : List Int} (h : kept.length ≤ l.length) : (over kept l).length = l.length := by
  unfold over
  rw [List.length_append, List.length_drop]
  omega

theorem over_at {kept l : List Int} {k : Nat} (h : kept.length ≤ k) : (over kept l)[k]? = l[k]? := by
  unfold over
  rw [List.getElem?_append_right h, List.getElem?_drop]
  congr 1
  omega

theorem over_put {kept l : List Int} {x : Int} (h : kept.length < l.length) : (over kept l).set kept.length x = over (kept ++ [x]) l := by
  unfold over
  rw [List.set_append_right _ _ (Nat.le_refl _), Nat.sub_self, List.length_append, List.append_assoc]
  congr 1
  rw [show l.drop kept.length = l[kept.length] :: l.drop (kept.length + 1) from (List.getElem_cons_drop h).symm]
  rfl

section
variable {w W : World} {base gf gv n m cf cv : Nat} {lf lv : List Int}

theorem CS.setF (h : CS w base gf gv W (.slice (some ⟨gf, 0, none⟩) n cf) lf (.slice (some ⟨gv, 0, none⟩) m cv) lv) (hn : lf.length = n) (_hgf : gf < w.heap.size) (j : Nat) (x : Int) : CS w base gf gv (W.setCell ⟨gf, j, none⟩ (.int .i64 x)) (.slice (some ⟨gf, 0, none⟩) n cf) (lf.set j x) (.slice (some ⟨gv, 0, none⟩) m cv) lv := by
  have hf := h.f
  rw [hn] at hf
  have hs := World.ownsRow.stored hf j (.int .i64 x)
  have hap : gf ≠ gv := fun e => h.ap (by rw [e]; rfl)
  refine ⟨?_, h.v.kept hs.2 (.inr (by simp [Value.ownBlock]; exact fun e => hap e.symm)), h.ap, h.fo, h.vo, fun b hb h1 h2 => ?_, by have := h.sz; simpa using this, h.same⟩
  · rw [List.length_set, hn, List.map_set]
    exact hs.1
  · rw [heap_setCell_other _ _ _ _ (by simpa using h1)]
    exact h.keep b hb h1 h2

theorem CS.setV (h : CS w base gf gv W (.slice (some ⟨gf, 0, none⟩) n cf) lf (.slice (some ⟨gv, 0, none⟩) m cv) lv) (hm : lv.length = m) (_hgv : gv < w.heap.size) (j : Nat) (x : Int) : CS w base gf gv (W.setCell ⟨gv, j, none⟩ (.int .i64 x)) (.slice (some ⟨gf, 0, none⟩) n cf) lf (.slice (some ⟨gv, 0, none⟩) m cv) (lv.set j x) := by
  have hv := h.v
  rw [hm] at hv
  have hs := World.ownsRow.stored hv j (.int .i64 x)
  have hap : gf ≠ gv := fun e => h.ap (by rw [e]; rfl)
  refine ⟨h.f.kept hs.2 (.inr (by simp [Value.ownBlock]; exact hap)), ?_, h.ap, h.fo, h.vo, fun b hb h1 h2 => ?_, by have := h.sz; simpa using this, h.same⟩
  · rw [List.length_set, hm, List.map_set]
    exact hs.1
  · rw [heap_setCell_other _ _ _ _ (by simpa using h2)]
    exact h.keep b hb h1 h2

/-- the front of an owned row is an owned row -/
theorem own_front {xs : List Value} {e : TypeId} {k : Nat} {g cap : Nat} (h : W.ownsRow base e 1 (.slice (some ⟨g, 0, none⟩) n cap) n xs) (hk : k ≤ n) : W.ownsRow base e 1 (.slice (some ⟨g, 0, none⟩) k cap) k (xs.take k) := by
  have h1 := h.1
  rcases h.2 with ⟨h', _⟩ | ⟨g', cap', cur, h', hb, hg, hnc, hcm, hcs, htake⟩
  · cases h'
  · simp only [Value.slice.injEq, Option.some.injEq, Addr.mk.injEq, and_true, true_and] at h'
    obtain ⟨rfl, rfl⟩ := h'
    refine ⟨by rw [List.length_take]; omega, .inr ⟨g, cap, cur, rfl, hb, hg, by omega, hcm, hcs, ?_⟩⟩
    rw [← htake]
    simp only [Nat.mul_one, List.take_take]
    congr 1
    omega

theorem CS.front (h : CS w base gf gv W (.slice (some ⟨gf, 0, none⟩) n cf) lf (.slice (some ⟨gv, 0, none⟩) m cv) lv) (hn : lf.length = n) (hm : lv.length = m) {k : Nat} (h1 : k ≤ n) (h2 : k ≤ m) : CS w base gf gv W (.slice (some ⟨gf, 0, none⟩) k cf) (lf.take k) (.slice (some ⟨gv, 0, none⟩) k cv) (lv.take k) := by
  have hf := h.f
  have hv := h.v
  rw [hn] at hf
  rw [hm] at hv
  refine ⟨?_, ?_, h.ap, h.fo, h.vo, h.keep, h.sz, h.same⟩
  · rw [List.length_take, hn, Nat.min_eq_left h1, List.map_take]
    exact own_front hf h1
  · rw [List.length_take, hm, Nat.min_eq_left h2, List.map_take]
    exact own_front hv h2
end

theorem row_cap {W : World} {base : Nat} {e : TypeId} {g n cap : Nat} {xs : List Value} (h : W.ownsRow base e 1 (.slice (some ⟨g, 0, none⟩) n cap) n xs) : n ≤ cap := by
  rcases h.2 with ⟨h', _⟩ | ⟨g', cap', cur, h', hb, hg, hnc, _⟩
  · cases h'
  · simp only [Value.slice.injEq, Option.some.injEq, Addr.mk.injEq, and_true, true_and] at h'
    omega

theorem over_take {kept l : List Int} : (over kept l).take kept.length = kept := by
  unfold over
  exact List.take_left ..

set_option maxRecDepth 100000 in
set_option maxHeartbeats 4000000 in
theorem renumberPhi_some (fr vals : List Int) (num : Int → Int) (n base g i gf fc gv vc gn nc : Nat) (w : World)
    (c2 : w.cell? ⟨g, i * 4 + 2, none⟩ = some (.slice (some ⟨gf, 0, none⟩) fr.length fc)) (c3 : w.cell? ⟨g, i * 4 + 3, none⟩ = some (.slice (some ⟨gv, 0, none⟩) vals.length vc))
    (k2 : w.frozen? ⟨g, i * 4 + 2, none⟩ = false) (k3 : w.frozen? ⟨g, i * 4 + 3, none⟩ = false)
    (hF : w.ownsRow base 3 1 (.slice (some ⟨gf, 0, none⟩) fr.length fc) fr.length (fr.map (Value.int .i64))) (hV : w.ownsRow base 3 1 (.slice (some ⟨gv, 0, none⟩) vals.length vc) vals.length (vals.map (Value.int .i64)))
    (hln : vals.length = fr.length) (h512 : fr.length ≤ 512) (hgl : g < w.heap.size) (hgf : g ≠ gf) (hgv : g ≠ gv) (hne : gf ≠ gv)
    (hN : ∀ b, b < n → w.cell? ⟨gn, b, none⟩ = some (.int .i64 (num b))) (hgn : gn < w.heap.size) (hnf : gn ≠ gf) (hnv : gn ≠ gv) (hin : ∀ x ∈ fr, 0 ≤ x ∧ x < n) (_hn5 : n ≤ 512) :
    Calls Try.prog 46 #[.pointer (some ⟨g, i * 4, none⟩), .slice (some ⟨gn, 0, none⟩) n nc] w (fun e w' => ∃ (W : World) (k : Nat), k = (keepF num fr fr.length).length ∧ e = .returned (.tuple #[]) ∧ CS w base gf gv W (.slice (some ⟨gf, 0, none⟩) k fc) (keepF num fr fr.length) (.slice (some ⟨gv, 0, none⟩) k vc) (keepV num fr vals fr.length) ∧ w' = (W.setCell ⟨g, i * 4 + 2, none⟩ (.slice (some ⟨gf, 0, none⟩) k fc)).setCell ⟨g, i * 4 + 3, none⟩ (.slice (some ⟨gv, 0, none⟩) k vc)) := by
  have HF := hideI hF
  have HV := hideI hV
  have HLN := hideI hln
  have HN := hideI hN
  have HINN := hideI hin
  have C0 : Hid (CS w base gf gv w (.slice (some ⟨gf, 0, none⟩) fr.length fc) (over [] fr) (.slice (some ⟨gv, 0, none⟩) vals.length vc) (over [] vals)) := hideI ⟨hF, hV, by simp [Value.ownBlock]; exact hne, .inl rfl, .inl rfl, fun _ _ _ _ => rfl, Nat.le_refl _, ⟨rfl, rfl, rfl⟩⟩
  have hgfl : gf < w.heap.size := (hF.lt gf rfl).2
  have hgvl : gv < w.heap.size := (hV.lt gv rfl).2
  have HC2 := hideI c2
  have HC3 := hideI c3
  have HK2 := hideI k2
  have HK3 := hideI k3
  obtain ⟨L, hL⟩ : ∃ L, L = fr.length := ⟨_, rfl⟩
  have HL := hideI hL
  have hvL : vals.length = L := by omega
  have HVL := hideI hvL
  rw [← hL] at c2 HC2 h512 ⊢
  rw [hvL] at c3 HC3
  have hS : ∀ W lf lv, CS w base gf gv W (.slice (some ⟨gf, 0, none⟩) fr.length fc) lf (.slice (some ⟨gv, 0, none⟩) vals.length vc) lv → lf.length = fr.length → lv.length = vals.length → W.cell? ⟨g, i * 4 + 2, none⟩ = some (.slice (some ⟨gf, 0, none⟩) L fc) ∧ W.cell? ⟨g, i * 4 + 3, none⟩ = some (.slice (some ⟨gv, 0, none⟩) L vc) ∧ (∀ b, b < n → W.cell? ⟨gn, b, none⟩ = some (.int .i64 (num b))) ∧ (∀ j x, lf[j]? = some x → W.cell? ⟨gf, j, none⟩ = some (.int .i64 x)) ∧ (∀ j x, lv[j]? = some x → W.cell? ⟨gv, j, none⟩ = some (.int .i64 x)) ∧ (∀ j, W.frozen? ⟨gf, j, none⟩ = false) ∧ (∀ j, W.frozen? ⟨gv, j, none⟩ = false) ∧ W.frozen? ⟨g, i * 4 + 2, none⟩ = false ∧ W.frozen? ⟨g, i * 4 + 3, none⟩ = false := by
    intro W lf lv h h1 h2
    have hf := h.f
    have hv := h.v
    rw [h1] at hf
    rw [h2] at hv
    have hkg := h.keep g hgl hgf hgv
    have hkn := h.keep gn hgn hnf hnv
    refine ⟨(World.cell?_of_block (a := ⟨g, i * 4 + 2, none⟩) hkg).trans HC2.out, (World.cell?_of_block (a := ⟨g, i * 4 + 3, none⟩) hkg).trans HC3.out, fun b hb => (World.cell?_of_block (a := ⟨gn, b, none⟩) hkn).trans (HN.out b hb), fun j x hx => ?_, fun j x hx => ?_, fun j => World.ownsRow.frozenAt hf j, fun j => World.ownsRow.frozenAt hv j, ?_, ?_⟩
    · rw [World.ownsRow.cellAt hf j (by have := (List.getElem?_eq_some_iff.1 hx).1; omega), List.getElem?_map, hx]; rfl
    · rw [World.ownsRow.cellAt hv j (by have := (List.getElem?_eq_some_iff.1 hx).1; omega), List.getElem?_map, hx]; rfl
    · have : W.frozen? ⟨g, i * 4 + 2, none⟩ = w.frozen? ⟨g, i * 4 + 2, none⟩ := by unfold World.frozen?; rw [hkg]
      rw [this]; exact HK2.out
    · have : W.frozen? ⟨g, i * 4 + 3, none⟩ = w.frozen? ⟨g, i * 4 + 3, none⟩ := by unfold World.frozen?; rw [hkg]
      rw [this]; exact HK3.out
  have HS := hideI hS
  clear hS hF hV hln hN hin c3 k2 k3 hL hvL
  go_enter Try.func46, Try.ntmps46
  go_wp2
  clear c2
  go_loopw [4, 12] (fun u4 u12 wr => ∃ (k l : Nat), k ≤ L ∧ l ≤ k ∧ u4 = .int .i64 l ∧ u12 = .int .i64 k ∧ Hid (l = (keepF num fr k).length) ∧ Hid (CS w base gf gv wr (.slice (some ⟨gf, 0, none⟩) fr.length fc) (over (keepF num fr k) fr) (.slice (some ⟨gv, 0, none⟩) vals.length vc) (over (keepV num fr vals k) vals))) (fun _ u _ => L - (intOf u).toNat)
  case atStart => exact ⟨0, 0, Nat.zero_le _, Nat.le_refl _, rfl, rfl, hideI rfl, C0⟩
  case round =>
    obtain ⟨k, l, hk, hl, rfl, rfl, HLK, HCS⟩ := hrel
    have hlf : (over (keepF num fr k) fr).length = fr.length := over_len (by have := keepF_le num fr k; have := HL.out; omega)
    have hlv : (over (keepV num fr vals k) vals).length = vals.length := over_len (by rw [keep_len]; have := keepF_le num fr k; have := HL.out; have := HLN.out; omega)
    obtain ⟨s2, s3, sn, sf, sv, zf, zv, z2, z3⟩ := HS.out _ _ _ HCS.out hlf hlv
    by_cases hlt : k < L
    · obtain ⟨x, hx⟩ : ∃ x, fr[k]? = some x := ⟨_, List.getElem?_eq_getElem (by have := HL.out; omega)⟩
      obtain ⟨y, hy⟩ : ∃ y, vals[k]? = some y := ⟨_, List.getElem?_eq_getElem (by have := HVL.out; omega)⟩
      have hxr := HINN.out x (List.mem_of_getElem? hx)
      obtain ⟨xn, rfl⟩ : ∃ xn : Nat, x = (xn : Int) := ⟨x.toNat, by omega⟩
      have hxn : xn < n := by omega
      have d0 := sf k _ (by rw [over_at (by have := HLK.out; omega)]; exact hx)
      have d1 := sv k _ (by rw [over_at (by rw [keep_len]; have := HLK.out; omega)]; exact hy)
      have d2 := sn xn hxn
      obtain ⟨xl, hxl⟩ : ∃ xl, fr[l]? = some xl := ⟨_, List.getElem?_eq_getElem (by have := HL.out; omega)⟩
      obtain ⟨yl, hyl⟩ : ∃ yl, vals[l]? = some yl := ⟨_, List.getElem?_eq_getElem (by have := HVL.out; omega)⟩
      have d3 := sf l _ (by rw [over_at (by have := HLK.out; omega)]; exact hxl)
      have d4 := sv l _ (by rw [over_at (by rw [keep_len]; have := HLK.out; omega)]; exact hyl)
      have zf0 := zf l
      have zv0 := zv l
      have HX := hideI hx
      have HY := hideI hy
      obtain ⟨z, hz⟩ : ∃ z, z = num (xn : Int) := ⟨_, rfl⟩
      have HZ := hideI hz
      rw [← hz] at d2
      clear sn sf sv zf zv z2 z3 hx hy hxr hz hlf hlv hxl hyl
      by_cases hg : z = -1
      · have hgb : (z != -1) = false := by rw [hg]; rfl
        have HF2 : Hid (keepF num fr (k + 1) = keepF num fr k) := by
          show _ = _
          rw [keepF, HX.out]
          simp only
          rw [if_pos (by rw [← HZ.out]; exact hg), List.append_nil]
        have HV2 : Hid (keepV num fr vals (k + 1) = keepV num fr vals k) := by
          show _ = _
          rw [keepV, HX.out]
          simp only
          rw [if_pos (by rw [← HZ.out]; exact hg), List.append_nil]
        clear hg
        go_wp2
        go_roundw
        case rel => exact ⟨k + 1, l, by omega, by omega, rfl, by go_num, by rw [HF2.out]; exact HLK, by rw [HF2.out, HV2.out]; exact HCS⟩
        case measure => simp [intOf]; omega
      · have hgb : (z != -1) = true := by simpa using hg
        have hF2 : keepF num fr (k + 1) = keepF num fr k ++ [z] := by
          rw [keepF, HX.out]
          simp only
          rw [if_neg (by rw [← HZ.out]; exact hg), HZ.out]
        have hV2 : keepV num fr vals (k + 1) = keepV num fr vals k ++ [y] := by
          rw [keepV, HX.out]
          simp only
          rw [if_neg (by rw [← HZ.out]; exact hg), HY.out]
          rfl
        have HLK2 : Hid (l + 1 = (keepF num fr (k + 1)).length) := by show _ = _; rw [hF2, List.length_append, ← HLK.out]; rfl
        have hlf : (over (keepF num fr k) fr).length = fr.length := over_len (by have := keepF_le num fr k; have := HL.out; omega)
        have hlv : (over (keepV num fr vals k) vals).length = vals.length := over_len (by rw [keep_len]; have := keepF_le num fr k; have := HL.out; have := HLN.out; omega)
        have hcs := (HCS.out.setF hlf hgfl l z).setV hlv hgvl l y
        have e1 : (over (keepF num fr k) fr).set l z = over (keepF num fr (k + 1)) fr := by rw [hF2, HLK.out]; exact over_put (by have := HLK.out; have := HL.out; omega)
        have e2 : (over (keepV num fr vals k) vals).set l y = over (keepV num fr vals (k + 1)) vals := by
          have e3 : l = (keepV num fr vals k).length := by rw [keep_len]; exact HLK.out
          rw [hV2, e3]
          exact over_put (by have := HLN.out; have := HL.out; omega)
        rw [e1, e2] at hcs
        have HCS2 := hideI hcs
        have hll : l < L := by omega
        clear hg hF2 hV2 hlf hlv hcs e1 e2
        go_wp2
        go_region
        go_wp2
        go_roundw
        case rel => exact ⟨k + 1, l + 1, by omega, by omega, by go_num, by go_num, HLK2, hideI HCS2.out.drew⟩
        case measure => simp [intOf]; omega
    · have hkL : k = fr.length := by have := HL.out; omega
      have hfc := row_cap HF.out
      have hvc := row_cap HV.out
      rw [← HL.out] at hfc
      rw [HVL.out] at hvc
      have hll : l ≤ L := by omega
      rw [hkL] at HCS HLK
      have HCE : Hid (CS w base gf gv wr (.slice (some ⟨gf, 0, none⟩) l fc) (keepF num fr fr.length) (.slice (some ⟨gv, 0, none⟩) l vc) (keepV num fr vals fr.length)) := by
        have h1 := (over_len (kept := keepF num fr fr.length) (l := fr) (keepF_le num fr _))
        have h2 := (over_len (kept := keepV num fr vals fr.length) (l := vals) (by rw [keep_len]; have := keepF_le num fr fr.length; have := HLN.out; omega))
        have h := HCS.out.front h1 h2 (k := l) (by have := HL.out; omega) (by have := HVL.out; omega)
        have e1 : (over (keepF num fr fr.length) fr).take l = keepF num fr fr.length := by rw [HLK.out]; exact over_take
        have e2 : (over (keepV num fr vals fr.length) vals).take l = keepV num fr vals fr.length := by rw [HLK.out, ← keep_len num fr vals]; exact over_take
        rw [e1, e2] at h
        exact hideI h
      have HLE : Hid (l = (keepF num fr fr.length).length) := HLK
      clear sn sf sv zf zv hlf hlv hkL HCS HLK
      go_wp2
      go_region
      go_end0
      exact ⟨wr.drew, l, by rw [HL.out]; exact HLE.out, rfl, by rw [HL.out]; exact HCE.out.drew, rfl⟩

end Go.Proofs.Ytncmnbchkabgaaa

namespace Go.Proofs.Ytncmnbchkabgaaa
open Go.RowKit Go.Maps

theorem upd_self {α : Type} (g : Tag → α) (t : Tag) : upd g t (g t) = g := by
  funext t'
  unfold upd
  split
  · rename_i e; rw [e]
  · rfl

set_option maxRecDepth 100000 in
set_option maxHeartbeats 1000000 in
theorem renumberPhi_none (F V : Value) (g i n gn nc : Nat) (w : World) (hF : F = .slice none 0 0 ∨ ∃ g c, F = .slice (some ⟨g, 0, none⟩) 0 c) (hV : V = .slice none 0 0 ∨ ∃ g c, V = .slice (some ⟨g, 0, none⟩) 0 c)
    (c2 : w.cell? ⟨g, i * 4 + 2, none⟩ = some F) (c3 : w.cell? ⟨g, i * 4 + 3, none⟩ = some V)
    (k2 : w.frozen? ⟨g, i * 4 + 2, none⟩ = false) (k3 : w.frozen? ⟨g, i * 4 + 3, none⟩ = false) :
    Calls Try.prog 46 #[.pointer (some ⟨g, i * 4, none⟩), .slice (some ⟨gn, 0, none⟩) n nc] w (fun e w' => ∃ W : World, e = .returned (.tuple #[]) ∧ W.heap = w.heap ∧ Below w.heap.size w W ∧ w' = (W.setCell ⟨g, i * 4 + 2, none⟩ F).setCell ⟨g, i * 4 + 3, none⟩ V) := by
  rcases hF with rfl | ⟨gf, cf, rfl⟩ <;> rcases hV with rfl | ⟨gv, cv, rfl⟩
  all_goals
    go_enter Try.func46, Try.ntmps46
    go_wp2
    go_loopw [4, 12] (fun u4 u12 wr => u4 = .int .i64 0 ∧ u12 = .int .i64 0 ∧ wr = w) (fun _ _ _ => 0)
    case atStart => exact ⟨rfl, rfl, rfl⟩
    case round =>
      obtain ⟨rfl, rfl, hw⟩ := hrel
      obtain rfl := hw.symm
      go_wp2
      go_region
      go_end0
      exact ⟨w.drew, rfl, rfl, ⟨rfl, rfl, rfl, Nat.le_refl _, fun _ _ => rfl⟩, rfl⟩

theorem prunePhi_any {f : FuncM} {val : Vals} {t i base : Nat} {q : BlockM} {p : PhiM} {gp cp : Nat} (num : Int → Int) (n gn nc : Nat) (w : World) (ho : Owned w base f val) (hq : f.blocks[t]? = some q) (hp : q.phis[i]? = some p)
    (hvp : val (.phis t) = .slice (some ⟨gp, 0, none⟩) q.phis.length cp) (hl : p.vals.length = p.fr.length) (h512 : p.fr.length ≤ 512) (hb : base ≤ w.heap.size)
    (hN : ∀ b, b < n → w.cell? ⟨gn, b, none⟩ = some (.int .i64 (num b))) (hgn : gn < w.heap.size) (hna : ∀ tag, TI f tag → (val tag).ownBlock ≠ some gn) (hin : ∀ x ∈ p.fr, 0 ≤ x ∧ x < n) (hn5 : n ≤ 512) :
    Calls Try.prog 46 #[.pointer (some ⟨gp, i * 4, none⟩), .slice (some ⟨gn, 0, none⟩) n nc] w (ComePost f val t i (prunePhi num p) base w) := by
  have hi := (List.getElem?_eq_some_iff.1 hp).1
  have tiF : TI f (.fr t i) := TI.of (row_fr (val := val) hq hp)
  have tiV : TI f (.vals t i) := TI.of (row_vals (val := val) hq hp)
  have tiP : TI f (.phis t) := TI.of (row_phis (val := val) hq)
  have rF := row_fr (val := val) hq hp
  have rV := row_vals (val := val) hq hp
  have rP := row_phis (val := val) hq
  have oF := ho.rows _ _ tiF rF
  have oV := ho.rows _ _ tiV rV
  have hcP : ∀ r u, r < 4 → (phiCells val t i p)[r]? = some u → w.cell? ⟨gp, i * 4 + r, none⟩ = some u ∧ w.frozen? ⟨gp, i * 4 + r, none⟩ = false := fun r u hr hu => by
    have := ho.cell tiP rP hvp rfl (j := i * 4 + r) (by show _ < q.phis.length * 4; omega)
    rw [phi_cell hp hr, hu] at this
    exact this
  obtain ⟨c2, k2⟩ := hcP 2 _ (by omega) rfl
  obtain ⟨c3, k3⟩ := hcP 3 _ (by omega) rfl
  have hgp := ho.lt tiP (g := gp) (by rw [hvp]; rfl)
  have hgP : (val (.phis t)).ownBlock = some gp := by rw [hvp]; rfl
  obtain ⟨p1, hp1⟩ : ∃ p1 : PhiM, p1 = prunePhi num p := ⟨_, rfl⟩
  have hid : p1.id = p.id := by rw [hp1]; rfl
  have htyp : p1.typ = p.typ := by rw [hp1]; rfl
  by_cases hpos : 0 < p.fr.length
  · have hfr : p1.fr = keepF num p.fr p.fr.length := by rw [hp1]; rfl
    have hva : p1.vals = keepV num p.fr p.vals p.fr.length := by rw [hp1]; rfl
    obtain ⟨gf, fc, hvF, hgf1, hgf2⟩ := ho.slice tiF rF hpos
    obtain ⟨gv, vc, hvV, hgv1, hgv2⟩ := ho.slice tiV rV (by show 0 < p.vals.length; omega)
    have hvF' : val (.fr t i) = .slice (some ⟨gf, 0, none⟩) p.fr.length fc := hvF
    have hvV' : val (.vals t i) = .slice (some ⟨gv, 0, none⟩) p.vals.length vc := hvV
    have hgF : (val (.fr t i)).ownBlock = some gf := by rw [hvF]; rfl
    have hgV : (val (.vals t i)).ownBlock = some gv := by rw [hvV]; rfl
    have n1 : gp ≠ gf := fun e => by have := ho.apart _ _ gp tiP tiF hgP (e ▸ hgF); cases this
    have n2 : gp ≠ gv := fun e => by have := ho.apart _ _ gp tiP tiV hgP (e ▸ hgV); cases this
    have n3 : gf ≠ gv := fun e => by have := ho.apart _ _ gf tiF tiV hgF (e ▸ hgV); cases this
    rw [hvF'] at c2 oF
    rw [hvV'] at c3 oV
    refine (renumberPhi_some p.fr p.vals num n base gp i gf fc gv vc gn nc w c2 c3 k2 k3 oF oV hl h512 hgp.2 n1 n2 n3 hN hgn (fun e => hna _ tiF (e ▸ hgF)) (fun e => hna _ tiV (e ▸ hgV)) hin hn5).mono ?_
    rintro e w' ⟨W, k, hk, rfl, hcs, rfl⟩
    rw [← hfr, ← hva] at hcs
    rw [← hp1]
    have hkf : k = p1.fr.length := by rw [hk, hfr]
    have hkv : k = p1.vals.length := by rw [hva, keep_len]; exact hk
    obtain ⟨F, hF⟩ : ∃ F, F = Value.slice (some ⟨gf, 0, none⟩) k fc := ⟨_, rfl⟩
    obtain ⟨V, hV⟩ : ∃ V, V = Value.slice (some ⟨gv, 0, none⟩) k vc := ⟨_, rfl⟩
    rw [← hF, ← hV] at hcs ⊢
    have fo : ∀ g, F.ownBlock = some g → (val (.fr t i)).ownBlock = some g ∨ w.heap.size ≤ g := fun g hg => by
      rcases hcs.fo with h | ⟨k, h, h2⟩
      · rw [hg] at h; cases h; exact .inl hgF
      · rw [hg] at h; cases h; exact .inr h2
    have vo : ∀ g, V.ownBlock = some g → (val (.vals t i)).ownBlock = some g ∨ w.heap.size ≤ g := fun g hg => by
      rcases hcs.vo with h | ⟨k, h, h2⟩
      · rw [hg] at h; cases h; exact .inl hgV
      · rw [hg] at h; cases h; exact .inr h2
    have o1 := ho.swap2 (W := W) (ta := .fr t i) (tb := .vals t i) (da := intsRow p1.fr) (db := intsRow p1.vals) (va := F) (vb := V) (by simp) hcs.f hcs.v tiF tiV hcs.ap fo vo
      (fun b hb h1 h2 => hcs.keep b hb (fun e => h1 (e ▸ hgF)) (fun e => h2 (e ▸ hgV)))
    have hv1 : upd (upd val (.fr t i) F) (.vals t i) V (.phis t) = .slice (some ⟨gp, 0, none⟩) q.phis.length cp := by rw [upd_ne _ _ (by simp), upd_ne _ _ (by simp)]; exact hvp
    have o2 := o1.set (tp := .phis t) (d := ⟨49, 4, q.phis.length, cellsOf (phiCells val t) 0 q.phis⟩) (j := i * 4 + 2) (u := F) tiP (by rw [upd_ne _ _ (by simp), upd_ne _ _ (by simp)]; exact rP) hv1 rfl
    have o3 := o2.set (tp := .phis t) (j := i * 4 + 3) (u := V) tiP (upd_same _ _ _) hv1 rfl
    have hval : ∀ tag, tag ≠ .fr t i → tag ≠ .vals t i → upd (upd val (.fr t i) F) (.vals t i) V tag = val tag := fun tag h1 h2 => by rw [upd_ne _ _ h2, upd_ne _ _ h1]
    refine ⟨upd (upd val (.fr t i) F) (.vals t i) V, rfl, o3.congr (fun tag htag => ?_) (fun _ _ => rfl) (fun tag htag => (setPhi_ti hq hp hid htyp tag).1 htag), hval, fun tag g htag hg => ?_, fun b hb hn => ?_, ?_⟩
    · by_cases h3 : tag = .phis t
      · subst h3
        rw [upd_same, setPhi_phis hq, phis_same hp hid htyp, phis_grown hi]
      · rw [upd_ne _ _ h3, upd_ne _ _ h3]
        by_cases h2 : tag = .vals t i
        · subst h2; rw [upd_same, setPhi_vals hq hp]
        · rw [upd_ne _ _ h2]
          by_cases h1 : tag = .fr t i
          · subst h1; rw [upd_same, setPhi_fr hq hp]
          · rw [upd_ne _ _ h1]
            exact setPhi_row hq hp hid htyp hval tag h1 h2 h3
    · by_cases h2 : tag = .vals t i
      · subst h2; rw [upd_same] at hg; exact vo g hg
      · rw [upd_ne _ _ h2] at hg
        by_cases h1 : tag = .fr t i
        · subst h1; rw [upd_same] at hg; exact fo g hg
        · rw [upd_ne _ _ h1] at hg; exact .inl hg
    · have hbp : b ≠ gp := fun e => hn _ tiP (e ▸ hgP)
      rw [heap_setCell_other _ _ _ _ (by simpa using hbp), heap_setCell_other _ _ _ _ (by simpa using hbp)]
      exact hcs.keep b hb (fun e => hn _ tiF (e ▸ hgF)) (fun e => hn _ tiV (e ▸ hgV))
    · have hB : Below base w W := ⟨hcs.same.1, hcs.same.2.1, hcs.same.2.2, hcs.sz, fun b hb2 => hcs.keep b (by omega) (by omega) (by omega)⟩
      exact (hB.setCell hgp.1 _).setCell hgp.1 _
  · have h0 : p.fr.length = 0 := by omega
    have hpp : p1 = p := by
      rw [hp1]
      unfold prunePhi
      rw [h0]
      have e1 : p.fr = [] := List.eq_nil_of_length_eq_zero h0
      have e2 : p.vals = [] := List.eq_nil_of_length_eq_zero (by omega)
      obtain ⟨a, b, c, d⟩ := p
      simp only at e1 e2
      subst e1 e2
      rfl
    have form : ∀ {v : Value} {xs : List Int}, w.ownsRow base 3 1 v xs.length (xs.map (Value.int .i64)) → xs.length = 0 → v = .slice none 0 0 ∨ ∃ g c, v = .slice (some ⟨g, 0, none⟩) 0 c := by
      intro v xs h hx
      rcases h.2 with ⟨h1, _⟩ | ⟨g, cap, cur, h1, _⟩
      · exact .inl h1
      · exact .inr ⟨g, cap, by rw [h1, hx]⟩
    refine (renumberPhi_none _ _ gp i n gn nc w (form oF h0) (form oV (by omega)) c2 c3 k2 k3).mono ?_
    rintro e w' ⟨W, rfl, hW, hWB, rfl⟩
    rw [← hp1, hpp]
    have o1 : Owned W base f val := ho.kept fun b _ _ => by rw [hW]
    have o2 := o1.set (tp := .phis t) (d := ⟨49, 4, q.phis.length, cellsOf (phiCells val t) 0 q.phis⟩) (j := i * 4 + 2) (u := val (.fr t i)) tiP rP hvp rfl
    have o3 := o2.set (tp := .phis t) (j := i * 4 + 3) (u := val (.vals t i)) tiP (upd_same _ _ _) hvp rfl
    have hcell := phis_grown (val := val) (t := t) (F := val (.fr t i)) (V := val (.vals t i)) hi
    rw [upd_self, upd_self] at hcell
    refine ⟨val, rfl, ?_, fun _ _ _ => rfl, fun _ _ _ h => .inl h, fun b hb hn => ?_, ?_⟩
    · rw [setPhi_self hq hp]
      refine o3.congr (fun tag htag => ?_) (fun _ _ => rfl) (fun _ h => h)
      by_cases h3 : tag = .phis t
      · subst h3
        rw [upd_same, rP, ← hcell]
      · rw [upd_ne _ _ h3, upd_ne _ _ h3]
    · have hbp : b ≠ gp := fun e => hn _ tiP (e ▸ hgP)
      rw [heap_setCell_other _ _ _ _ (by simpa using hbp), heap_setCell_other _ _ _ _ (by simpa using hbp), hW]
    · exact ((hWB.mono hb).setCell hgp.1 _).setCell hgp.1 _

end Go.Proofs.Ytncmnbchkabgaaa

namespace Go.Proofs.Ytncmnbchkabgaaa
open Go.RowKit Go.Maps

/-- the first k ends of a block have their new numbers -/
def endsB (num : Int → Int) (k : Nat) (b : BlockM) : BlockM := { b with term := ⟨b.term.op, b.term.val, (b.term.to.take k).map num ++ b.term.to.drop k, b.term.n⟩ }
def endsTo (num : Int → Int) (t k : Nat) (f : FuncM) : FuncM := { f with blocks := f.blocks.modify t (endsB num k) }
/-- the first j phis of a block have lost what they lose -/
def phisB (num : Int → Int) (j : Nat) (b : BlockM) : BlockM := { b with phis := (b.phis.take j).map (prunePhi num) ++ b.phis.drop j }
def phisToF (num : Int → Int) (t j : Nat) (f : FuncM) : FuncM := { f with blocks := f.blocks.modify t (phisB num j) }
def pruneB (num : Int → Int) (b : BlockM) : BlockM := { b with phis := b.phis.map (prunePhi num), term := ⟨b.term.op, b.term.val, b.term.to.map num, b.term.n⟩ }
def renM (num : Int → Int) (t : Nat) (f : FuncM) : FuncM := { f with blocks := f.blocks.modify t (pruneB num) }

section
variable {num : Int → Int} {f : FuncM} {t j k : Nat} {q : BlockM} {p : PhiM} {x : Int}

theorem endsTo_zero : endsTo num t 0 f = f := by
  unfold endsTo
  rw [modify_id]
  intro a _
  unfold endsB
  simp

theorem endsTo_block (hq : f.blocks[t]? = some q) : (endsTo num t k f).blocks[t]? = some (endsB num k q) := by
  rw [show (endsTo num t k f).blocks[t]? = _ from modify_at _ _ _ _, if_pos rfl, hq]
  rfl

theorem endsB_len : (endsB num k q).term.to.length = q.term.to.length := by
  unfold endsB
  simp
  omega

theorem endsB_at (hx : q.term.to[k]? = some x) : (endsB num k q).term.to[k]? = some x := by
  unfold endsB
  have hj := (List.getElem?_eq_some_iff.1 hx).1
  simp only
  rw [List.getElem?_append_right (by simp; omega)]
  simp only [List.length_map, List.length_take, List.getElem?_drop]
  rw [show k + (k - min k q.term.to.length) = k by omega]
  exact hx

theorem endsTo_next (hq : f.blocks[t]? = some q) (hx : q.term.to[k]? = some x) : setEnds (endsTo num t k f) t k (num x) = endsTo num t (k + 1) f := by
  have hj := (List.getElem?_eq_some_iff.1 hx).1
  unfold setEnds endsTo
  congr 1
  apply List.ext_getElem?
  intro m
  rw [modify_at, modify_at, modify_at]
  by_cases e : m = t
  · rw [if_pos e, if_pos e, if_pos e]
    subst e
    rw [hq]
    simp only [Option.map_some, Option.some.injEq]
    unfold endM endsB
    simp only
    congr 2
    rw [List.set_append_right _ _ (by simp; omega)]
    simp only [List.length_map, List.length_take]
    rw [show k - min k q.term.to.length = 0 by omega, List.take_add_one, hx]
    simp
    rw [List.drop_eq_getElem_cons hj]
    rfl
  · rw [if_neg e, if_neg e, if_neg e]

theorem phisToF_zero : phisToF num t 0 f = f := by
  unfold phisToF
  rw [modify_id]
  intro a _
  unfold phisB
  simp

theorem phisToF_block (hq : f.blocks[t]? = some q) : (phisToF num t j f).blocks[t]? = some (phisB num j q) := by
  rw [show (phisToF num t j f).blocks[t]? = _ from modify_at _ _ _ _, if_pos rfl, hq]
  rfl

theorem phisB_len : (phisB num j q).phis.length = q.phis.length := by
  unfold phisB
  simp
  omega

theorem phisB_at (hp : q.phis[j]? = some p) : (phisB num j q).phis[j]? = some p := by
  unfold phisB
  have hj := (List.getElem?_eq_some_iff.1 hp).1
  rw [List.getElem?_append_right (by simp; omega)]
  simp only [List.length_map, List.length_take, List.getElem?_drop]
  rw [show j + (j - min j q.phis.length) = j by omega]
  exact hp

theorem phisToF_next (hq : f.blocks[t]? = some q) (hp : q.phis[j]? = some p) : setPhi (phisToF num t j f) t j (prunePhi num p) = phisToF num t (j + 1) f := by
  have hj := (List.getElem?_eq_some_iff.1 hp).1
  unfold setPhi phisToF
  congr 1
  apply List.ext_getElem?
  intro k
  rw [modify_at, modify_at, modify_at]
  by_cases e : k = t
  · rw [if_pos e, if_pos e, if_pos e]
    subst e
    rw [hq]
    simp only [Option.map_some, Option.some.injEq]
    unfold putPhi phisB
    simp only
    congr 1
    rw [List.set_append_right _ _ (by simp; omega)]
    simp only [List.length_map, List.length_take]
    rw [show j - min j q.phis.length = 0 by omega, List.take_add_one, hp, List.drop_eq_getElem_cons hj]
    simp [(List.getElem?_eq_some_iff.1 hp).2]
  · rw [if_neg e, if_neg e, if_neg e]

theorem ren_all (hq : f.blocks[t]? = some q) : phisToF num t q.phis.length (endsTo num t q.term.to.length f) = renM num t f := by
  unfold phisToF endsTo renM
  congr 1
  apply List.ext_getElem?
  intro k
  rw [modify_at, modify_at, modify_at]
  by_cases e : k = t
  · rw [if_pos e, if_pos e, if_pos e]
    subst e
    rw [hq]
    simp only [Option.map_some, Option.some.injEq]
    unfold phisB endsB pruneB
    simp
  · rw [if_neg e, if_neg e, if_neg e]
end

/-- how far one block's lists are renumbered -/
structure RnSt (f : FuncM) (val : Vals) (t base : Nat) (w : World) (g : FuncM) (W : World) (v : Vals) : Prop where
  own : Owned W base g v
  same : ∀ tag, (∀ i, tag ≠ .fr t i) → (∀ i, tag ≠ .vals t i) → v tag = val tag
  old : ∀ tag b, TI f tag → (v tag).ownBlock = some b → (val tag).ownBlock = some b ∨ w.heap.size ≤ b
  ti : ∀ tag, TI g tag ↔ TI f tag
  keep : ∀ b, b < w.heap.size → (∀ tag, TI f tag → (val tag).ownBlock ≠ some b) → W.heap[b]? = w.heap[b]?
  low : Below base w W

section
variable {f g : FuncM} {val v : Vals} {t base : Nat} {w W : World} {q : BlockM} {p p1 : PhiM} {i : Nat}

theorem RnSt.phi (h : RnSt f val t base w g W v) (hs : w.heap.size ≤ W.heap.size) (hq : g.blocks[t]? = some q) (hp : q.phis[i]? = some p) (hid : p1.id = p.id) (htyp : p1.typ = p.typ) {e : Ending} {w' : World} (hc : ComePost g v t i p1 base W e w') :
    e = .returned (.tuple #[]) ∧ ∃ v1, RnSt f val t base w (setPhi g t i p1) w' v1 := by
  obtain ⟨v1, rfl, ho, hv, ho2, hk, hb⟩ := hc
  refine ⟨rfl, v1, ho, fun tag h1 h2 => ?_, fun tag b ht hb => ?_, fun tag => (setPhi_ti hq hp hid htyp tag).trans (h.ti tag), fun b hb hn => ?_, h.low.trans hb⟩
  · rw [hv tag (h1 i) (h2 i)]
    exact h.same tag h1 h2
  · rcases ho2 tag b ((h.ti tag).2 ht) hb with h1 | h1
    · exact h.old tag b ht h1
    · exact .inr (by omega)
  · rw [hk b (by omega) (fun tag ht e => ?_)]
    · exact h.keep b hb hn
    · rcases h.old tag b ((h.ti tag).1 ht) e with h1 | h1
      · exact hn tag ((h.ti tag).1 ht) h1
      · omega

theorem RnSt.ends (h : RnSt f val t base w g W v) (hq : g.blocks[t]? = some q) {ge ec k : Nat} {x : Int} (hv : val (.ends t) = .slice (some ⟨ge, 0, none⟩) q.term.to.length ec) : RnSt f val t base w (setEnds g t k x) (W.setCell ⟨ge, k, none⟩ (.int .i64 x)) v := by
  have hv' : v (.ends t) = .slice (some ⟨ge, 0, none⟩) q.term.to.length ec := by rw [h.same _ (by simp) (by simp)]; exact hv
  have tiE : TI g (.ends t) := TI.of (val := v) (row_ends hq)
  have hge := h.own.lt tiE (g := ge) (by rw [hv']; rfl)
  refine ⟨h.own.setEnds hq hv', h.same, h.old, fun tag => (setEnds_ti hq tag).trans (h.ti tag), fun b hb hn => ?_, h.low.setCell hge.1 _⟩
  have hbe : b ≠ ge := fun e => hn _ ((h.ti _).1 tiE) (by rw [hv, e]; rfl)
  rw [heap_setCell_other _ _ _ _ (by simpa using hbe)]
  exact h.keep b hb hn

theorem RnSt.widen {w0 : World} (h : RnSt f val t base w g W v) (h0 : Below w0.heap.size w0 w) (hb : base ≤ w0.heap.size) : RnSt f val t base w0 g W v :=
  ⟨h.own, h.same, fun tag b ht hb => (h.old tag b ht hb).imp id (fun k => Nat.le_trans h0.size k), h.ti, fun b hb hn => (h.keep b (Nat.lt_of_lt_of_le hb h0.size) hn).trans (h0.block b hb), (h0.mono hb).trans h.low⟩
theorem RnSt.drewN (h : RnSt f val t base w g W v) (n : Nat) : RnSt f val t base w g (W.drewN n) v := ⟨h.own.kept fun _ _ _ => rfl, h.same, h.old, h.ti, h.keep, ⟨h.low.os, h.low.tape, h.low.output, h.low.size, h.low.block⟩⟩
theorem RnSt.drew (h : RnSt f val t base w g W v) : RnSt f val t base w g W.drew v := ⟨h.own.kept fun _ _ _ => rfl, h.same, h.old, h.ti, h.keep, ⟨h.low.os, h.low.tape, h.low.output, h.low.size, h.low.block⟩⟩
end

set_option maxRecDepth 100000 in
set_option maxHeartbeats 4000000 in
theorem renumber_any {f : FuncM} {val : Vals} {t base : Nat} {q : BlockM} (num : Int → Int) (n gn nc : Nat) (w : World) (ho : Owned w base f val) (hq : f.blocks[t]? = some q) (PA CA EA : Option Addr) (pc cl cc ec : Nat) (o1 o2 o3 : Int)
    (hvP : val (.phis t) = .slice PA q.phis.length pc) (hvE : val (.ends t) = .slice EA q.term.to.length ec) (hb : base ≤ w.heap.size)
    (hN : ∀ b, b < n → w.cell? ⟨gn, b, none⟩ = some (.int .i64 (num b))) (hgn : gn < w.heap.size) (hna : ∀ tag, TI f tag → (val tag).ownBlock ≠ some gn) (hn5 : n ≤ 512)
    (hin : ∀ p ∈ q.phis, p.vals.length = p.fr.length ∧ p.fr.length ≤ 512 ∧ ∀ x ∈ p.fr, 0 ≤ x ∧ x < n) (hto : ∀ x ∈ q.term.to, 0 ≤ x ∧ x < n) (hlP : q.phis.length ≤ 100000) (hlE : q.term.to.length ≤ 100000) :
    Calls Try.prog 31 #[.agg #[.slice PA q.phis.length pc, .slice CA cl cc, .int .i64 o1, .int .i64 o2, .slice EA q.term.to.length ec, .int .i64 o3], .slice (some ⟨gn, 0, none⟩) n nc] w (fun e w' => ∃ v1, e = .returned (.tuple #[]) ∧ RnSt f val t base w (renM num t f) w' v1) := by
  have HQ := hideI hq
  have HIN := hideI hin
  have HTO := hideI hto
  obtain ⟨L, hL⟩ : ∃ L, L = q.term.to.length := ⟨_, rfl⟩
  obtain ⟨M, hM⟩ : ∃ M, M = q.phis.length := ⟨_, rfl⟩
  have HL := hideI hL
  have HM := hideI hM
  have HVE := hideI hvE
  have HVP := hideI hvP
  rw [← hL] at hlE ⊢
  rw [← hM] at hlP ⊢
  obtain ⟨W, hW⟩ : ∃ W : World, W = w.alloc (.cells #[.slice PA M pc, .slice CA cl cc, .int .i64 o1, .int .i64 o2, .slice EA L ec, .int .i64 o3] 46) := ⟨_, rfl⟩
  have HB0 : Hid (Below w.heap.size w W) := by show Below _ _ _; rw [hW]; exact (Below.refl _ _).alloc (Nat.le_refl _) _
  have HX : Hid (W.heap[w.heap.size]? = some (.cells #[.slice PA M pc, .slice CA cl cc, .int .i64 o1, .int .i64 o2, .slice EA L ec, .int .i64 o3] 46 (0, 0))) := by show _ = _; rw [hW]; exact heap_alloc_new w _
  have hwW := lt_of_heap HX.out
  have HW := hideI hW
  have S0 : Hid (RnSt f val t base W f W val) := hideI ⟨ho.below HB0.out, fun _ _ _ => rfl, fun _ _ _ h => .inl h, fun _ => Iff.rfl, fun _ _ _ => rfl, Below.refl _ _⟩
  have HLT : Hid (∀ tag b, TI f tag → (val tag).ownBlock = some b → b < w.heap.size) := hideI (fun tag b ht hb => (ho.lt ht hb).2)
  -- what stays through all of it
  have HK : Hid (∀ g W2 v, RnSt f val t base W g W2 v → (∀ o, W2.cell? ⟨w.heap.size, o, none⟩ = (#[.slice PA M pc, .slice CA cl cc, .int .i64 o1, .int .i64 o2, .slice EA L ec, .int .i64 o3] : Array Value)[o]?) ∧ (∀ b, b < n → W2.cell? ⟨gn, b, none⟩ = some (.int .i64 (num b))) ∧ W.heap.size ≤ W2.heap.size ∧ gn < W2.heap.size ∧ (∀ tag, TI g tag → (v tag).ownBlock ≠ some gn)) := hideI (fun g W2 v h => by
    have h1 := h.keep w.heap.size hwW (fun tag ht e => by have := HLT.out tag _ ht e; omega)
    have h2 := h.keep gn (by omega) (fun tag ht => hna tag ht)
    have hs := h.low.size
    refine ⟨row_cells HX.out h1, fun b hb => (World.cell?_of_block (a := ⟨gn, b, none⟩) h2).trans ((HB0.out.cell (p := ⟨gn, b, none⟩) hgn).trans (hN b hb)), hs, by omega, fun tag ht e => ?_⟩
    rcases h.old tag gn ((h.ti tag).1 ht) e with h3 | h3
    · exact hna tag ((h.ti tag).1 ht) h3
    · omega)
  obtain ⟨hx, _⟩ := HK.out _ _ _ S0.out
  have q4 := hx 4
  clear hq hin hto hL hM hvE hvP ho hN hW hx hna
  go_enter Try.func31, Try.ntmps31
  go_upto_region 1 with fail
  rw [← HW.out]
  go_wp2
  clear q4
  go_loopw [11] (fun u wr => ∃ (k : Nat) (v : Vals), k ≤ L ∧ u = .int .i64 k ∧ Hid (RnSt f val t base W (endsTo num t k f) wr v)) (fun u _ => L - (intOf u).toNat)
  case atStart => exact ⟨0, val, Nat.zero_le _, rfl, by rw [endsTo_zero]; exact S0⟩
  case round =>
    obtain ⟨k, v, hk, rfl, HR⟩ := hrel
    obtain ⟨hx, hn, hsz, hgn2, _⟩ := HK.out _ _ _ HR.out
    by_cases hlt : k < L
    · obtain ⟨x, hxx⟩ : ∃ x, q.term.to[k]? = some x := ⟨_, List.getElem?_eq_getElem (by rw [← HL.out]; exact hlt)⟩
      have hxr := HTO.out x (List.mem_of_getElem? hxx)
      obtain ⟨xn, rfl⟩ : ∃ xn : Nat, x = (xn : Int) := ⟨x.toNat, by omega⟩
      have hxn : xn < n := by omega
      have hqk := endsTo_block (num := num) (k := k) HQ.out
      have hvk : v (.ends t) = .slice EA L ec := by rw [HR.out.same _ (by simp) (by simp), HVE.out, ← HL.out]
      have hlk : (endsB num k q).term.to.length = L := by rw [endsB_len, ← HL.out]
      obtain ⟨ge, ec2, hge, _, _⟩ := HR.out.own.slice (tp := .ends t) (TI.of (val := v) (row_ends hqk)) (row_ends hqk) (by show 0 < (endsB num k q).term.to.length; omega)
      have hEA : EA = some ⟨ge, 0, none⟩ := by rw [hvk] at hge; injection hge
      subst hEA
      have hcl := HR.out.own.cell (tp := .ends t) (TI.of (val := v) (row_ends hqk)) (row_ends hqk) hvk (by show (endsB num k q).term.to.length = L; exact hlk) (j := k) (by show k < L * 1; omega)
      have e1 : (intsRow (endsB num k q).term.to).cells[k]? = some (.int .i64 (xn : Int)) := by
        show ((endsB num k q).term.to.map (Value.int .i64))[k]? = _
        rw [List.getElem?_map, endsB_at hxx]
        rfl
      rw [e1] at hcl
      obtain ⟨d0, z0⟩ := hcl
      have d1 := hn xn hxn
      have q4 := hx 4
      have hst := RnSt.ends (k := k) (x := num (xn : Int)) (ec := ec) (ge := ge) HR.out hqk (by rw [HVE.out, hlk, ← HL.out])
      rw [endsTo_next HQ.out hxx] at hst
      have HST := hideI hst
      have hl0 : w.heap.size < wr.heap.size := by omega
      obtain ⟨y, hy⟩ : ∃ y, y = num (xn : Int) := ⟨_, rfl⟩
      rw [← hy] at d1 HST
      clear hxx hxr hqk hvk hlk hge e1 hst hx hn hy
      go_wp2
      go_region
      go_wp2
      go_roundw
      case rel => exact ⟨k + 1, v, by omega, by go_num, hideI HST.out.drew⟩
      case measure => simp [intOf]; omega
    · have hkL : k = q.term.to.length := by rw [← HL.out]; omega
      rw [hkL] at HR
      have q0 := hx 0
      have q4 := hx 4
      obtain ⟨fE, hfE⟩ : ∃ fE, fE = endsTo num t q.term.to.length f := ⟨_, rfl⟩
      have HFE := hideI hfE
      rw [← hfE] at HR
      have HQE : Hid (fE.blocks[t]? = some (endsB num q.term.to.length q)) := by show _ = _; rw [hfE]; exact endsTo_block HQ.out
      clear hkL hx hn hfE
      go_wp2
      clear q0 q4
      go_loopw [29] (fun u wr => ∃ (j : Nat) (v : Vals), j ≤ M ∧ u = .int .i64 j ∧ Hid (RnSt f val t base W (phisToF num t j fE) wr v)) (fun u _ => M - (intOf u).toNat)
      case atStart => exact ⟨0, v, Nat.zero_le _, rfl, by rw [phisToF_zero]; exact HR⟩
      case round =>
        obtain ⟨j, v2, hj, rfl, HR2⟩ := hrel
        obtain ⟨hx, hn, hsz, hgn2, hna2⟩ := HK.out _ _ _ HR2.out
        have q0 := hx 0
        by_cases hlt : j < M
        · obtain ⟨p, hp⟩ : ∃ p, q.phis[j]? = some p := ⟨_, List.getElem?_eq_getElem (by rw [← HM.out]; exact hlt)⟩
          have hpE : (endsB num q.term.to.length q).phis[j]? = some p := hp
          obtain ⟨h1, h2, h3⟩ := HIN.out p (List.mem_of_getElem? hp)
          have hqj := phisToF_block (num := num) (j := j) HQE.out
          have hlj : (phisB num j (endsB num q.term.to.length q)).phis.length = M := by rw [phisB_len, HM.out]; rfl
          have hvj : v2 (.phis t) = .slice PA M pc := by rw [HR2.out.same _ (by simp) (by simp), HVP.out, ← HM.out]
          obtain ⟨gp, cp, hgp, _, _⟩ := HR2.out.own.slice (tp := .phis t) (TI.of (val := v2) (row_phis hqj)) (row_phis hqj) (by show 0 < (phisB num j (endsB num q.term.to.length q)).phis.length; omega)
          have hPA : PA = some ⟨gp, 0, none⟩ := by rw [hvj] at hgp; injection hgp
          subst hPA
          have hct := prunePhi_any num n gn nc wr HR2.out.own hqj (phisB_at hpE) (by rw [hlj]; exact hvj) h1 h2 (by have := HB0.out.size; omega) hn hgn2 hna2 h3 hn5
          have HCT := hideI hct
          have HP := hideI hpE
          have HQJ := hideI hqj
          have hl0 : w.heap.size < wr.heap.size := by omega
          clear hp hpE h1 h2 h3 hqj hlj hvj hgp hct hx hn hna2
          go_wp2_with (go_at_call 46; go_must (refine HCT.out.mono ?_); rintro e w2 hc; (obtain ⟨rfl, v3, hs3⟩ := RnSt.phi (p1 := prunePhi num p) HR2.out hsz HQJ.out (phisB_at HP.out) rfl rfl hc); (rw [phisToF_next HQE.out HP.out] at hs3); have HS3 := hideI hs3; clear hc hs3)
          go_roundw
          case rel => exact ⟨j + 1, v3, by omega, by go_num, HS3⟩
          case measure => simp [intOf]; omega
        · have hjM : j = q.phis.length := by rw [← HM.out]; omega
          have HE : Hid (phisToF num t j fE = renM num t f) := by show _ = _; rw [hjM, HFE.out]; exact ren_all HQ.out
          rw [HE.out] at HR2
          clear hjM hx hn hna2
          go_wp2
          go_end0
          exact ⟨v2, rfl, HR2.out.widen HB0.out hb⟩

end Go.Proofs.Ytncmnbchkabgaaa

namespace Go.Proofs.Ytncmnbchkabgaaa

inductive ReachW (bs : List BlockM) (gone : Int) : Nat → Prop
  | start (h : gone ≠ 0) : ReachW bs gone 0
  | step {x y : Nat} (h : ReachW bs gone y) (hx : x ∈ succM bs y) (hg : (x : Int) ≠ gone) : ReachW bs gone x

/-- the state of the search: S is marked, ws is still to be looked at; of one block the first i ends are looked at -/
structure Bfs (bs : List BlockM) (gone : Int) (b : Option (Nat × Nat)) (S ws : List Nat) : Prop where
  nodup : S.Nodup
  lt : ∀ x ∈ S, x < bs.length
  sound : ∀ x ∈ S, ReachW bs gone x
  zero : 0 ∈ S
  sub : ∀ x ∈ ws, x ∈ S
  closed : ∀ x ∈ S, x ∈ ws ∨ ∀ (j y : Nat), (succM bs x)[j]? = some y → (y : Int) ≠ gone → (∀ i, b = some (x, i) → j < i) → y ∈ S
  here : ∀ x i, b = some (x, i) → x ∈ S

variable {bs : List BlockM} {gone : Int} {b i t : Nat} {S ws : List Nat}

theorem Bfs.start (h : gone ≠ 0) (hn : 0 < bs.length) : Bfs bs gone none [0] [0] :=
  ⟨by simp, by simpa using hn, by simpa using ReachW.start h, by simp, by simp, fun x hx => .inl (by simpa using hx), fun _ _ h => by cases h⟩

theorem Bfs.pop (h : Bfs bs gone none S (b :: ws)) : Bfs bs gone (some (b, 0)) S ws := by
  refine ⟨h.nodup, h.lt, h.sound, h.zero, fun x hx => h.sub x (List.mem_cons_of_mem _ hx), fun x hx => ?_, fun x i e => by cases e; exact h.sub _ (List.mem_cons_self ..)⟩
  by_cases e : x = b
  · subst e
    exact .inr fun j y _ _ hi => absurd (hi 0 rfl) (by omega)
  · rcases h.closed x hx with h1 | h1
    · rcases List.mem_cons.1 h1 with h2 | h2
      · exact absurd h2 e
      · exact .inl h2
    · exact .inr fun j y hj hy _ => h1 j y hj hy (fun i e => by cases e)

theorem Bfs.skip (h : Bfs bs gone (some (b, i)) S ws) (ht : (succM bs b)[i]? = some t) (hs : t ∈ S ∨ (t : Int) = gone) : Bfs bs gone (some (b, i + 1)) S ws := by
  refine ⟨h.nodup, h.lt, h.sound, h.zero, h.sub, fun x hx => ?_, fun x k e => by cases e; exact h.here _ _ rfl⟩
  rcases h.closed x hx with h1 | h1
  · exact .inl h1
  · right
    intro j y hj hy hi
    by_cases e : x = b
    · subst e
      have hji := hi _ rfl
      by_cases e2 : j = i
      · subst e2
        rw [ht] at hj
        cases hj
        exact hs.resolve_right hy
      · exact h1 j y hj hy (fun k ek => by cases ek; omega)
    · exact h1 j y hj hy (fun k ek => by cases ek; exact absurd rfl e)

theorem Bfs.push (h : Bfs bs gone (some (b, i)) S ws) (ht : (succM bs b)[i]? = some t) (hs : t ∉ S) (hg : (t : Int) ≠ gone) (hl : t < bs.length) : Bfs bs gone (some (b, i + 1)) (t :: S) (ws ++ [t]) := by
  refine ⟨List.nodup_cons.2 ⟨hs, h.nodup⟩, fun x hx => ?_, fun x hx => ?_, List.mem_cons_of_mem _ h.zero, fun x hx => ?_, fun x hx => ?_, fun x k e => by cases e; exact List.mem_cons_of_mem _ (h.here _ _ rfl)⟩
  · rcases List.mem_cons.1 hx with rfl | hx
    · exact hl
    · exact h.lt x hx
  · rcases List.mem_cons.1 hx with rfl | hx
    · exact .step (h.sound b (h.here _ _ rfl)) (List.mem_of_getElem? ht) hg
    · exact h.sound x hx
  · rcases List.mem_append.1 hx with hx | hx
    · exact List.mem_cons_of_mem _ (h.sub x hx)
    · rw [List.mem_singleton] at hx
      subst hx
      exact List.mem_cons_self ..
  · rcases List.mem_cons.1 hx with rfl | hx
    · exact .inl (by simp)
    · rcases h.closed x hx with h1 | h1
      · exact .inl (List.mem_append_left _ h1)
      · right
        intro j y hj hy hi
        by_cases e : x = b
        · subst e
          have hji := hi _ rfl
          by_cases e2 : j = i
          · subst e2
            rw [ht] at hj
            cases hj
            exact List.mem_cons_self ..
          · exact List.mem_cons_of_mem _ (h1 j y hj hy (fun k ek => by cases ek; omega))
        · exact List.mem_cons_of_mem _ (h1 j y hj hy (fun k ek => by cases ek; exact absurd rfl e))

theorem Bfs.next (h : Bfs bs gone (some (b, i)) S ws) (hi : (succM bs b).length ≤ i) : Bfs bs gone none S ws := by
  refine ⟨h.nodup, h.lt, h.sound, h.zero, h.sub, fun x hx => ?_, fun _ _ e => by cases e⟩
  rcases h.closed x hx with h1 | h1
  · exact .inl h1
  · right
    intro j y hj hy _
    refine h1 j y hj hy (fun k ek => ?_)
    cases ek
    have := (List.getElem?_eq_some_iff.1 hj).1
    omega

theorem Bfs.all (h : Bfs bs gone none S []) (x : Nat) : x ∈ S ↔ ReachW bs gone x := by
  refine ⟨h.sound x, fun hr => ?_⟩
  induction hr with
  | start => exact h.zero
  | step _ hx hg ih =>
    rcases h.closed _ ih with h1 | h1
    · cases h1
    · obtain ⟨j, hj⟩ := List.getElem?_of_mem hx
      exact h1 j _ hj hg (fun _ e => by cases e)

/-- the order holds just what can be come to -/
theorem OrderIs.reach {o : List Nat} (h : OrderIs bs o) (x : Nat) : x ∈ o ↔ ReachW bs (-1) x := by
  obtain ⟨h0, hn, hc, hp⟩ := h.facts
  constructor
  · intro hx
    obtain ⟨i, hi⟩ := List.getElem?_of_mem hx
    clear hx
    induction i using Nat.strongRecOn generalizing x with
    | ind i ih =>
      rcases Nat.eq_zero_or_pos i with rfl | hpos
      · rw [h0] at hi
        cases hi
        exact .start (by decide)
      · obtain ⟨j, y, hj, hy, hs⟩ := hp i x hpos hi
        exact .step (ih j hj y hy) hs (by omega)
  · intro hr
    induction hr with
    | start => exact List.mem_of_getElem? h0
    | step _ hx _ ih => exact hc _ ih _ hx

end Go.Proofs.Ytncmnbchkabgaaa

namespace Go.Proofs.Ytncmnbchkabgaaa
open Go.RowKit Go.Maps

/-- a list that is cut at its front and grows at its end -/
def WorkR (w : World) (base : Nat) (v : Value) (ws : List Nat) : Prop :=
  ∃ g off cap cur, v = .slice (some ⟨g, off, none⟩) ws.length cap ∧ base ≤ g ∧ w.heap[g]? = some (.cells cur 3 (0, 0)) ∧ ws.length ≤ cap ∧ off + cap ≤ cur.size ∧ cap ≤ maxLen ∧ ∀ i (x : Nat), ws[i]? = some x → cur[off + i]? = some (.int .i64 (x : Int))

theorem WorkR.block {w w' : World} {base : Nat} {v : Value} {ws : List Nat} (h : WorkR w base v ws) (hk : ∀ g, base ≤ g → g < w.heap.size → w'.heap[g]? = w.heap[g]?) : WorkR w' base v ws := by
  obtain ⟨g, off, cap, cur, rfl, hb, hg, r⟩ := h
  exact ⟨g, off, cap, cur, rfl, hb, (hk g hb (Array.getElem?_eq_some_iff.1 hg).1).trans hg, r⟩

theorem WorkR.start {w : World} {base : Nat} (hb : base ≤ w.heap.size) : WorkR (w.alloc (.cells #[.int .i64 0] 3)) base (.slice (some ⟨w.heap.size, 0, none⟩) 1 1) [0] :=
  ⟨_, 0, 1, _, rfl, hb, heap_alloc_new w _, Nat.le_refl _, by simp, by decide, fun i x hx => by
    rcases i with _ | i
    · simp at hx; subst hx; rfl
    · simp at hx⟩

theorem WorkR.room {w : World} {base g off cap t : Nat} {cur : Array Value} {ws : List Nat} {o : Obj} (hb : base ≤ g) (hg : w.heap[g]? = some (.cells cur 3 (0, 0))) (h1 : off + cap ≤ cur.size) (h2 : cap ≤ maxLen) (h3 : ∀ i (x : Nat), ws[i]? = some x → cur[off + i]? = some (.int .i64 (x : Int))) (hr : ws.length + 1 ≤ cap) :
    WorkR ((w.alloc o).setCells g (off + ws.length) [.int .i64 (t : Int)]) base (.slice (some ⟨g, off, none⟩) (ws.length + 1) cap) (ws ++ [t]) := by
  have hgl := (Array.getElem?_eq_some_iff.1 hg).1
  have hg2 : (w.alloc o).heap[g]? = some (.cells cur 3 (0, 0)) := (Below.heap_alloc w o g hgl).trans hg
  refine ⟨g, off, cap, cur.setIfInBounds (off + ws.length) (.int .i64 (t : Int)), by rw [List.length_append]; rfl, hb, ?_, by rw [List.length_append]; exact hr, by simpa using h1, h2, fun i x hx => ?_⟩
  · exact heap_setCell_same _ g _ cur _ _ hg2
  · rw [Array.getElem?_setIfInBounds]
    by_cases hi : i < ws.length
    · rw [List.getElem?_append_left hi] at hx
      rw [if_neg (by omega)]
      exact h3 i x hx
    · rw [List.getElem?_append_right (by omega)] at hx
      have hi2 : i = ws.length := by
        have := (List.getElem?_eq_some_iff.1 hx).1
        simp at this
        omega
      subst hi2
      simp at hx
      subst hx
      rw [if_pos rfl, if_pos (by omega)]

theorem WorkR.own {w : World} {base b0 t : Nat} {v : Value} {ws : List Nat} {xs : List Value} (hown : w.ownsRow b0 3 1 v (ws.length + 1) (xs ++ [.int .i64 (t : Int)])) (hb : base ≤ b0) (hxs : xs = natInts ws) : WorkR w base v (ws ++ [t]) := by
  subst hxs
  rcases hown.2 with ⟨_, h⟩ | ⟨g, cap, cur, rfl, hbg, hg, hc, hm, hs, ht⟩
  · omega
  · refine ⟨g, 0, cap, cur, by rw [List.length_append]; rfl, by omega, hg, by rw [List.length_append]; exact hc, by omega, hm, fun i x hx => ?_⟩
    have hi := (List.getElem?_eq_some_iff.1 hx).1
    rw [List.length_append, List.length_singleton] at hi
    have h1 : (cur.toList.take ((ws.length + 1) * 1))[i]? = (natInts (ws ++ [t]))[i]? := by rw [ht]; unfold natInts; rw [List.map_append]; rfl
    rw [List.getElem?_take, if_pos (by omega)] at h1
    rw [Nat.zero_add, ← Array.getElem?_toList, h1]
    unfold natInts
    rw [List.getElem?_map, hx]
    rfl

theorem work_spare {X : World} {g off n : Nat} {cur : Array Value} (hg : X.heap[g]? = some (.cells cur 3 (0, 0))) (h : off + n < cur.size) (x : Value) : ∀ j, j < [x].length → (X.cell? ⟨g, off + n * 1 + j, none⟩).isSome = true ∧ X.frozen? ⟨g, off + n * 1 + j, none⟩ = false := by
  intro j hj
  simp at hj
  subst hj
  rw [Nat.mul_one, Nat.add_zero]
  refine ⟨?_, frozen_of_row X g (off + n) cur _ hg⟩
  rw [row_cells hg rfl, Array.getElem?_eq_getElem h]
  rfl

theorem one_new' (w : World) (a : Addr) (u x : Value) : ∀ (j : Nat) (y : Value), [x][j]? = some y → ((w.setCell a u).alloc (.cells #[x] 3)).cell? ((⟨w.heap.size, 0, none⟩ : Addr).add j) = some y := by
  have := one_new (w.setCell a u) x
  simpa using this

theorem without_room {wr w1 : World} {N n g i t : Nat} {S : List Nat} {o : Obj} {x : Value} (hs : (wr.setCell ⟨N + 1, t, none⟩ (.bool true)).ownsRow (N + 1) 4 1 (.slice (some ⟨N + 1, 0, none⟩) n n) n (marks n S)) (hb : Below (N + 1) w1 wr) (hg : N + 2 ≤ g) (hsz : N + 1 ≤ w1.heap.size) :
    (((wr.setCell ⟨N + 1, t, none⟩ (.bool true)).alloc o).setCells g i [x]).ownsRow (N + 1) 4 1 (.slice (some ⟨N + 1, 0, none⟩) n n) n (marks n S) ∧ Below (N + 1) w1 (((wr.setCell ⟨N + 1, t, none⟩ (.bool true)).alloc o).setCells g i [x]) := by
  refine ⟨ownsRow_setCell_other (hs.alloc o) (by simp [Value.ownBlock]; omega) _, ?_⟩
  exact ((hb.setCell (Nat.le_refl _) _).alloc (by have := hb.size; simp; omega) _).setCell (by simp; omega) _

theorem without_grow {wr w1 w3 : World} {N n t : Nat} {S : List Nat} {o : Obj} (hs : (wr.setCell ⟨N + 1, t, none⟩ (.bool true)).ownsRow (N + 1) 4 1 (.slice (some ⟨N + 1, 0, none⟩) n n) n (marks n S)) (hb : Below (N + 1) w1 wr) (hsz : N + 1 ≤ w1.heap.size) (hg : ((wr.setCell ⟨N + 1, t, none⟩ (.bool true)).alloc o).grownBy w3 none) :
    w3.ownsRow (N + 1) 4 1 (.slice (some ⟨N + 1, 0, none⟩) n n) n (marks n S) ∧ Below (N + 1) w1 w3 := by
  refine ⟨(hs.alloc o).kept hg (.inr (by simp [Value.ownBlock])), ?_⟩
  exact ((hb.setCell (Nat.le_refl _) _).alloc (by have := hb.size; simp; omega) _).grown hg (by have := hb.size; simp; omega) (by simp)

theorem natInts_at {ws : List Nat} {cur : Array Value} {off : Nat} (h : ∀ i (x : Nat), ws[i]? = some x → cur[off + i]? = some (.int .i64 (x : Int))) {w : World} {g : Nat} (hg : w.heap[g]? = some (.cells cur 3 (0, 0))) :
    ∀ j u, (natInts ws)[j]? = some u → w.cell? ⟨g, off + j, none⟩ = some u := by
  intro j u hu
  unfold natInts at hu
  rw [List.getElem?_map] at hu
  cases hx : ws[j]? with
  | none => rw [hx] at hu; cases hu
  | some x =>
    rw [hx] at hu
    cases hu
    rw [row_cells hg rfl]
    exact h j x hx

def WithoutPost (bs : List BlockM) (gone : Int) (w : World) (e : Ending) (w' : World) : Prop :=
  ∃ (S : List Nat) (g : Nat), e = .returned (.slice (some ⟨g, 0, none⟩) bs.length bs.length) ∧ (∀ x, x ∈ S ↔ ReachW bs gone x) ∧ w'.ownsRow w.heap.size 4 1 (.slice (some ⟨g, 0, none⟩) bs.length bs.length) bs.length (marks bs.length S) ∧ Below w.heap.size w w'

theorem no_zero {bs : List BlockM} (x : Nat) : x ∈ ([] : List Nat) ↔ ReachW bs 0 x := by
  constructor
  · intro h; cases h
  · intro h
    exfalso
    induction h with
    | start h => exact h rfl
    | step _ _ _ ih => exact ih

set_option maxRecDepth 100000 in
set_option maxHeartbeats 4000000 in
theorem refWithout_any (bs : List BlockM) (B : Nat) (pv av cv bv : Value) (gone : Int) (w : World) (hbv : BlocksR w B bv bs) (hB : B ≤ w.heap.size) (h0 : 0 < bs.length) (hn5 : bs.length ≤ 512) (hin : EndsIn bs) (hg0 : gone ≠ 0) :
    Calls Try.prog 15 #[.agg #[pv, av, cv, bv], .int .i64 gone] w (WithoutPost bs gone w) := by
  have HBL := hideI hbv
  have HIN := hideI hin
  have HG0 := hideI hg0
  obtain ⟨A, c, rfl, hbm, _⟩ := hbv
  obtain ⟨i0, hix, hz0, hz1, hz2⟩ := info_parts bool_info
  have hgb : (gone == 0) = false := by simpa using hg0
  clear hin hg0
  go_enter Try.func15, Try.ntmps15
  go_wp2_with (first
    | (at_make; go_must (refine wpList_make_full _ rfl _ _ 39 rfl (w.heap.size + 1) 4 i0 (.bool false) 1 Try.underlying39 hix hz0 hz1 .i64 .i64 _ _ bs.length rfl rfl rfl rfl (by rw [hz2]; omega) (by unfold maxLen; omega) (by simp) ?_); intro w1 hown1 hg1; rw [World.size_alloc] at hown1; go_must (rw [marks_made] at hown1; have HBX := hideI ((hg1.block w.heap.size (by simp) (by simp)).trans (heap_alloc_new w _)); have HB0 : Hid (Below w.heap.size w w1) := ((Below.refl _ _).alloc (Nat.le_refl _) _).grown hg1 (by simp) (by simp); have hlt1 : w.heap.size + 1 < w1.heap.size := (hown1.lt _ rfl).2; have HO1 := hideI hown1; have c0 : w1.cell? ⟨w.heap.size + 1, 0, none⟩ = some (.bool (decide (0 ∈ ([] : List Nat)))) := (by rw [World.ownsRow.cellAt hown1 0 (by omega), marks_at h0]); have f0 : w1.frozen? ⟨w.heap.size + 1, 0, none⟩ = false := World.ownsRow.frozenAt hown1 0; clear hown1 hg1; have hne := fun (h : bs = []) => (by rw [h] at h0; simp at h0 : False))))
  clear hix hz0 hz1 hz2 hgb
  obtain ⟨ws, hws⟩ : ∃ ws : World, ws = (w1.setCell ⟨w.heap.size + 1, 0, none⟩ (.bool true)).alloc (.cells #[.int .i64 0] 3) := ⟨_, rfl⟩
  have HK0 : Hid (WorkR ws (w.heap.size + 2) (.slice (some ⟨w1.heap.size, 0, none⟩) 1 1) [0]) := by
    show WorkR _ _ _ _
    rw [hws]
    have := WorkR.start (w := w1.setCell ⟨w.heap.size + 1, 0, none⟩ (.bool true)) (base := w.heap.size + 2) (by simp; omega)
    simpa using this
  have HOS : Hid (ws.ownsRow (w.heap.size + 1) 4 1 (.slice (some ⟨w.heap.size + 1, 0, none⟩) bs.length bs.length) bs.length (marks bs.length [0])) := by
    show World.ownsRow _ _ _ _ _ _ _
    rw [hws]
    have := (World.ownsRow.stored HO1.out 0 (.bool true)).1.alloc (.cells #[.int .i64 0] 3)
    rwa [marks_set] at this
  have HBS : Hid (Below (w.heap.size + 1) w1 ws) := by show Below _ _ _; rw [hws]; exact ((Below.refl _ _).setCell (by simp) _).alloc (by simp; omega) _
  rw [← hws]
  clear hws c0 f0
  go_loopg [6] (2 * bs.length + 2) (fun gk vo wr => ∃ (S ws : List Nat) (v : Value), v = vo ∧ (bs.length - S.length) * 2 + ws.length ≤ gk ∧ gk ≤ 2 * bs.length + 2 ∧ Hid (Bfs bs gone none S ws) ∧ Hid (WorkR wr (w.heap.size + 2) v ws) ∧ Hid (wr.ownsRow (w.heap.size + 1) 4 1 (.slice (some ⟨w.heap.size + 1, 0, none⟩) bs.length bs.length) bs.length (marks bs.length S)) ∧ Hid (Below (w.heap.size + 1) w1 wr))
  case atStart => exact ⟨[0], [0], _, rfl, by simp; omega, Nat.le_refl _, hideI (Bfs.start HG0.out h0), HK0, HOS, HBS⟩
  case round =>
    obtain ⟨S, ws, v, rfl, hgk, hgm, HF, HK, HO, HBr⟩ := hrel
    obtain ⟨g, off, cap, cur, rfl, hwb, hwg, hwc, hws, hwm, hwx⟩ := HK.out
    have HWX := hideI hwx
    have HWG := hideI hwg
    obtain ⟨L, hL⟩ : ∃ L, L = ws.length := ⟨_, rfl⟩
    rw [← hL]
    cases ws with
    | nil =>
      obtain rfl : L = 0 := hL
      clear hwx hwg
      go_wp2
      go_ret
      exact ⟨S, _, rfl, HF.out.all, World.ownsRow.mono HO.out (by omega), HB0.out.trans (HBr.out.mono (by omega))⟩
    | cons b ws =>
      rw [List.length_cons] at hL
      have hbl : b < bs.length := HF.out.lt b (HF.out.sub b (List.mem_cons_self ..))
      have hSl := below_len _ _ HF.out.nodup HF.out.lt
      have hhead : wr.cell? ⟨g, off, none⟩ = some (.int .i64 (b : Int)) := by rw [row_cells hwg rfl]; exact hwx 0 b rfl
      have HP := hideI HF.out.pop
      obtain ⟨q, hq⟩ : ∃ q, bs[b]? = some q := ⟨_, List.getElem?_eq_getElem hbl⟩
      obtain ⟨A', c', e0, _, hbx⟩ := (HBL.out.more' hB).keeps (Keeps.of_below (HB0.out.trans (HBr.out.mono (Nat.le_succ _))))
      cases e0
      obtain ⟨ab, boff, pq, cq, tv, rfl, hab, x0, x1, x2, x3, x4, x5, _, _, htv, _⟩ := hbx b q hq
      have HTV := hideI htv
      have HQ := hideI hq
      have HSU : Hid (succM bs b = q.term.to.map Int.toNat) := by show _ = _; unfold succM; rw [hq]
      obtain ⟨TA, tc, rfl, htm, _⟩ := htv
      obtain ⟨m, hm⟩ : ∃ m, m = q.term.to.length := ⟨_, rfl⟩
      have HM := hideI hm
      rw [← hm] at x4 htm
      have hxr := row_cells HBX.out (HBr.out.block w.heap.size (by omega))
      have g3 := hxr 3
      simp only [List.length_cons] at hgk hwc
      have HWX1 : Hid (∀ i (x : Nat), ws[i]? = some x → cur[off + 1 + i]? = some (.int .i64 (x : Int))) := fun i x hx => by
        have := HWX.out (i + 1) x (by simpa using hx)
        rwa [show off + (i + 1) = off + 1 + i by omega] at this
      clear hbx hq x0 x1 x2 x3 x5 hm hxr hwx hwg
      have HBo := HBr
      by_cases hc1 : cap = 1
      · subst hc1
        obtain rfl : ws = [] := List.eq_nil_of_length_eq_zero (by omega)
        obtain rfl : L = 1 := hL
        have HK1 : Hid (WorkR wr (w.heap.size + 2) (.slice (some ⟨g, off, none⟩) 0 0) []) := ⟨g, off, 0, cur, rfl, hwb, HWG.out, Nat.le_refl _, by omega, by unfold maxLen; omega, fun i x hx => by simp at hx⟩
        go_wp2
        obtain ⟨wo, rfl⟩ : ∃ wo : World, wo = wr := ⟨_, rfl⟩
        clear x4 hhead g3
        go_loopw [6, 9] (fun vo u wr => ∃ (i : Nat) (S ws : List Nat) (v : Value), v = vo ∧ i ≤ m ∧ u = .int .i64 i ∧ (bs.length - S.length) * 2 + ws.length + 1 ≤ gk ∧ Hid (Bfs bs gone (some (b, i)) S ws) ∧ Hid (WorkR wr (w.heap.size + 2) v ws) ∧ Hid (wr.ownsRow (w.heap.size + 1) 4 1 (.slice (some ⟨w.heap.size + 1, 0, none⟩) bs.length bs.length) bs.length (marks bs.length S)) ∧ Hid (Below (w.heap.size + 1) w1 wr)) (fun _ u _ => m - (intOf u).toNat)
        case atStart => exact ⟨0, S, _, _, rfl, Nat.zero_le _, rfl, by simp; omega, HP, HK1, HO, HBr⟩
        case round =>
          obtain ⟨i, S, ws, v, rfl, hi, rfl, hg2, HF, HK, HO, HBr⟩ := hrel
          obtain ⟨g, off, cap, cur, rfl, hwb, hwg, hwc, hws, hwm, hwx⟩ := HK.out
          have hSl := below_len _ _ HF.out.nodup HF.out.lt
          have hgl := (Array.getElem?_eq_some_iff.1 hwg).1
          have HWX := hideI hwx
          have HWG := hideI hwg
          clear hwx hwg
          by_cases hlt : i < m
          · obtain ⟨t, ht⟩ : ∃ t, q.term.to[i]? = some t := ⟨_, List.getElem?_eq_getElem (by rw [HM.out] at hlt; exact hlt)⟩
            have htn := HIN.out q (List.mem_of_getElem? HQ.out) t (List.mem_of_getElem? ht)
            obtain ⟨tn, rfl⟩ : ∃ tn : Nat, t = (tn : Int) := ⟨t.toNat, by omega⟩
            have htl : tn < bs.length := by omega
            have HTI : Hid ((succM bs b)[i]? = some tn) := by
              show _ = _
              rw [HSU.out, List.getElem?_map, ht]
              rfl
            obtain ⟨TA', tc', e0, _, hxx⟩ := (HTV.out.keeps (Keeps.refl _))
            cases e0
            obtain ⟨tb, toff, rfl, htb, hcell0⟩ := hxx i (by rw [← HM.out]; exact hlt)
            rw [ht] at hcell0
            simp only [Option.getD_some] at hcell0
            have hcell : wr.cell? ⟨tb, toff + i, none⟩ = some (.int .i64 (tn : Int)) := by
              rw [← hcell0]
              exact World.cell?_of_block (a := ⟨tb, toff + i, none⟩) ((HBr.out.block tb (by omega)).trans (HBo.out.block tb (by omega)).symm)
            have hmk : wr.cell? ⟨w.heap.size + 1, tn, none⟩ = some (.bool (decide (tn ∈ S))) := by rw [World.ownsRow.cellAt HO.out tn (by omega), marks_at htl]
            have hmf : wr.frozen? ⟨w.heap.size + 1, tn, none⟩ = false := World.ownsRow.frozenAt HO.out tn
            have hne1 : tb ≠ w.heap.size + 1 := by omega
            clear hxx ht htn hcell0
            by_cases hin2 : tn ∈ S
            · have HIN2 := hideI hin2
              rw [show decide (tn ∈ S) = true from by simpa using hin2] at hmk
              clear hin2 hmf
              go_wp2
              go_roundw
              case rel => exact ⟨i + 1, S, ws, _, rfl, by omega, by go_num, hg2, hideI (HF.out.skip HTI.out (.inl HIN2.out)), HK, HO, HBr⟩
              case measure => simp [intOf]; omega
            · have HIN2 := hideI hin2
              rw [show decide (tn ∈ S) = false from by simpa using hin2] at hmk
              have HSL := hideI (fresh_len HF.out.nodup HF.out.lt htl hin2)
              clear hin2
              by_cases htg : (tn : Int) = gone
              · have HTG := hideI htg
                have e1 : ((tn : Int) != gone) = false := by simpa using htg
                clear htg hmf
                go_wp2
                go_roundw
                case rel => exact ⟨i + 1, S, ws, _, rfl, by omega, by go_num, hg2, hideI (HF.out.skip HTI.out (.inr HTG.out)), HK, HO, HBr⟩
                case measure => simp [intOf]; omega
              · have HTG := hideI htg
                have e1 : ((tn : Int) != gone) = true := by simpa using htg
                clear htg
                have HS := World.ownsRow.stored HO.out tn (.bool true)
                rw [marks_set] at HS
                have HOS := hideI HS.1
                have HGS := hideI HS.2
                have HFN := hideI (HF.out.push HTI.out HIN2.out HTG.out htl)
                have hgne : g ≠ w.heap.size + 1 := by omega
                have HWG2 := hideI ((HGS.out.block g hgl (by simpa using hgne)).trans HWG.out)
                have hlen : (bs.length - (tn :: S).length) * 2 + (ws ++ [tn]).length + 1 ≤ gk := by have := HSL.out; simp; omega
                have HLEN := hideI hlen
                have hwl : ws.length ≤ 2000 := by omega
                obtain ⟨i1, hjx, hy0, hy1, hy2⟩ := info_parts int_info
                clear HS hlen
                have HWG3 : Hid (((wr.setCell ⟨w.heap.size + 1, tn, none⟩ (.bool true)).alloc (.cells #[.int .i64 (tn : Int)] 3)).heap[g]? = some (.cells cur 3 (0, 0))) := (Below.heap_alloc _ _ g (by simpa using hgl)).trans HWG2.out
                by_cases hrm : ws.length + 1 ≤ cap
                · have HSP := hideI (work_spare HWG3.out (n := ws.length) (off := off) (by omega) (.int .i64 (tn : Int)))
                  have HWB := hideI (without_room (i := off + ws.length) (o := .cells #[.int .i64 (tn : Int)] 3) (x := .int .i64 (tn : Int)) HOS.out HBr.out hwb (by omega))
                  have HWN := hideI (WorkR.room (t := tn) (o := .cells #[.int .i64 (tn : Int)] 3) hwb HWG2.out hws hwm HWX.out hrm)
                  go_wp2_with (at_builtin; go_must (refine wpList_append_arg _ rfl _ _ _ rfl 3 i1 (.int .i64 0) 1 8 Try.underlying22 hjx hy0 hy1 hy2 rfl (by decide) g off ws.length cap (natInts ws) rfl (by unfold natInts; simp) (natInts_at HWX.out HWG3.out) ⟨wr.heap.size, 0, none⟩ 1 1 [.int .i64 tn] rfl rfl (one_new' _ _ _ _) (by simp [Value.oneCell']) (fun _ => HSP.out) (by simp only [maxLen]; omega) (by omega) (fun _ => ?_) (fun h => absurd h (by omega))))
                  go_roundw
                  case rel => exact ⟨i + 1, tn :: S, ws ++ [tn], _, rfl, by omega, by go_num, HLEN.out, HFN, HWN, hideI HWB.out.1, hideI HWB.out.2⟩
                  case measure => simp [intOf]; omega
                · go_wp2_with (at_builtin; go_must (refine wpList_append_arg _ rfl _ _ _ rfl 3 i1 (.int .i64 0) 1 8 Try.underlying22 hjx hy0 hy1 hy2 rfl (by decide) g off ws.length cap (natInts ws) rfl (by unfold natInts; simp) (natInts_at HWX.out HWG3.out) ⟨wr.heap.size, 0, none⟩ 1 1 [.int .i64 tn] rfl rfl (one_new' _ _ _ _) (by simp [Value.oneCell']) (fun h => absurd h (by omega)) (by simp only [maxLen]; omega) (by omega) (fun h => absurd h (by omega)) (fun _ v2 w3 hown3 hg3 => ?_)); have HWN := hideI (WorkR.own hown3 (base := w.heap.size + 2) (by simp; omega) rfl); have HWB := hideI (without_grow HOS.out HBr.out (by omega) hg3); clear hown3 hg3)
                  go_roundw
                  case rel => exact ⟨i + 1, tn :: S, ws ++ [tn], v2, rfl, by omega, by go_num, HLEN.out, HFN, HWN, hideI HWB.out.1, hideI HWB.out.2⟩
                  case measure => simp [intOf]; omega
          · have HF2 := hideI (HF.out.next (by rw [HSU.out, List.length_map, ← HM.out]; omega))
            go_wp2
            go_roundg ((bs.length - S.length) * 2 + ws.length)
            case rel => exact ⟨S, ws, _, rfl, Nat.le_refl _, by omega, HF2, HK, HO, HBr⟩
            case measure => omega
      · have HK1 : Hid (WorkR wr (w.heap.size + 2) (.slice (some ⟨g, off + 1, none⟩) (L - 1) (cap - 1)) ws) := ⟨g, off + 1, cap - 1, cur, by rw [hL]; rfl, hwb, HWG.out, by omega, by omega, by omega, HWX1.out⟩
        have hLp : 1 ≤ L := by omega
        have hLb : decide (0 < L) = true := by simp; omega
        have hcp : ¬ cap ≤ 1 := by omega
        have HLL := hideI hL
        clear hL
        go_wp2
        obtain ⟨wo, rfl⟩ : ∃ wo : World, wo = wr := ⟨_, rfl⟩
        clear x4 hhead g3
        go_loopw [6, 9] (fun vo u wr => ∃ (i : Nat) (S ws : List Nat) (v : Value), v = vo ∧ i ≤ m ∧ u = .int .i64 i ∧ (bs.length - S.length) * 2 + ws.length + 1 ≤ gk ∧ Hid (Bfs bs gone (some (b, i)) S ws) ∧ Hid (WorkR wr (w.heap.size + 2) v ws) ∧ Hid (wr.ownsRow (w.heap.size + 1) 4 1 (.slice (some ⟨w.heap.size + 1, 0, none⟩) bs.length bs.length) bs.length (marks bs.length S)) ∧ Hid (Below (w.heap.size + 1) w1 wr)) (fun _ u _ => m - (intOf u).toNat)
        case atStart => exact ⟨0, S, _, _, rfl, Nat.zero_le _, rfl, by omega, HP, HK1, HO, HBr⟩
        case round =>
          obtain ⟨i, S, ws, v, rfl, hi, rfl, hg2, HF, HK, HO, HBr⟩ := hrel
          obtain ⟨g, off, cap, cur, rfl, hwb, hwg, hwc, hws, hwm, hwx⟩ := HK.out
          have hSl := below_len _ _ HF.out.nodup HF.out.lt
          have hgl := (Array.getElem?_eq_some_iff.1 hwg).1
          have HWX := hideI hwx
          have HWG := hideI hwg
          clear hwx hwg
          by_cases hlt : i < m
          · obtain ⟨t, ht⟩ : ∃ t, q.term.to[i]? = some t := ⟨_, List.getElem?_eq_getElem (by rw [HM.out] at hlt; exact hlt)⟩
            have htn := HIN.out q (List.mem_of_getElem? HQ.out) t (List.mem_of_getElem? ht)
            obtain ⟨tn, rfl⟩ : ∃ tn : Nat, t = (tn : Int) := ⟨t.toNat, by omega⟩
            have htl : tn < bs.length := by omega
            have HTI : Hid ((succM bs b)[i]? = some tn) := by
              show _ = _
              rw [HSU.out, List.getElem?_map, ht]
              rfl
            obtain ⟨TA', tc', e0, _, hxx⟩ := (HTV.out.keeps (Keeps.refl _))
            cases e0
            obtain ⟨tb, toff, rfl, htb, hcell0⟩ := hxx i (by rw [← HM.out]; exact hlt)
            rw [ht] at hcell0
            simp only [Option.getD_some] at hcell0
            have hcell : wr.cell? ⟨tb, toff + i, none⟩ = some (.int .i64 (tn : Int)) := by
              rw [← hcell0]
              exact World.cell?_of_block (a := ⟨tb, toff + i, none⟩) ((HBr.out.block tb (by omega)).trans (HBo.out.block tb (by omega)).symm)
            have hmk : wr.cell? ⟨w.heap.size + 1, tn, none⟩ = some (.bool (decide (tn ∈ S))) := by rw [World.ownsRow.cellAt HO.out tn (by omega), marks_at htl]
            have hmf : wr.frozen? ⟨w.heap.size + 1, tn, none⟩ = false := World.ownsRow.frozenAt HO.out tn
            have hne1 : tb ≠ w.heap.size + 1 := by omega
            clear hxx ht htn hcell0
            by_cases hin2 : tn ∈ S
            · have HIN2 := hideI hin2
              rw [show decide (tn ∈ S) = true from by simpa using hin2] at hmk
              clear hin2 hmf
              go_wp2
              go_roundw
              case rel => exact ⟨i + 1, S, ws, _, rfl, by omega, by go_num, hg2, hideI (HF.out.skip HTI.out (.inl HIN2.out)), HK, HO, HBr⟩
              case measure => simp [intOf]; omega
            · have HIN2 := hideI hin2
              rw [show decide (tn ∈ S) = false from by simpa using hin2] at hmk
              have HSL := hideI (fresh_len HF.out.nodup HF.out.lt htl hin2)
              clear hin2
              by_cases htg : (tn : Int) = gone
              · have HTG := hideI htg
                have e1 : ((tn : Int) != gone) = false := by simpa using htg
                clear htg hmf
                go_wp2
                go_roundw
                case rel => exact ⟨i + 1, S, ws, _, rfl, by omega, by go_num, hg2, hideI (HF.out.skip HTI.out (.inr HTG.out)), HK, HO, HBr⟩
                case measure => simp [intOf]; omega
              · have HTG := hideI htg
                have e1 : ((tn : Int) != gone) = true := by simpa using htg
                clear htg
                have HS := World.ownsRow.stored HO.out tn (.bool true)
                rw [marks_set] at HS
                have HOS := hideI HS.1
                have HGS := hideI HS.2
                have HFN := hideI (HF.out.push HTI.out HIN2.out HTG.out htl)
                have hgne : g ≠ w.heap.size + 1 := by omega
                have HWG2 := hideI ((HGS.out.block g hgl (by simpa using hgne)).trans HWG.out)
                have hlen : (bs.length - (tn :: S).length) * 2 + (ws ++ [tn]).length + 1 ≤ gk := by have := HSL.out; simp; omega
                have HLEN := hideI hlen
                have hwl : ws.length ≤ 2000 := by omega
                obtain ⟨i1, hjx, hy0, hy1, hy2⟩ := info_parts int_info
                clear HS hlen
                have HWG3 : Hid (((wr.setCell ⟨w.heap.size + 1, tn, none⟩ (.bool true)).alloc (.cells #[.int .i64 (tn : Int)] 3)).heap[g]? = some (.cells cur 3 (0, 0))) := (Below.heap_alloc _ _ g (by simpa using hgl)).trans HWG2.out
                by_cases hrm : ws.length + 1 ≤ cap
                · have HSP := hideI (work_spare HWG3.out (n := ws.length) (off := off) (by omega) (.int .i64 (tn : Int)))
                  have HWB := hideI (without_room (i := off + ws.length) (o := .cells #[.int .i64 (tn : Int)] 3) (x := .int .i64 (tn : Int)) HOS.out HBr.out hwb (by omega))
                  have HWN := hideI (WorkR.room (t := tn) (o := .cells #[.int .i64 (tn : Int)] 3) hwb HWG2.out hws hwm HWX.out hrm)
                  go_wp2_with (at_builtin; go_must (refine wpList_append_arg _ rfl _ _ _ rfl 3 i1 (.int .i64 0) 1 8 Try.underlying22 hjx hy0 hy1 hy2 rfl (by decide) g off ws.length cap (natInts ws) rfl (by unfold natInts; simp) (natInts_at HWX.out HWG3.out) ⟨wr.heap.size, 0, none⟩ 1 1 [.int .i64 tn] rfl rfl (one_new' _ _ _ _) (by simp [Value.oneCell']) (fun _ => HSP.out) (by simp only [maxLen]; omega) (by omega) (fun _ => ?_) (fun h => absurd h (by omega))))
                  go_roundw
                  case rel => exact ⟨i + 1, tn :: S, ws ++ [tn], _, rfl, by omega, by go_num, HLEN.out, HFN, HWN, hideI HWB.out.1, hideI HWB.out.2⟩
                  case measure => simp [intOf]; omega
                · go_wp2_with (at_builtin; go_must (refine wpList_append_arg _ rfl _ _ _ rfl 3 i1 (.int .i64 0) 1 8 Try.underlying22 hjx hy0 hy1 hy2 rfl (by decide) g off ws.length cap (natInts ws) rfl (by unfold natInts; simp) (natInts_at HWX.out HWG3.out) ⟨wr.heap.size, 0, none⟩ 1 1 [.int .i64 tn] rfl rfl (one_new' _ _ _ _) (by simp [Value.oneCell']) (fun h => absurd h (by omega)) (by simp only [maxLen]; omega) (by omega) (fun h => absurd h (by omega)) (fun _ v2 w3 hown3 hg3 => ?_)); have HWN := hideI (WorkR.own hown3 (base := w.heap.size + 2) (by simp; omega) rfl); have HWB := hideI (without_grow HOS.out HBr.out (by omega) hg3); clear hown3 hg3)
                  go_roundw
                  case rel => exact ⟨i + 1, tn :: S, ws ++ [tn], v2, rfl, by omega, by go_num, HLEN.out, HFN, HWN, hideI HWB.out.1, hideI HWB.out.2⟩
                  case measure => simp [intOf]; omega
          · have HF2 := hideI (HF.out.next (by rw [HSU.out, List.length_map, ← HM.out]; omega))
            go_wp2
            go_roundg ((bs.length - S.length) * 2 + ws.length)
            case rel => exact ⟨S, ws, _, rfl, Nat.le_refl _, by omega, HF2, HK, HO, HBr⟩
            case measure => omega

end Go.Proofs.Ytncmnbchkabgaaa
