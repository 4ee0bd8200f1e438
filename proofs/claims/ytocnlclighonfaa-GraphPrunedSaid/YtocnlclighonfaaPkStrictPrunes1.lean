/- What StrictPrunes rests on, part 1: PruneN, PrunePhi, PruneOwn, PruneBlock, PruneM, PruneSt, PruneW. -/
import Derived.Test.YtocnlclighonfaaPkS65
import Derived.BigRegion

namespace Go.Proofs.Ytocnlclighonfaa
open Go.RowKit Go.Maps

/-- how many of the first b stay -/
def cntS (S : Nat → Bool) : Nat → Nat
  | 0 => 0
  | b + 1 => cntS S b + if S b then 1 else 0
/-- the number of a block, when those that do not stay are left out -/
def nowI (S : Nat → Bool) (b : Nat) : Int := if S b then (cntS S b : Int) else -1
/-- the numbers, of the first k -/
def nowTo (S : Nat → Bool) (n k : Nat) : List Int := (List.range n).map fun b => if b < k then nowI S b else 0

theorem cntS_le (S : Nat → Bool) : ∀ b, cntS S b ≤ b
  | 0 => Nat.le_refl _
  | b + 1 => by
    have := cntS_le S b
    unfold cntS
    split <;> omega

theorem nowTo_at {S : Nat → Bool} {n k b : Nat} (h : b < n) : (nowTo S n k)[b]? = some (if b < k then nowI S b else 0) := by
  unfold nowTo
  rw [List.getElem?_map, List.getElem?_eq_getElem (by simpa using h)]
  simp

theorem nowTo_len (S : Nat → Bool) (n k : Nat) : (nowTo S n k).length = n := by simp [nowTo]

theorem nowTo_set {S : Nat → Bool} {n k : Nat} : (nowTo S n k).set k (nowI S k) = nowTo S n (k + 1) := by
  apply List.ext_getElem?
  intro i
  by_cases hi : i < n
  · by_cases e : k = i
    · subst e
      rw [List.getElem?_set_self (by rw [nowTo_len]; exact hi), nowTo_at hi, if_pos (by omega)]
    · rw [List.getElem?_set_ne e, nowTo_at hi, nowTo_at hi]
      by_cases h : i < k
      · rw [if_pos h, if_pos (by omega)]
      · rw [if_neg h, if_neg (by omega)]
  · rw [List.getElem?_eq_none (by rw [List.length_set, nowTo_len]; omega), List.getElem?_eq_none (by rw [nowTo_len]; omega)]

theorem nowTo_made (S : Nat → Bool) (n : Nat) : (madeCells (Value.int .i64 0).cells (n * 1)).toList = (nowTo S n 0).map (Value.int .i64) := by
  rw [show (Value.int .i64 0).cells = #[Value.int .i64 0] from rfl, toList_madeCells_one, Nat.mul_one]
  unfold nowTo
  rw [List.map_map]
  apply List.ext_getElem?
  intro i
  by_cases hi : i < n
  · rw [List.getElem?_replicate, if_pos hi, List.getElem?_map, List.getElem?_eq_getElem (by simpa using hi)]
    simp
  · rw [List.getElem?_eq_none (by simp; omega), List.getElem?_eq_none (by simp; omega)]

def NowPost (bs : List BlockM) (w : World) (e : Ending) (w' : World) : Prop :=
  ∃ (o : List Nat) (g : Nat), e = .returned (.slice (some ⟨g, 0, none⟩) bs.length bs.length) ∧ OrderIs bs o ∧
    w'.ownsRow w.heap.size 3 1 (.slice (some ⟨g, 0, none⟩) bs.length bs.length) bs.length ((nowTo (fun b => decide (b ∈ o)) bs.length bs.length).map (Value.int .i64)) ∧ Below w.heap.size w w'

theorem now_stored {w w0 : World} {base g n cap k : Nat} {S : Nat → Bool} (h : w.ownsRow base 3 1 (.slice (some ⟨g, 0, none⟩) n cap) n ((nowTo S n k).map (Value.int .i64))) (hg : w0.grownBy w (some g)) :
    (S k = false → (w.setCell ⟨g, k, none⟩ (.int .i64 (-1))).ownsRow base 3 1 (.slice (some ⟨g, 0, none⟩) n cap) n ((nowTo S n (k + 1)).map (Value.int .i64)) ∧ w0.grownBy (w.setCell ⟨g, k, none⟩ (.int .i64 (-1))) (some g)) ∧
    (S k = true → ((w.setCell ⟨g, k, none⟩ (.int .i64 (-1))).setCell ⟨g, k, none⟩ (.int .i64 (cntS S k))).ownsRow base 3 1 (.slice (some ⟨g, 0, none⟩) n cap) n ((nowTo S n (k + 1)).map (Value.int .i64)) ∧ w0.grownBy ((w.setCell ⟨g, k, none⟩ (.int .i64 (-1))).setCell ⟨g, k, none⟩ (.int .i64 (cntS S k))) (some g)) := by
  have h1 := World.ownsRow.stored h k (.int .i64 (-1))
  refine ⟨fun hs => ⟨?_, hg.trans_grown h1.2⟩, fun hs => ?_⟩
  · have e := h1.1
    rw [← List.map_set (f := Value.int .i64) (a := (-1 : Int))] at e
    rw [← nowTo_set]
    unfold nowI
    rw [hs]
    exact e
  · have h2 := World.ownsRow.stored h1.1 k (.int .i64 (cntS S k))
    refine ⟨?_, (hg.trans_grown h1.2).trans_grown h2.2⟩
    have e := h2.1
    rw [List.set_set, ← List.map_set (f := Value.int .i64) (a := (cntS S k : Int))] at e
    rw [← nowTo_set]
    unfold nowI
    rw [hs]
    exact e

set_option maxRecDepth 100000 in
set_option maxHeartbeats 2000000 in
theorem numbersNow_any (bs : List BlockM) (B : Nat) (pv av cv bv : Value) (w : World) (hbv : BlocksR w B bv bs) (hB : B ≤ w.heap.size) (h0 : 0 < bs.length) (hn5 : bs.length ≤ 512) (hin : EndsIn bs) :
    Calls Try.prog 70 #[.agg #[pv, av, cv, bv]] w (NowPost bs w) := by
  have HBL := hideI hbv
  have HIN := hideI hin
  obtain ⟨A, c, rfl, hbm, _⟩ := hbv
  obtain ⟨i0, hix, hz0, hz1, hz2⟩ := info_parts int_info
  clear hin
  go_enter Try.func70, Try.ntmps70
  go_wp2_with (first
    | (at_make; go_must (refine wpList_make_full _ rfl _ _ 22 rfl (w.heap.size + 1) 3 i0 (.int .i64 0) 1 Try.underlying22 hix hz0 hz1 .i64 .i64 _ _ bs.length rfl rfl rfl rfl (by rw [hz2]; omega) (by unfold maxLen; omega) (by simp) ?_); intro w1 hown1 hg1; rw [World.size_alloc] at hown1; go_must (have hgb := row_cells ((hg1.block w.heap.size (by simp) (by simp)).trans (heap_alloc_new w _)) rfl; have HB0 : Hid (Below w.heap.size w w1) := ((Below.refl _ _).alloc (Nat.le_refl _) _).grown hg1 (by simp) (by simp); have hlt1 : w.heap.size + 1 < w1.heap.size := (hown1.lt _ rfl).2; have HO1 := hideI hown1; clear hown1 hg1; have g0 := hgb 0; have g1 := hgb 1; have g2 := hgb 2; have g3 := hgb 3; clear hgb))
    | (go_at_call 40; go_must (refine (reach_any bs B _ _ _ _ _ (HBL.out.keeps (Keeps.of_below (HB0.out.mono hB))) (Nat.le_trans hB HB0.out.size) h0 hn5 HIN.out).mono ?_); rintro e w2 ⟨o, g, rfl, ho, hown2, hb2⟩; go_must (have HORD := hideI ho; have HX := hideI hown2; have hg0 := hown2.lt g rfl; have HO2 := hideI (own_kept_below HO1.out hb2 (fun k hk => by cases hk; exact hlt1)); have HB2 := hideI (HB0.out.trans (hb2.mono HB0.out.size)); have hlt2 := hb2.size; clear ho hown2 hb2 g0 g1 g2 g3)))
  obtain ⟨S, hS⟩ : ∃ S : Nat → Bool, S = fun b => decide (b ∈ o) := ⟨_, rfl⟩
  have HS := hideI hS
  rw [nowTo_made S] at HO2
  clear hS
  go_loopw [4, 15] (fun u4 u15 wr => ∃ (k l : Nat), k ≤ bs.length ∧ l ≤ k ∧ u4 = .int .i64 l ∧ u15 = .int .i64 k ∧ Hid (l = cntS S k) ∧ Hid (wr.ownsRow (w.heap.size + 1) 3 1 (.slice (some ⟨w.heap.size + 1, 0, none⟩) bs.length bs.length) bs.length ((nowTo S bs.length k).map (Value.int .i64))) ∧ Hid (w2.grownBy wr (some (w.heap.size + 1)))) (fun _ u _ => bs.length - (intOf u).toNat)
  case atStart => exact ⟨0, 0, Nat.zero_le _, Nat.le_refl _, rfl, rfl, hideI rfl, HO2, hideI (World.grownBy.refl _ _)⟩
  case round =>
    obtain ⟨k, l, hk, hl, rfl, rfl, HL, HR, HG⟩ := hrel
    by_cases hlt : k < bs.length
    · have hr : wr.ownsRow w1.heap.size 4 1 (.slice (some ⟨g, 0, none⟩) bs.length bs.length) bs.length (marks bs.length o) := HX.out.kept HG.out (.inr (by simp [Value.ownBlock]; omega))
      have c1 : wr.cell? ⟨g, k, none⟩ = some (.bool (decide (k ∈ o))) := by rw [World.ownsRow.cellAt hr k (by omega), marks_at hlt]
      have c2 : wr.cell? ⟨w.heap.size + 1, k, none⟩ = some (.int .i64 0) := by
        rw [World.ownsRow.cellAt HR.out k (by omega), List.getElem?_map, nowTo_at hlt, if_neg (by omega)]
        rfl
      have c3 : wr.frozen? ⟨w.heap.size + 1, k, none⟩ = false := World.ownsRow.frozenAt HR.out k
      have HN := hideI (now_stored HR.out HG.out)
      clear hr
      cases hd : decide (k ∈ o)
      · have HSK : Hid (S k = false) := by show _ = _; rw [HS.out]; exact hd
        have HL2 : Hid (l = cntS S (k + 1)) := by show _ = _; rw [cntS, HSK.out]; exact HL.out
        rw [hd] at c1
        clear hd
        go_wp2
        go_roundw
        case rel => exact ⟨k + 1, l, by omega, by omega, rfl, by go_num, HL2, hideI (HN.out.1 HSK.out).1, hideI (HN.out.1 HSK.out).2⟩
        case measure => simp [intOf]; omega
      · have HSK : Hid (S k = true) := by show _ = _; rw [HS.out]; exact hd
        have HL2 : Hid (l + 1 = cntS S (k + 1)) := by show _ = _; rw [cntS, HSK.out, if_pos rfl, ← HL.out]
        have hn2 := HN.out.2 HSK.out
        rw [← HL.out] at hn2
        have HN2 := hideI hn2
        rw [hd] at c1
        clear hd hn2
        go_wp2
        go_roundw
        case rel => exact ⟨k + 1, l + 1, by omega, by omega, by go_num, by go_num, HL2, hideI HN2.out.1, hideI HN2.out.2⟩
        case measure => simp [intOf]; omega
    · have e : k = bs.length := by omega
      rw [e, HS.out] at HR
      clear e
      go_wp2
      go_ret
      exact ⟨o, _, rfl, HORD.out, World.ownsRow.mono HR.out (by omega), HB2.out.trans ⟨HG.out.os, HG.out.tape, HG.out.output, HG.out.size, fun b hb => HG.out.block b (Nat.lt_of_lt_of_le hb HB2.out.size) (by simp; omega)⟩⟩

end Go.Proofs.Ytocnlclighonfaa

namespace Go.Proofs.Ytocnlclighonfaa
open Go.RowKit Go.Maps

/-- of the first k places of a phi those that stay -/
def keepF (num : Int → Int) (fr : List Int) : Nat → List Int
  | 0 => []
  | k + 1 => keepF num fr k ++ match fr[k]? with | some x => if num x = -1 then [] else [num x] | none => []
def keepV (num : Int → Int) (fr vals : List Int) : Nat → List Int
  | 0 => []
  | k + 1 => keepV num fr vals k ++ match fr[k]? with | some x => if num x = -1 then [] else [vals[k]?.getD 0] | none => []

def prunePhi (num : Int → Int) (p : PhiM) : PhiM := { p with fr := keepF num p.fr p.fr.length, vals := keepV num p.fr p.vals p.fr.length }

theorem keep_len (num : Int → Int) (fr vals : List Int) : ∀ k, (keepV num fr vals k).length = (keepF num fr k).length
  | 0 => rfl
  | k + 1 => by
    unfold keepV keepF
    rw [List.length_append, List.length_append, keep_len num fr vals k]
    cases fr[k]? with
    | none => rfl
    | some x => simp only; split <;> rfl

theorem keepF_le (num : Int → Int) (fr : List Int) : ∀ k, (keepF num fr k).length ≤ k
  | 0 => Nat.le_refl _
  | k + 1 => by
    have := keepF_le num fr k
    unfold keepF
    rw [List.length_append]
    cases fr[k]? with
    | none => simp; omega
    | some x => simp only; split <;> simp <;> omega

/-- a row that is written over from the front -/
def over (kept l : List Int) : List Int := kept ++ l.drop kept.length

theorem over_len {kept l : List Int} (h : kept.length ≤ l.length) : (over kept l).length = l.length := by
  unfold over
  rw [List.length_append, List.length_drop]
  omega

theorem over_at {kept l : List Int} {k : Nat} (h : kept.length ≤ k) : (over kept l)[k]? = l[k]? := by
  unfold over
  rw [List.getElem?_append_right h, List.getElem?_drop]
  congr 1
  omega

theorem over_put {kept l : List Int} {x : Int} (h : kept.length < l.length) : (over kept l).set kept.length x = over (kept ++ [x]) l := by
  unfold over
  rw [List.set_append_right _ _ (Nat.le_refl _), Nat.sub_self, List.length_append, List.append_assoc]
  congr 1
  rw [show l.drop kept.length = l[kept.length] :: l.drop (kept.length + 1) from (List.getElem_cons_drop h).symm]
  rfl

section
variable {w W : World} {base gf gv n m cf cv : Nat} {lf lv : List Int}

theorem CS.setF (h : CS w base gf gv W (.slice (some ⟨gf, 0, none⟩) n cf) lf (.slice (some ⟨gv, 0, none⟩) m cv) lv) (hn : lf.length = n) (_hgf : gf < w.heap.size) (j : Nat) (x : Int) : CS w base gf gv (W.setCell ⟨gf, j, none⟩ (.int .i64 x)) (.slice (some ⟨gf, 0, none⟩) n cf) (lf.set j x) (.slice (some ⟨gv, 0, none⟩) m cv) lv := by
  have hf := h.f
  rw [hn] at hf
  have hs := World.ownsRow.stored hf j (.int .i64 x)
  have hap : gf ≠ gv := fun e => h.ap (by rw [e]; rfl)
  refine ⟨?_, h.v.kept hs.2 (.inr (by simp [Value.ownBlock]; exact fun e => hap e.symm)), h.ap, h.fo, h.vo, fun b hb h1 h2 => ?_, by have := h.sz; simpa using this, h.same⟩
  · rw [List.length_set, hn, List.map_set]
    exact hs.1
  · rw [heap_setCell_other _ _ _ _ (by simpa using h1)]
    exact h.keep b hb h1 h2

theorem CS.setV (h : CS w base gf gv W (.slice (some ⟨gf, 0, none⟩) n cf) lf (.slice (some ⟨gv, 0, none⟩) m cv) lv) (hm : lv.length = m) (_hgv : gv < w.heap.size) (j : Nat) (x : Int) : CS w base gf gv (W.setCell ⟨gv, j, none⟩ (.int .i64 x)) (.slice (some ⟨gf, 0, none⟩) n cf) lf (.slice (some ⟨gv, 0, none⟩) m cv) (lv.set j x) := by
  have hv := h.v
  rw [hm] at hv
  have hs := World.ownsRow.stored hv j (.int .i64 x)
  have hap : gf ≠ gv := fun e => h.ap (by rw [e]; rfl)
  refine ⟨h.f.kept hs.2 (.inr (by simp [Value.ownBlock]; exact hap)), ?_, h.ap, h.fo, h.vo, fun b hb h1 h2 => ?_, by have := h.sz; simpa using this, h.same⟩
  · rw [List.length_set, hm, List.map_set]
    exact hs.1
  · rw [heap_setCell_other _ _ _ _ (by simpa using h2)]
    exact h.keep b hb h1 h2

/-- the front of an owned row is an owned row -/
theorem own_front {xs : List Value} {e : TypeId} {k : Nat} {g cap : Nat} (h : W.ownsRow base e 1 (.slice (some ⟨g, 0, none⟩) n cap) n xs) (hk : k ≤ n) : W.ownsRow base e 1 (.slice (some ⟨g, 0, none⟩) k cap) k (xs.take k) := by
  have h1 := h.1
  rcases h.2 with ⟨h', _⟩ | ⟨g', cap', cur, h', hb, hg, hnc, hcm, hcs, htake⟩
  · cases h'
  · simp only [Value.slice.injEq, Option.some.injEq, Addr.mk.injEq, and_true, true_and] at h'
    obtain ⟨rfl, rfl⟩ := h'
    refine ⟨by rw [List.length_take]; omega, .inr ⟨g, cap, cur, rfl, hb, hg, by omega, hcm, hcs, ?_⟩⟩
    rw [← htake]
    simp only [Nat.mul_one, List.take_take]
    congr 1
    omega

theorem CS.front (h : CS w base gf gv W (.slice (some ⟨gf, 0, none⟩) n cf) lf (.slice (some ⟨gv, 0, none⟩) m cv) lv) (hn : lf.length = n) (hm : lv.length = m) {k : Nat} (h1 : k ≤ n) (h2 : k ≤ m) : CS w base gf gv W (.slice (some ⟨gf, 0, none⟩) k cf) (lf.take k) (.slice (some ⟨gv, 0, none⟩) k cv) (lv.take k) := by
  have hf := h.f
  have hv := h.v
  rw [hn] at hf
  rw [hm] at hv
  refine ⟨?_, ?_, h.ap, h.fo, h.vo, h.keep, h.sz, h.same⟩
  · rw [List.length_take, hn, Nat.min_eq_left h1, List.map_take]
    exact own_front hf h1
  · rw [List.length_take, hm, Nat.min_eq_left h2, List.map_take]
    exact own_front hv h2
end

theorem row_cap {W : World} {base : Nat} {e : TypeId} {g n cap : Nat} {xs : List Value} (h : W.ownsRow base e 1 (.slice (some ⟨g, 0, none⟩) n cap) n xs) : n ≤ cap := by
  rcases h.2 with ⟨h', _⟩ | ⟨g', cap', cur, h', hb, hg, hnc, _⟩
  · cases h'
  · simp only [Value.slice.injEq, Option.some.injEq, Addr.mk.injEq, and_true, true_and] at h'
    omega

theorem over_take {kept l : List Int} : (over kept l).take kept.length = kept := by
  unfold over
  exact List.take_left ..

set_option maxRecDepth 100000 in
set_option maxHeartbeats 4000000 in
theorem renumberPhi_some (fr vals : List Int) (num : Int → Int) (n base g i gf fc gv vc gn nc : Nat) (w : World)
    (c2 : w.cell? ⟨g, i * 4 + 2, none⟩ = some (.slice (some ⟨gf, 0, none⟩) fr.length fc)) (c3 : w.cell? ⟨g, i * 4 + 3, none⟩ = some (.slice (some ⟨gv, 0, none⟩) vals.length vc))
    (k2 : w.frozen? ⟨g, i * 4 + 2, none⟩ = false) (k3 : w.frozen? ⟨g, i * 4 + 3, none⟩ = false)
    (hF : w.ownsRow base 3 1 (.slice (some ⟨gf, 0, none⟩) fr.length fc) fr.length (fr.map (Value.int .i64))) (hV : w.ownsRow base 3 1 (.slice (some ⟨gv, 0, none⟩) vals.length vc) vals.length (vals.map (Value.int .i64)))
    (hln : vals.length = fr.length) (h512 : fr.length ≤ 512) (hgl : g < w.heap.size) (hgf : g ≠ gf) (hgv : g ≠ gv) (hne : gf ≠ gv)
    (hN : ∀ b, b < n → w.cell? ⟨gn, b, none⟩ = some (.int .i64 (num b))) (hgn : gn < w.heap.size) (hnf : gn ≠ gf) (hnv : gn ≠ gv) (hin : ∀ x ∈ fr, 0 ≤ x ∧ x < n) (_hn5 : n ≤ 512) :
    Calls Try.prog 84 #[.pointer (some ⟨g, i * 4, none⟩), .slice (some ⟨gn, 0, none⟩) n nc] w (fun e w' => ∃ (W : World) (k : Nat), k = (keepF num fr fr.length).length ∧ e = .returned (.tuple #[]) ∧ CS w base gf gv W (.slice (some ⟨gf, 0, none⟩) k fc) (keepF num fr fr.length) (.slice (some ⟨gv, 0, none⟩) k vc) (keepV num fr vals fr.length) ∧ w' = (W.setCell ⟨g, i * 4 + 2, none⟩ (.slice (some ⟨gf, 0, none⟩) k fc)).setCell ⟨g, i * 4 + 3, none⟩ (.slice (some ⟨gv, 0, none⟩) k vc)) := by
  have HF := hideI hF
  have HV := hideI hV
  have HLN := hideI hln
  have HN := hideI hN
  have HINN := hideI hin
  have C0 : Hid (CS w base gf gv w (.slice (some ⟨gf, 0, none⟩) fr.length fc) (over [] fr) (.slice (some ⟨gv, 0, none⟩) vals.length vc) (over [] vals)) := hideI ⟨hF, hV, by simp [Value.ownBlock]; exact hne, .inl rfl, .inl rfl, fun _ _ _ _ => rfl, Nat.le_refl _, ⟨rfl, rfl, rfl⟩⟩
  have hgfl : gf < w.heap.size := (hF.lt gf rfl).2
  have hgvl : gv < w.heap.size := (hV.lt gv rfl).2
  have HC2 := hideI c2
  have HC3 := hideI c3
  have HK2 := hideI k2
  have HK3 := hideI k3
  obtain ⟨L, hL⟩ : ∃ L, L = fr.length := ⟨_, rfl⟩
  have HL := hideI hL
  have hvL : vals.length = L := by omega
  have HVL := hideI hvL
  rw [← hL] at c2 HC2 h512 ⊢
  rw [hvL] at c3 HC3
  have hS : ∀ W lf lv, CS w base gf gv W (.slice (some ⟨gf, 0, none⟩) fr.length fc) lf (.slice (some ⟨gv, 0, none⟩) vals.length vc) lv → lf.length = fr.length → lv.length = vals.length → W.cell? ⟨g, i * 4 + 2, none⟩ = some (.slice (some ⟨gf, 0, none⟩) L fc) ∧ W.cell? ⟨g, i * 4 + 3, none⟩ = some (.slice (some ⟨gv, 0, none⟩) L vc) ∧ (∀ b, b < n → W.cell? ⟨gn, b, none⟩ = some (.int .i64 (num b))) ∧ (∀ j x, lf[j]? = some x → W.cell? ⟨gf, j, none⟩ = some (.int .i64 x)) ∧ (∀ j x, lv[j]? = some x → W.cell? ⟨gv, j, none⟩ = some (.int .i64 x)) ∧ (∀ j, W.frozen? ⟨gf, j, none⟩ = false) ∧ (∀ j, W.frozen? ⟨gv, j, none⟩ = false) ∧ W.frozen? ⟨g, i * 4 + 2, none⟩ = false ∧ W.frozen? ⟨g, i * 4 + 3, none⟩ = false := by
    intro W lf lv h h1 h2
    have hf := h.f
    have hv := h.v
    rw [h1] at hf
    rw [h2] at hv
    have hkg := h.keep g hgl hgf hgv
    have hkn := h.keep gn hgn hnf hnv
    refine ⟨(World.cell?_of_block (a := ⟨g, i * 4 + 2, none⟩) hkg).trans HC2.out, (World.cell?_of_block (a := ⟨g, i * 4 + 3, none⟩) hkg).trans HC3.out, fun b hb => (World.cell?_of_block (a := ⟨gn, b, none⟩) hkn).trans (HN.out b hb), fun j x hx => ?_, fun j x hx => ?_, fun j => World.ownsRow.frozenAt hf j, fun j => World.ownsRow.frozenAt hv j, ?_, ?_⟩
    · rw [World.ownsRow.cellAt hf j (by have := (List.getElem?_eq_some_iff.1 hx).1; omega), List.getElem?_map, hx]; rfl
    · rw [World.ownsRow.cellAt hv j (by have := (List.getElem?_eq_some_iff.1 hx).1; omega), List.getElem?_map, hx]; rfl
    · have : W.frozen? ⟨g, i * 4 + 2, none⟩ = w.frozen? ⟨g, i * 4 + 2, none⟩ := by unfold World.frozen?; rw [hkg]
      rw [this]; exact HK2.out
    · have : W.frozen? ⟨g, i * 4 + 3, none⟩ = w.frozen? ⟨g, i * 4 + 3, none⟩ := by unfold World.frozen?; rw [hkg]
      rw [this]; exact HK3.out
  have HS := hideI hS
  clear hS hF hV hln hN hin c3 k2 k3 hL hvL
  go_enter Try.func84, Try.ntmps84
  go_wp2
  clear c2
  go_loopw [4, 12] (fun u4 u12 wr => ∃ (k l : Nat), k ≤ L ∧ l ≤ k ∧ u4 = .int .i64 l ∧ u12 = .int .i64 k ∧ Hid (l = (keepF num fr k).length) ∧ Hid (CS w base gf gv wr (.slice (some ⟨gf, 0, none⟩) fr.length fc) (over (keepF num fr k) fr) (.slice (some ⟨gv, 0, none⟩) vals.length vc) (over (keepV num fr vals k) vals))) (fun _ u _ => L - (intOf u).toNat)
  case atStart => exact ⟨0, 0, Nat.zero_le _, Nat.le_refl _, rfl, rfl, hideI rfl, C0⟩
  case round =>
    obtain ⟨k, l, hk, hl, rfl, rfl, HLK, HCS⟩ := hrel
    have hlf : (over (keepF num fr k) fr).length = fr.length := over_len (by have := keepF_le num fr k; have := HL.out; omega)
    have hlv : (over (keepV num fr vals k) vals).length = vals.length := over_len (by rw [keep_len]; have := keepF_le num fr k; have := HL.out; have := HLN.out; omega)
    obtain ⟨s2, s3, sn, sf, sv, zf, zv, z2, z3⟩ := HS.out _ _ _ HCS.out hlf hlv
    by_cases hlt : k < L
    · obtain ⟨x, hx⟩ : ∃ x, fr[k]? = some x := ⟨_, List.getElem?_eq_getElem (by have := HL.out; omega)⟩
      obtain ⟨y, hy⟩ : ∃ y, vals[k]? = some y := ⟨_, List.getElem?_eq_getElem (by have := HVL.out; omega)⟩
      have hxr := HINN.out x (List.mem_of_getElem? hx)
      obtain ⟨xn, rfl⟩ : ∃ xn : Nat, x = (xn : Int) := ⟨x.toNat, by omega⟩
      have hxn : xn < n := by omega
      have d0 := sf k _ (by rw [over_at (by have := HLK.out; omega)]; exact hx)
      have d1 := sv k _ (by rw [over_at (by rw [keep_len]; have := HLK.out; omega)]; exact hy)
      have d2 := sn xn hxn
      obtain ⟨xl, hxl⟩ : ∃ xl, fr[l]? = some xl := ⟨_, List.getElem?_eq_getElem (by have := HL.out; omega)⟩
      obtain ⟨yl, hyl⟩ : ∃ yl, vals[l]? = some yl := ⟨_, List.getElem?_eq_getElem (by have := HVL.out; omega)⟩
      have d3 := sf l _ (by rw [over_at (by have := HLK.out; omega)]; exact hxl)
      have d4 := sv l _ (by rw [over_at (by rw [keep_len]; have := HLK.out; omega)]; exact hyl)
      have zf0 := zf l
      have zv0 := zv l
      have HX := hideI hx
      have HY := hideI hy
      obtain ⟨z, hz⟩ : ∃ z, z = num (xn : Int) := ⟨_, rfl⟩
      have HZ := hideI hz
      rw [← hz] at d2
      clear sn sf sv zf zv z2 z3 hx hy hxr hz hlf hlv hxl hyl
      by_cases hg : z = -1
      · have hgb : (z != -1) = false := by rw [hg]; rfl
        have HF2 : Hid (keepF num fr (k + 1) = keepF num fr k) := by
          show _ = _
          rw [keepF, HX.out]
          simp only
          rw [if_pos (by rw [← HZ.out]; exact hg), List.append_nil]
        have HV2 : Hid (keepV num fr vals (k + 1) = keepV num fr vals k) := by
          show _ = _
          rw [keepV, HX.out]
          simp only
          rw [if_pos (by rw [← HZ.out]; exact hg), List.append_nil]
        clear hg
        go_wp2
        go_roundw
        case rel => exact ⟨k + 1, l, by omega, by omega, rfl, by go_num, by rw [HF2.out]; exact HLK, by rw [HF2.out, HV2.out]; exact HCS⟩
        case measure => simp [intOf]; omega
      · have hgb : (z != -1) = true := by simpa using hg
        have hF2 : keepF num fr (k + 1) = keepF num fr k ++ [z] := by
          rw [keepF, HX.out]
          simp only
          rw [if_neg (by rw [← HZ.out]; exact hg), HZ.out]
        have hV2 : keepV num fr vals (k + 1) = keepV num fr vals k ++ [y] := by
          rw [keepV, HX.out]
          simp only
          rw [if_neg (by rw [← HZ.out]; exact hg), HY.out]
          rfl
        have HLK2 : Hid (l + 1 = (keepF num fr (k + 1)).length) := by show _ = _; rw [hF2, List.length_append, ← HLK.out]; rfl
        have hlf : (over (keepF num fr k) fr).length = fr.length := over_len (by have := keepF_le num fr k; have := HL.out; omega)
        have hlv : (over (keepV num fr vals k) vals).length = vals.length := over_len (by rw [keep_len]; have := keepF_le num fr k; have := HL.out; have := HLN.out; omega)
        have hcs := (HCS.out.setF hlf hgfl l z).setV hlv hgvl l y
        have e1 : (over (keepF num fr k) fr).set l z = over (keepF num fr (k + 1)) fr := by rw [hF2, HLK.out]; exact over_put (by have := HLK.out; have := HL.out; omega)
        have e2 : (over (keepV num fr vals k) vals).set l y = over (keepV num fr vals (k + 1)) vals := by
          have e3 : l = (keepV num fr vals k).length := by rw [keep_len]; exact HLK.out
          rw [hV2, e3]
          exact over_put (by have := HLN.out; have := HL.out; omega)
        rw [e1, e2] at hcs
        have HCS2 := hideI hcs
        have hll : l < L := by omega
        clear hg hF2 hV2 hlf hlv hcs e1 e2
        go_wp2
        go_region
        go_wp2
        go_roundw
        case rel => exact ⟨k + 1, l + 1, by omega, by omega, by go_num, by go_num, HLK2, hideI HCS2.out.drew⟩
        case measure => simp [intOf]; omega
    · have hkL : k = fr.length := by have := HL.out; omega
      have hfc := row_cap HF.out
      have hvc := row_cap HV.out
      rw [← HL.out] at hfc
      rw [HVL.out] at hvc
      have hll : l ≤ L := by omega
      rw [hkL] at HCS HLK
      have HCE : Hid (CS w base gf gv wr (.slice (some ⟨gf, 0, none⟩) l fc) (keepF num fr fr.length) (.slice (some ⟨gv, 0, none⟩) l vc) (keepV num fr vals fr.length)) := by
        have h1 := (over_len (kept := keepF num fr fr.length) (l := fr) (keepF_le num fr _))
        have h2 := (over_len (kept := keepV num fr vals fr.length) (l := vals) (by rw [keep_len]; have := keepF_le num fr fr.length; have := HLN.out; omega))
        have h := HCS.out.front h1 h2 (k := l) (by have := HL.out; omega) (by have := HVL.out; omega)
        have e1 : (over (keepF num fr fr.length) fr).take l = keepF num fr fr.length := by rw [HLK.out]; exact over_take
        have e2 : (over (keepV num fr vals fr.length) vals).take l = keepV num fr vals fr.length := by rw [HLK.out, ← keep_len num fr vals]; exact over_take
        rw [e1, e2] at h
        exact hideI h
      have HLE : Hid (l = (keepF num fr fr.length).length) := HLK
      clear sn sf sv zf zv hlf hlv hkL HCS HLK
      go_wp2
      go_region
      go_end0
      exact ⟨wr.drew, l, by rw [HL.out]; exact HLE.out, rfl, by rw [HL.out]; exact HCE.out.drew, rfl⟩

end Go.Proofs.Ytocnlclighonfaa

namespace Go.Proofs.Ytocnlclighonfaa
open Go.RowKit Go.Maps

theorem upd_self {α : Type} (g : Tag → α) (t : Tag) : upd g t (g t) = g := by
  funext t'
  unfold upd
  split
  · rename_i e; rw [e]
  · rfl

set_option maxRecDepth 100000 in
set_option maxHeartbeats 1000000 in
theorem renumberPhi_none (F V : Value) (g i n gn nc : Nat) (w : World) (hF : F = .slice none 0 0 ∨ ∃ g c, F = .slice (some ⟨g, 0, none⟩) 0 c) (hV : V = .slice none 0 0 ∨ ∃ g c, V = .slice (some ⟨g, 0, none⟩) 0 c)
    (c2 : w.cell? ⟨g, i * 4 + 2, none⟩ = some F) (c3 : w.cell? ⟨g, i * 4 + 3, none⟩ = some V)
    (k2 : w.frozen? ⟨g, i * 4 + 2, none⟩ = false) (k3 : w.frozen? ⟨g, i * 4 + 3, none⟩ = false) :
    Calls Try.prog 84 #[.pointer (some ⟨g, i * 4, none⟩), .slice (some ⟨gn, 0, none⟩) n nc] w (fun e w' => ∃ W : World, e = .returned (.tuple #[]) ∧ W.heap = w.heap ∧ Below w.heap.size w W ∧ w' = (W.setCell ⟨g, i * 4 + 2, none⟩ F).setCell ⟨g, i * 4 + 3, none⟩ V) := by
  rcases hF with rfl | ⟨gf, cf, rfl⟩ <;> rcases hV with rfl | ⟨gv, cv, rfl⟩
  all_goals
    go_enter Try.func84, Try.ntmps84
    go_wp2
    go_loopw [4, 12] (fun u4 u12 wr => u4 = .int .i64 0 ∧ u12 = .int .i64 0 ∧ wr = w) (fun _ _ _ => 0)
    case atStart => exact ⟨rfl, rfl, rfl⟩
    case round =>
      obtain ⟨rfl, rfl, hw⟩ := hrel
      obtain rfl := hw.symm
      go_wp2
      go_region
      go_end0
      exact ⟨w.drew, rfl, rfl, ⟨rfl, rfl, rfl, Nat.le_refl _, fun _ _ => rfl⟩, rfl⟩

theorem prunePhi_any {f : FuncM} {val : Vals} {t i base : Nat} {q : BlockM} {p : PhiM} {gp cp : Nat} (num : Int → Int) (n gn nc : Nat) (w : World) (ho : Owned w base f val) (hq : f.blocks[t]? = some q) (hp : q.phis[i]? = some p)
    (hvp : val (.phis t) = .slice (some ⟨gp, 0, none⟩) q.phis.length cp) (hl : p.vals.length = p.fr.length) (h512 : p.fr.length ≤ 512) (hb : base ≤ w.heap.size)
    (hN : ∀ b, b < n → w.cell? ⟨gn, b, none⟩ = some (.int .i64 (num b))) (hgn : gn < w.heap.size) (hna : ∀ tag, TI f tag → (val tag).ownBlock ≠ some gn) (hin : ∀ x ∈ p.fr, 0 ≤ x ∧ x < n) (hn5 : n ≤ 512) :
    Calls Try.prog 84 #[.pointer (some ⟨gp, i * 4, none⟩), .slice (some ⟨gn, 0, none⟩) n nc] w (ComePost f val t i (prunePhi num p) base w) := by
  have hi := (List.getElem?_eq_some_iff.1 hp).1
  have tiF : TI f (.fr t i) := TI.of (row_fr (val := val) hq hp)
  have tiV : TI f (.vals t i) := TI.of (row_vals (val := val) hq hp)
  have tiP : TI f (.phis t) := TI.of (row_phis (val := val) hq)
  have rF := row_fr (val := val) hq hp
  have rV := row_vals (val := val) hq hp
  have rP := row_phis (val := val) hq
  have oF := ho.rows _ _ tiF rF
  have oV := ho.rows _ _ tiV rV
  have hcP : ∀ r u, r < 4 → (phiCells val t i p)[r]? = some u → w.cell? ⟨gp, i * 4 + r, none⟩ = some u ∧ w.frozen? ⟨gp, i * 4 + r, none⟩ = false := fun r u hr hu => by
    have := ho.cell tiP rP hvp rfl (j := i * 4 + r) (by show _ < q.phis.length * 4; omega)
    rw [phi_cell hp hr, hu] at this
    exact this
  obtain ⟨c2, k2⟩ := hcP 2 _ (by omega) rfl
  obtain ⟨c3, k3⟩ := hcP 3 _ (by omega) rfl
  have hgp := ho.lt tiP (g := gp) (by rw [hvp]; rfl)
  have hgP : (val (.phis t)).ownBlock = some gp := by rw [hvp]; rfl
  obtain ⟨p1, hp1⟩ : ∃ p1 : PhiM, p1 = prunePhi num p := ⟨_, rfl⟩
  have hid : p1.id = p.id := by rw [hp1]; rfl
  have htyp : p1.typ = p.typ := by rw [hp1]; rfl
  by_cases hpos : 0 < p.fr.length
  · have hfr : p1.fr = keepF num p.fr p.fr.length := by rw [hp1]; rfl
    have hva : p1.vals = keepV num p.fr p.vals p.fr.length := by rw [hp1]; rfl
    obtain ⟨gf, fc, hvF, hgf1, hgf2⟩ := ho.slice tiF rF hpos
    obtain ⟨gv, vc, hvV, hgv1, hgv2⟩ := ho.slice tiV rV (by show 0 < p.vals.length; omega)
    have hvF' : val (.fr t i) = .slice (some ⟨gf, 0, none⟩) p.fr.length fc := hvF
    have hvV' : val (.vals t i) = .slice (some ⟨gv, 0, none⟩) p.vals.length vc := hvV
    have hgF : (val (.fr t i)).ownBlock = some gf := by rw [hvF]; rfl
    have hgV : (val (.vals t i)).ownBlock = some gv := by rw [hvV]; rfl
    have n1 : gp ≠ gf := fun e => by have := ho.apart _ _ gp tiP tiF hgP (e ▸ hgF); cases this
    have n2 : gp ≠ gv := fun e => by have := ho.apart _ _ gp tiP tiV hgP (e ▸ hgV); cases this
    have n3 : gf ≠ gv := fun e => by have := ho.apart _ _ gf tiF tiV hgF (e ▸ hgV); cases this
    rw [hvF'] at c2 oF
    rw [hvV'] at c3 oV
    refine (renumberPhi_some p.fr p.vals num n base gp i gf fc gv vc gn nc w c2 c3 k2 k3 oF oV hl h512 hgp.2 n1 n2 n3 hN hgn (fun e => hna _ tiF (e ▸ hgF)) (fun e => hna _ tiV (e ▸ hgV)) hin hn5).mono ?_
    rintro e w' ⟨W, k, hk, rfl, hcs, rfl⟩
    rw [← hfr, ← hva] at hcs
    rw [← hp1]
    have hkf : k = p1.fr.length := by rw [hk, hfr]
    have hkv : k = p1.vals.length := by rw [hva, keep_len]; exact hk
    obtain ⟨F, hF⟩ : ∃ F, F = Value.slice (some ⟨gf, 0, none⟩) k fc := ⟨_, rfl⟩
    obtain ⟨V, hV⟩ : ∃ V, V = Value.slice (some ⟨gv, 0, none⟩) k vc := ⟨_, rfl⟩
    rw [← hF, ← hV] at hcs ⊢
    have fo : ∀ g, F.ownBlock = some g → (val (.fr t i)).ownBlock = some g ∨ w.heap.size ≤ g := fun g hg => by
      rcases hcs.fo with h | ⟨k, h, h2⟩
      · rw [hg] at h; cases h; exact .inl hgF
      · rw [hg] at h; cases h; exact .inr h2
    have vo : ∀ g, V.ownBlock = some g → (val (.vals t i)).ownBlock = some g ∨ w.heap.size ≤ g := fun g hg => by
      rcases hcs.vo with h | ⟨k, h, h2⟩
      · rw [hg] at h; cases h; exact .inl hgV
      · rw [hg] at h; cases h; exact .inr h2
    have o1 := ho.swap2 (W := W) (ta := .fr t i) (tb := .vals t i) (da := intsRow p1.fr) (db := intsRow p1.vals) (va := F) (vb := V) (by simp) hcs.f hcs.v tiF tiV hcs.ap fo vo
      (fun b hb h1 h2 => hcs.keep b hb (fun e => h1 (e ▸ hgF)) (fun e => h2 (e ▸ hgV)))
    have hv1 : upd (upd val (.fr t i) F) (.vals t i) V (.phis t) = .slice (some ⟨gp, 0, none⟩) q.phis.length cp := by rw [upd_ne _ _ (by simp), upd_ne _ _ (by simp)]; exact hvp
    have o2 := o1.set (tp := .phis t) (d := ⟨88, 4, q.phis.length, cellsOf (phiCells val t) 0 q.phis⟩) (j := i * 4 + 2) (u := F) tiP (by rw [upd_ne _ _ (by simp), upd_ne _ _ (by simp)]; exact rP) hv1 rfl
    have o3 := o2.set (tp := .phis t) (j := i * 4 + 3) (u := V) tiP (upd_same _ _ _) hv1 rfl
    have hval : ∀ tag, tag ≠ .fr t i → tag ≠ .vals t i → upd (upd val (.fr t i) F) (.vals t i) V tag = val tag := fun tag h1 h2 => by rw [upd_ne _ _ h2, upd_ne _ _ h1]
    refine ⟨upd (upd val (.fr t i) F) (.vals t i) V, rfl, o3.congr (fun tag htag => ?_) (fun _ _ => rfl) (fun tag htag => (setPhi_ti hq hp hid htyp tag).1 htag), hval, fun tag g htag hg => ?_, fun b hb hn => ?_, ?_⟩
    · by_cases h3 : tag = .phis t
      · subst h3
        rw [upd_same, setPhi_phis hq, phis_same hp hid htyp, phis_grown hi]
      · rw [upd_ne _ _ h3, upd_ne _ _ h3]
        by_cases h2 : tag = .vals t i
        · subst h2; rw [upd_same, setPhi_vals hq hp]
        · rw [upd_ne _ _ h2]
          by_cases h1 : tag = .fr t i
          · subst h1; rw [upd_same, setPhi_fr hq hp]
          · rw [upd_ne _ _ h1]
            exact setPhi_row hq hp hid htyp hval tag h1 h2 h3
    · by_cases h2 : tag = .vals t i
      · subst h2; rw [upd_same] at hg; exact vo g hg
      · rw [upd_ne _ _ h2] at hg
        by_cases h1 : tag = .fr t i
        · subst h1; rw [upd_same] at hg; exact fo g hg
        · rw [upd_ne _ _ h1] at hg; exact .inl hg
    · have hbp : b ≠ gp := fun e => hn _ tiP (e ▸ hgP)
      rw [heap_setCell_other _ _ _ _ (by simpa using hbp), heap_setCell_other _ _ _ _ (by simpa using hbp)]
      exact hcs.keep b hb (fun e => hn _ tiF (e ▸ hgF)) (fun e => hn _ tiV (e ▸ hgV))
    · have hB : Below base w W := ⟨hcs.same.1, hcs.same.2.1, hcs.same.2.2, hcs.sz, fun b hb2 => hcs.keep b (by omega) (by omega) (by omega)⟩
      exact (hB.setCell hgp.1 _).setCell hgp.1 _
  · have h0 : p.fr.length = 0 := by omega
    have hpp : p1 = p := by
      rw [hp1]
      unfold prunePhi
      rw [h0]
      have e1 : p.fr = [] := List.eq_nil_of_length_eq_zero h0
      have e2 : p.vals = [] := List.eq_nil_of_length_eq_zero (by omega)
      obtain ⟨a, b, c, d⟩ := p
      simp only at e1 e2
      subst e1 e2
      rfl
    have form : ∀ {v : Value} {xs : List Int}, w.ownsRow base 3 1 v xs.length (xs.map (Value.int .i64)) → xs.length = 0 → v = .slice none 0 0 ∨ ∃ g c, v = .slice (some ⟨g, 0, none⟩) 0 c := by
      intro v xs h hx
      rcases h.2 with ⟨h1, _⟩ | ⟨g, cap, cur, h1, _⟩
      · exact .inl h1
      · exact .inr ⟨g, cap, by rw [h1, hx]⟩
    refine (renumberPhi_none _ _ gp i n gn nc w (form oF h0) (form oV (by omega)) c2 c3 k2 k3).mono ?_
    rintro e w' ⟨W, rfl, hW, hWB, rfl⟩
    rw [← hp1, hpp]
    have o1 : Owned W base f val := ho.kept fun b _ _ => by rw [hW]
    have o2 := o1.set (tp := .phis t) (d := ⟨88, 4, q.phis.length, cellsOf (phiCells val t) 0 q.phis⟩) (j := i * 4 + 2) (u := val (.fr t i)) tiP rP hvp rfl
    have o3 := o2.set (tp := .phis t) (j := i * 4 + 3) (u := val (.vals t i)) tiP (upd_same _ _ _) hvp rfl
    have hcell := phis_grown (val := val) (t := t) (F := val (.fr t i)) (V := val (.vals t i)) hi
    rw [upd_self, upd_self] at hcell
    refine ⟨val, rfl, ?_, fun _ _ _ => rfl, fun _ _ _ h => .inl h, fun b hb hn => ?_, ?_⟩
    · rw [setPhi_self hq hp]
      refine o3.congr (fun tag htag => ?_) (fun _ _ => rfl) (fun _ h => h)
      by_cases h3 : tag = .phis t
      · subst h3
        rw [upd_same, rP, ← hcell]
      · rw [upd_ne _ _ h3, upd_ne _ _ h3]
    · have hbp : b ≠ gp := fun e => hn _ tiP (e ▸ hgP)
      rw [heap_setCell_other _ _ _ _ (by simpa using hbp), heap_setCell_other _ _ _ _ (by simpa using hbp), hW]
    · exact ((hWB.mono hb).setCell hgp.1 _).setCell hgp.1 _

end Go.Proofs.Ytocnlclighonfaa

namespace Go.Proofs.Ytocnlclighonfaa
open Go.RowKit Go.Maps

/-- the first k ends of a block have their new numbers -/
def endsB (num : Int → Int) (k : Nat) (b : BlockM) : BlockM := { b with term := ⟨b.term.op, b.term.val, (b.term.to.take k).map num ++ b.term.to.drop k, b.term.n⟩ }
def endsTo (num : Int → Int) (t k : Nat) (f : FuncM) : FuncM := { f with blocks := f.blocks.modify t (endsB num k) }
/-- the first j phis of a block have lost what they lose -/
def phisB (num : Int → Int) (j : Nat) (b : BlockM) : BlockM := { b with phis := (b.phis.take j).map (prunePhi num) ++ b.phis.drop j }
def phisToF (num : Int → Int) (t j : Nat) (f : FuncM) : FuncM := { f with blocks := f.blocks.modify t (phisB num j) }
def pruneB (num : Int → Int) (b : BlockM) : BlockM := { b with phis := b.phis.map (prunePhi num), term := ⟨b.term.op, b.term.val, b.term.to.map num, b.term.n⟩ }
def renM (num : Int → Int) (t : Nat) (f : FuncM) : FuncM := { f with blocks := f.blocks.modify t (pruneB num) }

section
variable {num : Int → Int} {f : FuncM} {t j k : Nat} {q : BlockM} {p : PhiM} {x : Int}

theorem endsTo_zero : endsTo num t 0 f = f := by
  unfold endsTo
  rw [modify_id]
  intro a _
  unfold endsB
  simp

theorem endsTo_block (hq : f.blocks[t]? = some q) : (endsTo num t k f).blocks[t]? = some (endsB num k q) := by
  rw [show (endsTo num t k f).blocks[t]? = _ from modify_at _ _ _ _, if_pos rfl, hq]
  rfl

theorem endsB_len : (endsB num k q).term.to.length = q.term.to.length := by
  unfold endsB
  simp
  omega

theorem endsB_at (hx : q.term.to[k]? = some x) : (endsB num k q).term.to[k]? = some x := by
  unfold endsB
  have hj := (List.getElem?_eq_some_iff.1 hx).1
  simp only
  rw [List.getElem?_append_right (by simp; omega)]
  simp only [List.length_map, List.length_take, List.getElem?_drop]
  rw [show k + (k - min k q.term.to.length) = k by omega]
  exact hx

theorem endsTo_next (hq : f.blocks[t]? = some q) (hx : q.term.to[k]? = some x) : setEnds (endsTo num t k f) t k (num x) = endsTo num t (k + 1) f := by
  have hj := (List.getElem?_eq_some_iff.1 hx).1
  unfold setEnds endsTo
  congr 1
  apply List.ext_getElem?
  intro m
  rw [modify_at, modify_at, modify_at]
  by_cases e : m = t
  · rw [if_pos e, if_pos e, if_pos e]
    subst e
    rw [hq]
    simp only [Option.map_some, Option.some.injEq]
    unfold endM endsB
    simp only
    congr 2
    rw [List.set_append_right _ _ (by simp; omega)]
    simp only [List.length_map, List.length_take]
    rw [show k - min k q.term.to.length = 0 by omega, List.take_add_one, hx]
    simp
    rw [List.drop_eq_getElem_cons hj]
    rfl
  · rw [if_neg e, if_neg e, if_neg e]

theorem phisToF_zero : phisToF num t 0 f = f := by
  unfold phisToF
  rw [modify_id]
  intro a _
  unfold phisB
  simp

theorem phisToF_block (hq : f.blocks[t]? = some q) : (phisToF num t j f).blocks[t]? = some (phisB num j q) := by
  rw [show (phisToF num t j f).blocks[t]? = _ from modify_at _ _ _ _, if_pos rfl, hq]
  rfl

theorem phisB_len : (phisB num j q).phis.length = q.phis.length := by
  unfold phisB
  simp
  omega

theorem phisB_at (hp : q.phis[j]? = some p) : (phisB num j q).phis[j]? = some p := by
  unfold phisB
  have hj := (List.getElem?_eq_some_iff.1 hp).1
  rw [List.getElem?_append_right (by simp; omega)]
  simp only [List.length_map, List.length_take, List.getElem?_drop]
  rw [show j + (j - min j q.phis.length) = j by omega]
  exact hp

theorem phisToF_next (hq : f.blocks[t]? = some q) (hp : q.phis[j]? = some p) : setPhi (phisToF num t j f) t j (prunePhi num p) = phisToF num t (j + 1) f := by
  have hj := (List.getElem?_eq_some_iff.1 hp).1
  unfold setPhi phisToF
  congr 1
  apply List.ext_getElem?
  intro k
  rw [modify_at, modify_at, modify_at]
  by_cases e : k = t
  · rw [if_pos e, if_pos e, if_pos e]
    subst e
    rw [hq]
    simp only [Option.map_some, Option.some.injEq]
    unfold putPhi phisB
    simp only
    congr 1
    rw [List.set_append_right _ _ (by simp; omega)]
    simp only [List.length_map, List.length_take]
    rw [show j - min j q.phis.length = 0 by omega, List.take_add_one, hp, List.drop_eq_getElem_cons hj]
    simp [(List.getElem?_eq_some_iff.1 hp).2]
  · rw [if_neg e, if_neg e, if_neg e]

theorem ren_all (hq : f.blocks[t]? = some q) : phisToF num t q.phis.length (endsTo num t q.term.to.length f) = renM num t f := by
  unfold phisToF endsTo renM
  congr 1
  apply List.ext_getElem?
  intro k
  rw [modify_at, modify_at, modify_at]
  by_cases e : k = t
  · rw [if_pos e, if_pos e, if_pos e]
    subst e
    rw [hq]
    simp only [Option.map_some, Option.some.injEq]
    unfold phisB endsB pruneB
    simp
  · rw [if_neg e, if_neg e, if_neg e]
end

/-- how far one block's lists are renumbered -/
structure RnSt (f : FuncM) (val : Vals) (t base : Nat) (w : World) (g : FuncM) (W : World) (v : Vals) : Prop where
  own : Owned W base g v
  same : ∀ tag, (∀ i, tag ≠ .fr t i) → (∀ i, tag ≠ .vals t i) → v tag = val tag
  old : ∀ tag b, TI f tag → (v tag).ownBlock = some b → (val tag).ownBlock = some b ∨ w.heap.size ≤ b
  ti : ∀ tag, TI g tag ↔ TI f tag
  keep : ∀ b, b < w.heap.size → (∀ tag, TI f tag → (val tag).ownBlock ≠ some b) → W.heap[b]? = w.heap[b]?
  low : Below base w W

section
variable {f g : FuncM} {val v : Vals} {t base : Nat} {w W : World} {q : BlockM} {p p1 : PhiM} {i : Nat}

theorem RnSt.phi (h : RnSt f val t base w g W v) (hs : w.heap.size ≤ W.heap.size) (hq : g.blocks[t]? = some q) (hp : q.phis[i]? = some p) (hid : p1.id = p.id) (htyp : p1.typ = p.typ) {e : Ending} {w' : World} (hc : ComePost g v t i p1 base W e w') :
    e = .returned (.tuple #[]) ∧ ∃ v1, RnSt f val t base w (setPhi g t i p1) w' v1 := by
  obtain ⟨v1, rfl, ho, hv, ho2, hk, hb⟩ := hc
  refine ⟨rfl, v1, ho, fun tag h1 h2 => ?_, fun tag b ht hb => ?_, fun tag => (setPhi_ti hq hp hid htyp tag).trans (h.ti tag), fun b hb hn => ?_, h.low.trans hb⟩
  · rw [hv tag (h1 i) (h2 i)]
    exact h.same tag h1 h2
  · rcases ho2 tag b ((h.ti tag).2 ht) hb with h1 | h1
    · exact h.old tag b ht h1
    · exact .inr (by omega)
  · rw [hk b (by omega) (fun tag ht e => ?_)]
    · exact h.keep b hb hn
    · rcases h.old tag b ((h.ti tag).1 ht) e with h1 | h1
      · exact hn tag ((h.ti tag).1 ht) h1
      · omega

theorem RnSt.ends (h : RnSt f val t base w g W v) (hq : g.blocks[t]? = some q) {ge ec k : Nat} {x : Int} (hv : val (.ends t) = .slice (some ⟨ge, 0, none⟩) q.term.to.length ec) : RnSt f val t base w (setEnds g t k x) (W.setCell ⟨ge, k, none⟩ (.int .i64 x)) v := by
  have hv' : v (.ends t) = .slice (some ⟨ge, 0, none⟩) q.term.to.length ec := by rw [h.same _ (by simp) (by simp)]; exact hv
  have tiE : TI g (.ends t) := TI.of (val := v) (row_ends hq)
  have hge := h.own.lt tiE (g := ge) (by rw [hv']; rfl)
  refine ⟨h.own.setEnds hq hv', h.same, h.old, fun tag => (setEnds_ti hq tag).trans (h.ti tag), fun b hb hn => ?_, h.low.setCell hge.1 _⟩
  have hbe : b ≠ ge := fun e => hn _ ((h.ti _).1 tiE) (by rw [hv, e]; rfl)
  rw [heap_setCell_other _ _ _ _ (by simpa using hbe)]
  exact h.keep b hb hn

theorem RnSt.widen {w0 : World} (h : RnSt f val t base w g W v) (h0 : Below w0.heap.size w0 w) (hb : base ≤ w0.heap.size) : RnSt f val t base w0 g W v :=
  ⟨h.own, h.same, fun tag b ht hb => (h.old tag b ht hb).imp id (fun k => Nat.le_trans h0.size k), h.ti, fun b hb hn => (h.keep b (Nat.lt_of_lt_of_le hb h0.size) hn).trans (h0.block b hb), (h0.mono hb).trans h.low⟩
theorem RnSt.drewN (h : RnSt f val t base w g W v) (n : Nat) : RnSt f val t base w g (W.drewN n) v := ⟨h.own.kept fun _ _ _ => rfl, h.same, h.old, h.ti, h.keep, ⟨h.low.os, h.low.tape, h.low.output, h.low.size, h.low.block⟩⟩
theorem RnSt.drew (h : RnSt f val t base w g W v) : RnSt f val t base w g W.drew v := ⟨h.own.kept fun _ _ _ => rfl, h.same, h.old, h.ti, h.keep, ⟨h.low.os, h.low.tape, h.low.output, h.low.size, h.low.block⟩⟩
end

set_option maxRecDepth 100000 in
set_option maxHeartbeats 4000000 in
theorem renumber_any {f : FuncM} {val : Vals} {t base : Nat} {q : BlockM} (num : Int → Int) (n gn nc : Nat) (w : World) (ho : Owned w base f val) (hq : f.blocks[t]? = some q) (PA CA EA : Option Addr) (pc cl cc ec : Nat) (o1 o2 o3 : Int)
    (hvP : val (.phis t) = .slice PA q.phis.length pc) (hvE : val (.ends t) = .slice EA q.term.to.length ec) (hb : base ≤ w.heap.size)
    (hN : ∀ b, b < n → w.cell? ⟨gn, b, none⟩ = some (.int .i64 (num b))) (hgn : gn < w.heap.size) (hna : ∀ tag, TI f tag → (val tag).ownBlock ≠ some gn) (hn5 : n ≤ 512)
    (hin : ∀ p ∈ q.phis, p.vals.length = p.fr.length ∧ p.fr.length ≤ 512 ∧ ∀ x ∈ p.fr, 0 ≤ x ∧ x < n) (hto : ∀ x ∈ q.term.to, 0 ≤ x ∧ x < n) (hlP : q.phis.length ≤ 100000) (hlE : q.term.to.length ≤ 100000) :
    Calls Try.prog 71 #[.agg #[.slice PA q.phis.length pc, .slice CA cl cc, .int .i64 o1, .int .i64 o2, .slice EA q.term.to.length ec, .int .i64 o3], .slice (some ⟨gn, 0, none⟩) n nc] w (fun e w' => ∃ v1, e = .returned (.tuple #[]) ∧ RnSt f val t base w (renM num t f) w' v1) := by
  have HQ := hideI hq
  have HIN := hideI hin
  have HTO := hideI hto
  obtain ⟨L, hL⟩ : ∃ L, L = q.term.to.length := ⟨_, rfl⟩
  obtain ⟨M, hM⟩ : ∃ M, M = q.phis.length := ⟨_, rfl⟩
  have HL := hideI hL
  have HM := hideI hM
  have HVE := hideI hvE
  have HVP := hideI hvP
  rw [← hL] at hlE ⊢
  rw [← hM] at hlP ⊢
  obtain ⟨W, hW⟩ : ∃ W : World, W = w.alloc (.cells #[.slice PA M pc, .slice CA cl cc, .int .i64 o1, .int .i64 o2, .slice EA L ec, .int .i64 o3] 54) := ⟨_, rfl⟩
  have HB0 : Hid (Below w.heap.size w W) := by show Below _ _ _; rw [hW]; exact (Below.refl _ _).alloc (Nat.le_refl _) _
  have HX : Hid (W.heap[w.heap.size]? = some (.cells #[.slice PA M pc, .slice CA cl cc, .int .i64 o1, .int .i64 o2, .slice EA L ec, .int .i64 o3] 54 (0, 0))) := by show _ = _; rw [hW]; exact heap_alloc_new w _
  have hwW := lt_of_heap HX.out
  have HW := hideI hW
  have S0 : Hid (RnSt f val t base W f W val) := hideI ⟨ho.below HB0.out, fun _ _ _ => rfl, fun _ _ _ h => .inl h, fun _ => Iff.rfl, fun _ _ _ => rfl, Below.refl _ _⟩
  have HLT : Hid (∀ tag b, TI f tag → (val tag).ownBlock = some b → b < w.heap.size) := hideI (fun tag b ht hb => (ho.lt ht hb).2)
  -- what stays through all of it
  have HK : Hid (∀ g W2 v, RnSt f val t base W g W2 v → (∀ o, W2.cell? ⟨w.heap.size, o, none⟩ = (#[.slice PA M pc, .slice CA cl cc, .int .i64 o1, .int .i64 o2, .slice EA L ec, .int .i64 o3] : Array Value)[o]?) ∧ (∀ b, b < n → W2.cell? ⟨gn, b, none⟩ = some (.int .i64 (num b))) ∧ W.heap.size ≤ W2.heap.size ∧ gn < W2.heap.size ∧ (∀ tag, TI g tag → (v tag).ownBlock ≠ some gn)) := hideI (fun g W2 v h => by
    have h1 := h.keep w.heap.size hwW (fun tag ht e => by have := HLT.out tag _ ht e; omega)
    have h2 := h.keep gn (by omega) (fun tag ht => hna tag ht)
    have hs := h.low.size
    refine ⟨row_cells HX.out h1, fun b hb => (World.cell?_of_block (a := ⟨gn, b, none⟩) h2).trans ((HB0.out.cell (p := ⟨gn, b, none⟩) hgn).trans (hN b hb)), hs, by omega, fun tag ht e => ?_⟩
    rcases h.old tag gn ((h.ti tag).1 ht) e with h3 | h3
    · exact hna tag ((h.ti tag).1 ht) h3
    · omega)
  obtain ⟨hx, _⟩ := HK.out _ _ _ S0.out
  have q4 := hx 4
  clear hq hin hto hL hM hvE hvP ho hN hW hx hna
  go_enter Try.func71, Try.ntmps71
  go_upto_region 1 with fail
  rw [← HW.out]
  go_wp2
  clear q4
  go_loopw [11] (fun u wr => ∃ (k : Nat) (v : Vals), k ≤ L ∧ u = .int .i64 k ∧ Hid (RnSt f val t base W (endsTo num t k f) wr v)) (fun u _ => L - (intOf u).toNat)
  case atStart => exact ⟨0, val, Nat.zero_le _, rfl, by rw [endsTo_zero]; exact S0⟩
  case round =>
    obtain ⟨k, v, hk, rfl, HR⟩ := hrel
    obtain ⟨hx, hn, hsz, hgn2, _⟩ := HK.out _ _ _ HR.out
    by_cases hlt : k < L
    · obtain ⟨x, hxx⟩ : ∃ x, q.term.to[k]? = some x := ⟨_, List.getElem?_eq_getElem (by rw [← HL.out]; exact hlt)⟩
      have hxr := HTO.out x (List.mem_of_getElem? hxx)
      obtain ⟨xn, rfl⟩ : ∃ xn : Nat, x = (xn : Int) := ⟨x.toNat, by omega⟩
      have hxn : xn < n := by omega
      have hqk := endsTo_block (num := num) (k := k) HQ.out
      have hvk : v (.ends t) = .slice EA L ec := by rw [HR.out.same _ (by simp) (by simp), HVE.out, ← HL.out]
      have hlk : (endsB num k q).term.to.length = L := by rw [endsB_len, ← HL.out]
      obtain ⟨ge, ec2, hge, _, _⟩ := HR.out.own.slice (tp := .ends t) (TI.of (val := v) (row_ends hqk)) (row_ends hqk) (by show 0 < (endsB num k q).term.to.length; omega)
      have hEA : EA = some ⟨ge, 0, none⟩ := by rw [hvk] at hge; injection hge
      subst hEA
      have hcl := HR.out.own.cell (tp := .ends t) (TI.of (val := v) (row_ends hqk)) (row_ends hqk) hvk (by show (endsB num k q).term.to.length = L; exact hlk) (j := k) (by show k < L * 1; omega)
      have e1 : (intsRow (endsB num k q).term.to).cells[k]? = some (.int .i64 (xn : Int)) := by
        show ((endsB num k q).term.to.map (Value.int .i64))[k]? = _
        rw [List.getElem?_map, endsB_at hxx]
        rfl
      rw [e1] at hcl
      obtain ⟨d0, z0⟩ := hcl
      have d1 := hn xn hxn
      have q4 := hx 4
      have hst := RnSt.ends (k := k) (x := num (xn : Int)) (ec := ec) (ge := ge) HR.out hqk (by rw [HVE.out, hlk, ← HL.out])
      rw [endsTo_next HQ.out hxx] at hst
      have HST := hideI hst
      have hl0 : w.heap.size < wr.heap.size := by omega
      obtain ⟨y, hy⟩ : ∃ y, y = num (xn : Int) := ⟨_, rfl⟩
      rw [← hy] at d1 HST
      clear hxx hxr hqk hvk hlk hge e1 hst hx hn hy
      go_wp2
      go_region
      go_wp2
      go_roundw
      case rel => exact ⟨k + 1, v, by omega, by go_num, hideI HST.out.drew⟩
      case measure => simp [intOf]; omega
    · have hkL : k = q.term.to.length := by rw [← HL.out]; omega
      rw [hkL] at HR
      have q0 := hx 0
      have q4 := hx 4
      obtain ⟨fE, hfE⟩ : ∃ fE, fE = endsTo num t q.term.to.length f := ⟨_, rfl⟩
      have HFE := hideI hfE
      rw [← hfE] at HR
      have HQE : Hid (fE.blocks[t]? = some (endsB num q.term.to.length q)) := by show _ = _; rw [hfE]; exact endsTo_block HQ.out
      clear hkL hx hn hfE
      go_wp2
      clear q0 q4
      go_loopw [29] (fun u wr => ∃ (j : Nat) (v : Vals), j ≤ M ∧ u = .int .i64 j ∧ Hid (RnSt f val t base W (phisToF num t j fE) wr v)) (fun u _ => M - (intOf u).toNat)
      case atStart => exact ⟨0, v, Nat.zero_le _, rfl, by rw [phisToF_zero]; exact HR⟩
      case round =>
        obtain ⟨j, v2, hj, rfl, HR2⟩ := hrel
        obtain ⟨hx, hn, hsz, hgn2, hna2⟩ := HK.out _ _ _ HR2.out
        have q0 := hx 0
        by_cases hlt : j < M
        · obtain ⟨p, hp⟩ : ∃ p, q.phis[j]? = some p := ⟨_, List.getElem?_eq_getElem (by rw [← HM.out]; exact hlt)⟩
          have hpE : (endsB num q.term.to.length q).phis[j]? = some p := hp
          obtain ⟨h1, h2, h3⟩ := HIN.out p (List.mem_of_getElem? hp)
          have hqj := phisToF_block (num := num) (j := j) HQE.out
          have hlj : (phisB num j (endsB num q.term.to.length q)).phis.length = M := by rw [phisB_len, HM.out]; rfl
          have hvj : v2 (.phis t) = .slice PA M pc := by rw [HR2.out.same _ (by simp) (by simp), HVP.out, ← HM.out]
          obtain ⟨gp, cp, hgp, _, _⟩ := HR2.out.own.slice (tp := .phis t) (TI.of (val := v2) (row_phis hqj)) (row_phis hqj) (by show 0 < (phisB num j (endsB num q.term.to.length q)).phis.length; omega)
          have hPA : PA = some ⟨gp, 0, none⟩ := by rw [hvj] at hgp; injection hgp
          subst hPA
          have hct := prunePhi_any num n gn nc wr HR2.out.own hqj (phisB_at hpE) (by rw [hlj]; exact hvj) h1 h2 (by have := HB0.out.size; omega) hn hgn2 hna2 h3 hn5
          have HCT := hideI hct
          have HP := hideI hpE
          have HQJ := hideI hqj
          have hl0 : w.heap.size < wr.heap.size := by omega
          clear hp hpE h1 h2 h3 hqj hlj hvj hgp hct hx hn hna2
          go_wp2_with (go_at_call 84; go_must (refine HCT.out.mono ?_); rintro e w2 hc; (obtain ⟨rfl, v3, hs3⟩ := RnSt.phi (p1 := prunePhi num p) HR2.out hsz HQJ.out (phisB_at HP.out) rfl rfl hc); (rw [phisToF_next HQE.out HP.out] at hs3); have HS3 := hideI hs3; clear hc hs3)
          go_roundw
          case rel => exact ⟨j + 1, v3, by omega, by go_num, HS3⟩
          case measure => simp [intOf]; omega
        · have hjM : j = q.phis.length := by rw [← HM.out]; omega
          have HE : Hid (phisToF num t j fE = renM num t f) := by show _ = _; rw [hjM, HFE.out]; exact ren_all HQ.out
          rw [HE.out] at HR2
          clear hjM hx hn hna2
          go_wp2
          go_end0
          exact ⟨v2, rfl, HR2.out.widen HB0.out hb⟩

end Go.Proofs.Ytocnlclighonfaa

namespace Go.Proofs.Ytocnlclighonfaa
open Go.RowKit

/-- the new numbers -/
def numOf (S : Nat → Bool) (x : Int) : Int := nowI S x.toNat

/-- of the first b blocks those that stay -/
def prBlocks (S : Nat → Bool) (num : Int → Int) (bs : List BlockM) : Nat → List BlockM
  | 0 => []
  | b + 1 => prBlocks S num bs b ++ match bs[b]? with | some q => if S b then [pruneB num q] else [] | none => []

def pruneM (S : Nat → Bool) (f : FuncM) : FuncM := { f with blocks := prBlocks S (numOf S) f.blocks f.blocks.length }

section
variable {S : Nat → Bool} {num : Int → Int} {bs : List BlockM} {f : FuncM}

theorem prBlocks_len : ∀ b, b ≤ bs.length → (prBlocks S num bs b).length = cntS S b
  | 0, _ => rfl
  | b + 1, h => by
    have hq : bs[b]? = some bs[b] := List.getElem?_eq_getElem (by omega)
    rw [prBlocks, cntS, List.length_append, prBlocks_len b (by omega), hq]
    simp only
    split <;> rfl

theorem cntS_mono : ∀ b k, k ≤ b → cntS S k ≤ cntS S b
  | 0, k, h => by have : k = 0 := by omega
                  subst this; exact Nat.le_refl _
  | b + 1, k, h => by
    rcases Nat.lt_or_ge b k with h1 | h1
    · have : k = b + 1 := by omega
      subst this; exact Nat.le_refl _
    · have := cntS_mono b k h1
      rw [cntS]
      omega

theorem cntS_lt {k b : Nat} (hk : k < b) (hS : S k = true) : cntS S k < cntS S b := by
  have := cntS_mono (S := S) b (k + 1) hk
  rw [cntS, hS, if_pos rfl] at this
  omega

theorem prBlocks_at {k : Nat} {q : BlockM} (hS : S k = true) (hq : bs[k]? = some q) : ∀ b, b ≤ bs.length → k < b → (prBlocks S num bs b)[cntS S k]? = some (pruneB num q)
  | 0, _, h => by omega
  | b + 1, hb, h => by
    rw [prBlocks]
    rcases Nat.lt_or_ge k b with h1 | h1
    · rw [List.getElem?_append_left (by rw [prBlocks_len b (by omega)]; exact cntS_lt h1 hS)]
      exact prBlocks_at hS hq b (by omega) h1
    · have e : k = b := by omega
      subst e
      rw [List.getElem?_append_right (by rw [prBlocks_len k (by omega)]; exact Nat.le_refl _), prBlocks_len k (by omega), Nat.sub_self, hq]
      simp only
      rw [hS, if_pos rfl]
      rfl

theorem prBlocks_of {i : Nat} {c : BlockM} : ∀ b, b ≤ bs.length → (prBlocks S num bs b)[i]? = some c → ∃ k q, k < b ∧ S k = true ∧ cntS S k = i ∧ bs[k]? = some q ∧ c = pruneB num q
  | 0, _, h => by simp [prBlocks] at h
  | b + 1, hb, h => by
    have hq : bs[b]? = some bs[b] := List.getElem?_eq_getElem (by omega)
    rw [prBlocks] at h
    rcases Nat.lt_or_ge i (prBlocks S num bs b).length with h1 | h1
    · rw [List.getElem?_append_left h1] at h
      obtain ⟨k, q, h2, h3⟩ := prBlocks_of b (by omega) h
      exact ⟨k, q, by omega, h3⟩
    · rw [List.getElem?_append_right h1, hq] at h
      simp only at h
      rw [prBlocks_len b (by omega)] at h h1
      cases hS : S b with
      | false => rw [hS] at h; simp at h
      | true =>
        rw [hS, if_pos rfl] at h
        have e : i - cntS S b = 0 := by have := (List.getElem?_eq_some_iff.1 h).1; simp at this; omega
        rw [e] at h
        simp only [List.getElem?_cons_zero, Option.some.injEq] at h
        exact ⟨b, _, by omega, hS, by omega, hq, h.symm⟩

/-- where all stay, nothing changes -/
theorem cntS_all : ∀ b, (∀ k, k < b → S k = true) → cntS S b = b
  | 0, _ => rfl
  | b + 1, h => by
    rw [cntS, cntS_all b (fun k hk => h k (by omega)), h b (by omega), if_pos rfl]

theorem keepF_id {fr : List Int} (h : ∀ x ∈ fr, num x = x ∧ x ≠ -1) : ∀ k, k ≤ fr.length → keepF num fr k = fr.take k
  | 0, _ => by simp [keepF]
  | k + 1, hk => by
    have hx : fr[k]? = some fr[k] := List.getElem?_eq_getElem (by omega)
    have h2 := h _ (List.mem_of_getElem? hx)
    rw [keepF, keepF_id h k (by omega), hx, List.take_add_one, hx]
    simp only
    rw [h2.1, if_neg h2.2]
    rfl

theorem keepV_id {fr vals : List Int} (h : ∀ x ∈ fr, num x = x ∧ x ≠ -1) (hl : vals.length = fr.length) : ∀ k, k ≤ fr.length → keepV num fr vals k = vals.take k
  | 0, _ => by simp [keepV]
  | k + 1, hk => by
    have hx : fr[k]? = some fr[k] := List.getElem?_eq_getElem (by omega)
    have hy : vals[k]? = some (vals[k]'(by omega)) := List.getElem?_eq_getElem _
    have h2 := h _ (List.mem_of_getElem? hx)
    rw [keepV, keepV_id h hl k (by omega), hx, List.take_add_one, hy]
    simp only
    rw [h2.1, if_neg h2.2]
    rfl

theorem prunePhi_id {p : PhiM} (h : ∀ x ∈ p.fr, num x = x ∧ x ≠ -1) (hl : p.vals.length = p.fr.length) : prunePhi num p = p := by
  unfold prunePhi
  rw [keepF_id h _ (Nat.le_refl _), keepV_id h hl _ (Nat.le_refl _), List.take_length, ← hl, List.take_length]

theorem pruneB_id {q : BlockM} (h1 : ∀ p ∈ q.phis, prunePhi num p = p) (h2 : ∀ x ∈ q.term.to, num x = x) : pruneB num q = q := by
  unfold pruneB
  have e1 : q.phis.map (prunePhi num) = q.phis := by
    conv => rhs; rw [← List.map_id q.phis]
    exact List.map_congr_left fun p hp => h1 p hp
  have e2 : q.term.to.map num = q.term.to := by
    conv => rhs; rw [← List.map_id q.term.to]
    exact List.map_congr_left fun x hx => h2 x hx
  rw [e1, e2]

theorem prBlocks_id (hS : ∀ k, k < bs.length → S k = true) (h : ∀ q ∈ bs, pruneB num q = q) : ∀ b, b ≤ bs.length → prBlocks S num bs b = bs.take b
  | 0, _ => by simp [prBlocks]
  | b + 1, hb => by
    have hq : bs[b]? = some bs[b] := List.getElem?_eq_getElem (by omega)
    rw [prBlocks, prBlocks_id hS h b (by omega), hq, List.take_add_one, hq]
    simp only
    rw [hS b (by omega), if_pos rfl, h _ (List.mem_of_getElem? hq)]
    rfl

theorem numOf_all {n : Nat} (hS : ∀ k, k < n → S k = true) {x : Int} (h0 : 0 ≤ x) (h1 : x < n) : numOf S x = x := by
  unfold numOf nowI
  rw [hS _ (by omega), if_pos rfl, cntS_all _ (fun k hk => hS k (by omega))]
  omega

theorem pruneM_id (h0 : (lookM f).1 = 0) (hS : ∀ k, k < f.blocks.length → S k = true) : pruneM S f = f := by
  unfold pruneM
  have hb : prBlocks S (numOf S) f.blocks f.blocks.length = f.blocks := by
    rw [prBlocks_id hS (fun q hq => ?_) _ (Nat.le_refl _), List.take_length]
    refine pruneB_id (fun p hp => prunePhi_id (fun x hx => ?_) (look_phi h0 q hq p hp)) (fun x hx => ?_)
    · have hon := ((formed_all (look_formed h0)).1 q hq).1 p hp
      unfold phiB at hon
      simp only [Bool.and_eq_true] at hon
      have hr := (once_nodup _ _ hon.2.2).2.1 x hx
      exact ⟨numOf_all hS (by omega) (by omega), by omega⟩
    · have hr := look_ends h0 q hq x hx
      exact numOf_all hS hr.1 hr.2
  rw [hb]

/-- what can be come to can be come to still -/
theorem prune_reach (_hin : EndsIn f.blocks) (hS : ∀ x, S x = true ↔ ReachW f.blocks (-1) x) {x : Nat} (h : ReachW f.blocks (-1) x) : ReachW (pruneM S f).blocks (-1) (cntS S x) := by
  induction h with
  | start h => exact .start h
  | @step x y hy hx hg ih =>
    refine .step ih ?_ (by omega)
    have hSx : S x = true := (hS x).2 (.step hy hx hg)
    have hSy : S y = true := (hS y).2 hy
    unfold succM at hx
    cases hq : f.blocks[y]? with
    | none => rw [hq] at hx; cases hx
    | some q =>
      rw [hq] at hx
      simp only at hx
      obtain ⟨t, ht, rfl⟩ := List.mem_map.1 hx
      have hyl := (List.getElem?_eq_some_iff.1 hq).1
      unfold succM
      rw [show (pruneM S f).blocks[cntS S y]? = some (pruneB (numOf S) q) from prBlocks_at hSy hq _ (Nat.le_refl _) hyl]
      simp only
      show _ ∈ ((q.term.to.map (numOf S)).map Int.toNat)
      rw [List.map_map]
      refine List.mem_map.2 ⟨t, ht, ?_⟩
      show (nowI S t.toNat).toNat = _
      unfold nowI
      rw [hSx, if_pos rfl]
      rfl

theorem prune_come (h0 : (lookM f).1 = 0) (hS : ∀ x, S x = true ↔ ReachW f.blocks (-1) x) {i : Nat} (hi : i < (pruneM S f).blocks.length) : ReachW (pruneM S f).blocks (-1) i := by
  obtain ⟨c, hc⟩ : ∃ c, (pruneM S f).blocks[i]? = some c := ⟨_, List.getElem?_eq_getElem hi⟩
  obtain ⟨k, q, hk, hSk, rfl, _⟩ := prBlocks_of (bs := f.blocks) f.blocks.length (Nat.le_refl _) hc
  exact prune_reach (look_ends h0) hS ((hS k).1 hSk)

theorem prune_len : (pruneM S f).blocks.length = cntS S f.blocks.length := prBlocks_len _ (Nat.le_refl _)
end

end Go.Proofs.Ytocnlclighonfaa

namespace Go.Proofs.Ytocnlclighonfaa
open Go.RowKit Go.Maps

/-- the first b blocks are renumbered, where they stay -/
def renTo (S : Nat → Bool) (num : Int → Int) : Nat → FuncM → FuncM
  | 0, f => f
  | b + 1, f => if S b then renM num b (renTo S num b f) else renTo S num b f

theorem renTo_block (S : Nat → Bool) (num : Int → Int) (f : FuncM) (k : Nat) : ∀ b, (renTo S num b f).blocks[k]? = f.blocks[k]?.map fun q => if k < b ∧ S k = true then pruneB num q else q
  | 0 => by
    show f.blocks[k]? = _
    cases f.blocks[k]? with
    | none => rfl
    | some q => simp
  | b + 1 => by
    have ih := renTo_block S num f k b
    unfold renTo
    cases hS : S b with
    | false =>
      simp only [Bool.false_eq_true, if_false]
      rw [ih]
      cases f.blocks[k]? with
      | none => rfl
      | some q =>
        simp only [Option.map_some]
        by_cases e : k = b
        · subst e; simp [hS]
        · have e2 : k < b + 1 ↔ k < b := ⟨fun h => by omega, fun h => by omega⟩
          simp only [e2]
    | true =>
      simp only [if_true]
      rw [show (renM num b (renTo S num b f)).blocks[k]? = _ from modify_at _ _ _ _, ih]
      cases f.blocks[k]? with
      | none => simp
      | some q =>
        by_cases e : k = b
        · subst e; simp [hS]
        · rw [if_neg e]
          simp only [Option.map_some]
          have e2 : k < b + 1 ↔ k < b := ⟨fun h => by omega, fun h => by omega⟩
          simp only [e2]

theorem renTo_len (S : Nat → Bool) (num : Int → Int) (f : FuncM) : ∀ b, (renTo S num b f).blocks.length = f.blocks.length
  | 0 => rfl
  | b + 1 => by
    unfold renTo
    split
    · show (List.modify _ _ _).length = _
      rw [List.length_modify]
      exact renTo_len S num f b
    · exact renTo_len S num f b

/-- the cells of the blocks that stay, of the first b -/
def keptC (val : Vals) (f : FuncM) (S : Nat → Bool) : Nat → List Value
  | 0 => []
  | b + 1 => keptC val f S b ++ if S b then (match f.blocks[b]? with | some q => blockCells val b q | none => []) else []

theorem OwnG.keptBut {w w1 : World} {base : Nat} {row : Rows} {val : Vals} {D : Tag → Prop} (h : OwnG w base row val D) (hk : ∀ t g, D t → (val t).ownBlock = some g → w1.heap[g]? = w.heap[g]?) : OwnG w1 base row val D :=
  ⟨h.has, fun t d ht hd => own_same (h.rows t d ht hd) fun b hb _ => hk t b ht hb, h.apart⟩

structure PrSt (f : FuncM) (val : Vals) (S : Nat → Bool) (num : Int → Int) (base : Nat) (w : World) (b c : Nat) (W : World) (v : Vals) (K : Value) : Prop where
  own : Owned W base (renTo S num b f) v
  same : ∀ tag, (∀ k i, tag ≠ .fr k i) → (∀ k i, tag ≠ .vals k i) → v tag = val tag
  ti : ∀ tag, TI (renTo S num b f) tag ↔ TI f tag
  kept : W.ownsRow w.heap.size 54 6 K (cntS S c) (keptC val f S c)
  apart : ∀ tag g, TI f tag → K.ownBlock = some g → (v tag).ownBlock ≠ some g
  old : ∀ tag g, TI f tag → (v tag).ownBlock = some g → (val tag).ownBlock = some g ∨ w.heap.size ≤ g
  keep : ∀ g, g < w.heap.size → (∀ tag, TI f tag → (val tag).ownBlock ≠ some g) → W.heap[g]? = w.heap[g]?
  low : Below base w W
  size : w.heap.size ≤ W.heap.size

section
variable {f : FuncM} {val v : Vals} {S : Nat → Bool} {num : Int → Int} {base b c : Nat} {w W : World} {K : Value}

theorem PrSt.below (h : PrSt f val S num base w b c W v K) {W' : World} (hb : Below W.heap.size W W') (hbase : base ≤ w.heap.size) : PrSt f val S num base w b c W' v K :=
  ⟨h.own.below hb, h.same, h.ti, own_same h.kept fun g _ hg => hb.block g hg, h.apart, h.old, fun g hg hn => (hb.block g (Nat.lt_of_lt_of_le hg h.size)).trans (h.keep g hg hn), h.low.trans (hb.mono (Nat.le_trans hbase h.size)), Nat.le_trans h.size hb.size⟩

theorem PrSt.skip (h : PrSt f val S num base w b b W v K) (hS : S b = false) : PrSt f val S num base w (b + 1) (b + 1) W v K := by
  have e1 : renTo S num (b + 1) f = renTo S num b f := by rw [renTo, hS]; rfl
  have e2 : cntS S (b + 1) = cntS S b := by rw [cntS, hS]; rfl
  have e3 : keptC val f S (b + 1) = keptC val f S b := by rw [keptC, hS]; simp
  exact ⟨by rw [e1]; exact h.own, h.same, fun tag => by rw [e1]; exact h.ti tag, by rw [e2, e3]; exact h.kept, h.apart, h.old, h.keep, h.low, h.size⟩

theorem PrSt.ren (h : PrSt f val S num base w b c W v K) (hS : S b = true) {W' : World} {v1 : Vals} (hr : RnSt (renTo S num b f) v b base W (renM num b (renTo S num b f)) W' v1) : PrSt f val S num base w (b + 1) c W' v1 K := by
  have e1 : renTo S num (b + 1) f = renM num b (renTo S num b f) := by rw [renTo, hS]; rfl
  have hkb : ∀ g, K.ownBlock = some g → w.heap.size ≤ g ∧ g < W.heap.size := fun g hg => h.kept.lt g hg
  refine ⟨by rw [e1]; exact hr.own, fun tag h1 h2 => (hr.same tag (h1 b) (h2 b)).trans (h.same tag h1 h2), fun tag => by rw [e1]; exact (hr.ti tag).trans (h.ti tag), ?_, fun tag g ht hK e => ?_, fun tag g ht e => ?_, fun g hg hn => ?_, h.low.trans hr.low, Nat.le_trans h.size hr.low.size⟩
  · exact own_same h.kept fun g hg hl => hr.keep g hl fun tag ht e => h.apart tag g ((h.ti tag).1 ht) hg e
  · rcases hr.old tag g ((h.ti tag).2 ht) e with k | k
    · exact h.apart tag g ht hK k
    · have := (hkb g hK).2; omega
  · rcases hr.old tag g ((h.ti tag).2 ht) e with k | k
    · exact h.old tag g ht k
    · exact .inr (Nat.le_trans h.size k)
  · rw [hr.keep g (Nat.lt_of_lt_of_le hg h.size) fun tag ht e => ?_]
    · exact h.keep g hg hn
    · rcases h.old tag g ((h.ti tag).1 ht) e with k | k
      · exact hn tag ((h.ti tag).1 ht) k
      · omega

theorem PrSt.push (h : PrSt f val S num base w (c + 1) c W v K) (hS : S c = true) {q : BlockM} (hq : f.blocks[c]? = some q) (hbase : base ≤ w.heap.size) {o : Obj} {W' : World} {g1 d1 : Nat}
    (hown : W'.ownsRow w.heap.size 54 6 (.slice (some ⟨g1, 0, none⟩) (cntS S c + 1) d1) (cntS S c + 1) (keptC val f S c ++ blockCells val c q)) (hg : (W.alloc o).grownBy W' K.ownBlock) (hor : K.ownBlock = some g1 ∨ g1 = (W.alloc o).heap.size) :
    PrSt f val S num base w (c + 1) (c + 1) W' v (.slice (some ⟨g1, 0, none⟩) (cntS S c + 1) d1) := by
  have hs : (W.alloc o).heap.size = W.heap.size + 1 := by simp
  have e2 : cntS S (c + 1) = cntS S c + 1 := by rw [cntS, hS]; rfl
  have e3 : keptC val f S (c + 1) = keptC val f S c ++ blockCells val c q := by rw [keptC, hS, hq]; rfl
  have hblk : ∀ g, g < W.heap.size → K.ownBlock ≠ some g → W'.heap[g]? = W.heap[g]? := fun g hl hne => (hg.block g (by omega) (Ne.symm hne)).trans (Below.heap_alloc W o g hl)
  have hkb : ∀ g, K.ownBlock = some g → w.heap.size ≤ g ∧ g < W.heap.size := fun g hg => h.kept.lt g hg
  have hsz := hg.size
  refine ⟨h.own.keptBut fun t g ht e => hblk g (h.own.lt ht e).2 fun e2 => h.apart t g ((h.ti t).1 ht) e2 e, h.same, h.ti, by rw [e2, e3]; exact hown, fun tag g ht hK e => ?_, h.old, fun g hg2 hn => ?_, ?_, by have := h.size; omega⟩
  · have e4 : g1 = g := Option.some.inj hK
    subst e4
    rcases hor with k | k
    · exact h.apart tag _ ht k e
    · have := (h.own.lt ((h.ti tag).2 ht) e).2
      omega
  · rw [hblk g (Nat.lt_of_lt_of_le hg2 h.size) fun e => by have := (hkb g e).1; omega]
    exact h.keep g hg2 hn
  · refine ⟨hg.os.trans h.low.os, hg.tape.trans h.low.tape, hg.output.trans h.low.output, by have := h.size; omega, fun g hg2 => ?_⟩
    rw [hblk g (by have := h.size; omega) fun e => by have := (hkb g e).1; omega]
    exact h.low.block g hg2
end

end Go.Proofs.Ytocnlclighonfaa

namespace Go.Proofs.Ytocnlclighonfaa
open Go.RowKit Go.Maps

/-- what prune leaves: the lists of the function as it was renumbered, and a list of the blocks that stay -/
def PruneWPost (f : FuncM) (val : Vals) (base : Nat) (w : World) (e : Ending) (w' : World) : Prop :=
  ∃ (o : List Nat) (v : Vals) (g cap base2 : Nat), OrderIs f.blocks o ∧ 0 < cntS (fun b => decide (b ∈ o)) f.blocks.length ∧
    e = .returned (.agg #[val .params, .int .i64 f.arrays, .int .i64 f.cells, .slice (some ⟨g, 0, none⟩) (cntS (fun b => decide (b ∈ o)) f.blocks.length) cap]) ∧ base ≤ base2 ∧
    Owned w' base (renTo (fun b => decide (b ∈ o)) (numOf (fun b => decide (b ∈ o))) f.blocks.length f) v ∧
    w'.ownsRow base2 54 6 (.slice (some ⟨g, 0, none⟩) (cntS (fun b => decide (b ∈ o)) f.blocks.length) cap) (cntS (fun b => decide (b ∈ o)) f.blocks.length) (keptC val f (fun b => decide (b ∈ o)) f.blocks.length) ∧
    (∀ tag, TI f tag → (v tag).ownBlock ≠ some g) ∧ (∀ tag, (∀ k i, tag ≠ .fr k i) → (∀ k i, tag ≠ .vals k i) → v tag = val tag) ∧
    (∀ tag, TI (renTo (fun b => decide (b ∈ o)) (numOf (fun b => decide (b ∈ o))) f.blocks.length f) tag ↔ TI f tag) ∧ Below base w w'

theorem blk_new (w : World) (cs : List Value) (t : TypeId) : ∀ (j : Nat) (u : Value), cs[j]? = some u → (w.alloc (.cells cs.toArray t)).cell? ((⟨w.heap.size, 0, none⟩ : Addr).add j) = some u := by
  intro j u hu
  have h := heap_alloc_new w (.cells cs.toArray t)
  rw [Go.WideShapes.add_plain, cell_of_row _ _ _ _ _ _ h, Nat.zero_add]
  simpa using hu

set_option maxRecDepth 100000 in
set_option maxHeartbeats 8000000 in
theorem prune_any {f : FuncM} {val : Vals} {base : Nat} {w : World} (ho : Owned w base f val) (h0 : (lookM f).1 = 0) (hfit : FnFits f) (hb : base ≤ w.heap.size) :
    Calls Try.prog 45 #[.agg #[val .params, .int .i64 f.arrays, .int .i64 f.cells, val .blocks]] w (PruneWPost f val base w) := by
  have hs := look_small h0
  have hnb := look_some_block h0
  have hn0 := hnb.1
  have hn5 := hnb.2
  have tiB : TI f .blocks := rfl
  obtain ⟨gb, bc, hvB, hgb1, hgb2⟩ := ho.slice (tp := .blocks) tiB rfl (by show 0 < f.blocks.length; omega)
  have hvB' : val .blocks = .slice (some ⟨gb, 0, none⟩) f.blocks.length bc := hvB
  obtain ⟨PA, pc, hvP⟩ : ∃ PA pc, val .params = .slice PA f.params.length pc := by
    obtain ⟨A, c, h, _⟩ := row_read (ho.rows .params _ rfl rfl) hs.params
    exact ⟨A, c, h⟩
  obtain ⟨n, hn⟩ : ∃ n, n = f.blocks.length := ⟨_, rfl⟩
  obtain ⟨W1, hW1⟩ : ∃ W1, W1 = (w.alloc (.cells #[.slice PA f.params.length pc, .int .i64 f.arrays, .int .i64 f.cells, .slice (some ⟨gb, 0, none⟩) n bc] 76)).alloc (.cells #[.slice none 0 0, .int .i64 0, .int .i64 0, .slice none 0 0] 25) := ⟨_, rfl⟩
  have HB1 : Hid (Below w.heap.size w W1) := by show Below _ _ _; rw [hW1]; exact ((Below.refl _ w).alloc (Nat.le_refl _) _).alloc (by simp) _
  have hs1 : W1.heap.size = w.heap.size + 2 := by rw [hW1]; simp
  have HBOX1 : Hid (W1.heap[w.heap.size]? = some (.cells #[.slice PA f.params.length pc, .int .i64 f.arrays, .int .i64 f.cells, .slice (some ⟨gb, 0, none⟩) n bc] 76 (0, 0))) := by
    show _ = _
    rw [hW1, Below.heap_alloc _ _ _ (by simp)]
    exact heap_alloc_new w _
  have HRES1 : Hid (W1.heap[w.heap.size + 1]? = some (.cells #[.slice none 0 0, .int .i64 0, .int .i64 0, .slice none 0 0] 25 (0, 0))) := by
    show _ = _
    rw [hW1]
    have := heap_alloc_new (w.alloc (.cells #[.slice PA f.params.length pc, .int .i64 f.arrays, .int .i64 f.cells, .slice (some ⟨gb, 0, none⟩) n bc] 76)) (.cells #[.slice none 0 0, .int .i64 0, .int .i64 0, .slice none 0 0] 25)
    simpa using this
  have HO1 : Hid (Owned W1 base f val) := hideI (ho.below HB1.out)
  have HRD : Hid (BlocksR W1 W1.heap.size (.slice (some ⟨gb, 0, none⟩) n bc) f.blocks) := by
    have := (Owned.reads HO1.out h0 hfit).2
    rw [hvB', ← hn] at this
    exact hideI this
  have HLT : Hid (∀ tag g, TI f tag → (val tag).ownBlock = some g → base ≤ g ∧ g < w.heap.size) := hideI (fun tag g ht hg => ho.lt ht hg)
  have HVP := hideI hvP
  have HVB : Hid (val .blocks = .slice (some ⟨gb, 0, none⟩) n bc) := hideI (by rw [hn]; exact hvB')
  have HN := hideI hn
  have H0 := hideI h0
  have HS := hideI hs
  have HW1 := hideI hW1
  have HS1 := hideI hs1
  rw [hvP, hvB', ← hn]
  rw [← hn] at hn0 hn5
  have hx1 := row_cells HBOX1.out rfl
  have q0 := hx1 0
  have q1 := hx1 1
  have q2 := hx1 2
  have q3 := hx1 3
  clear ho h0 hfit hs hnb hvB hvB' hvP hn hW1 hx1 tiB
  go_enter Try.func45, Try.ntmps45
  go_upto_region 1 with fail
  rw [← HW1.out]
  go_wp2_with (go_at_call 70; go_must (refine (numbersNow_any f.blocks W1.heap.size _ _ _ _ _ HRD.out (Nat.le_refl _) (by rw [← HN.out]; exact hn0) (by rw [← HN.out]; exact hn5) (look_ends H0.out)).mono ?_); rintro e w2 ⟨o, gn, rfl, ho, hown, hb2⟩; (rw [← HN.out] at hown ⊢); have HORD := hideI ho; have HNOW := hideI hown; have HB2 := hideI hb2; have hx2 := row_cells HBOX1.out (hb2.block _ (by omega)); clear q0 q1 q2 q3; have q3 := hx2 3; clear ho hown hb2 hx2)
  obtain ⟨S, hS⟩ : ∃ S : Nat → Bool, S = fun b => decide (b ∈ o) := ⟨_, rfl⟩
  have HSS := hideI hS
  rw [← hS] at HNOW
  have hgn := HNOW.out.lt gn rfl
  have hs2 : W1.heap.size ≤ w2.heap.size := HB2.out.size
  have S0 : Hid (PrSt f val S (numOf S) base w2 0 0 w2 val (.slice none 0 0)) := hideI ⟨HO1.out.below HB2.out, fun _ _ _ => rfl, fun _ => Iff.rfl, World.ownsRow_nil _ _ _ _, fun _ _ _ h => (by cases h), fun _ _ _ h => .inl h, fun _ _ _ => rfl, Below.refl _ _, Nat.le_refl _⟩
  have hbw2 : base ≤ w2.heap.size := by omega
  -- what stays through all of it
  have HK : Hid (∀ b c W2 v K, PrSt f val S (numOf S) base w2 b c W2 v K → (∀ o, W2.cell? ⟨w.heap.size, o, none⟩ = (#[.slice PA f.params.length pc, .int .i64 f.arrays, .int .i64 f.cells, .slice (some ⟨gb, 0, none⟩) n bc] : Array Value)[o]?) ∧ (∀ o, W2.frozen? ⟨w.heap.size, o, none⟩ = false) ∧ (∀ o, W2.cell? ⟨w.heap.size + 1, o, none⟩ = (#[.slice none 0 0, .int .i64 0, .int .i64 0, .slice none 0 0] : Array Value)[o]?) ∧ (∀ o, W2.frozen? ⟨w.heap.size + 1, o, none⟩ = false) ∧ (∀ b, b < n → W2.cell? ⟨gn, b, none⟩ = some (.int .i64 (numOf S b))) ∧ (∀ tag, TI f tag → (v tag).ownBlock ≠ some gn ∧ (v tag).ownBlock ≠ some w.heap.size ∧ (v tag).ownBlock ≠ some (w.heap.size + 1))) := hideI (fun b c W2 v K h => by
    have k1 : ∀ g, w.heap.size ≤ g → g < w2.heap.size → W2.heap[g]? = w2.heap[g]? := fun g h1 h2 => h.keep g h2 fun tag ht e => by have := (HLT.out tag g ht e).2; omega
    have k2 := (k1 w.heap.size (Nat.le_refl _) (by omega)).trans (HB2.out.block _ (by omega))
    have k3 := (k1 (w.heap.size + 1) (by omega) (by omega)).trans (HB2.out.block _ (by omega))
    refine ⟨row_cells HBOX1.out k2, free_row' HBOX1.out k2, row_cells HRES1.out k3, free_row' HRES1.out k3, fun b hb => ?_, fun tag ht => ⟨fun e => ?_, fun e => ?_, fun e => ?_⟩⟩
    · rw [World.cell?_of_block (a := ⟨gn, b, none⟩) (k1 gn (by omega) hgn.2), World.ownsRow.cellAt HNOW.out b (by omega), List.getElem?_map, nowTo_at hb, if_pos hb]
      rfl
    all_goals
      rcases h.old tag _ ht e with k | k
      · have := (HLT.out tag _ ht k).2; omega
      · omega)
  clear hS q3
  go_loopw [4, 13] (fun u4 u13 wr => ∃ (b : Nat) (v : Vals) (K : Value), b ≤ n ∧ K = u4 ∧ u13 = .int .i64 b ∧ Hid (PrSt f val S (numOf S) base w2 b b wr v K)) (fun _ u _ => n - (intOf u).toNat)
  case atStart => exact ⟨0, val, _, Nat.zero_le _, rfl, rfl, S0⟩
  case round =>
    obtain ⟨b, v, K, hbn, rfl, rfl, HP⟩ := hrel
    obtain ⟨hx, fx, hy, fy, hnum, hne⟩ := HK.out _ _ _ _ _ HP.out
    have hwr := HP.out.size
    by_cases hlt : b < n
    · obtain ⟨q, hq⟩ : ∃ q, f.blocks[b]? = some q := ⟨_, List.getElem?_eq_getElem (by rw [← HN.out]; exact hlt)⟩
      have hqb : (renTo S (numOf S) b f).blocks[b]? = some q := by rw [renTo_block, hq]; simp
      have hmq := List.mem_of_getElem? hq
      have hsm := HS.out.each q hmq
      obtain ⟨PP, pp, hvp⟩ : ∃ A c, v (.phis b) = .slice A q.phis.length c := by
        obtain ⟨A, c, h, _⟩ := row_read (HP.out.own.rows (.phis b) _ (TI.of (val := v) (row_phis hqb)) (row_phis hqb)) (by show q.phis.length ≤ _; exact hsm.phis)
        exact ⟨A, c, h⟩
      obtain ⟨CC, cc, hvc⟩ : ∃ A c, v (.code b) = .slice A q.code.length c := by
        have hr : rowOf (renTo S (numOf S) b f) v (.code b) = some ⟨81, 4, q.code.length, cellsOf (instrCells v b) 0 q.code⟩ := by simp only [rowOf]; rw [hqb]; rfl
        obtain ⟨A, c, h, _⟩ := row_read (HP.out.own.rows (.code b) _ (TI.of (val := v) hr) hr) (by show q.code.length ≤ _; exact hsm.code)
        exact ⟨A, c, h⟩
      obtain ⟨EE', ee, hve⟩ : ∃ A c, v (.ends b) = .slice A q.term.to.length c := by
        obtain ⟨A, c, h, _⟩ := row_read (HP.out.own.rows (.ends b) _ (TI.of (val := v) (row_ends hqb)) (row_ends hqb)) (by show q.term.to.length ≤ _; exact hsm.ends)
        exact ⟨A, c, h⟩
      have hcells : ∀ r u, r < 6 → (blockCells v b q)[r]? = some u → wr.cell? ⟨gb, b * 6 + r, none⟩ = some u := fun r u hr hu => by
        have hl := renTo_len S (numOf S) f b
        have hvb : v .blocks = .slice (some ⟨gb, 0, none⟩) n bc := by rw [HP.out.same _ (by simp) (by simp)]; exact HVB.out
        have h1 := (HP.out.own.cell (tp := .blocks) rfl rfl hvb (by show (renTo S (numOf S) b f).blocks.length = n; rw [hl, HN.out]) (j := b * 6 + r) (by show _ < n * 6; omega)).1
        have h2 := cellsOf_at (blockCells_len v) (renTo S (numOf S) b f).blocks 0 b r q hqb hr
        rw [Nat.zero_add] at h2
        exact h1.trans (h2.trans hu)
      have c0 := hcells 0 _ (by omega) (by show some (v (.phis b)) = _; rw [hvp])
      have c1 := hcells 1 _ (by omega) (by show some (v (.code b)) = _; rw [hvc])
      have c2 := hcells 2 _ (by omega) rfl
      have c3 := hcells 3 _ (by omega) rfl
      have c4 := hcells 4 _ (by omega) (by show some (v (.ends b)) = _; rw [hve])
      have c5 := hcells 5 _ (by omega) rfl
      rw [Nat.add_zero] at c0
      have d0 := hnum b hlt
      obtain ⟨W7, hW7⟩ : ∃ W7, W7 = wr.alloc (.cells #[.slice PP q.phis.length pp, .slice CC q.code.length cc, .int .i64 q.term.op, .int .i64 q.term.val, .slice EE' q.term.to.length ee, .int .i64 q.term.n] 54) := ⟨_, rfl⟩
      have HW7 := hideI hW7
      have HB7 : Hid (Below wr.heap.size wr W7) := by show Below _ _ _; rw [hW7]; exact (Below.refl _ _).alloc (Nat.le_refl _) _
      have HX7 : Hid (W7.heap[wr.heap.size]? = some (.cells #[.slice PP q.phis.length pp, .slice CC q.code.length cc, .int .i64 q.term.op, .int .i64 q.term.val, .slice EE' q.term.to.length ee, .int .i64 q.term.n] 54 (0, 0))) := by show _ = _; rw [hW7]; exact heap_alloc_new wr _
      have HP7 := hideI (HP.out.below HB7.out hbw2)
      have hlb : gb < wr.heap.size := by have := (HLT.out .blocks gb rfl (by rw [HVB.out]; rfl)).2; omega
      have hln : gn < wr.heap.size := by omega
      obtain ⟨z, hz⟩ : ∃ z, z = numOf S (b : Int) := ⟨_, rfl⟩
      rw [← hz] at d0
      cases hSb : S b with
      | false =>
        have hzb : (z != -1) = false := by rw [hz]; unfold numOf nowI; rw [show ((b : Int)).toNat = b from rfl, hSb]; rfl
        have HSK := hideI (HP7.out.skip hSb)
        clear hx fx hy fy hnum hne hq hqb hmq hsm hvp hvc hve hcells hW7 hz
        go_wp2
        (try rw [← HW7.out])
        go_roundw
        case rel => exact ⟨b + 1, v, _, by omega, rfl, by go_num, HSK⟩
        case measure => simp [intOf]; omega
      | true =>
        have hzb : (z != -1) = true := by
          rw [hz]
          unfold numOf nowI
          rw [show ((b : Int)).toNat = b from rfl, hSb, if_pos rfl]
          exact bne_iff_ne.2 (by omega)
        have hk7 := HK.out _ _ _ _ _ HP7.out
        have hren := renumber_any (numOf S) n gn n W7 HP7.out.own hqb PP CC EE' pp q.code.length cc ee q.term.op q.term.val q.term.n hvp hve (by have := HP7.out.size; omega) hk7.2.2.2.2.1 (by have := HB7.out.size; omega) (fun tag ht => (hk7.2.2.2.2.2 tag ((HP7.out.ti tag).1 ht)).1) hn5
          (fun p hp => by
            have h1 := (formed_all (look_formed H0.out)).1 q hmq
            have h2 := h1.1 p hp
            unfold phiB at h2
            simp only [Bool.and_eq_true, beq_iff_eq] at h2
            have h3 := once_len h2.2.2
            have h4 := look_512 H0.out
            have h5 := (once_nodup _ _ h2.2.2).2.1
            exact ⟨by omega, by omega, fun x hx => by have := h5 x hx; have := HN.out; omega⟩)
          (fun x hx => by have := look_ends H0.out q hmq x hx; have := HN.out; omega) hsm.phis hsm.ends
        have HREN := hideI hren
        have HQB := hideI hq
        have HSB := hideI hSb
        have HVS : Hid (blockCells val b q = [.slice PP q.phis.length pp, .slice CC q.code.length cc, .int .i64 q.term.op, .int .i64 q.term.val, .slice EE' q.term.to.length ee, .int .i64 q.term.n]) := by
          show _ = _
          unfold blockCells
          rw [← HP.out.same _ (by simp) (by simp), ← HP.out.same _ (by simp) (by simp), ← HP.out.same _ (by simp) (by simp), hvp, hvc, hve]
        have HOL : Hid (∀ tag, TI (renTo S (numOf S) b f) tag → (v tag).ownBlock ≠ some wr.heap.size) := hideI (fun tag ht e => by have := (HP.out.own.lt ht e).2; omega)
        have hw7 := lt_of_heap HX7.out
        obtain ⟨i0, hix, hz0, hz1, hz2⟩ := info_parts block_info
        have hcl : cntS S b ≤ b := cntS_le S b
        clear hx fx hy fy hnum hne hq hqb hmq hsm hvp hvc hve hcells hW7 hz hren hk7
        go_wp2_with (first
          | (go_at_call 71; (go_must (rw [← HW7.out])); go_must (refine HREN.out.mono ?_); rintro e w8 ⟨v1, rfl, hr⟩; have hy := row_cells HX7.out (hr.keep wr.heap.size hw7 HOL.out); have y0 := hy 0; have y1 := hy 1; have y2 := hy 2; have y3 := hy 3; have y4 := hy 4; have y5 := hy 5; have HP8 := hideI (HP7.out.ren HSB.out hr); have hl8 : wr.heap.size < w8.heap.size := Nat.lt_of_lt_of_le hw7 hr.low.size; clear hy hr c0 c1 c2 c3 c4 c5 d0)
          | (at_builtin; go_must (refine wpList_append_lies _ rfl _ _ _ rfl w2.heap.size 54 i0 _ 6 96 Try.underlying23 hix hz0 hz1 hz2 rfl (by decide) _ _ _ rfl (HP8.out.kept.alloc _) ⟨w8.heap.size, 0, none⟩ 1 1 [.slice PP q.phis.length pp, .slice CC q.code.length cc, .int .i64 q.term.op, .int .i64 q.term.val, .slice EE' q.term.to.length ee, .int .i64 q.term.n] rfl rfl (blk_new w8 _ _) (by simp [Value.oneCell']) (by decide) (by unfold maxLen; omega) (by omega) (by have := HP8.out.size; simp; omega) _ rfl ?_); intro g1 cap1 w9 hown9 hgrow9 hor9 _; go_must (have HP9 := hideI (HP8.out.push HSB.out HQB.out hbw2 (by rw [HVS.out]; exact hown9) hgrow9 hor9); clear hown9 hgrow9 hor9)))
        go_roundw
        case rel => exact ⟨b + 1, v1, _, by omega, rfl, by go_num, HP9⟩
        case measure => simp [intOf]; omega
    · have e : b = n := by omega
      rw [e] at HP
      have hS0 : S 0 = true := by rw [HSS.out]; exact decide_eq_true ((HORD.out.reach 0).2 (.start (by decide)))
      have hpos : 0 < cntS S n := by have := cntS_lt (S := S) (k := 0) (b := n) hn0 hS0; omega
      obtain ⟨g, cap, hK, hg2, hgr⟩ := HP.out.kept.form hpos
      subst hK
      have b0 := hx 0
      have b1 := hx 1
      have b2 := hx 2
      have b3 := hx 3
      have f3 := fx 3
      have s0 := hy 0
      have s1 := hy 1
      have s2 := hy 2
      have s3 := hy 3
      have g0 := fy 0
      have g1 := fy 1
      have g2 := fy 2
      have g3 := fy 3
      have HNE := hideI hne
      have HPOS := hideI hpos
      clear e hS0 hx fx hy fy hnum hne hpos
      go_wp2
      refine bodyPost_ret (v := .agg #[.slice PA f.params.length pc, .int .i64 f.arrays, .int .i64 f.cells, .slice (some ⟨g, 0, none⟩) (cntS S n) cap]) (by simp [results, Try.results45, go_sem, s0, s1, s2, s3]) rfl ?_
      have hX : ∀ tag, TI (renTo S (numOf S) n f) tag → (v tag).ownBlock ≠ some w.heap.size := fun tag ht => (HNE.out tag ((HP.out.ti tag).1 ht)).2.1
      have hY : ∀ tag, TI (renTo S (numOf S) n f) tag → (v tag).ownBlock ≠ some (w.heap.size + 1) := fun tag ht => (HNE.out tag ((HP.out.ti tag).1 ht)).2.2
      have kX : (Value.slice (some ⟨g, 0, none⟩) (cntS S n) cap).ownBlock ≠ some w.heap.size := fun e => by have : g = w.heap.size := Option.some.inj e; omega
      have kY : (Value.slice (some ⟨g, 0, none⟩) (cntS S n) cap).ownBlock ≠ some (w.heap.size + 1) := fun e => by have : g = w.heap.size + 1 := Option.some.inj e; omega
      have hlow : Below base w wr := (HB1.out.mono hb).trans ((HB2.out.mono (by omega)).trans HP.out.low)
      unfold PruneWPost
      rw [← HN.out]
      refine ⟨o, v, g, cap, w2.heap.size, HORD.out, ?_⟩
      rw [← HSS.out]
      refine ⟨HPOS.out, by rw [HVP.out], hbw2, (((((HP.out.own.other hX).other hY).other hY).other hY).other hY), ?_, fun tag ht => HP.out.apart tag g ht rfl, HP.out.same, HP.out.ti, ?_⟩
      · exact ownsRow_setCell_other (ownsRow_setCell_other (ownsRow_setCell_other (ownsRow_setCell_other (ownsRow_setCell_other HP.out.kept kX _) kY _) kY _) kY _) kY _
      · exact ((((hlow.setCell (by simpa using hb) _).setCell (by simp; omega) _).setCell (by simp; omega) _).setCell (by simp; omega) _).setCell (by simp; omega) _

end Go.Proofs.Ytocnlclighonfaa
