/- What is proved: for every list of numbers and each number of zeros: with 16 numbers, the last of them 1, a chain of sums of values, a product with a longer chain, a sum with a list of 17 numbers are refused; zeros add to no numbers; the product with the chain 1 is the chain. No condition but the card's own: the table of the trailing zeros is as Go's library lays it. -/
import Derived.Test.YtfifbgpiekpepaaDoorChLst
import Derived.Test.YtfifbgpiekpepaaDoorTie
import Derived.Test.YtfifbgpiekpepaaDoorCards
import Derived.ProofKit
import Derived.LaidMore
import Derived.Lay
import Derived.OpenShut
import Derived.SevenTiedAt
namespace Go.Proofs.YtfifbgpiekpepaaDoor.chainEnds
open Go.ChangeShapes Go.WideShapes Go.ChangeAt Go.RowKit Go.Proofs.YtfifbgpiekpepaaDoor.Chn

theorem num_some {w : World} {base : Nat} {A : Option Addr} {n c : Nat} {xs : List Int} (h : Num w base (.slice A n c) xs) (h0 : 0 < xs.length) : ∃ g, A = some ⟨g, 0, none⟩ := by
  obtain ⟨A2, c2, e, hr⟩ := h.read
  injection e with e
  subst e
  obtain ⟨g, e, _⟩ := hr 0 _ (List.getElem?_eq_getElem h0)
  exact ⟨g, e⟩

theorem wf_u8 {n : Int} (h : (Lit.int .u8 n).wf = true) : 0 ≤ n ∧ n ≤ 255 := by
  simp [Lit.wf, IntKind.min, IntKind.max, IntKind.bits, IntKind.signed] at h
  omega

/-- the top number of a product with a chain of two numbers -/
theorem mul_one : ∀ (a : List Int), mulM a [1] = a
  | [] => mulM_nil _
  | x :: a => by
    have h : nextM [(1 : Int)] = [1] := by simp [nextM, addM]
    rw [mulM, h, mul_one a, mulM_nil', addM_nil, Int.mul_one]

theorem mul_top : ∀ (a : List Int) (r x : Int), (mulM (a ++ [x]) [r, 1]).getD (a.length + 1) 0 = (a.length + 1 : Nat) * x
  | [], r, x => by
    rw [List.nil_append, mulM, mulM_nil, mul_one]
    simp [addM]
  | y :: a, r, x => by
    have h : nextM [r, (1 : Int)] = [r + 1, 1] := by simp [nextM, addM]
    rw [List.cons_append, mulM, h, mul_one, List.getD_cons_succ, addM_at, List.length_cons, mul_top a (r + 1) x]
    rw [← List.cons_append, List.getD_eq_getElem?_getD, List.getElem?_append_right (by simp), List.length_cons, Nat.sub_self]
    rw [show ((a.length + 1 + 1 : Nat) : Int) = ((a.length + 1 : Nat) : Int) + 1 by omega, Int.add_mul, Int.one_mul]
    rfl

theorem len_of {c : List Int} {k : Nat} (h : c.getD k 0 ≠ 0) : k < c.length := by
  rcases Nat.lt_or_ge k c.length with h1 | h1
  · exact h1
  · exact absurd (getD_over (m := c.length) (Nat.le_refl _) h1) h

theorem tops (a : List Int) (h : a.length = 15) : trimM (a ++ [1]) = a ++ [1] ∧ mulAM (a ++ [1]) [0, 1] = none ∧ ansM (trimM (0 :: trimM (a ++ [1]))) = none ∧ addAM [a ++ [1], (a ++ [1]) ++ [5]] = none := by
  have h1 : trimM (a ++ [1]) = a ++ [1] := trimM_snoc a (by decide)
  have h2 : trimM [(0 : Int), 1] = [0, 1] := by decide
  refine ⟨h1, ?_, ?_, ?_⟩
  · unfold mulAM
    rw [h1, h2]
    split
    · rfl
    · refine if_pos ?_
      have h3 : (trimM (heldL (mulM (a ++ [1]) [0, 1]))).getD 16 0 ≠ 0 := by
        rw [trimM_at, heldL_at]
        have h4 := mul_top a 0 1
        rw [h] at h4
        rw [h4]
        decide
      exact len_of h3
  · rw [h1, ← List.cons_append, trimM_snoc _ (by decide)]
    refine if_pos ?_
    simp [h]
  · refine if_pos ⟨(a ++ [1]) ++ [5], by simp, ?_⟩
    rw [trimM_snoc _ (by decide)]
    simp [h]

theorem tot_zero : ∀ (css : List (List Int)) (j : Nat), (∀ c ∈ css, ∀ x ∈ c, x = 0) → tot css j = 0
  | [], _, _ => rfl
  | c :: r, j, h => by
    rw [tot, tot_zero r j fun d hd => h d (List.mem_cons_of_mem _ hd), List.getD_eq_getElem?_getD]
    cases hc : c[j]? with
    | none => rfl
    | some x => rw [h c (List.mem_cons_self ..) x (List.mem_of_getElem? hc)]; rfl

theorem trim_zeros (m : Nat) : trimM (List.replicate m (0 : Int)) = [] := trimM_eq _ [] fun k => by
  rw [List.getD_eq_getElem?_getD, List.getElem?_replicate]
  split <;> rfl

theorem zeros_add (m : Nat) : addAM [List.replicate m 0, List.replicate m 0] = some [] := by
  have h1 := trim_zeros m
  unfold addAM
  rw [if_neg (by
    rintro ⟨c, hc, hl⟩
    simp at hc
    subst hc
    rw [h1] at hl
    simp at hl)]
  have h2 : trimM (sumW [List.replicate m 0, List.replicate m 0] 16) = [] := trimM_eq _ [] fun k => by
    unfold sumW
    rw [List.getD_eq_getElem?_getD, List.getElem?_map]
    cases hk : (List.range 16)[k]? with
    | none => rfl
    | some j =>
      simp only [Option.map_some, Option.getD_some]
      rw [tot_zero _ j (by
        intro c hc x hx
        simp at hc
        subst hc
        exact (List.mem_replicate.1 hx).2)]
      rfl
  rw [h2]
  rfl

/-- the first numbers of a list, zeros where it has none -/
structure LongTo (vs xs : List Int) (k : Nat) : Prop where
  len : vs.length = k
  at_ : ∀ j, j < k → vs[j]? = some (xs.getD j 0)

theorem LongTo.push {vs xs : List Int} {k : Nat} {x : Int} (h : LongTo vs xs k) (hx : x = xs.getD k 0) : LongTo (vs ++ [x]) xs (k + 1) := by
  refine ⟨by simp [h.len], fun j hj => ?_⟩
  by_cases e : j = k
  · subst e
    rw [List.getElem?_append_right (by rw [h.len]; omega), h.len, Nat.sub_self, hx]
    rfl
  · rw [List.getElem?_append_left (by rw [h.len]; omega)]
    exact h.at_ j (by omega)

theorem LongTo.held {vs xs : List Int} {k : Nat} (h : LongTo vs xs k) (hi : ∀ x ∈ xs, In64 x) : ∀ x ∈ vs, In64 x := fun x hx => by
  obtain ⟨j, hj⟩ := List.mem_iff_getElem?.1 hx
  have h1 := h.at_ j (by have := (List.getElem?_eq_some_iff.1 hj).1; rw [h.len] at this; exact this)
  rw [hj] at h1
  injection h1 with h1
  rw [h1]
  exact getD_in hi j

theorem set_last {vs : List Int} (h : vs.length = 16) (y : Int) : vs.set 15 y = vs.take 15 ++ [y] := by
  apply List.ext_getElem?
  intro j
  rcases Nat.lt_trichotomy j 15 with hj | hj | hj
  · rw [List.getElem?_set_ne (by omega), List.getElem?_append_left (by rw [List.length_take]; omega), List.getElem?_take, if_pos hj]
  · subst hj
    rw [List.getElem?_set_self (by omega), List.getElem?_append_right (by rw [List.length_take]; omega), List.length_take]
    simp [h]
  · rw [List.getElem?_eq_none (by simp; omega), List.getElem?_eq_none (by simp; omega)]

theorem num_zeros {w : World} {base g n : Nat} (h : w.ownsRow base 3 1 (.slice (some ⟨g, 0, none⟩) n n) n (madeCells (Value.int .i64 0).cells (n * 1)).toList) : Num w base (.slice (some ⟨g, 0, none⟩) n n) (List.replicate n 0) := by
  rw [show (Value.int .i64 0).cells = #[Value.int .i64 0] from rfl, toList_madeCells_one, Nat.mul_one] at h
  unfold Num
  rw [List.length_replicate, List.map_replicate]
  exact h

set_option maxRecDepth 100000 in
set_option maxHeartbeats 4000000 in
theorem walk (xs : List Int) (v : Value) (n : Int) (w : World) (hT : Tab w) (hx : InL w v xs) (hn : 0 ≤ n ∧ n ≤ 255) :
    Calls Tryd.prog 10 #[v, .int .u8 n] w fun e w' => e = .returned (.bool true) ∧ Below w.heap.size w w' := by
  have HT := hideI hT
  have HT0 := hT.1
  have HX := hideI hx
  obtain ⟨nz, hnz⟩ : ∃ k : Nat, (k : Int) = n := ⟨n.toNat, by omega⟩
  have HNZ := hideI (show nz ≤ 255 by omega)
  subst hnz
  obtain ⟨⟨⟨A, c, rfl, hm, _⟩, _⟩, _, _⟩ := hx
  obtain ⟨W0, hW0⟩ : ∃ W0 : World, W0 = w.alloc (.cells #[] 3) := ⟨_, rfl⟩
  have HO0 : Hid (Num W0 w.heap.size (.slice (some ⟨w.heap.size, 0, none⟩) 0 0) []) := hideI (by rw [hW0]; exact World.ownsRow_made (base := w.heap.size) (e := 3) (size := 1) w #[] 0 (Nat.le_refl _) (by decide) rfl)
  have HB0 : Hid (Below w.heap.size w W0) := hideI (by rw [hW0]; exact (Below.refl _ w).alloc (Nat.le_refl _) _)
  have HW0 := hideI hW0
  obtain ⟨m, hmm⟩ : ∃ m, m = xs.length := ⟨_, rfl⟩
  have HM := hideI hmm
  rw [← hmm] at hm ⊢
  clear hW0 hT hmm hn
  go_enter Tryd.func10, Tryd.ntmps10
  go_upto_region 2 with fail
  rw [← HW0.out]
  go_wp2
  go_loopw [5, 6, 7] (fun u5 u6 u7 wv => ∃ (k g c5 : Nat) (vs : List Int), k ≤ 16 ∧ u6 = .int .i64 k ∧ u5 = .slice (some ⟨g, 0, none⟩) k c5 ∧ Hid (LongTo vs xs k) ∧ Hid (Num wv w.heap.size (.slice (some ⟨g, 0, none⟩) k c5) vs) ∧ Hid (Below w.heap.size w wv)) (fun _ u6 _ _ => 16 - (intOf u6).toNat)
  case atStart => exact ⟨0, _, _, [], Nat.zero_le _, rfl, rfl, hideI ⟨rfl, fun j hj => by omega⟩, HO0, HB0⟩
  case round =>
    obtain ⟨k, g, c5, vs, hk, rfl, rfl, HVS, HNU, HBr⟩ := hrel
    by_cases hlt : k < 16
    · have hl : (k : Int) < 16 := by omega
      obtain ⟨y, hy⟩ : ∃ y, y = xs.getD k 0 := ⟨_, rfl⟩
      have HY := hideI hy
      have HJ : ∀ W2 : World, Hid (W2 = wr) → Num (W2.alloc (.cells #[.int .i64 y] 3)) w.heap.size (.slice (some ⟨g, 0, none⟩) k c5) vs ∧ Ints (W2.alloc (.cells #[.int .i64 y] 3)) (wr.heap.size + 1) (.slice (some ⟨wr.heap.size, 0, none⟩) 1 1) [y] := fun W2 h2 => by
        rw [h2.out]
        exact ⟨HNU.out.kept ((Below.refl _ wr).alloc (Nat.le_refl _) _), by have h := (num_one wr y).ints (by simp); simpa using h⟩
      have HJ := hideI (HJ wr (hideI rfl))
      by_cases hkm : k < m
      · have hlm : (k : Int) < (m : Int) := by omega
        obtain ⟨A2, c2, e, _, hat⟩ := (HX.out.ci.keep HBr.out).1
        injection e with e _ _
        subst e
        obtain ⟨b, off, rfl, _, hc⟩ := hat k (by rw [← HM.out]; exact hkm)
        rw [← List.getD_eq_getElem?_getD, ← hy] at hc
        clear hat hy
        go_wp2_with (at_builtin; go_must (refine wpList_join rfl _ _ rfl (wr.heap.size + 1) g k c5 w.heap.size (.slice (some ⟨wr.heap.size, 0, none⟩) 1 1) vs [y] rfl rfl HJ.out.1 HJ.out.2 (by rw [HVS.out.len]; simp; omega) (by have h1 := HBr.out.size; simp; omega) ?_); intro A6 c6 w6 hown hb; have HN6 := hideI hown; have HB6 := hideI ((HBr.out.alloc HBr.out.size _).trans hb); clear hown hb)
        have hlen : (vs ++ [y]).length = k + 1 := by rw [List.length_append, HVS.out.len]; rfl
        rw [hlen] at HN6
        obtain ⟨g6, rfl⟩ := num_some HN6.out (by omega)
        clear hlen
        go_roundw
        case rel =>
          refine ⟨k + 1, by omega, by go_num, g6, c6, ⟨rfl, by rw [HVS.out.len], rfl⟩, vs ++ [y], hideI (HVS.out.push HY.out), ?_⟩
          first | exact HN6 | exact ⟨HN6, HB6⟩
        case measure => simp [intOf]; omega
      · have hlm : ¬ (k : Int) < (m : Int) := by omega
        have hy0 : y = 0 := by rw [hy]; exact getD_over (m := m) (by rw [HM.out]; exact Nat.le_refl _) (by omega)
        subst hy0
        clear hy
        go_wp2_with (at_builtin; go_must (refine wpList_join rfl _ _ rfl (wr.heap.size + 1) g k c5 w.heap.size (.slice (some ⟨wr.heap.size, 0, none⟩) 1 1) vs [0] rfl rfl HJ.out.1 HJ.out.2 (by rw [HVS.out.len]; simp; omega) (by have h1 := HBr.out.size; simp; omega) ?_); intro A6 c6 w6 hown hb; have HN6 := hideI hown; have HB6 := hideI ((HBr.out.alloc HBr.out.size _).trans hb); clear hown hb)
        have hlen : (vs ++ [(0 : Int)]).length = k + 1 := by rw [List.length_append, HVS.out.len]; rfl
        rw [hlen] at HN6
        obtain ⟨g6, rfl⟩ := num_some HN6.out (by omega)
        clear hlen
        go_roundw
        case rel => exact ⟨k + 1, g6, c6, vs ++ [0], by omega, by go_num, by rw [HVS.out.len], hideI (HVS.out.push HY.out), HN6, HB6⟩
        case measure => simp [intOf]; omega
    · have hk16 : k = 16 := by omega
      subst hk16
      have hnl : ¬ (16 : Int) < 16 := by omega
      have HRC := Num.rowC HNU.out
      have hcap := HNU.out.cap.1
      obtain ⟨y, hy⟩ : ∃ y, vs[15]? = some y := ⟨_, List.getElem?_eq_getElem (by rw [HVS.out.len]; decide)⟩
      have q1 := HRC.1.cell hy
      have q2 := HRC.1.open_ 15
      obtain ⟨al, hal⟩ : ∃ al, al = vs.take 15 := ⟨_, rfl⟩
      have hall : al.length = 15 := by rw [hal, List.length_take, HVS.out.len]; rfl
      obtain ⟨W1, hW1⟩ : ∃ W1 : World, W1 = wr.setCell ⟨g, 15, none⟩ (.int .i64 1) := ⟨_, rfl⟩
      have HB1 : Hid (Below w.heap.size w W1) := hideI (by rw [hW1]; exact HBr.out.setCell (p := ⟨g, 15, none⟩) HRC.2 _)
      have hrow : RowC W1 g (al ++ [1]) := by rw [hW1, hal, ← set_last HVS.out.len 1]; exact HRC.1.set
      obtain ⟨long, hlong⟩ : ∃ long, long = al ++ [1] := ⟨_, rfl⟩
      rw [← hlong] at hrow
      have hl16 : long.length = 16 := by rw [hlong, List.length_append, hall]; rfl
      have HL1 : Hid (Lst W1 (some ⟨g, 0, none⟩) 16 c5 long) := hideI ⟨hl16.symm, ci_row hrow hl16.symm hcap (by decide) hrow.lt⟩
      obtain ⟨t1, t2, t3, t4⟩ := tops al hall
      rw [← hlong] at t1 t2 t3 t4
      have T1 := hideI t1
      have T2 := hideI t2
      have T3 := hideI t3
      have T4 := hideI t4
      have H16 := hideI hl16
      have HIN : Hid (∀ x ∈ long, In64 x) := hideI fun x hx => by
        rw [hlong] at hx
        rcases List.mem_append.1 hx with hx | hx
        · rw [hal] at hx
          exact HVS.out.held HX.out.held x (List.mem_of_mem_take hx)
        · rw [List.mem_singleton.1 hx]
          exact ⟨by decide, by decide⟩
      have HW1 := hideI hW1
      clear hal hW1 hlong hrow hl16 t1 t2 t3 t4 hy HRC hall hm
      go_upto_region 10 with fail
      rw [← HW1.out]
      have HSU := hideI (chSums_any 0 long W1.heap.size _ W1 HL1.out.ci (Nat.le_refl _) (by rw [H16.out]; decide))
      have HB := HB1
      go_upto_region 11 with (go_at_call 20; go_must (refine HSU.out.mono ?_); rintro e w2 h2; obtain ⟨rfl, hb⟩ := h2.none_ T3.out; have HL2 := hideI (HL1.out.keep hb); replace HB := hideI (HB.out.trans (hb.mono HB.out.size)); clear hb h2)
      have HM2 : Hid (Calls Tryd.prog 17 #[.slice (some ⟨g, 0, none⟩) 16 c5, .slice (some ⟨w2.heap.size, 0, none⟩) 2 2] (w2.alloc (.cells #[.int .i64 0, .int .i64 1] 3)) (fun e w' => e = .returned (.tuple #[.slice none 0 0, .int .i64 1]) ∧ Below w2.heap.size w2 w')) := hideI (by
        have hU := (Below.refl _ w2).alloc (Nat.le_refl _) (.cells #[.int .i64 0, .int .i64 1] 3)
        refine (chMul_any long [0, 1] _ _ _ _ ((HT.out.keep HB.out HT0).keep hU (by have := HB.out.size; omega)) (HL2.out.keep hU).ci (lst_new w2 [0, 1] 2 rfl (by decide) _ rfl _).ci (Nat.le_refl _)).mono fun e w' h => ?_
        obtain ⟨he, hb⟩ := h.none_ T2.out
        exact ⟨he, hU.trans (hb.mono hU.size)⟩)
      go_upto_region 12 with (go_at_call 17; go_must (refine HM2.out.mono ?_); rintro e w3 ⟨rfl, hb⟩; have HL3 := hideI (HL2.out.keep hb); replace HB := hideI (HB.out.trans (hb.mono HB.out.size)); clear hb)
      have HIW3 : Hid (Ints (w3.alloc (.cells #[] 3)) w3.heap.size (.slice (some ⟨g, 0, none⟩) 16 c5) long) := hideI (HL3.out.ci.1.keep ((Below.refl _ w3).alloc (Nat.le_refl _) _))
      have hll : long.length ≤ 100000 := by rw [H16.out]; decide
      have HLL := hideI hll
      go_upto_region 13 with (first
        | (at_builtin; refine wpList_copy rfl _ _ rfl w3.heap.size w3.heap.size (.slice (some ⟨g, 0, none⟩) 16 c5) long rfl rfl HIW3.out (heap_alloc_new w3 _) HLL.out w3.heap.size (Nat.le_refl _) ?_; intro A5 c5' w5 hown hg _; go_must (have hb := grown_below hg hown (Nat.le_refl _); have HN5 : Hid (Num w5 w3.heap.size (.slice A5 long.length c5') long) := hideI hown; obtain ⟨g5, rfl⟩ := num_some HN5.out (by rw [H16.out]; decide); have HB35 := hideI hb; have HS5 := hideI hb.size; clear hown hg hb))
        | (at_builtin; go_must (refine wpList_join rfl _ _ rfl (w5.heap.size + 1) g5 long.length c5' w3.heap.size (.slice (some ⟨w5.heap.size, 0, none⟩) 1 1) long [5] rfl rfl (HN5.out.kept ((Below.refl _ w5).alloc (Nat.le_refl _) _)) (by have h := (num_one w5 5).ints (by simp); simpa using h) (by have := HLL.out; rw [H16.out]; decide) (by have h1 := HS5.out; simp; omega) ?_); intro A6 c6 w6 hown hb; go_must (have HB36 : Hid (Below w3.heap.size w3 w6) := hideI (HB35.out.trans ((((Below.refl _ w5).alloc (Nat.le_refl _) _).mono HS5.out).trans hb)); have HN6 : Hid (Lst w6 A6 (long.length + 1) c6 (long ++ [5])) := hideI ⟨by simp, by have h := hown.ci (by rw [List.length_append, H16.out]; decide); rw [List.length_append] at h; exact h⟩; have HL6 := hideI (HL3.out.keep HB36.out); replace HB := hideI (HB.out.trans (HB36.out.mono HB.out.size)); clear hown hb))
        | (go_at_call 12; go_must (refine (chAdd_any [long, long ++ [5]] _ _ _ ((lr_two w6 _ _ _ _ 24 w6.heap.size (Nat.le_refl _) HL6.out.ci HN6.out.ci).more (by simp)) (Nat.le_refl _)).mono ?_); rintro e w7 h7; obtain ⟨rfl, hb7⟩ := h7.none_ T4.out; have hb := ((Below.refl _ w6).alloc (Nat.le_refl _) (.cells #[.slice (some ⟨g, 0, none⟩) 16 c5, .slice A6 (long.length + 1) c6] 24)).trans (hb7.mono (by simp)); have HL7 := hideI (HL6.out.keep hb); replace HB := hideI (HB.out.trans (hb.mono HB.out.size)); clear h7 hb7 hb))
      obtain ⟨i0, hix, hz0, hz1, hz2⟩ := info_parts int_info
      have HWZ : Hid (wrap64 (nz : Int) = (nz : Int)) := hideI (by have := HNZ.out; unfold wrap64; omega)
      go_upto_region 14 with (at_make; go_must (refine wpList_make_full _ rfl _ _ 24 rfl w7.heap.size 3 i0 (.int .i64 0) 1 Tryd.underlying24 hix hz0 hz1 .i64 .i64 _ _ nz rfl rfl HWZ.out HWZ.out (by rw [hz2]; have := HNZ.out; omega) (by unfold maxLen; have := HNZ.out; omega) (Nat.le_refl _) ?_); intro w8 hown8 hg8; have HN8 := hideI (num_zeros hown8); have hb : Below w7.heap.size w7 w8 := ⟨hg8.os, hg8.tape, hg8.output, hg8.size, fun k hk => hg8.block k hk (by simp)⟩; have HL8 := hideI (HL7.out.keep hb); replace HB := hideI (HB.out.trans (hb.mono HB.out.size)); clear hown8 hg8 hb)
      have HZ8 : Hid (Lst w8 (some ⟨w7.heap.size, 0, none⟩) nz nz (List.replicate nz 0)) := hideI ⟨by simp, by have h := HN8.out.ci (by have := HNZ.out; simp; omega); simpa using h⟩
      have HA8 : Hid (Calls Tryd.prog 12 #[.slice (some ⟨w8.heap.size, 0, none⟩) 2 2] (w8.alloc (.cells #[.slice (some ⟨w7.heap.size, 0, none⟩) nz nz, .slice (some ⟨w7.heap.size, 0, none⟩) nz nz] 24)) (fun e w' => ∃ A c, e = .returned (.tuple #[.slice A 0 c, .int .i64 0]) ∧ Below w8.heap.size w8 w')) := hideI (by
        have hU := (Below.refl _ w8).alloc (Nat.le_refl _) (.cells #[.slice (some ⟨w7.heap.size, 0, none⟩) nz nz, .slice (some ⟨w7.heap.size, 0, none⟩) nz nz] 24)
        refine (chAdd_any _ _ _ _ ((lr_two w8 _ _ _ _ 24 w8.heap.size (Nat.le_refl _) HZ8.out.ci HZ8.out.ci).more (by simp)) (Nat.le_refl _)).mono fun e w' h => ?_
        obtain ⟨A, c, he, _, _, hb⟩ := h.some_ (zeros_add nz)
        exact ⟨A, c, he, hU.trans (hb.mono hU.size)⟩)
      go_upto_region 15 with (go_at_call 12; go_must (refine HA8.out.mono ?_); rintro e w9 ⟨A9, c9, rfl, hb⟩; have HL9 := hideI (HL8.out.keep hb); replace HB := hideI (HB.out.trans (hb.mono HB.out.size)); clear hb)
      have HM9 := hideI (mul_lst w9 (w9.alloc (.cells #[.int .i64 1] 3)) ((Below.refl _ w9).alloc (Nat.le_refl _) _) (HT.out.keep HB.out HT0) (HL9.out.keep ((Below.refl _ w9).alloc (Nat.le_refl _) _)) (lst_new w9 [1] 1 rfl (by decide) _ rfl _) 16 1 (by rw [H16.out]; decide) (by decide) (by decide))
      go_upto_region 16 with (go_at_call 17; go_must (refine HM9.out.mono ?_); rintro e w10 ⟨A10, n10, c10, l10, rfl, hl, hi, hb⟩; have HI10 := hideI hi; have HL10 := hideI (HL9.out.keep hb); have HM10 := hideI hl; replace HB := hideI (HB.out.trans (hb.mono HB.out.size)); clear hl hi hb)
      have E1 : Hid (l10 = long) := hideI (by
        have h1 := HI10.out.one (trim_is long 16 HIN.out (by rw [H16.out]; decide)) fun n => by rw [vl_const, Int.mul_one]; exact Eq64.rfl' _
        rw [h1, T1.out])
      have HM11 := hideI (show Lst w10 A10 n10 c10 long by rw [← E1.out]; exact HM10.out)
      clear E1 HI10 HM10 HM9 HA8
      go_wp2_with (first
        | (go_at_call 13; go_must (refine (awake_any _ (HT.out.keep HB.out HT0)).mono ?_); rintro e wn ⟨rfl, hb⟩; replace HL10 := hideI (HL10.out.keep hb); replace HM11 := hideI (HM11.out.keep hb); replace HB := hideI (HB.out.trans (hb.mono HB.out.size)); clear hb)
        | (go_at_call 14; go_must (refine (sameInts_any _ _ _ _ _ _ HM11.out.ci.1 HL10.out.ci.1).mono ?_); rintro e wn ⟨rfl, m1, hw⟩; have hb := below_of_drew hw; clear hw; replace HB := hideI (HB.out.trans (hb.mono HB.out.size)); clear hb))
      go_ret
      exact ⟨by simp, HB.out⟩

set_option maxRecDepth 100000 in
theorem lifted (os : Os) (started : os.Started) (H : Type) (enc : TypeId × Value → H) :
    ReturnsInHanded {} Tryd.checked os 10 .any (fun w args => (Rows.chainEndsSpec.pre enc Tryd.prog Tryd.f10 Rows.chainEndsRow.domain false w args ∧ laidMetH Tryd.prog Rows.chainEndsRow.laid w) ∧ sizedMet enc Tryd.prog Tryd.f10 (OpenSpec.ofChange Rows.chainEndsSpec) false w args) (Rows.chainEndsSpec.post enc Tryd.prog Tryd.f10 false true false false) := by
  refine returnsInHanded_of_change_and (C := Tryd.checked) (X := fun w _ => laidMetH Tryd.prog Rows.chainEndsRow.laid w) (fun _ _ _ hh h => h.of_heap hh) own started (by kernel_rfl) Tryd.func10
    (ChangeSpec.witness_shaped (enc := enc) (C := Tryd.checked) (os := os) (X := fun w _ => laidMetH Tryd.prog Rows.chainEndsRow.laid w) false (World.laidAll Tryd.prog os Rows.chainEndsRow.laid) #[.slice none 0 0, .int .u8 0] 8 (World.laidAll_os _ _ _)
      (World.shaped_of_ZipB (by kernel_rfl) (by kernel_rfl)) (by kernel_rfl) (by kernel_rfl) (by kernel_rfl)
      (by rw [MakeChecks.laidMetH_plain _ _ _ (by kernel_rfl)]; exact laidMet_laidAll _ (by kernel_rfl) (by kernel_rfl))) ?_
  intro W base args ds gs before hval0 hW _ hsz hL _
  have hT : Tab W := tab_of rfl hL (fun w => MakeChecks.laidMetH_plain _ _ _ (by kernel_rfl))
  have hval : ∀ (j : Nat) t v, Tryd.f10.params[j]? = some t → args[j]? = some v → Value.okWide Tryd.prog W .any base t v := hval0
  have hW' := hW
  obtain ⟨p, q, hA0, hV, rfl, hfz, hnd⟩ := hW
  have hA : DataW.TrodAll enc Tryd.prog W 0 (fun _ => true) true Tryd.f10.params.toList args.toList ds p := hA0
  rw [Tryd.params10] at hA hval
  obtain ⟨v0, vs0, d0, ds0, p0, q0, hargs, rfl, rfl, h0, r0⟩ := trodAll_cons hA
  obtain ⟨v1, vs1, d1, ds1, p1, q1, rfl, rfl, rfl, h1, r1⟩ := trodAll_cons r0
  obtain ⟨rfl, rfl, rfl⟩ := trodAll_nil r1
  obtain rfl : args = #[v0, v1] := by cases args; simp_all
  obtain ⟨rfl, rfl⟩ := trodVars_none hV
  obtain ⟨x0, hx0⟩ := arg_ints (hval 0 24 v0 rfl rfl) h0 hsz (j := 0) rfl rfl
  obtain ⟨x1, rfl, _, _, hx1⟩ := open_int Tryd.underlying5 (hval 1 5 v1 rfl rfl) h1
  clear hA0 hval0
  refine (walk x0 v0 x1 W hT hx0 (wf_u8 hx1)).mono fun e W' ⟨he, hg⟩ => ?_
  subst he
  exact ⟨_, rfl, law_post (by kernel_rfl) hW' rfl (by kernel_rfl) Tryd.underlying4 rfl rfl rfl (by rw [Tryd.params10]; decide +kernel) hg⟩

theorem over : Rows.chainEndsRow.holds Tryd.pinned (OpenSpec.ofChange Rows.chainEndsSpec) :=
  OpenClaim.holds_of_wide 10 Tryd.f10 rfl rfl rfl rfl rfl rfl rfl ⟨rfl, rfl, rfl, rfl, rfl⟩ rfl rfl rfl rfl rfl (by kernel_rfl) Tryd.func10 (by kernel_rfl)
    (of_decide_eq_true (by kernel_rfl)) (by unfold Func.isWrapper; first | (rw [if_pos (by decide +kernel)]; kernel_rfl) | (rw [if_neg (by decide +kernel)]; exact ⟨rfl, rfl⟩))
    (fun os started H enc _ => lifted os started H enc)

theorem proved : Rows.ChainEndsCardSaid :=
  Claim7.holds_tied_plain_at .later [] [.data] true Rows.chainEndsCard.stood.harness false
    over (fun _ h => by cases h) (by kernel_rfl) (fun _ h => by cases h) chainEnds_row_tie rfl ⟨rfl, rfl⟩ (by kernel_rfl) rfl
    (fun f fn hf hfn => by
      obtain rfl : f = 10 := Option.some.inj ((show Tryd.prog.funcNamed "strake/strakelaw12.ChainEnds" = some 10 by kernel_rfl).symm.trans hf) |>.symm
      obtain rfl : fn = Tryd.f10 := (Option.some.inj (Tryd.func10.symm.trans hfn)).symm
      exact ⟨by kernel_rfl, fun j t ht => by
        rw [Tryd.params10] at ht
        have hm : t ∈ [24, 5] := by simpa using Array.mem_of_getElem? ht
        have hall : ([24, 5].all fun u => !Tryd.prog.wantsStandIn u) = true := by kernel_rfl
        exact (show Tryd.prog.wantsStandIn t = false by simpa using List.all_eq_true.1 hall t hm)⟩)
    (by kernel_rfl)
#print axioms proved
end Go.Proofs.YtfifbgpiekpepaaDoor.chainEnds
