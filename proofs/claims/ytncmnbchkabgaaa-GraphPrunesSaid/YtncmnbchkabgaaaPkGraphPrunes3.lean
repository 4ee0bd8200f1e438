/- What GraphPrunes rests on, part 3: Params, Formed, Frame, EachC, Uses, LookAt, Sizes, CountM, Keys, Facts. -/
import Derived.Test.YtncmnbchkabgaaaPkGraphPrunes2

namespace Go.Proofs.Ytncmnbchkabgaaa
open Go.RowKit Go.Maps

theorem paramDefs_snoc (l : List Int) (t : Int) : ∀ j, paramDefs j (l ++ [t]) = paramDefs j l ++ [(((j + l.length : Nat) : Int), t)] := by
  induction l with
  | nil => intro j; rfl
  | cons a l ih =>
    intro j
    show _ :: paramDefs (j + 1) (l ++ [t]) = _ :: (paramDefs (j + 1) l ++ _)
    rw [ih (j + 1)]
    simp only [List.length_cons]
    rw [show j + 1 + l.length = j + (l.length + 1) from by omega]

theorem paramDefs_len (l : List Int) : ∀ j, (paramDefs j l).length = l.length := by
  induction l with
  | nil => intro j; rfl
  | cons a l ih => intro j; simp [paramDefs, ih]

theorem paramDefs_at (l : List Int) : ∀ (j : Nat) (k : Int), (j + l.length : Nat) ≤ k → (paramDefs j l).at k = none := by
  induction l with
  | nil => intro j k _; rfl
  | cons a l ih =>
    intro j k h
    simp only [List.length_cons] at h
    have := ih (j + 1) k (by omega)
    unfold Defs.at at this ⊢
    rw [paramDefs, List.find?_cons]
    rw [show ((j : Int) == k) = false from by simp; omega]
    exact this

def paramsStep (f : FuncM) : Option Defs := if f.params.all isTypeB then some (paramDefs 0 f.params) else none

theorem isType_cases {t : Int} (h : isTypeB t = true) : t = 1 ∨ t = 2 := by
  unfold isTypeB at h
  simpa using h

set_option maxHeartbeats 1000000 in
theorem params_any (f : FuncM) (B M : Nat) (pv av cv bv : Value) (w : World) (hpv : Ints w B pv f.params) (hBM : B ≤ M) (hM : MapIs w M []) (hp : f.params.length ≤ 16) :
    Calls Try.prog 56 #[.agg #[pv, av, cv, bv, .map (some M)]] w (Defines (paramsStep f) M w) := by
  have hMl := hM.lt
  have HM := hideI hM
  obtain ⟨P, c, rfl, hbm, hbx⟩ := hpv
  have HX := hideI hbx
  clear hbx hM
  go_enter Try.func56, Try.ntmps56
  go_wp2
  obtain ⟨W0, hW0⟩ : ∃ W0 : World, W0 = w.alloc (.cells #[.slice P f.params.length c, av, cv, bv, .map (some M)] 64) := ⟨_, rfl⟩
  rw [← hW0]
  have HW0 := hideI hW0
  clear hW0
  go_loopw [9] (fun i wr => ∃ k : Nat, k ≤ f.params.length ∧ i = .int .i64 k ∧ (f.params.take k).all isTypeB = true ∧ MapIs wr M (paramDefs 0 (f.params.take k)) ∧ W0.grownBy wr (some M)) (fun i _ => f.params.length - (intOf i).toNat)
  case atStart => exact ⟨0, Nat.zero_le _, rfl, rfl, by rw [HW0.out]; exact HM.out.alloc _, World.grownBy.refl W0 _⟩
  case round =>
    obtain ⟨k, hk, rfl, ht, hMd, hg⟩ := hrel
    have hg' := hg
    rw [HW0.out] at hg'
    have hx : ∀ o, wr.cell? ⟨w.heap.size, o, none⟩ = (#[.slice P f.params.length c, av, cv, bv, .map (some M)] : Array Value)[o]? := row_cells (heap_alloc_new w _) (hg'.block _ (by simp) (by simp; omega))
    have hks : Keeps B w wr := ((Keeps.refl w).alloc (by omega) _).trans (Keeps.of_grown hg' hBM (by simp; omega))
    have HK := hideI hks
    have HG := hideI hg
    have HT' := hideI ht
    obtain ⟨D, hown, hD, hwd, hat⟩ := hMd
    have HAT := hideI hat
    have HWD := hideI hwd
    clear hg' hks hg ht hat hwd
    by_cases hlt : k < f.params.length
    · obtain ⟨b, off, rfl, hb, hc0⟩ := HX.out k hlt
      obtain ⟨t, ht⟩ : ∃ t, f.params[k] = t := ⟨_, rfl⟩
      have hc := (HK.out b (off + k) hb).trans hc0
      rw [getD_of hlt, ht] at hc
      have HTT := hideI ht
      clear hc0 ht
      cases c1 : isTypeB t
      · have HC := hideI c1
        go_wp2_with (go_at_call 61; refine (isType_any _ _).mono ?_; rintro e w' ⟨rfl, rfl⟩)
        go_ret
        have hno : paramsStep f = none := by
          unfold paramsStep
          rw [if_neg]
          intro h
          have := List.all_eq_true.1 h _ (List.getElem_mem hlt)
          rw [HTT.out, HC.out] at this
          cases this
        exact defines_end (by rw [hno]; rfl) (by have := HG.out; rw [HW0.out] at this; exact (World.grownBy_alloc _ _ _).trans_grown this) (by rw [hno]; simp)
      · have HC := hideI c1
        have hI : I64 t := by rcases isType_cases c1 with rfl | rfl <;> (unfold I64; decide)
        have hIk : I64 k := by unfold I64; exact WalkArith.wf_i64 (by omega)
        go_wp2_with (first
          | (go_at_call 61; refine (isType_any _ _).mono ?_; rintro e w' ⟨rfl, rfl⟩)
          | (at_mapUpdate; refine wpList_mapUpdate_own _ rfl _ _ _ 62 rfl 3 3 lawInt Try.underlying62 _ M _ _ rfl hown (by unfold maxLen; rw [paramDefs_len, List.length_take]; omega) _ _ _ rfl rfl (keyOf_int_mk Try.underlying3 hIk) _ [] (plainElem_int Try.underlying3 hI) ?_; intro w1 hown1 hgrow1))
        go_roundw
        case rel =>
          refine ⟨k + 1, by omega, by go_num, by rw [all_take_succ _ _ _ hlt, HT'.out, HTT.out, HC.out]; rfl, ?_, HG.out.trans_grown hgrow1⟩
          rw [List.take_succ_eq_append_getElem hlt, HTT.out, paramDefs_snoc, List.length_take, Nat.min_eq_left (by omega), Nat.zero_add]
          exact MapIs.put hown1 hD HWD.out hIk hI (paramDefs_at _ _ _ (by rw [List.length_take]; omega)) HAT.out
        case measure => simp [intOf]; omega
    · go_wp2
      go_ret
      have hall : f.params.all isTypeB = true := by have := HT'.out; rwa [List.take_of_length_le (by omega)] at this
      have hyes : paramsStep f = some (paramDefs 0 f.params) := by unfold paramsStep; rw [if_pos hall]
      refine defines_end (by rw [hyes]; rfl) (by have := HG.out; rw [HW0.out] at this; exact (World.grownBy_alloc _ _ _).trans_grown this) ?_
      intro ds h
      rw [hyes] at h
      injection h with h
      subst h
      rw [List.take_of_length_le (by omega)] at hown
      have h1 := HWD.out
      have h2 := HAT.out
      rw [List.take_of_length_le (by omega)] at h1 h2
      exact ⟨D, hown, hD, h1, h2⟩

end Go.Proofs.Ytncmnbchkabgaaa

namespace Go.Proofs.Ytncmnbchkabgaaa
open Go.RowKit Go.Maps

theorem formedM_no {f : FuncM} (h : limitsB f = false) : formedM f = none := by
  unfold formedM
  rw [h]
  rfl

theorem formedM_params {f : FuncM} (h : paramsStep f = none) : formedM f = none := by
  unfold paramsStep at h
  unfold formedM
  split at h
  · cases h
  · rename_i hn
    have : f.params.all isTypeB = false := by simpa using hn
    rw [this]
    simp

theorem formedM_head {f : FuncM} {q : BlockM} (hq : f.blocks[0]? = some q) (h : q.phis ≠ []) : formedM f = none := by
  unfold formedM
  have h1 : f.blocks.headD ⟨[], [], ⟨0, 0, [], 0⟩⟩ = q := by
    cases hb : f.blocks with
    | nil => rw [hb] at hq; cases hq
    | cons a l => rw [hb] at hq; simpa using hq
  have h2 : q.phis.isEmpty = false := by simpa using h
  rw [h1, h2]
  simp

theorem formedM_yes {f : FuncM} {q : BlockM} {d : Defs} (hl : limitsB f = true) (hp : paramsStep f = some d) (hq : f.blocks[0]? = some q) (h : q.phis = []) : formedM f = blocksStep f d f.blocks := by
  unfold formedM
  have h1 : f.blocks.headD ⟨[], [], ⟨0, 0, [], 0⟩⟩ = q := by
    cases hb : f.blocks with
    | nil => rw [hb] at hq; cases hq
    | cons a l => rw [hb] at hq; simpa using hq
  unfold paramsStep at hp
  split at hp
  · rename_i ha
    injection hp with hp
    subst hp
    rw [hl, ha, h1, h]
    rfl
  · cases hp

theorem blocks_drop (f : FuncM) (d : Defs) (l : List BlockM) (k : Nat) (p : BlockM) (h : l[k]? = some p) : blocksStep f d (l.drop k) = (blockStep f d p).bind fun d' => blocksStep f d' (l.drop (k + 1)) := by
  obtain ⟨hk, rfl⟩ := List.getElem?_eq_some_iff.1 h
  rw [List.drop_eq_getElem_cons hk]
  rfl

theorem phisStep_len {f : FuncM} : ∀ {l : List PhiM} {ds d : Defs}, phisStep f ds l = some d → d.length = ds.length + l.length := by
  intro l
  induction l with
  | nil => intro ds d h; injection h with h; subst h; rfl
  | cons p l ih =>
    intro ds d h
    unfold phisStep at h
    rw [Option.bind_eq_some_iff] at h
    obtain ⟨d1, h1, h2⟩ := h
    have := ih h2
    have := phiStep_len h1
    simp only [List.length_cons]
    omega

theorem codeStep_len {f : FuncM} : ∀ {l : List InstrM} {ds d : Defs}, codeStep f ds l = some d → d.length ≤ ds.length + l.length := by
  intro l
  induction l with
  | nil => intro ds d h; injection h with h; subst h; exact Nat.le_refl _
  | cons p l ih =>
    intro ds d h
    unfold codeStep at h
    rw [Option.bind_eq_some_iff] at h
    obtain ⟨d1, h1, h2⟩ := h
    have := ih h2
    have := instrStep_len h1
    simp only [List.length_cons]
    omega

theorem blockStep_len {f : FuncM} {q : BlockM} {ds d : Defs} (h : blockStep f ds q = some d) : d.length ≤ ds.length + (q.phis.length + q.code.length + 1) := by
  unfold blockStep at h
  rw [Option.bind_eq_some_iff] at h
  obtain ⟨d1, h1, h2⟩ := h
  rw [Option.bind_eq_some_iff] at h2
  obtain ⟨d2, h3, h4⟩ := h2
  split at h4
  · injection h4 with h4
    subst h4
    have := phisStep_len h1
    have := codeStep_len h3
    omega
  · cases h4

theorem sum_take_le (l : List Nat) (k : Nat) : (l.take k).sum ≤ l.sum := by
  conv => rhs; rw [← List.take_append_drop k l, List.sum_append]
  omega

theorem size_take_le (bs : List BlockM) (k : Nat) (q : BlockM) (h : bs[k]? = some q) : ((bs.take k).map sizeB).sum + (q.phis.length + q.code.length + 1) ≤ (bs.map sizeB).sum := by
  rw [← size_take bs k q h, List.map_take]
  exact sum_take_le _ _

theorem limits_bd {f : FuncM} (h : limitsB f = true) : f.params.length ≤ 16 ∧ 0 ≤ f.arrays ∧ f.arrays ≤ 8 ∧ 0 ≤ f.cells ∧ f.cells ≤ 64 ∧ 1 ≤ f.blocks.length ∧ f.blocks.length ≤ 512 ∧ (f.blocks.map sizeB).sum ≤ 4096 := by
  unfold limitsB withinB sizeM at h
  simp only [Bool.and_eq_true, decide_eq_true_eq] at h
  omega

theorem grown_row {w w' : World} {g M : Nat} {cs : Array Value} {t : TypeId} (h : w.heap[g]? = some (.cells cs t (0, 0))) (hg : w.grownBy w' (some M)) (hM : g ≠ M) : ∀ o, w'.cell? ⟨g, o, none⟩ = cs[o]? :=
  row_cells h (hg.block _ (Array.getElem?_eq_some_iff.1 h).1 (by simpa using hM))

set_option maxHeartbeats 1000000 in
theorem formed_any (f : FuncM) (B M : Nat) (pv bv : Value) (w : World) (hpv : Ints w B pv f.params) (hbv : BlocksR w B bv f.blocks) (hBM : B ≤ M) (hM : MapIs w M []) :
    Calls Try.prog 41 #[.agg #[pv, .int .i64 f.arrays, .int .i64 f.cells, bv, .map (some M)]] w (Defines (formedM f) M w) := by
  have hMl := hM.lt
  have HM := hideI hM
  have HP := hideI hpv
  have HB := hideI hbv
  obtain ⟨P, c, rfl, hpm, _⟩ := hpv
  obtain ⟨A, c2, rfl, hbm, hbx⟩ := hbv
  have HX := hideI hbx
  clear hbx hM
  obtain ⟨W0, hW0⟩ : ∃ W0 : World, W0 = w.alloc (.cells #[.slice P f.params.length c, .int .i64 f.arrays, .int .i64 f.cells, .slice A f.blocks.length c2, .map (some M)] 64) := ⟨_, rfl⟩
  have hbox : W0.heap[w.heap.size]? = some (.cells #[.slice P f.params.length c, .int .i64 f.arrays, .int .i64 f.cells, .slice A f.blocks.length c2, .map (some M)] 64 (0, 0)) := by rw [hW0]; exact heap_alloc_new w _
  have hsz0 : W0.heap.size = w.heap.size + 1 := by rw [hW0]; simp
  have hbB : BlocksR W0 B (.slice A f.blocks.length c2) f.blocks := by rw [hW0]; exact HB.out.keeps ((Keeps.refl w).alloc (by omega) _)
  have hpB : Ints W0 B (.slice P f.params.length c) f.params := by rw [hW0]; exact HP.out.alloc (by omega) _
  have hmB : MapIs W0 M [] := by rw [hW0]; exact HM.out.alloc _
  have HbB := hideI hbB
  have HpB := hideI hpB
  have HmB := hideI hmB
  have hgw : w.grownBy W0 (some M) := by rw [hW0]; exact World.grownBy_alloc _ _ _
  have HGW := hideI hgw
  have HBOX := hideI hbox
  clear hbB hpB hmB hgw hbox hsz0
  subst hW0
  cases c1 : limitsB f
  · have HC := hideI c1
    go_enter Try.func41, Try.ntmps41
    go_wp2_with (go_at_call 55; refine (limits_any f B _ _ _ _ _ HbB.out (by simp; omega)).mono ?_; rintro e w1 ⟨rfl, hb1⟩; have HB1 := hideI hb1; clear hb1)
    go_ret
    exact defines_end (by rw [formedM_no HC.out]; rfl) (HGW.out.trans_grown (below_grown HB1.out rfl)) (by rw [formedM_no HC.out]; simp)
  have HC := hideI c1
  obtain ⟨l1, l2, l3, l4, l5, l6, l7, l8⟩ := limits_bd c1
  have HL8 := hideI l8
  clear l8
  cases c2 : paramsStep f with
  | none =>
    have HC2 := hideI c2
    go_enter Try.func41, Try.ntmps41
    go_wp2_with (first
      | (go_at_call 55; refine (limits_any f B _ _ _ _ _ HbB.out (by simp; omega)).mono ?_; rintro e w1 ⟨rfl, hb1⟩; obtain ⟨hcl, hfl⟩ := bcell hb1; have HB1 := hideI hb1; clear hb1)
      | (go_at_call 56; refine (params_any f B M _ _ _ _ _ (HpB.out.keep (HB1.out.mono (by simp; omega))) hBM (HmB.out.below HB1.out (by simp; omega)) l1).mono ?_; rintro e w2 ⟨rfl, hg2, hm2⟩; have HG2 := hideI hg2; have HM2 := hideI hm2; clear hg2 hm2; rw [HC2.out]))
    go_ret
    exact defines_end (by rw [formedM_params HC2.out]; rfl) ((HGW.out.trans_grown (below_grown HB1.out rfl)).trans_grown HG2.out) (by rw [formedM_params HC2.out]; simp)
  | some d0 =>
    have HC2 := hideI c2
    obtain ⟨q0, hq0⟩ : ∃ q, f.blocks[0]? = some q := ⟨_, List.getElem?_eq_getElem (by omega)⟩
    obtain ⟨b, off, pv0, cv0, tv0, rfl, hb, e0, _, _, _, _, _, hpv0, _⟩ := HX.out 0 q0 hq0
    obtain ⟨A0, c0, rfl, hm0, _⟩ := hpv0
    have HQ0 := hideI hq0
    simp only [Nat.zero_mul, Nat.add_zero] at e0
    clear hq0
    cases hne : ((q0.phis.length : Int) != 0)
    case true =>
      have hne' := hideI hne
      go_enter Try.func41, Try.ntmps41
      go_wp2_with (first
        | (go_at_call 55; refine (limits_any f B _ _ _ _ _ HbB.out (by simp; omega)).mono ?_; rintro e w1 ⟨rfl, hb1⟩; obtain ⟨hcl, hfl⟩ := bcell hb1; have HB1 := hideI hb1; clear hb1)
        | (go_at_call 56; refine (params_any f B M _ _ _ _ _ (HpB.out.keep (HB1.out.mono (by simp; omega))) hBM (HmB.out.below HB1.out (by simp; omega)) l1).mono ?_; rintro e w2 ⟨rfl, hg2, hm2⟩; have HG2 := hideI ((below_grown HB1.out rfl).trans_grown hg2); have HM2 := hideI (hm2 _ HC2.out); clear hg2 hm2; rw [HC2.out]; have hx2 := grown_row HBOX.out HG2.out (by omega); have hks2 := hideI (Keeps.of_grown HG2.out hBM (by simp; omega)); have e02 := (hks2.out b off hb).trans ((Keeps.refl w).alloc (by omega) _ b off hb |>.trans e0)))
      go_ret
      have hno : formedM f = none := formedM_head HQ0.out (by intro e; have hne := hne'.out; rw [e] at hne; simp at hne)
      exact defines_end (by rw [hno]; rfl) (HGW.out.trans_grown HG2.out) (by rw [hno]; simp)
    case false =>
      have heq := hideI hne
      go_enter Try.func41, Try.ntmps41
      go_wp2_with (first
        | (go_at_call 55; refine (limits_any f B _ _ _ _ _ HbB.out (by simp; omega)).mono ?_; rintro e w1 ⟨rfl, hb1⟩; obtain ⟨hcl, hfl⟩ := bcell hb1; have HB1 := hideI hb1; clear hb1)
        | (go_at_call 56; refine (params_any f B M _ _ _ _ _ (HpB.out.keep (HB1.out.mono (by simp; omega))) hBM (HmB.out.below HB1.out (by simp; omega)) l1).mono ?_; rintro e w2 ⟨rfl, hg2, hm2⟩; have HG2 := hideI ((below_grown HB1.out rfl).trans_grown hg2); have HM2 := hideI (hm2 _ HC2.out); clear hg2 hm2; rw [HC2.out]; have hx2 := grown_row HBOX.out HG2.out (by omega); have hks2 := hideI (Keeps.of_grown HG2.out hBM (by simp; omega)); have e02 := (hks2.out b off hb).trans ((Keeps.refl w).alloc (by omega) _ b off hb |>.trans e0)))
      have hyes := hideI (formedM_yes HC.out HC2.out HQ0.out (by have := bne_eq_false_iff_eq.1 heq.out; exact List.eq_nil_of_length_eq_zero (by omega)))
      have hd0 : d0.length ≤ 16 := by
        have h := HC2.out
        unfold paramsStep at h
        split at h
        · injection h with h; subst h; rw [paramDefs_len]; exact l1
        · cases h
      clear hx2 e02 e0 hks2
      go_loopw [25] (fun i wr => ∃ (k : Nat) (d : Defs), k ≤ f.blocks.length ∧ i = .int .i64 k ∧ blocksStep f d0 f.blocks = blocksStep f d (f.blocks.drop k) ∧ d.length ≤ 16 + ((f.blocks.take k).map sizeB).sum ∧ MapIs wr M d ∧ w2.grownBy wr (some M)) (fun i _ => f.blocks.length - (intOf i).toNat)
      case atStart => exact ⟨0, d0, Nat.zero_le _, rfl, rfl, by simpa using hd0, HM2.out, World.grownBy.refl w2 _⟩
      case round =>
        obtain ⟨k, d, hk, rfl, ht, hdl, hMd, hg⟩ := hrel
        have HT := hideI ht
        have HDL := hideI hdl
        have HD := hideI hMd
        have HG := hideI (HG2.out.trans_grown hg)
        have HGr := hideI hg
        clear ht hdl hMd hg
        have hx := grown_row HBOX.out HG.out (by omega)
        have hsz : w.heap.size < wr.heap.size := by have := HG.out.size; simp at this; omega
        have HK := hideI (((Keeps.refl w).alloc (by omega) _).trans (Keeps.of_grown HG.out hBM (by simp; omega)))
        by_cases hlt : k < f.blocks.length
        · obtain ⟨q, hq⟩ : ∃ q, f.blocks[k]? = some q := ⟨_, List.getElem?_eq_getElem hlt⟩
          obtain ⟨b', off', pv, cv, tv, hbe, hb', e0, e1, e2, e3, e4, e5, hpv, hcv, htv, _⟩ := HX.out k q hq
          injection hbe with hbe
          injection hbe with hb1 hb2
          subst hb1 hb2
          have c0' := (HK.out b (off + k * 6) hb').trans e0
          have c1' := (HK.out b (off + k * 6 + 1) hb').trans e1
          have c2' := (HK.out b (off + k * 6 + 2) hb').trans e2
          have c3' := (HK.out b (off + k * 6 + 3) hb').trans e3
          have c4' := (HK.out b (off + k * 6 + 4) hb').trans e4
          have c5' := (HK.out b (off + k * 6 + 5) hb').trans e5
          have HP' := hideI (hpv.keeps HK.out)
          have HC' := hideI (hcv.keeps HK.out)
          have HT' := hideI (htv.keeps HK.out)
          have HQ := hideI hq
          have hsl : d.length + q.phis.length + q.code.length < 50000 := by
            have h1 := size_take_le _ _ _ hq
            have h2 := HL8.out
            have h3 := HDL.out
            omega
          have HSL := hideI hsl
          obtain ⟨PA, pc, rfl, _⟩ := hpv
          obtain ⟨CA, cc, rfl, _⟩ := hcv
          obtain ⟨TA, tc, rfl, _⟩ := htv
          clear e0 e1 e2 e3 e4 e5 hq hsl
          cases hs : blockStep f d q with
          | none =>
            have HS := hideI hs
            go_wp2_with (go_at_call 57; refine (block_any f q d _ _ _ _ M B _ _ _ _ (HP'.out.keeps ((Keeps.refl _).alloc (by omega) _)) (HC'.out.keeps ((Keeps.refl _).alloc (by omega) _)) (HT'.out.keeps ((Keeps.refl _).alloc (by omega) _)) hBM (HD.out.alloc _) HSL.out l6 l7 l2 l3 l4 l5).mono ?_; rintro e w3 ⟨rfl, hg3, hm3⟩; rw [HS.out]; have HG3 := hideI hg3; clear hg3 hm3)
            go_ret
            have hno : formedM f = none := by
              rw [hyes.out, HT.out, blocks_drop f d f.blocks k q HQ.out, HS.out]
              rfl
            exact defines_end (by rw [hno]; rfl) (((HGW.out.trans_grown HG.out).trans_grown (World.grownBy_alloc _ _ _)).trans_grown HG3.out) (by rw [hno]; simp)
          | some d' =>
            have HS := hideI hs
            go_wp2_with (go_at_call 57; refine (block_any f q d _ _ _ _ M B _ _ _ _ (HP'.out.keeps ((Keeps.refl _).alloc (by omega) _)) (HC'.out.keeps ((Keeps.refl _).alloc (by omega) _)) (HT'.out.keeps ((Keeps.refl _).alloc (by omega) _)) hBM (HD.out.alloc _) HSL.out l6 l7 l2 l3 l4 l5).mono ?_; rintro e w3 ⟨rfl, hg3, hm3⟩; rw [HS.out]; have HG3 := hideI hg3; have HM3 := hideI (hm3 _ HS.out); clear hg3 hm3)
            go_roundw
            case rel =>
              refine ⟨k + 1, d', by omega, by go_num, by rw [HT.out, blocks_drop f d f.blocks k q HQ.out, HS.out]; rfl, ?_, HM3.out, (HGr.out.trans_grown (World.grownBy_alloc _ _ _)).trans_grown HG3.out⟩
              have h1 := blockStep_len HS.out
              have h2 := HDL.out
              rw [size_take _ _ _ HQ.out]
              omega
            case measure => simp [intOf]; omega
        · have hke : formedM f = some d := by rw [hyes.out, HT.out, List.drop_of_length_le (by omega)]; rfl
          have HKE := hideI hke
          clear hke
          go_wp2
          go_ret
          refine defines_end (by rw [HKE.out]; rfl) (HGW.out.trans_grown HG.out) ?_
          intro ds h
          rw [HKE.out] at h
          injection h with h
          subst h
          exact HD.out

end Go.Proofs.Ytncmnbchkabgaaa

namespace Go.Proofs.Ytncmnbchkabgaaa
open Go.RowKit Go.Maps

structure Fr (S : List Nat) (N B : Nat) (w w' : World) : Prop where
  os : w'.os = w.os
  tape : w'.tape = w.tape
  output : w'.output = w.output
  size : w.heap.size ≤ w'.heap.size
  high : ∀ b, N ≤ b → b < w.heap.size → w'.heap[b]? = w.heap[b]?
  low : ∀ b, b < B → w'.heap[b]? = w.heap[b]?
  rest : ∀ b, b < w.heap.size → b ∉ S → w'.heap[b]? = w.heap[b]?

variable {S : List Nat} {N B : Nat} {w w' w2 : World}
theorem Fr.refl (w : World) : Fr S N B w w := ⟨rfl, rfl, rfl, Nat.le_refl _, fun _ _ _ => rfl, fun _ _ => rfl, fun _ _ _ => rfl⟩
theorem Fr.trans (h : Fr S N B w w') (k : Fr S N B w' w2) : Fr S N B w w2 :=
  ⟨k.os.trans h.os, k.tape.trans h.tape, k.output.trans h.output, Nat.le_trans h.size k.size, fun b hb hs => (k.high b hb (Nat.lt_of_lt_of_le hs h.size)).trans (h.high b hb hs), fun b hb => (k.low b hb).trans (h.low b hb),
    fun b hs hb => (k.rest b (Nat.lt_of_lt_of_le hs h.size) hb).trans (h.rest b hs hb)⟩
theorem Fr.of_below (h : Below w.heap.size w w') (hB : B ≤ w.heap.size) : Fr S N B w w' :=
  ⟨h.os, h.tape, h.output, h.size, fun b _ hs => h.block b hs, fun b hb => h.block b (by omega), fun b hs _ => h.block b hs⟩
theorem Fr.alloc (h : Fr S N B w w') (hB : B ≤ w'.heap.size) (o : Obj) : Fr S N B w (w'.alloc o) := h.trans (Fr.of_below ((Below.refl _ _).alloc (Nat.le_refl _) o) hB)
theorem Fr.keeps (h : Fr S N B w w') : Keeps B w w' := fun b o hb => World.cell?_of_block (a := ⟨b, o, none⟩) (h.low b hb)
theorem Fr.row {g : Nat} {cs : Array Value} {t : TypeId} (h : Fr S N B w w') (hg : w.heap[g]? = some (.cells cs t (0, 0))) (hN : N ≤ g) : ∀ o, w'.cell? ⟨g, o, none⟩ = cs[o]? :=
  row_cells hg (h.high g hN (Array.getElem?_eq_some_iff.1 hg).1)
theorem Fr.blk {g : Nat} {o : Obj} (h : Fr S N B w w') (hg : w.heap[g]? = some o) (hN : N ≤ g) : w'.heap[g]? = some o :=
  (h.high g hN (Array.getElem?_eq_some_iff.1 hg).1).trans hg

end Go.Proofs.Ytncmnbchkabgaaa

namespace Go.Proofs.Ytncmnbchkabgaaa.each3
open Go.RowKit Go.Maps

theorem flat_take {α β : Type} (g : α → List β) (l : List α) (k : Nat) (a : α) (h : l[k]? = some a) : (l.take (k + 1)).flatMap g = (l.take k).flatMap g ++ g a := by
  obtain ⟨hk, rfl⟩ := List.getElem?_eq_some_iff.1 h
  rw [List.take_succ_eq_append_getElem hk, List.flatMap_append]
  simp

theorem map_take_at {α β : Type} (g : α → β) (l : List α) (k : Nat) (a : α) (h : l[k]? = some a) : (l.take (k + 1)).map g = (l.take k).map g ++ [g a] := by
  obtain ⟨hk, rfl⟩ := List.getElem?_eq_some_iff.1 h
  rw [List.take_succ_eq_append_getElem hk, List.map_append]
  rfl

theorem zip_take_at {α β : Type} (l : List α) (r : List β) (k : Nat) (a : α) (b : β) (h : l[k]? = some a) (h2 : r[k]? = some b) : (l.take (k + 1)).zip (r.take (k + 1)) = (l.take k).zip (r.take k) ++ [(a, b)] := by
  obtain ⟨hk, rfl⟩ := List.getElem?_eq_some_iff.1 h
  obtain ⟨hk2, rfl⟩ := List.getElem?_eq_some_iff.1 h2
  rw [List.take_succ_eq_append_getElem hk, List.take_succ_eq_append_getElem hk2, List.zip_append (by simp; omega)]
  rfl

theorem mem_block {bs : List BlockM} {k : Nat} {q : BlockM} {u : Int × Int} (hq : bs[k]? = some q) (h : u ∈ usesBlock q) : u ∈ bs.flatMap usesBlock :=
  List.mem_flatMap.2 ⟨q, List.mem_of_getElem? hq, h⟩

theorem mem_phi {bs : List BlockM} {k j m : Nat} {q : BlockM} {p : PhiM} {v : Int} (hq : bs[k]? = some q) (hp : q.phis[j]? = some p) (hv : p.vals[m]? = some v) : (v, p.typ) ∈ bs.flatMap usesBlock :=
  mem_block hq (List.mem_append.2 (.inl (List.mem_flatMap.2 ⟨p, List.mem_of_getElem? hp, List.mem_map.2 ⟨v, List.mem_of_getElem? hv, rfl⟩⟩)))

theorem mem_instr {bs : List BlockM} {k j m : Nat} {q : BlockM} {x : InstrM} {v t : Int} (hq : bs[k]? = some q) (hp : q.code[j]? = some x) (hv : x.args[m]? = some v) (ht : (takesS x.op)[m]? = some t) : (v, t) ∈ bs.flatMap usesBlock := by
  refine mem_block hq (List.mem_append.2 (.inr (List.mem_append.2 (.inl (List.mem_flatMap.2 ⟨x, List.mem_of_getElem? hp, ?_⟩)))))
  unfold usesInstr
  exact List.mem_of_getElem? (i := m) (by rw [List.getElem?_zip_eq_some]; exact ⟨hv, ht⟩)

theorem mem_term {bs : List BlockM} {k : Nat} {q : BlockM} {u : Int × Int} (hq : bs[k]? = some q) (hu : u ∈ usesTerm q.term) : u ∈ bs.flatMap usesBlock :=
  mem_block hq (List.mem_append.2 (.inr (List.mem_append.2 (.inr hu))))

/-- one use more is seen -/
def Sees (S : List Nat) (N B : Nat) (I : List (Int × Int) → World → Prop) (a1 a2 a3 : Addr) : Prop :=
  ∀ us id taken w, I64 id → I us w → N ≤ w.heap.size → Calls Try.prog 59 #[.int .i64 id, .int .i64 taken, .pointer (some a1), .pointer (some a2), .pointer (some a3)] w fun e w' => e = .returned (.tuple #[]) ∧ I (us ++ [(id, taken)]) w' ∧ Fr S N B w w'

def Stays (I : List (Int × Int) → World → Prop) : Prop := ∀ us w w', I us w → Below w.heap.size w w' → I us w'

theorem Stays.alloc {I : List (Int × Int) → World → Prop} (h : Stays I) {us : List (Int × Int)} {w : World} (hI : I us w) (o : Obj) : I us (w.alloc o) := h us w _ hI ((Below.refl _ _).alloc (Nat.le_refl _) o)

set_option maxRecDepth 100000 in
set_option maxHeartbeats 4000000 in
theorem each_any (S : List Nat) (bs : List BlockM) (I : List (Int × Int) → World → Prop) (a1 a2 a3 : Addr) (B : Nat) (pv xv cv bv mv : Value) (us0 : List (Int × Int)) (w : World) (hbv : BlocksR w B bv bs) (hB : B ≤ w.heap.size)
    (hI : I us0 w) (hs : Sees S w.heap.size B I a1 a2 a3) (hst : Stays I) (hform : ∀ b ∈ bs, ∀ x ∈ b.code, x.args.length = (takesS x.op).length) (hid : ∀ u ∈ bs.flatMap usesBlock, I64 u.1) :
    Calls Try.prog 58 #[.agg #[pv, xv, cv, bv, mv], .func (.func 59) #[] #[.pointer (some a1), .pointer (some a2), .pointer (some a3)]] w fun e w' => e = .returned (.tuple #[]) ∧ I (us0 ++ bs.flatMap usesBlock) w' ∧ Fr S w.heap.size B w w' := by
  have HI := hideI hI
  have HS := hideI hs
  have HST := hideI hst
  have HFO := hideI hform
  have HID := hideI hid
  have HBB := hideI hbv
  obtain ⟨A, c, rfl, hbm, hbx⟩ := hbv
  have HX := hideI hbx
  clear hbx hI hs hst hform hid
  obtain ⟨W0, hW0⟩ : ∃ W0 : World, W0 = w.alloc (.cells #[pv, xv, cv, .slice A bs.length c, mv] 64) := ⟨_, rfl⟩
  have hF0 : Hid (Fr S w.heap.size B w W0) := by rw [hW0]; exact (Fr.refl w).alloc hB _
  have hbox0 : Hid (W0.heap[w.heap.size]? = some (.cells #[pv, xv, cv, .slice A bs.length c, mv] 64 (0, 0))) := by rw [hW0]; exact heap_alloc_new w _
  have hI0 : Hid (I us0 W0) := by rw [hW0]; exact HST.out.alloc HI.out _
  have HW0 := hideI hW0
  clear hW0
  go_enter Try.func58, Try.ntmps58
  go_wp2
  rw [← HW0.out]
  go_loopw [21] (fun i wr => ∃ k : Nat, k ≤ bs.length ∧ i = .int .i64 k ∧ I (us0 ++ (bs.take k).flatMap usesBlock) wr ∧ Fr S w.heap.size B W0 wr) (fun i _ => bs.length - (intOf i).toNat)
  case atStart => exact ⟨0, Nat.zero_le _, rfl, by simpa using hI0.out, Fr.refl _⟩
  case round =>
    obtain ⟨k, hk, rfl, hIk, hFk⟩ := hrel
    have HIk := hideI hIk
    have HFk := hideI hFk
    have hx := hFk.row hbox0.out (Nat.le_refl _)
    have hsz : w.heap.size < wr.heap.size := by have h1 := hFk.size; have h2 := (Array.getElem?_eq_some_iff.1 hbox0.out).1; omega
    have HK := hideI (hF0.out.trans hFk).keeps
    clear hIk hFk
    by_cases hlt : k < bs.length
    · obtain ⟨q, hq⟩ : ∃ q, bs[k]? = some q := ⟨_, List.getElem?_eq_getElem hlt⟩
      obtain ⟨b, off, qpv, qcv, qtv, rfl, hb, e0, e1, e2, e3, e4, e5, hpv, hcv, htv, _⟩ := HX.out k q hq
      have c0 := (HK.out b (off + k * 6) hb).trans e0
      have c1 := (HK.out b (off + k * 6 + 1) hb).trans e1
      have c2 := (HK.out b (off + k * 6 + 2) hb).trans e2
      have c3 := (HK.out b (off + k * 6 + 3) hb).trans e3
      have c4 := (HK.out b (off + k * 6 + 4) hb).trans e4
      have c5 := (HK.out b (off + k * 6 + 5) hb).trans e5
      have HQ := hideI hq
      obtain ⟨PA, pc, rfl, hpm, hpx⟩ := hpv
      obtain ⟨CA, cc, rfl, hcm, hcx⟩ := hcv
      obtain ⟨TA, tc, rfl, _⟩ := htv
      have HPX := hideI hpx
      have HCX := hideI hcx
      clear e0 e1 e2 e3 e4 e5 hq hpx hcx
      obtain ⟨wo, rfl⟩ : ∃ wo : World, wo = wr := ⟨_, rfl⟩
      obtain ⟨W1, hW1⟩ : ∃ W1 : World, W1 = wo.alloc (.cells #[.slice PA q.phis.length pc, .slice CA q.code.length cc, .int .i64 q.term.op, .int .i64 q.term.val, .slice TA q.term.to.length tc, .int .i64 q.term.n] 46) := ⟨_, rfl⟩
      have HF1 : Hid (Fr S w.heap.size B W0 W1) := by rw [hW1]; exact HFk.out.alloc (by omega) _
      have HI1 : Hid (I (us0 ++ (bs.take k).flatMap usesBlock) W1) := by rw [hW1]; exact HST.out.alloc HIk.out _
      have HB1 : Hid (W1.heap[wo.heap.size]? = some (.cells #[.slice PA q.phis.length pc, .slice CA q.code.length cc, .int .i64 q.term.op, .int .i64 q.term.val, .slice TA q.term.to.length tc, .int .i64 q.term.n] 46 (0, 0))) := by rw [hW1]; exact heap_alloc_new wo _
      have HW1 := hideI hW1
      clear hW1
      obtain ⟨us1, hus1⟩ : ∃ us1, us1 = us0 ++ (bs.take k).flatMap usesBlock := ⟨_, rfl⟩
      rw [← hus1] at HI1
      have HU1 := hideI hus1
      clear hus1
      go_wp2
      rw [← HW1.out]
      go_loopw [28] (fun i wr => ∃ j : Nat, j ≤ q.phis.length ∧ i = .int .i64 j ∧ I (us1 ++ (q.phis.take j).flatMap usesPhi) wr ∧ Fr S w.heap.size B W1 wr) (fun i _ => q.phis.length - (intOf i).toNat)
      case atStart => exact ⟨0, Nat.zero_le _, rfl, by simpa using HI1.out, Fr.refl _⟩
      case round =>
        obtain ⟨j, hj, rfl, hIj, hFj⟩ := hrel
        have HIj := hideI hIj
        have HFj := hideI hFj
        have hx1 := hFj.row HB1.out (by omega)
        have hsz1 : wo.heap.size < wr.heap.size := by have h1 := hFj.size; have h2 := (Array.getElem?_eq_some_iff.1 HB1.out).1; omega
        have HK1 := hideI ((hF0.out.trans HF1.out).trans hFj).keeps
        clear hIj hFj
        by_cases hlj : j < q.phis.length
        · obtain ⟨p, hp⟩ : ∃ p, q.phis[j]? = some p := ⟨_, List.getElem?_eq_getElem hlj⟩
          obtain ⟨b2, off2, fv, vv, rfl, hb2, e0, e1, e2, e3, hf, hv, _⟩ := HPX.out j p hp
          have d0 := (HK1.out b2 (off2 + j * 4) hb2).trans e0
          have d1 := (HK1.out b2 (off2 + j * 4 + 1) hb2).trans e1
          have d2 := (HK1.out b2 (off2 + j * 4 + 2) hb2).trans e2
          have d3 := (HK1.out b2 (off2 + j * 4 + 3) hb2).trans e3
          have HQ2 := hideI hp
          obtain ⟨FA, fc, rfl, _⟩ := hf
          obtain ⟨VA, vc, rfl, hvm, hvx⟩ := hv
          have HVX := hideI hvx
          clear e0 e1 e2 e3 hp hvx
          obtain ⟨wi, rfl⟩ : ∃ wi : World, wi = wr := ⟨_, rfl⟩
          obtain ⟨W2, hW2⟩ : ∃ W2 : World, W2 = wi.alloc (.cells #[.int .i64 p.id, .int .i64 p.typ, .slice FA p.fr.length fc, .slice VA p.vals.length vc] 49) := ⟨_, rfl⟩
          have HF2 : Hid (Fr S w.heap.size B W1 W2) := by rw [hW2]; exact HFj.out.alloc (by omega) _
          have HI2 : Hid (I (us1 ++ (q.phis.take j).flatMap usesPhi) W2) := by rw [hW2]; exact HST.out.alloc HIj.out _
          have HB2 : Hid (W2.heap[wi.heap.size]? = some (.cells #[.int .i64 p.id, .int .i64 p.typ, .slice FA p.fr.length fc, .slice VA p.vals.length vc] 49 (0, 0))) := by rw [hW2]; exact heap_alloc_new wi _
          have HW2 := hideI hW2
          clear hW2
          obtain ⟨us2, hus2⟩ : ∃ us2, us2 = us1 ++ (q.phis.take j).flatMap usesPhi := ⟨_, rfl⟩
          rw [← hus2] at HI2
          have HU2 := hideI hus2
          clear hus2
          go_wp2
          rw [← HW2.out]
          go_loopw [35] (fun i wr => ∃ m : Nat, m ≤ p.vals.length ∧ i = .int .i64 m ∧ I (us2 ++ (p.vals.take m).map fun v => (v, p.typ)) wr ∧ Fr S w.heap.size B W2 wr) (fun i _ => p.vals.length - (intOf i).toNat)
          case atStart => exact ⟨0, Nat.zero_le _, rfl, by simpa using HI2.out, Fr.refl _⟩
          case round =>
            obtain ⟨m, hm, rfl, hIm, hFm⟩ := hrel
            have HIm := hideI hIm
            have HFm := hideI hFm
            have hx2 := hFm.row HB2.out (by omega)
            have HK2 := hideI (((hF0.out.trans HF1.out).trans HF2.out).trans hFm).keeps
            have hsz2 : w.heap.size ≤ wr.heap.size := by have h1 := hFm.size; have h2 := (Array.getElem?_eq_some_iff.1 HB2.out).1; omega
            clear hIm hFm
            by_cases hlm : m < p.vals.length
            · obtain ⟨b3, off3, rfl, hb3, e3⟩ := HVX.out m hlm
              obtain ⟨v, hv⟩ : ∃ v, p.vals[m]? = some v := ⟨_, List.getElem?_eq_getElem hlm⟩
              rw [hv] at e3
              have f3 := (HK2.out b3 (off3 + m) hb3).trans e3
              simp only [Option.getD_some] at f3
              have HV := hideI hv
              have HIV : Hid (I64 v) := HID.out _ (mem_phi HQ.out HQ2.out hv)
              clear e3 hv
              go_wp2_with (go_at_call 59; refine (HS.out _ v p.typ _ HIV.out HIm.out hsz2).mono ?_; rintro e w3 ⟨rfl, hI3, hF3⟩; have HI3 := hideI hI3; have HF3 := hideI hF3; clear hI3 hF3)
              go_roundw
              case rel => exact ⟨m + 1, by omega, by go_num, by rw [map_take_at _ _ _ _ HV.out, ← List.append_assoc]; exact HI3.out, HFm.out.trans HF3.out⟩
              case measure => simp [intOf]; omega
            · have HIend : Hid (I (us2 ++ usesPhi p) wr) := by have := HIm.out; rw [List.take_of_length_le (by omega)] at this; exact this
              go_wp2
              go_roundw
              case rel => exact ⟨j + 1, by omega, by go_num, by rw [flat_take _ _ _ _ HQ2.out, ← List.append_assoc, ← HU2.out]; exact HIend.out, HF2.out.trans HFm.out⟩
              case measure => simp [intOf]; omega
        · have HIend : Hid (I (us1 ++ q.phis.flatMap usesPhi) wr) := by have := HIj.out; rw [List.take_of_length_le (by omega)] at this; exact this
          go_wp2
          obtain ⟨wp, rfl⟩ : ∃ wp : World, wp = wr := ⟨_, rfl⟩
          clear hx1 hsz1 HK1 hlj
          obtain ⟨us3, hus3⟩ : ∃ us3, us3 = us1 ++ q.phis.flatMap usesPhi := ⟨_, rfl⟩
          rw [← hus3] at HIend
          have HU3 := hideI hus3
          clear hus3
          go_loopw [49] (fun i wr => ∃ j : Nat, j ≤ q.code.length ∧ i = .int .i64 j ∧ I (us3 ++ (q.code.take j).flatMap usesInstr) wr ∧ Fr S w.heap.size B W1 wr) (fun i _ => q.code.length - (intOf i).toNat)
          case atStart => exact ⟨0, Nat.zero_le _, rfl, by simpa using HIend.out, HFj.out⟩
          case round =>
            obtain ⟨j2, hj2, rfl, hIj2, hFj2⟩ := hrel
            have HIj2 := hideI hIj2
            have HFj2 := hideI hFj2
            have hx1 := hFj2.row HB1.out (by omega)
            have hsz1 : wo.heap.size < wr.heap.size := by have h1 := hFj2.size; have h2 := (Array.getElem?_eq_some_iff.1 HB1.out).1; omega
            have HK1 := hideI ((hF0.out.trans HF1.out).trans hFj2).keeps
            clear hIj2 hFj2
            by_cases hlj2 : j2 < q.code.length
            · obtain ⟨x, hp⟩ : ∃ x, q.code[j2]? = some x := ⟨_, List.getElem?_eq_getElem hlj2⟩
              have hxl : Hid (x.args.length = (takesS x.op).length) := HFO.out q (List.mem_of_getElem? HQ.out) x (List.mem_of_getElem? hp)
              obtain ⟨b2, off2, av, rfl, hb2, e0, e1, e2, e3, hf, _⟩ := HCX.out j2 x hp
              have d0 := (HK1.out b2 (off2 + j2 * 4) hb2).trans e0
              have d1 := (HK1.out b2 (off2 + j2 * 4 + 1) hb2).trans e1
              have d2 := (HK1.out b2 (off2 + j2 * 4 + 2) hb2).trans e2
              have d3 := (HK1.out b2 (off2 + j2 * 4 + 3) hb2).trans e3
              have HQ2 := hideI hp
              obtain ⟨AA, ac, rfl, ham, hax⟩ := hf
              have HAX := hideI hax
              clear e0 e1 e2 e3 hp hax
              obtain ⟨wi, rfl⟩ : ∃ wi : World, wi = wr := ⟨_, rfl⟩
              go_wp2_with (go_at_call 65; refine (irArgs_any _ _).mono ?_; rintro e w3 ⟨tv, rfl, htv, hbA⟩; obtain ⟨TK, tkc, rfl, htm, htx⟩ := htv; have HTX := hideI htx; have HBA := hideI hbA; have hB3 : Hid (w3.heap[wi.heap.size]? = some (.cells #[.int .i64 x.op, .int .i64 x.id, .slice AA x.args.length ac, .int .i64 x.n] 53 (0, 0))) := (hbA.block _ (by simp)).trans (heap_alloc_new wi _); have hx3 := row_cells hB3.out rfl; clear htx hbA)
              have HF3 : Hid (Fr S w.heap.size B W1 w3) := (HFj2.out.alloc (by omega) _).trans (Fr.of_below HBA.out (by simp; omega))
              have HI3 : Hid (I (us3 ++ (q.code.take j2).flatMap usesInstr) w3) := HST.out _ _ _ (HST.out.alloc HIj2.out _) HBA.out
              obtain ⟨us4, hus4⟩ : ∃ us4, us4 = us3 ++ (q.code.take j2).flatMap usesInstr := ⟨_, rfl⟩
              rw [← hus4] at HI3
              have HU4 := hideI hus4
              clear hus4 hx3 hx1
              go_loopw [63] (fun i wr => ∃ m : Nat, m ≤ x.args.length ∧ i = .int .i64 m ∧ I (us4 ++ (x.args.take m).zip ((takesS x.op).take m)) wr ∧ Fr S w.heap.size B w3 wr) (fun i _ => x.args.length - (intOf i).toNat)
              case atStart => exact ⟨0, Nat.zero_le _, rfl, by simpa using HI3.out, Fr.refl _⟩
              case round =>
                obtain ⟨m, hm, rfl, hIm, hFm⟩ := hrel
                have HIm := hideI hIm
                have HFm := hideI hFm
                have hx2 := hFm.row hB3.out (by omega)
                have HK2 := hideI ((hF0.out.trans HF1.out).trans (HF3.out.trans hFm)).keeps
                have hsz2 : w.heap.size ≤ wr.heap.size := by have h1 := hFm.size; have h2 := (Array.getElem?_eq_some_iff.1 hB3.out).1; omega
                clear hIm hFm
                by_cases hlm : m < x.args.length
                · obtain ⟨b3, off3, rfl, hb3, e3⟩ := HAX.out m hlm
                  obtain ⟨v, hv⟩ : ∃ v, x.args[m]? = some v := ⟨_, List.getElem?_eq_getElem hlm⟩
                  have hlt2 : m < (takesS x.op).length := by rw [← hxl.out]; exact hlm
                  obtain ⟨t, ht⟩ : ∃ t, (takesS x.op)[m]? = some t := ⟨_, List.getElem?_eq_getElem hlt2⟩
                  obtain ⟨g, cs, rfl, hg, hgb, hgc⟩ := HTX.out (by omega)
                  have hgx := (HFm.out.row hgb (by simp at hg; omega) m).trans (hgc m hlt2)
                  rw [hv] at e3
                  rw [ht] at hgx
                  have f3 := (HK2.out b3 (off3 + m) hb3).trans e3
                  simp only [Option.getD_some] at f3 hgx
                  have HV := hideI hv
                  have HT2 := hideI ht
                  have HIV : Hid (I64 v) := HID.out _ (mem_instr HQ.out HQ2.out hv ht)
                  clear e3 hv ht hgb hgc
                  go_wp2_with (go_at_call 59; refine (HS.out _ v t _ HIV.out HIm.out hsz2).mono ?_; rintro e w4 ⟨rfl, hI4, hF4⟩; have HI4 := hideI hI4; have HF4 := hideI hF4; clear hI4 hF4)
                  go_roundw
                  case rel => exact ⟨m + 1, by omega, by go_num, by rw [zip_take_at _ _ _ _ _ HV.out HT2.out, ← List.append_assoc]; exact HI4.out, HFm.out.trans HF4.out⟩
                  case measure => simp [intOf]; omega
                · have HIe : Hid (I (us4 ++ usesInstr x) wr) := by
                    have := HIm.out
                    rw [List.take_of_length_le (by omega), List.take_of_length_le (by rw [← hxl.out]; omega)] at this
                    exact this
                  go_wp2
                  go_roundw
                  case rel => exact ⟨j2 + 1, by omega, by go_num, by rw [flat_take _ _ _ _ HQ2.out, ← List.append_assoc, ← HU4.out]; exact HIe.out, HF3.out.trans HFm.out⟩
                  case measure => simp [intOf]; omega
            · have HIe : Hid (I (us3 ++ q.code.flatMap usesInstr) wr) := by have := HIj2.out; rw [List.take_of_length_le (by omega)] at this; exact this
              have HUB : Hid (us0 ++ (bs.take (k + 1)).flatMap usesBlock = (us3 ++ q.code.flatMap usesInstr) ++ usesTerm q.term) := by
                show _ = _
                rw [flat_take _ _ _ _ HQ.out, HU3.out, HU1.out]
                simp only [usesBlock, List.append_assoc]
              have hszr : w.heap.size ≤ wr.heap.size := by omega
              cases h2 : q.term.op == 2
              · cases h3 : q.term.op == 3
                · have hu : usesTerm q.term = [] := by
                    unfold usesTerm
                    rw [if_neg (by simpa using h2), if_neg (by simpa using h3)]
                  have HU := hideI hu
                  clear hu
                  go_wp2
                  go_roundw
                  case rel => exact ⟨k + 1, by omega, by go_num, by rw [HUB.out, HU.out, List.append_nil]; exact HIe.out, HF1.out.trans HFj2.out⟩
                  case measure => simp [intOf]; omega
                · have hu : usesTerm q.term = [(q.term.val, 0)] := by
                    unfold usesTerm
                    rw [if_neg (by simpa using h2), if_pos (by simpa using h3)]
                  have HU := hideI hu
                  have HIT : Hid (I64 q.term.val) := HID.out (q.term.val, 0) (mem_term HQ.out (by rw [hu]; exact List.mem_singleton.2 rfl))
                  clear hu
                  go_wp2_with (go_at_call 59; refine (HS.out _ _ _ _ HIT.out HIe.out hszr).mono ?_; rintro e w4 ⟨rfl, hI4, hF4⟩; have HI4 := hideI hI4; have HF4 := hideI hF4; clear hI4 hF4)
                  go_roundw
                  case rel => exact ⟨k + 1, by omega, by go_num, by rw [HUB.out, HU.out]; exact HI4.out, (HF1.out.trans HFj2.out).trans HF4.out⟩
                  case measure => simp [intOf]; omega
              · have hu : usesTerm q.term = [(q.term.val, 2)] := by
                  unfold usesTerm
                  rw [if_pos (by simpa using h2)]
                have HU := hideI hu
                have HIT : Hid (I64 q.term.val) := HID.out (q.term.val, 2) (mem_term HQ.out (by rw [hu]; exact List.mem_singleton.2 rfl))
                clear hu
                go_wp2_with (go_at_call 59; refine (HS.out _ _ _ _ HIT.out HIe.out hszr).mono ?_; rintro e w4 ⟨rfl, hI4, hF4⟩; have HI4 := hideI hI4; have HF4 := hideI hF4; clear hI4 hF4)
                go_roundw
                case rel => exact ⟨k + 1, by omega, by go_num, by rw [HUB.out, HU.out]; exact HI4.out, (HF1.out.trans HFj2.out).trans HF4.out⟩
                case measure => simp [intOf]; omega
    · go_wp2
      go_end0
      refine ⟨rfl, ?_, hF0.out.trans HFk.out⟩
      have := HIk.out
      rw [List.take_of_length_le (by omega)] at this
      exact this

end Go.Proofs.Ytncmnbchkabgaaa.each3

namespace Go.Proofs.Ytncmnbchkabgaaa
open Go.RowKit Go.Maps

/-- what the closure of checkUses keeps -/
structure SeenC (ds : Defs) (cs : Array Value) (M LB UB FB : Nat) (us : List (Int × Int)) (w : World) : Prop where
  map : MapIs w M ds
  look : w.heap[LB]? = some (.cells cs 64 (0, 0))
  unk : w.heap[UB]? = some (.cells #[.bool (unknownB ds us)] 4 (0, 0))
  unf : w.heap[FB]? = some (.cells #[.bool (unfitB ds us)] 4 (0, 0))

theorem lt_of_heap {w : World} {b : Nat} {o : Obj} (h : w.heap[b]? = some o) : b < w.heap.size := (Array.getElem?_eq_some_iff.1 h).1

theorem SeenC.stays {ds : Defs} {cs : Array Value} {M LB UB FB : Nat} : each3.Stays (SeenC ds cs M LB UB FB) := fun _ _ _ h hb =>
  ⟨h.map.below hb h.map.lt, (hb.block _ (lt_of_heap h.look)).trans h.look, (hb.block _ (lt_of_heap h.unk)).trans h.unk, (hb.block _ (lt_of_heap h.unf)).trans h.unf⟩

theorem unknown_snoc (ds : Defs) (us : List (Int × Int)) (id t : Int) : unknownB ds (us ++ [(id, t)]) = (unknownB ds us || !(ds.at id).isSome) := by
  unfold unknownB
  rw [List.any_append]
  simp

theorem unfit_snoc (ds : Defs) (us : List (Int × Int)) (id t : Int) : unfitB ds (us ++ [(id, t)]) = (unfitB ds us || (match ds.at id with | some k => t != 0 && k != t | none => false)) := by
  unfold unfitB
  rw [List.any_append, List.any_cons, List.any_nil, Bool.or_false]
  rfl

theorem MapIs.set_ {w : World} {M : Nat} {ds : Defs} (h : MapIs w M ds) {p : Addr} (u : Value) (hp : p.block ≠ M) : MapIs (w.setCell p u) M ds := by
  obtain ⟨D, ⟨es, clock, hg, r⟩, q⟩ := h
  exact ⟨D, ⟨es, clock, (Below.heap_setCell _ _ _ _ (by omega)).trans hg, r⟩, q⟩

theorem one_set {w : World} {g : Nat} {v u : Value} {t : TypeId} (h : w.heap[g]? = some (.cells #[v] t (0, 0))) : (w.setCell ⟨g, 0, none⟩ u).heap[g]? = some (.cells #[u] t (0, 0)) := one_setCell h

theorem Fr.set_ {S : List Nat} {N B : Nat} {w : World} {p : Addr} (u : Value) (h1 : B ≤ p.block) (h2 : p.block < N) (h3 : p.block ∈ S) : Fr S N B w (w.setCell p u) :=
  ⟨rfl, rfl, rfl, by simp [World.setCell], fun b hb _ => Below.heap_setCell _ _ _ _ (by omega), fun b hb => Below.heap_setCell _ _ _ _ (by omega), fun b _ hb => Below.heap_setCell _ _ _ _ (fun e => hb (e ▸ h3))⟩

theorem sees_some {ds : Defs} {cs : Array Value} {M LB UB FB : Nat} {us : List (Int × Int)} {w : World} {id taken t : Int} (h : SeenC ds cs M LB UB FB us w) (hd : ds.at id = some t) (hf : (taken != 0 && t != taken) = false) :
    SeenC ds cs M LB UB FB (us ++ [(id, taken)]) w :=
  ⟨h.map, h.look, by rw [unknown_snoc, hd]; simpa using h.unk, by rw [unfit_snoc, hd]; simp only [hf, Bool.or_false]; exact h.unf⟩

theorem sees_unfit {ds : Defs} {cs : Array Value} {M LB UB FB : Nat} {us : List (Int × Int)} {w : World} {id taken t : Int} (h : SeenC ds cs M LB UB FB us w) (hd : ds.at id = some t) (hf : (taken != 0 && t != taken) = true)
    (h1 : FB ≠ M) (h2 : FB ≠ LB) (h3 : FB ≠ UB) : SeenC ds cs M LB UB FB (us ++ [(id, taken)]) (w.setCell ⟨FB, 0, none⟩ (.bool true)) :=
  ⟨h.map.set_ _ h1, (Below.heap_setCell _ _ _ _ (by simpa using h2.symm)).trans h.look, by rw [unknown_snoc, hd, Below.heap_setCell _ _ _ _ (by simpa using h3.symm)]; simpa using h.unk, by rw [unfit_snoc, hd]; simp only [hf, Bool.or_true]; exact one_set h.unf⟩

theorem sees_none {ds : Defs} {cs : Array Value} {M LB UB FB : Nat} {us : List (Int × Int)} {w : World} {id taken : Int} (h : SeenC ds cs M LB UB FB us w) (hd : ds.at id = none)
    (h1 : UB ≠ M) (h2 : UB ≠ LB) (h3 : UB ≠ FB) : SeenC ds cs M LB UB FB (us ++ [(id, taken)]) (w.setCell ⟨UB, 0, none⟩ (.bool true)) :=
  ⟨h.map.set_ _ h1, (Below.heap_setCell _ _ _ _ (by simpa using h2.symm)).trans h.look, by rw [unknown_snoc, hd]; simp only [Option.isSome_none, Bool.not_false, Bool.or_true]; exact one_set h.unk, by rw [unfit_snoc, hd, Below.heap_setCell _ _ _ _ (by simpa using h3.symm)]; simpa using h.unf⟩

set_option maxHeartbeats 1000000 in
theorem seesC (ds : Defs) (pv av cv bv : Value) (M LB UB FB N B : Nat) (_hMB : B ≤ M) (_hMN : M < N) (hU : B ≤ UB) (hUN : UB < N) (hF : B ≤ FB) (hFN : FB < N) (h1 : FB ≠ M) (h2 : FB ≠ LB) (h3 : FB ≠ UB) (h4 : UB ≠ M) (h5 : UB ≠ LB) :
    each3.Sees [UB, FB] N B (SeenC ds #[pv, av, cv, bv, .map (some M)] M LB UB FB) ⟨LB, 0, none⟩ ⟨UB, 0, none⟩ ⟨FB, 0, none⟩ := by
  intro us id taken w hid hS hN
  obtain ⟨D, hown, hD, hwd, hat⟩ := hS.map
  have hh := MapIs.has hat id
  have ha := hat id (.lit (.int .i64 0))
  have hl := row_cells hS.look rfl
  have hu := row_cells hS.unk rfl
  have hf := row_cells hS.unf rfl
  have hfu := free_of_one hS.unk
  have hff := free_of_one hS.unf
  have HS := hideI hS
  have HI := hideI hid
  have HA := hideI ha
  clear hS hat hwd hid ha
  cases hd : ds.at id with
  | none =>
    rw [hd] at hh
    have HDD := hideI hd
    clear hd
    go_enter Try.func59, Try.ntmps59
    go_wp2_with (at_lookup; refine wpList_lookup_own_ok_int _ rfl _ _ 62 rfl 3 3 .i64 lawInt Try.underlying62 Try.underlying3 (zeroInt _) M ds.length D rfl hown _ _ rfl (keyOf_int_mk Try.underlying3 HI.out) ?_; intro c1 hat1 hwc1)
    go_end0
    exact ⟨rfl, sees_none HS.out HDD.out h4 h5 h3.symm, Fr.set_ _ hU hUN (by simp)⟩
  | some t =>
    rw [hd] at hh
    have HDD := hideI hd
    rw [hd] at HA
    clear hd
    cases c1 : (taken != 0)
    · go_enter Try.func59, Try.ntmps59
      go_wp2_with (at_lookup; refine wpList_lookup_own_ok_int _ rfl _ _ 62 rfl 3 3 .i64 lawInt Try.underlying62 Try.underlying3 (zeroInt _) M ds.length D rfl hown _ _ rfl (keyOf_int_mk Try.underlying3 HI.out) ?_; intro c1 hat1 hwc1; rw [HA.out] at hat1; injection hat1 with hat1; injection hat1 with _ hat1; subst hat1)
      go_end0
      exact ⟨rfl, sees_some HS.out HDD.out (by rw [c1]; rfl), Fr.refl _⟩
    · cases c2 : (t != taken)
      · go_enter Try.func59, Try.ntmps59
        go_wp2_with (at_lookup; refine wpList_lookup_own_ok_int _ rfl _ _ 62 rfl 3 3 .i64 lawInt Try.underlying62 Try.underlying3 (zeroInt _) M ds.length D rfl hown _ _ rfl (keyOf_int_mk Try.underlying3 HI.out) ?_; intro c1 hat1 hwc1; rw [HA.out] at hat1; injection hat1 with hat1; injection hat1 with _ hat1; subst hat1)
        go_end0
        exact ⟨rfl, sees_some HS.out HDD.out (by rw [c2]; simp), Fr.refl _⟩
      · go_enter Try.func59, Try.ntmps59
        go_wp2_with (at_lookup; refine wpList_lookup_own_ok_int _ rfl _ _ 62 rfl 3 3 .i64 lawInt Try.underlying62 Try.underlying3 (zeroInt _) M ds.length D rfl hown _ _ rfl (keyOf_int_mk Try.underlying3 HI.out) ?_; intro c1 hat1 hwc1; rw [HA.out] at hat1; injection hat1 with hat1; injection hat1 with _ hat1; subst hat1)
        go_end0
        exact ⟨rfl, sees_unfit HS.out HDD.out (by rw [c1, c2]; rfl) h1 h2 h3, Fr.set_ _ hF hFN (by simp)⟩

def usesErr (ds : Defs) (us : List (Int × Int)) : Int := if unknownB ds us then 6 else if unfitB ds us then 3 else 0

set_option maxHeartbeats 1000000 in
theorem checkUses_any (f : FuncM) (ds : Defs) (B M : Nat) (pv av cv bv : Value) (w : World) (hbv : BlocksR w B bv f.blocks) (hBM : B ≤ M) (hM : MapIs w M ds)
    (hform : ∀ b ∈ f.blocks, ∀ x ∈ b.code, x.args.length = (takesS x.op).length) (hid : ∀ u ∈ usesM f, I64 u.1) :
    Calls Try.prog 42 #[.agg #[pv, av, cv, bv, .map (some M)]] w fun e w' => e = .returned (.int .i64 (usesErr ds (usesM f))) ∧ Below w.heap.size w w' := by
  have hMl := hM.lt
  have HM := hideI hM
  have HB := hideI hbv
  have HFO := hideI hform
  have HID := hideI hid
  obtain ⟨A, c, rfl, _⟩ := hbv
  clear hM hform hid
  have W3 : ∃ W3 : World, W3 = ((w.alloc (.cells #[pv, av, cv, .slice A f.blocks.length c, .map (some M)] 64)).alloc (.cells #[.bool false] 4)).alloc (.cells #[.bool false] 4) := ⟨_, rfl⟩
  obtain ⟨W3, hW3⟩ := W3
  have hsz : W3.heap.size = w.heap.size + 3 := by rw [hW3]; simp
  have hBl : Below w.heap.size w W3 := by rw [hW3]; exact ((((Below.refl _ w).alloc (Nat.le_refl _) _).alloc (by simp) _).alloc (by simp; omega) _)
  have h0 : W3.heap[w.heap.size]? = some (.cells #[pv, av, cv, .slice A f.blocks.length c, .map (some M)] 64 (0, 0)) := by
    rw [hW3, Below.heap_alloc _ _ _ (by simp; omega), Below.heap_alloc _ _ _ (by simp)]
    exact heap_alloc_new w _
  have h1 : W3.heap[w.heap.size + 1]? = some (.cells #[.bool false] 4 (0, 0)) := by
    rw [hW3, Below.heap_alloc _ _ _ (by simp)]
    have := heap_alloc_new (w.alloc (.cells #[pv, av, cv, .slice A f.blocks.length c, .map (some M)] 64)) (.cells #[.bool false] 4)
    simpa using this
  have h2 : W3.heap[w.heap.size + 1 + 1]? = some (.cells #[.bool false] 4 (0, 0)) := by
    rw [hW3]
    have := heap_alloc_new ((w.alloc (.cells #[pv, av, cv, .slice A f.blocks.length c, .map (some M)] 64)).alloc (.cells #[.bool false] 4)) (.cells #[.bool false] 4)
    simpa using this
  have hSee : SeenC ds #[pv, av, cv, .slice A f.blocks.length c, .map (some M)] M w.heap.size (w.heap.size + 1) (w.heap.size + 1 + 1) [] W3 :=
    ⟨HM.out.below hBl hMl, h0, h1, h2⟩
  have HC := hideI (each3.each_any [w.heap.size + 1, w.heap.size + 1 + 1] f.blocks (SeenC ds #[pv, av, cv, .slice A f.blocks.length c, .map (some M)] M w.heap.size (w.heap.size + 1) (w.heap.size + 1 + 1)) ⟨w.heap.size, 0, none⟩ ⟨w.heap.size + 1, 0, none⟩ ⟨w.heap.size + 1 + 1, 0, none⟩ B pv av cv (.slice A f.blocks.length c) (.map (some M)) [] W3
    (HB.out.keeps (Keeps.of_below (hBl.mono (by omega)))) (by omega) hSee (seesC ds pv av cv _ M _ _ _ _ B hBM (by omega) (by omega) (by omega) (by omega) (by omega) (by omega) (by omega) (by omega) (by omega) (by omega)) SeenC.stays HFO.out HID.out)
  have HSZ := hideI hsz
  have HBl := hideI hBl
  clear h0 h1 h2 hSee hsz hBl
  subst hW3
  have hend : ∀ w4, SeenC ds #[pv, av, cv, .slice A f.blocks.length c, .map (some M)] M w.heap.size (w.heap.size + 1) (w.heap.size + 1 + 1) (usesM f) w4 → (∀ o, w4.cell? ⟨w.heap.size + 1, o, none⟩ = (#[Value.bool (unknownB ds (usesM f))] : Array Value)[o]?) ∧ (∀ o, w4.cell? ⟨w.heap.size + 1 + 1, o, none⟩ = (#[Value.bool (unfitB ds (usesM f))] : Array Value)[o]?) :=
    fun w4 h => ⟨row_cells h.unk rfl, row_cells h.unf rfl⟩
  have HEND := hideI hend
  clear hend
  cases c1 : unknownB ds (usesM f) <;> cases c2 : unfitB ds (usesM f)
  all_goals
    have HC1 := hideI c1
    have HC2 := hideI c2
    go_enter Try.func42, Try.ntmps42
    go_wp2_with (go_at_call 58; refine HC.out.mono ?_; rintro e w4 ⟨rfl, hS4, hF4⟩; obtain ⟨k1, k2⟩ := HEND.out w4 hS4; have HF4 := hideI hF4; clear hS4 hF4)
    go_ret
    refine ⟨by unfold usesErr; rw [HC1.out, HC2.out]; rfl, HBl.out.trans ⟨HF4.out.os, HF4.out.tape, HF4.out.output, HF4.out.size, fun b hb => HF4.out.rest b (by rw [HSZ.out]; omega) (by simp; omega)⟩⟩

end Go.Proofs.Ytncmnbchkabgaaa

namespace Go.Proofs.Ytncmnbchkabgaaa
open Go.RowKit Go.Maps

theorem formed_code {f : FuncM} : ∀ {l : List InstrM} {ds d : Defs}, codeStep f ds l = some d → ∀ x ∈ l, x.args.length = (takesS x.op).length := by
  intro l
  induction l with
  | nil => intro ds d _ x hx; cases hx
  | cons y l ih =>
    intro ds d h x hx
    unfold codeStep at h
    rw [Option.bind_eq_some_iff] at h
    obtain ⟨d1, h1, h2⟩ := h
    rcases List.mem_cons.1 hx with rfl | hx
    · unfold instrStep at h1
      split at h1
      · rename_i hi
        unfold instrB at hi
        simp only [Bool.and_eq_true, beq_iff_eq] at hi
        exact hi.2.1
      · cases h1
    · exact ih h2 x hx

theorem formed_blocks {f : FuncM} : ∀ {l : List BlockM} {ds d : Defs}, blocksStep f ds l = some d → ∀ b ∈ l, ∀ x ∈ b.code, x.args.length = (takesS x.op).length := by
  intro l
  induction l with
  | nil => intro ds d _ x hx; cases hx
  | cons y l ih =>
    intro ds d h x hx
    unfold blocksStep at h
    rw [Option.bind_eq_some_iff] at h
    obtain ⟨d1, h1, h2⟩ := h
    rcases List.mem_cons.1 hx with rfl | hx
    · unfold blockStep at h1
      rw [Option.bind_eq_some_iff] at h1
      obtain ⟨d2, h3, h4⟩ := h1
      rw [Option.bind_eq_some_iff] at h4
      obtain ⟨d3, h5, h6⟩ := h4
      exact formed_code h5
    · exact ih h2 x hx

theorem formed_args {f : FuncM} {ds : Defs} (h : formedM f = some ds) : ∀ b ∈ f.blocks, ∀ x ∈ b.code, x.args.length = (takesS x.op).length := by
  unfold formedM at h
  split at h
  · exact formed_blocks h
  · cases h

theorem look_none {f : FuncM} (h : formedM f = none) : lookM f = (2, []) := by
  unfold lookM
  rw [h]

theorem look_some {f : FuncM} {ds : Defs} (h : formedM f = some ds) : lookM f = if usesErr ds (usesM f) = 0 then (0, ds) else (usesErr ds (usesM f), []) := by
  unfold lookM usesErr
  rw [h]
  cases h1 : unknownB ds (usesM f) <;> cases h2 : unfitB ds (usesM f) <;> simp [h1, h2]

theorem grown_free {w w' : World} {g M : Nat} {cs : Array Value} {t : TypeId} (h : w.heap[g]? = some (.cells cs t (0, 0))) (hg : w.grownBy w' (some M)) (hM : g ≠ M) : ∀ o, w'.frozen? ⟨g, o, none⟩ = false := by
  intro o
  simp [World.frozen?, (hg.block _ (lt_of_heap h) (by simpa using hM)).trans h]

theorem free_row {w w' : World} {g : Nat} {cs : Array Value} {t : TypeId} (h : w.heap[g]? = some (.cells cs t (0, 0))) (hk : w'.heap[g]? = w.heap[g]?) : ∀ o, w'.frozen? ⟨g, o, none⟩ = false := by
  intro o
  simp [World.frozen?, hk.trans h]

/-- what lookAt answers: the function and the map of its values, or an error -/
def LookPost (f : FuncM) (pv bv : Value) (w : World) (e : Ending) (w' : World) : Prop :=
  Below w.heap.size w w' ∧
  ((lookM f).1 = 0 ∧ (∃ M, w.heap.size ≤ M ∧ e = .returned (.tuple #[.agg #[pv, .int .i64 f.arrays, .int .i64 f.cells, bv, .map (some M)], .int .i64 0]) ∧ MapIs w' M (lookM f).2) ∨
   (lookM f).1 ≠ 0 ∧ e = .returned (.tuple #[.agg #[.slice none 0 0, .int .i64 0, .int .i64 0, .slice none 0 0, .map none], .int .i64 (lookM f).1]))

set_option maxHeartbeats 1000000 in
theorem lookAt_any (f : FuncM) (B : Nat) (pv bv : Value) (w : World) (hpv : Ints w B pv f.params) (hbv : BlocksR w B bv f.blocks) (hB : B ≤ w.heap.size) (hid : ∀ u ∈ usesM f, I64 u.1) :
    Calls Try.prog 26 #[.agg #[pv, .int .i64 f.arrays, .int .i64 f.cells, bv]] w (LookPost f pv bv w) := by
  have HP := hideI hpv
  have HB := hideI hbv
  have HID := hideI hid
  obtain ⟨P, pc, rfl, _⟩ := hpv
  obtain ⟨A, c, rfl, _⟩ := hbv
  have hmm := @run_makeMap Try.prog
  obtain ⟨W4, hW4⟩ : ∃ W4 : World, W4 = (((w.alloc (.cells #[.slice P f.params.length pc, .int .i64 f.arrays, .int .i64 f.cells, .slice A f.blocks.length c] 25)).alloc (.cells #[.slice none 0 0, .int .i64 0, .int .i64 0, .slice none 0 0, .map none] 64)).alloc (.map #[] 0)).alloc (.cells #[.slice P f.params.length pc, .int .i64 f.arrays, .int .i64 f.cells, .slice A f.blocks.length c, .map (some (w.heap.size + 1 + 1))] 64) := ⟨_, rfl⟩
  have hsz : W4.heap.size = w.heap.size + 4 := by rw [hW4]; simp
  have hBl : Below w.heap.size w W4 := by rw [hW4]; exact (((((Below.refl _ w).alloc (Nat.le_refl _) _).alloc (by simp) _).alloc (by simp; omega) _).alloc (by simp; omega) _)
  have h1 : W4.heap[w.heap.size + 1]? = some (.cells #[.slice none 0 0, .int .i64 0, .int .i64 0, .slice none 0 0, .map none] 64 (0, 0)) := by
    rw [hW4, Below.heap_alloc _ _ _ (by simp), Below.heap_alloc _ _ _ (by simp)]
    have := heap_alloc_new (w.alloc (.cells #[.slice P f.params.length pc, .int .i64 f.arrays, .int .i64 f.cells, .slice A f.blocks.length c] 25)) (.cells #[.slice none 0 0, .int .i64 0, .int .i64 0, .slice none 0 0, .map none] 64)
    simpa using this
  have h3 : W4.heap[w.heap.size + 1 + 1 + 1]? = some (.cells #[.slice P f.params.length pc, .int .i64 f.arrays, .int .i64 f.cells, .slice A f.blocks.length c, .map (some (w.heap.size + 1 + 1))] 64 (0, 0)) := by
    rw [hW4]
    have := heap_alloc_new (((w.alloc (.cells #[.slice P f.params.length pc, .int .i64 f.arrays, .int .i64 f.cells, .slice A f.blocks.length c] 25)).alloc (.cells #[.slice none 0 0, .int .i64 0, .int .i64 0, .slice none 0 0, .map none] 64)).alloc (.map #[] 0)) (.cells #[.slice P f.params.length pc, .int .i64 f.arrays, .int .i64 f.cells, .slice A f.blocks.length c, .map (some (w.heap.size + 1 + 1))] 64)
    simpa using this
  have hm : MapIs W4 (w.heap.size + 1 + 1) [] := by
    rw [hW4]
    have := MapIs.new ((w.alloc (.cells #[.slice P f.params.length pc, .int .i64 f.arrays, .int .i64 f.cells, .slice A f.blocks.length c] 25)).alloc (.cells #[.slice none 0 0, .int .i64 0, .int .i64 0, .slice none 0 0, .map none] 64))
    exact MapIs.alloc (by simpa using this) _
  have hk : Keeps B w W4 := Keeps.of_below (hBl.mono hB)
  have HF := hideI (formed_any f B (w.heap.size + 1 + 1) (.slice P f.params.length pc) (.slice A f.blocks.length c) W4 (HP.out.keeps hk) (HB.out.keeps hk) (by omega) hm)
  have HH1 := hideI h1
  have HH3 := hideI h3
  have HSZ := hideI hsz
  have HBl := hideI hBl
  clear hid hsz hBl h1 h3 hm hk
  subst hW4
  cases hf : formedM f with
  | none =>
    have HFM := hideI hf
    clear hf
    go_enter Try.func26, Try.ntmps26
    go_wp2_with (go_at_call 41; refine HF.out.mono ?_; rintro e w5 ⟨rfl, hg5, _⟩; rw [HFM.out]; have k1 := grown_row HH1.out hg5 (by omega); have k3 := grown_row HH3.out hg5 (by omega); have q1 := grown_free HH1.out hg5 (by omega); have HG5 := hideI hg5; clear hg5)
    refine bodyPost_ret (v := .tuple #[.agg #[.slice none 0 0, .int .i64 0, .int .i64 0, .slice none 0 0, .map none], .int .i64 2]) (by simp [results, Try.results26, go_sem, k1]) rfl ?_
    refine ⟨?_, .inr ⟨by rw [look_none HFM.out]; decide, by rw [look_none HFM.out]⟩⟩
    exact (((((HBl.out.grown HG5.out (by rw [HSZ.out]; omega) (by intro k hk; injection hk with hk; omega)).setCell (by simp) _).setCell (by simp) _).setCell (by simp) _).setCell (by simp) _).setCell (by simp) _
  | some ds =>
    have HFM := hideI hf
    clear hf
    cases hc : (usesErr ds (usesM f) != 0)
    · have HC := hideI hc
      go_enter Try.func26, Try.ntmps26
      go_wp2_with (first
        | (go_at_call 41; refine HF.out.mono ?_; rintro e w5 ⟨rfl, hg5, hm5⟩; rw [HFM.out]; have k1 := grown_row HH1.out hg5 (by omega); have k3 := grown_row HH3.out hg5 (by omega); have q1 := grown_free HH1.out hg5 (by omega); have HG5 := hideI hg5; have HM5 := hideI (hm5 _ HFM.out); have hz5 : w.heap.size + 1 + 1 + 1 < w5.heap.size := (by have := hg5.size; rw [HSZ.out] at this; omega); clear hg5 hm5)
        | (go_at_call 42; refine (checkUses_any f ds B (w.heap.size + 1 + 1) _ _ _ _ _ (HB.out.keeps (Keeps.of_below ((HBl.out.grown HG5.out (by rw [HSZ.out]; omega) (by intro k hk; injection hk with hk; omega)).mono hB))) (by omega) HM5.out (formed_args HFM.out) HID.out).mono ?_; rintro e w6 ⟨rfl, hb6⟩; have k6 := row_cells (HH1.out) ((hb6.block _ (by omega)).trans (HG5.out.block _ (by rw [HSZ.out]; omega) (by simp))); have q6 := free_row HH1.out ((hb6.block _ (by omega)).trans (HG5.out.block _ (by rw [HSZ.out]; omega) (by simp))); have l6 := row_cells (HH3.out) ((hb6.block _ (by omega)).trans (HG5.out.block _ (by rw [HSZ.out]; omega) (by simp))); have HB6 := hideI hb6; clear hb6))
      have h0 : usesErr ds (usesM f) = 0 := by simpa using HC.out
      have hl : lookM f = (0, ds) := by rw [look_some HFM.out, if_pos h0]
      refine bodyPost_ret (v := .tuple #[.agg #[.slice P f.params.length pc, .int .i64 f.arrays, .int .i64 f.cells, .slice A f.blocks.length c, .map (some (w.heap.size + 1 + 1))], .int .i64 0]) (by simp [results, Try.results26, go_sem, k6]) rfl ?_
      refine ⟨((((((HBl.out.grown HG5.out (by rw [HSZ.out]; omega) (by intro k hk; injection hk with hk; omega)).trans (HB6.out.mono (by omega))).setCell (by simp) _).setCell (by simp) _).setCell (by simp) _).setCell (by simp) _).setCell (by simp) _, .inl ⟨by rw [hl], w.heap.size + 1 + 1, by omega, rfl, ?_⟩⟩
      rw [hl]
      exact (((((HM5.out.below HB6.out HM5.out.lt).set_ _ (by simp)).set_ _ (by simp)).set_ _ (by simp)).set_ _ (by simp)).set_ _ (by simp)
    · have HC := hideI hc
      go_enter Try.func26, Try.ntmps26
      go_wp2_with (first
        | (go_at_call 41; refine HF.out.mono ?_; rintro e w5 ⟨rfl, hg5, hm5⟩; rw [HFM.out]; have k1 := grown_row HH1.out hg5 (by omega); have k3 := grown_row HH3.out hg5 (by omega); have q1 := grown_free HH1.out hg5 (by omega); have HG5 := hideI hg5; have HM5 := hideI (hm5 _ HFM.out); have hz5 : w.heap.size + 1 + 1 + 1 < w5.heap.size := (by have := hg5.size; rw [HSZ.out] at this; omega); clear hg5 hm5)
        | (go_at_call 42; refine (checkUses_any f ds B (w.heap.size + 1 + 1) _ _ _ _ _ (HB.out.keeps (Keeps.of_below ((HBl.out.grown HG5.out (by rw [HSZ.out]; omega) (by intro k hk; injection hk with hk; omega)).mono hB))) (by omega) HM5.out (formed_args HFM.out) HID.out).mono ?_; rintro e w6 ⟨rfl, hb6⟩; have k6 := row_cells (HH1.out) ((hb6.block _ (by omega)).trans (HG5.out.block _ (by rw [HSZ.out]; omega) (by simp))); have q6 := free_row HH1.out ((hb6.block _ (by omega)).trans (HG5.out.block _ (by rw [HSZ.out]; omega) (by simp))); have l6 := row_cells (HH3.out) ((hb6.block _ (by omega)).trans (HG5.out.block _ (by rw [HSZ.out]; omega) (by simp))); have HB6 := hideI hb6; clear hb6))
      have h0 : usesErr ds (usesM f) ≠ 0 := by simpa using HC.out
      have hl : lookM f = (usesErr ds (usesM f), []) := by rw [look_some HFM.out, if_neg h0]
      refine bodyPost_ret (v := .tuple #[.agg #[.slice none 0 0, .int .i64 0, .int .i64 0, .slice none 0 0, .map none], .int .i64 (usesErr ds (usesM f))]) (by simp [results, Try.results26, go_sem, k6]) rfl ?_
      exact ⟨((((((HBl.out.grown HG5.out (by rw [HSZ.out]; omega) (by intro k hk; injection hk with hk; omega)).trans (HB6.out.mono (by omega))).setCell (by simp) _).setCell (by simp) _).setCell (by simp) _).setCell (by simp) _).setCell (by simp) _, .inr ⟨by rw [hl]; exact h0, by rw [hl]⟩⟩

end Go.Proofs.Ytncmnbchkabgaaa

namespace Go.Proofs.Ytncmnbchkabgaaa
open Go.RowKit Go.Maps

theorem look_bd {f : FuncM} (h : (lookM f).1 = 0) : f.blocks.length ≤ 512 := by
  cases hf : formedM f with
  | none => rw [look_none hf] at h; cases h
  | some ds =>
    unfold formedM at hf
    split at hf
    · rename_i hl
      simp only [Bool.and_eq_true] at hl
      exact (limits_bd hl.1.1).2.2.2.2.2.2.1
    · cases hf

set_option maxHeartbeats 1000000 in
theorem check_any (f : FuncM) (B : Nat) (pv bv : Value) (w : World) (hpv : Ints w B pv f.params) (hbv : BlocksR w B bv f.blocks) (hB : B ≤ w.heap.size) (hid : ∀ u ∈ usesM f, I64 u.1) :
    Calls Try.prog 11 #[.agg #[pv, .int .i64 f.arrays, .int .i64 f.cells, bv]] w fun e w' => e = .returned (.int .i64 (lookM f).1) ∧ Below w.heap.size w w' := by
  have HP := hideI hpv
  have HB := hideI hbv
  have HID := hideI hid
  obtain ⟨P, pc, rfl, _⟩ := hpv
  obtain ⟨A, c, rfl, _⟩ := hbv
  have hk : Keeps B w (w.alloc (.cells #[.slice P f.params.length pc, .int .i64 f.arrays, .int .i64 f.cells, .slice A f.blocks.length c] 25)) := (Keeps.refl w).alloc hB _
  have HL := hideI (lookAt_any f B _ _ _ (HP.out.keeps hk) (HB.out.keeps hk) (by simp; omega) HID.out)
  clear hid hk
  go_enter Try.func11, Try.ntmps11
  go_wp2_with fail
  refine HL.out.mono ?_
  rintro e w1 ⟨hb1, h | h⟩
  · obtain ⟨h0, M, hM, rfl, hm⟩ := h
    have H0 := hideI h0
    have HB1 := hideI (below_one (hb1.mono (by simp)))
    clear hb1 hm h0
    go_wp2
    go_ret
    exact ⟨by rw [H0.out]; rfl, HB1.out.alloc HB1.out.size _⟩
  · obtain ⟨h0, rfl⟩ := h
    have HB1 := hideI (below_one (hb1.mono (by simp)))
    clear hb1
    go_wp2
    go_ret
    exact ⟨rfl, HB1.out.alloc HB1.out.size _⟩

/-- what Size tells beside the error -/
def sizeOut (f : FuncM) : Int := if (lookM f).1 = 0 then (sizeM f : Int) else 0

set_option maxHeartbeats 1000000 in
theorem size_any (f : FuncM) (B : Nat) (pv bv : Value) (w : World) (hpv : Ints w B pv f.params) (hbv : BlocksR w B bv f.blocks) (hB : B ≤ w.heap.size) (hid : ∀ u ∈ usesM f, I64 u.1) :
    Calls Try.prog 21 #[.agg #[pv, .int .i64 f.arrays, .int .i64 f.cells, bv]] w fun e w' => e = .returned (.tuple #[.int .i64 (sizeOut f), .int .i64 (lookM f).1]) ∧ Below w.heap.size w w' := by
  have HP := hideI hpv
  have HB := hideI hbv
  have HID := hideI hid
  obtain ⟨P, pc, rfl, _⟩ := hpv
  obtain ⟨A, c, rfl, _⟩ := hbv
  have hk : Keeps B w (w.alloc (.cells #[.slice P f.params.length pc, .int .i64 f.arrays, .int .i64 f.cells, .slice A f.blocks.length c] 25)) := (Keeps.refl w).alloc hB _
  have HL := hideI (lookAt_any f B _ _ _ (HP.out.keeps hk) (HB.out.keeps hk) (by simp; omega) HID.out)
  clear hid hk
  go_enter Try.func21, Try.ntmps21
  go_wp2_with fail
  refine HL.out.mono ?_
  rintro e w1 ⟨hb1, h | h⟩
  · obtain ⟨h0, M, hM, rfl, hm⟩ := h
    have H0 := hideI h0
    have HB1 := hideI (below_one (hb1.mono (by simp)))
    have HS := hideI (lookSize_any f.blocks B (.slice P f.params.length pc) (.int .i64 f.arrays) (.int .i64 f.cells) (.slice A f.blocks.length c) (.map (some M)) (w1.alloc (.cells #[.slice P f.params.length pc, .int .i64 f.arrays, .int .i64 f.cells, .slice A f.blocks.length c, .map (some M)] 64)) (HB.out.keeps ((Keeps.of_below (HB1.out.mono hB)).alloc (Nat.le_trans hB HB1.out.size) _)) (by have := HB1.out.size; simp; omega) (look_bd h0))
    clear hb1 hm h0
    go_wp2_with (go_at_call 38; refine HS.out.mono ?_; rintro e w2 ⟨rfl, hb2⟩; have HB2 := hideI hb2; clear hb2)
    go_ret2
    exact ⟨by unfold sizeOut; rw [H0.out, if_pos rfl]; rfl, (HB1.out.alloc HB1.out.size _).trans (HB2.out.mono (by have := HB1.out.size; simp; omega))⟩
  · obtain ⟨h0, rfl⟩ := h
    have HB1 := hideI (below_one (hb1.mono (by simp)))
    have hb : ((lookM f).1 != 0) = true := by simpa using h0
    have H0 := hideI h0
    clear hb1 h0
    go_wp2
    go_ret2
    exact ⟨by unfold sizeOut; rw [if_neg H0.out]; rfl, HB1.out.alloc HB1.out.size _⟩

end Go.Proofs.Ytncmnbchkabgaaa

namespace Go.Proofs.Ytncmnbchkabgaaa
open Go.RowKit Go.Maps

def cntU (id : Int) (us : List (Int × Int)) : Int := (us.countP fun u => u.1 == id : Nat)

theorem cnt_snoc (id : Int) (us : List (Int × Int)) (k t : Int) : cntU id (us ++ [(k, t)]) = cntU id us + if k = id then 1 else 0 := by
  unfold cntU
  rw [List.countP_append]
  by_cases h : k = id <;> simp [h]

theorem wrap_step (c x : Int) (h : c = wrap64 x) : wrap64 (c + 1) = wrap64 (x + 1) := by
  subst h
  unfold wrap64
  omega

/-- what TypeOf and Uses tell, each beside its error -/
def typeOut (f : FuncM) (id : Int) : Int × Int := if (lookM f).1 = 0 then (match (lookM f).2.at id with | some t => (t, 0) | none => (0, 9)) else (0, (lookM f).1)

def useOut (f : FuncM) (id : Int) : Int × Int := if (lookM f).1 = 0 then (match (lookM f).2.at id with | some _ => (cntU id (usesM f), 0) | none => (0, 9)) else (0, (lookM f).1)

theorem typeOut_err {f : FuncM} {id : Int} (h : (lookM f).1 ≠ 0) : typeOut f id = (0, (lookM f).1) := by unfold typeOut; rw [if_neg h]

theorem typeOut_none {f : FuncM} {id : Int} (h : (lookM f).1 = 0) (hd : (lookM f).2.at id = none) : typeOut f id = (0, 9) := by unfold typeOut; rw [if_pos h, hd]

theorem typeOut_some {f : FuncM} {id t : Int} (h : (lookM f).1 = 0) (hd : (lookM f).2.at id = some t) : typeOut f id = (t, 0) := by unfold typeOut; rw [if_pos h, hd]

theorem useOut_err {f : FuncM} {id : Int} (h : (lookM f).1 ≠ 0) : useOut f id = (0, (lookM f).1) := by unfold useOut; rw [if_neg h]

theorem useOut_none {f : FuncM} {id : Int} (h : (lookM f).1 = 0) (hd : (lookM f).2.at id = none) : useOut f id = (0, 9) := by unfold useOut; rw [if_pos h, hd]

theorem useOut_some {f : FuncM} {id t : Int} (h : (lookM f).1 = 0) (hd : (lookM f).2.at id = some t) : useOut f id = (cntU id (usesM f), 0) := by unfold useOut; rw [if_pos h, hd]

theorem look_formed {f : FuncM} (h : (lookM f).1 = 0) : formedM f = some (lookM f).2 := by
  cases hf : formedM f with
  | none => rw [look_none hf] at h; cases h
  | some ds =>
    rw [look_some hf] at h ⊢
    split at h
    · rename_i hu
      rw [if_pos hu]
    · rename_i hu
      exact absurd h hu

theorem wrap_zero (id : Int) : wrap64 (cntU id []) = 0 := by
  unfold wrap64 cntU
  simp

theorem wrap_cnt (id : Int) (us : List (Int × Int)) (h : us.length < 4611686018427387904) : wrap64 (cntU id us) = cntU id us := by
  have h1 : us.countP (fun u => u.1 == id) ≤ us.length := List.countP_le_length
  unfold wrap64 cntU
  omega

end Go.Proofs.Ytncmnbchkabgaaa

namespace Go.Proofs.Ytncmnbchkabgaaa
open Go.RowKit Go.Maps

theorem at_some {ds : Defs} {k : Int} : (ds.at k).isSome = true ↔ k ∈ ds.map (·.1) := by
  unfold Defs.at
  rw [Option.isSome_map, List.find?_isSome]
  simp only [List.mem_map, beq_iff_eq]

theorem nodup_snoc {ds : Defs} {id t : Int} (h : (ds.map (·.1)).Nodup) (hn : ds.at id = none) : ((ds ++ [(id, t)]).map (·.1)).Nodup := by
  rw [List.map_append, List.nodup_append]
  refine ⟨h, by simp, ?_⟩
  intro a ha b hb e
  simp at hb
  subst hb e
  have := at_some.2 ha
  rw [hn] at this
  cases this

theorem addDef_nodup {np : Nat} {ds d : Defs} {id t : Int} (h : (ds.map (·.1)).Nodup) (ha : addDef np ds id t = some d) : (d.map (·.1)).Nodup := by
  unfold addDef defB at ha
  split at ha
  · rename_i hc
    injection ha with ha
    subst ha
    simp only [Bool.and_eq_true, Bool.not_eq_true', Option.isSome_eq_false_iff, Option.isNone_iff_eq_none] at hc
    exact nodup_snoc h hc.1
  · cases ha

theorem phisStep_nodup {f : FuncM} : ∀ {l : List PhiM} {ds d : Defs}, (ds.map (·.1)).Nodup → phisStep f ds l = some d → (d.map (·.1)).Nodup := by
  intro l
  induction l with
  | nil => intro ds d hn h; injection h with h; subst h; exact hn
  | cons p l ih =>
    intro ds d hn h
    unfold phisStep at h
    rw [Option.bind_eq_some_iff] at h
    obtain ⟨d1, h1, h2⟩ := h
    refine ih ?_ h2
    unfold phiStep at h1
    split at h1
    · exact addDef_nodup hn h1
    · cases h1

theorem codeStep_nodup {f : FuncM} : ∀ {l : List InstrM} {ds d : Defs}, (ds.map (·.1)).Nodup → codeStep f ds l = some d → (d.map (·.1)).Nodup := by
  intro l
  induction l with
  | nil => intro ds d hn h; injection h with h; subst h; exact hn
  | cons p l ih =>
    intro ds d hn h
    unfold codeStep at h
    rw [Option.bind_eq_some_iff] at h
    obtain ⟨d1, h1, h2⟩ := h
    refine ih ?_ h2
    unfold instrStep at h1
    split at h1
    · split at h1
      · split at h1
        · injection h1 with h1; subst h1; exact hn
        · cases h1
      · exact addDef_nodup hn h1
    · cases h1

theorem blocksStep_nodup {f : FuncM} : ∀ {l : List BlockM} {ds d : Defs}, (ds.map (·.1)).Nodup → blocksStep f ds l = some d → (d.map (·.1)).Nodup := by
  intro l
  induction l with
  | nil => intro ds d hn h; injection h with h; subst h; exact hn
  | cons p l ih =>
    intro ds d hn h
    unfold blocksStep at h
    rw [Option.bind_eq_some_iff] at h
    obtain ⟨d1, h1, h2⟩ := h
    refine ih ?_ h2
    unfold blockStep at h1
    rw [Option.bind_eq_some_iff] at h1
    obtain ⟨d2, h3, h4⟩ := h1
    rw [Option.bind_eq_some_iff] at h4
    obtain ⟨d3, h5, h6⟩ := h4
    split at h6
    · injection h6 with h6
      subst h6
      exact codeStep_nodup (phisStep_nodup hn h3) h5
    · cases h6

theorem paramDefs_ge (l : List Int) : ∀ j, ∀ d ∈ paramDefs j l, (j : Int) ≤ d.1 := by
  induction l with
  | nil => intro j d h; cases h
  | cons a l ih =>
    intro j d h
    rcases List.mem_cons.1 h with rfl | h
    · exact Int.le_refl _
    · have := ih (j + 1) d h
      omega

theorem paramDefs_nodup (l : List Int) : ∀ j, ((paramDefs j l).map (·.1)).Nodup := by
  induction l with
  | nil => intro j; exact List.nodup_nil
  | cons a l ih =>
    intro j
    show (((j : Int), a).1 :: (paramDefs (j + 1) l).map (·.1)).Nodup
    rw [List.nodup_cons]
    refine ⟨fun h => ?_, ih (j + 1)⟩
    obtain ⟨d, hd, he⟩ := List.mem_map.1 h
    have := paramDefs_ge l (j + 1) d hd
    simp only at he
    omega

theorem formed_nodup {f : FuncM} {ds : Defs} (h : formedM f = some ds) : (ds.map (·.1)).Nodup := by
  unfold formedM at h
  split at h
  · exact blocksStep_nodup (paramDefs_nodup _ _) h
  · cases h

/-- all values, rising -/
def idsS (f : FuncM) : List Int := ((lookM f).2.map (·.1)).mergeSort fun x y => decide (x ≤ y)

def idsOut (f : FuncM) : List Int := if (lookM f).1 = 0 then idsS f else []

theorem idsS_len (f : FuncM) : (idsS f).length = (lookM f).2.length := by
  unfold idsS
  rw [List.length_mergeSort, List.length_map]

theorem blocksStep_len {f : FuncM} : ∀ {l : List BlockM} {ds d : Defs}, blocksStep f ds l = some d → d.length ≤ ds.length + (l.map sizeB).sum := by
  intro l
  induction l with
  | nil => intro ds d h; injection h with h; subst h; simp
  | cons p l ih =>
    intro ds d h
    unfold blocksStep at h
    rw [Option.bind_eq_some_iff] at h
    obtain ⟨d1, h1, h2⟩ := h
    have := ih h2
    have := blockStep_len h1
    simp only [List.map_cons, List.sum_cons]
    unfold sizeB
    unfold sizeB at *
    omega

theorem look_len {f : FuncM} (h : (lookM f).1 = 0) : (lookM f).2.length ≤ 4112 := by
  have hf := look_formed h
  unfold formedM at hf
  split at hf
  · rename_i hl
    simp only [Bool.and_eq_true] at hl
    have h1 := limits_bd hl.1.1
    have h2 := blocksStep_len hf
    rw [paramDefs_len] at h2
    omega
  · cases hf

end Go.Proofs.Ytncmnbchkabgaaa

namespace Go.Proofs.Ytncmnbchkabgaaa
open Go.RowKit

/-- what a step keeps: old values stay, new ones are not below 0 -/
def Grows (ds d : Defs) : Prop := (∀ x ∈ ds, x ∈ d) ∧ ∀ x ∈ d, x ∈ ds ∨ (0 ≤ x.1 ∧ x.1 ≤ 1048575)

theorem Grows.refl (ds : Defs) : Grows ds ds := ⟨fun _ h => h, fun _ h => .inl h⟩
theorem Grows.trans {a b c : Defs} (h : Grows a b) (k : Grows b c) : Grows a c :=
  ⟨fun x hx => k.1 x (h.1 x hx), fun x hx => by rcases k.2 x hx with h1 | h1; exact h.2 x h1; exact .inr h1⟩

theorem addDef_grows {np : Nat} {ds d : Defs} {id t : Int} (h : addDef np ds id t = some d) : Grows ds d := by
  unfold addDef defB at h
  split at h
  · rename_i hc
    injection h with h
    subst h
    simp only [Bool.and_eq_true] at hc
    have := within_bd hc.2
    refine ⟨fun x hx => List.mem_append_left _ hx, fun x hx => ?_⟩
    rcases List.mem_append.1 hx with hx | hx
    · exact .inl hx
    · simp at hx
      subst hx
      exact .inr (by show 0 ≤ id ∧ id ≤ 1048575; omega)
  · cases h

theorem phisStep_grows {f : FuncM} : ∀ {l : List PhiM} {ds d : Defs}, phisStep f ds l = some d → Grows ds d := by
  intro l
  induction l with
  | nil => intro ds d h; injection h with h; subst h; exact Grows.refl _
  | cons p l ih =>
    intro ds d h
    unfold phisStep at h
    rw [Option.bind_eq_some_iff] at h
    obtain ⟨d1, h1, h2⟩ := h
    refine Grows.trans ?_ (ih h2)
    unfold phiStep at h1
    split at h1
    · exact addDef_grows h1
    · cases h1

theorem codeStep_grows {f : FuncM} : ∀ {l : List InstrM} {ds d : Defs}, codeStep f ds l = some d → Grows ds d := by
  intro l
  induction l with
  | nil => intro ds d h; injection h with h; subst h; exact Grows.refl _
  | cons p l ih =>
    intro ds d h
    unfold codeStep at h
    rw [Option.bind_eq_some_iff] at h
    obtain ⟨d1, h1, h2⟩ := h
    refine Grows.trans ?_ (ih h2)
    unfold instrStep at h1
    split at h1
    · split at h1
      · split at h1
        · injection h1 with h1; subst h1; exact Grows.refl _
        · cases h1
      · exact addDef_grows h1
    · cases h1

theorem blocksStep_grows {f : FuncM} : ∀ {l : List BlockM} {ds d : Defs}, blocksStep f ds l = some d → Grows ds d := by
  intro l
  induction l with
  | nil => intro ds d h; injection h with h; subst h; exact Grows.refl _
  | cons p l ih =>
    intro ds d h
    unfold blocksStep at h
    rw [Option.bind_eq_some_iff] at h
    obtain ⟨d1, h1, h2⟩ := h
    refine Grows.trans ?_ (ih h2)
    unfold blockStep at h1
    rw [Option.bind_eq_some_iff] at h1
    obtain ⟨d2, h3, h4⟩ := h1
    rw [Option.bind_eq_some_iff] at h4
    obtain ⟨d3, h5, h6⟩ := h4
    split at h6
    · injection h6 with h6
      subst h6
      exact (phisStep_grows h3).trans (codeStep_grows h5)
    · cases h6

theorem paramDefs_mem (l : List Int) : ∀ (j k : Nat), j ≤ k → k < j + l.length → ∃ d ∈ paramDefs j l, d.1 = (k : Int) := by
  induction l with
  | nil => intro j k h1 h2; simp at h2; omega
  | cons a l ih =>
    intro j k h1 h2
    by_cases e : j = k
    · subst e
      exact ⟨_, List.mem_cons_self .., rfl⟩
    · simp only [List.length_cons] at h2
      obtain ⟨d, hd, he⟩ := ih (j + 1) k (by omega) (by omega)
      exact ⟨d, List.mem_cons_of_mem _ hd, he⟩

theorem paramDefs_lt (l : List Int) : ∀ j, ∀ d ∈ paramDefs j l, d.1 < (j + l.length : Nat) := by
  induction l with
  | nil => intro j d h; cases h
  | cons a l ih =>
    intro j d h
    simp only [List.length_cons]
    rcases List.mem_cons.1 h with rfl | h
    · show (j : Int) < _
      omega
    · have := ih (j + 1) d h
      omega

theorem formed_keys {f : FuncM} {ds : Defs} (h : formedM f = some ds) : (∀ x ∈ ds, 0 ≤ x.1 ∧ x.1 ≤ 1048575) ∧ ∀ k : Nat, k < f.params.length → (k : Int) ∈ ds.map (·.1) := by
  unfold formedM at h
  split at h
  · rename_i hc
    simp only [Bool.and_eq_true] at hc
    have hl := (limits_bd hc.1.1).1
    have hg := blocksStep_grows h
    refine ⟨fun x hx => ?_, fun k hk => ?_⟩
    · rcases hg.2 x hx with h1 | h1
      · have h2 := paramDefs_ge _ _ x h1
        have h3 := paramDefs_lt _ _ x h1
        omega
      · exact h1
    · obtain ⟨d, hd, he⟩ := paramDefs_mem f.params 0 k (by omega) (by omega)
      exact List.mem_map.2 ⟨d, hg.1 d hd, he⟩
  · cases h

/-- the number behind all values -/
def nextId (f : FuncM) : Int := match (idsS f).getLast? with | some x => x + 1 | none => f.params.length

theorem idsS_mem {f : FuncM} {x : Int} : x ∈ idsS f ↔ x ∈ (lookM f).2.map (·.1) := by
  unfold idsS
  exact (List.mergeSort_perm _ _).mem_iff

theorem idsS_sorted (f : FuncM) : (idsS f).Pairwise (· ≤ ·) := by
  have h := List.pairwise_mergeSort (le := fun x y : Int => decide (x ≤ y)) (fun a b c h1 h2 => by simp only [decide_eq_true_eq] at *; omega) (fun a b => by simp only [Bool.or_eq_true, decide_eq_true_eq]; omega) ((lookM f).2.map (·.1))
  exact h.imp (fun h => by simpa using h)

theorem last_max {l : List Int} (h : l.Pairwise (· ≤ ·)) {x : Int} (hx : l.getLast? = some x) : ∀ y ∈ l, y ≤ x := by
  intro y hy
  obtain ⟨r, rfl⟩ : ∃ r, l = r ++ [x] := by
    cases hl : l.reverse with
    | nil => have : l = [] := by simpa using hl
             subst this; cases hx
    | cons a r =>
      have hle : l = r.reverse ++ [a] := by rw [← List.reverse_reverse l, hl, List.reverse_cons]
      rw [hle, List.getLast?_append] at hx
      simp at hx
      subst hx
      exact ⟨_, hle⟩
  rw [List.pairwise_append] at h
  rcases List.mem_append.1 hy with hy | hy
  · exact h.2.2 y hy x (by simp)
  · simp at hy
    omega

theorem next_new {f : FuncM} (h : (lookM f).1 = 0) : (lookM f).2.at (nextId f) = none ∧ (f.params.length : Int) ≤ nextId f := by
  have hk := formed_keys (look_formed h)
  have hnot : nextId f ∉ (lookM f).2.map (·.1) := by
    intro hm
    rw [← idsS_mem] at hm
    unfold nextId at hm
    cases hl : (idsS f).getLast? with
    | none =>
      have : idsS f = [] := List.getLast?_eq_none_iff.1 hl
      rw [this] at hm
      cases hm
    | some x =>
      rw [hl] at hm
      have := last_max (idsS_sorted f) hl _ hm
      simp only at this
      omega
  refine ⟨?_, ?_⟩
  · cases hd : (lookM f).2.at (nextId f) with
    | none => rfl
    | some t => exact absurd (at_some.1 (by rw [hd]; rfl)) hnot
  · unfold nextId
    cases hl : (idsS f).getLast? with
    | none => exact Int.le_refl _
    | some x =>
      simp only
      rcases Nat.eq_zero_or_pos f.params.length with h0 | h0
      · have hx : x ∈ idsS f := List.mem_of_getLast? hl
        rw [idsS_mem] at hx
        obtain ⟨d, hd, rfl⟩ := List.mem_map.1 hx
        have := hk.1 d hd
        omega
      · have h1 := hk.2 (f.params.length - 1) (by omega)
        rw [← idsS_mem] at h1
        have := last_max (idsS_sorted f) hl _ h1
        omega

theorem last_bd {f : FuncM} {x : Int} (h : (lookM f).1 = 0) (hl : (idsS f).getLast? = some x) : 0 ≤ x ∧ x ≤ 1048575 := by
  have hx : x ∈ idsS f := List.mem_of_getLast? hl
  rw [idsS_mem] at hx
  obtain ⟨d, hd, rfl⟩ := List.mem_map.1 hx
  exact (formed_keys (look_formed h)).1 d hd

theorem uses_i64 {f : FuncM} (h : ∀ q ∈ f.blocks, BlockOk q) : ∀ u ∈ usesM f, I64 u.1 := by
  intro u hu
  obtain ⟨q, hq, hu⟩ := List.mem_flatMap.1 hu
  obtain ⟨h1, h2, h3⟩ := h q hq
  rcases List.mem_append.1 hu with hu | hu
  · obtain ⟨p, hp, hu⟩ := List.mem_flatMap.1 hu
    obtain ⟨v, hv, rfl⟩ := List.mem_map.1 hu
    exact (h1 p hp).2 v hv
  · rcases List.mem_append.1 hu with hu | hu
    · obtain ⟨x, hx, hu⟩ := List.mem_flatMap.1 hu
      exact h2 x hx _ (List.of_mem_zip hu).1
    · unfold usesTerm at hu
      split at hu
      · simp at hu; subst hu; exact h3
      · split at hu
        · simp at hu; subst hu; exact h3
        · cases hu

theorem flat_len {α β : Type} (g : α → List β) (M : Nat) : ∀ l : List α, (∀ a ∈ l, (g a).length ≤ M) → (l.flatMap g).length ≤ l.length * M := by
  intro l
  induction l with
  | nil => intro _; simp
  | cons a l ih =>
    intro h
    rw [List.flatMap_cons, List.length_append, List.length_cons, Nat.add_mul]
    have h1 := h a (List.mem_cons_self ..)
    have h2 := ih (fun b hb => h b (List.mem_cons_of_mem _ hb))
    omega

theorem usesBlock_len {q : BlockM} (h : BlockOk q) : (usesBlock q).length ≤ sizeB q * 140737488351232 := by
  unfold usesBlock sizeB
  rw [List.length_append, List.length_append]
  have h1 := flat_len usesPhi 140737488351232 q.phis (fun p hp => by unfold usesPhi; rw [List.length_map]; exact (h.1 p hp).1)
  have h2 := flat_len usesInstr 140737488351232 q.code (fun x _ => by
    unfold usesInstr
    rw [List.length_zip]
    have := shapeS_short x.op
    unfold takesS
    rw [List.length_map]
    omega)
  have h3 : (usesTerm q.term).length ≤ 1 := by
    unfold usesTerm
    split
    · simp
    · split <;> simp
  rw [Nat.add_mul, Nat.add_mul]
  omega

theorem uses_len_le : ∀ l : List BlockM, (∀ q ∈ l, BlockOk q) → (l.flatMap usesBlock).length ≤ (l.map sizeB).sum * 140737488351232 := by
  intro l
  induction l with
  | nil => intro _; simp
  | cons q l ih =>
    intro h
    rw [List.flatMap_cons, List.length_append, List.map_cons, List.sum_cons, Nat.add_mul]
    have h1 := usesBlock_len (h q (List.mem_cons_self ..))
    have h2 := ih (fun b hb => h b (List.mem_cons_of_mem _ hb))
    omega

theorem look_size {f : FuncM} (h : (lookM f).1 = 0) : sizeM f ≤ 4096 := by
  have hf := look_formed h
  unfold formedM at hf
  split at hf
  · rename_i hl
    simp only [Bool.and_eq_true] at hl
    exact (limits_bd hl.1.1).2.2.2.2.2.2.2
  · cases hf

theorem uses_len {f : FuncM} (h : ∀ q ∈ f.blocks, BlockOk q) (h0 : (lookM f).1 = 0) : (usesM f).length < 4611686018427387904 := by
  have h1 := uses_len_le f.blocks h
  have h2 := look_size h0
  unfold sizeM at h2
  unfold usesM
  omega

end Go.Proofs.Ytncmnbchkabgaaa
