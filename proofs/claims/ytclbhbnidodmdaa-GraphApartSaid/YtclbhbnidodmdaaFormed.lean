/- formed: a function is formed, and its values are written down. -/
import Derived.Test.YtclbhbnidodmdaaParams
namespace Go.Proofs.Ytclbhbnidodmdaa
open Go.RowKit Go.Maps

theorem formedM_no {f : FuncM} (h : limitsB f = false) : formedM f = none := by
  unfold formedM
  rw [h]
  rfl

theorem formedM_params {f : FuncM} (h : paramsStep f = none) : formedM f = none := by
  unfold paramsStep at h
  unfold formedM
  split at h
  · cases h
  · rename_i hn
    have : f.params.all isTypeB = false := by simpa using hn
    rw [this]
    simp

theorem formedM_head {f : FuncM} {q : BlockM} (hq : f.blocks[0]? = some q) (h : q.phis ≠ []) : formedM f = none := by
  unfold formedM
  have h1 : f.blocks.headD ⟨[], [], ⟨0, 0, [], 0⟩⟩ = q := by
    cases hb : f.blocks with
    | nil => rw [hb] at hq; cases hq
    | cons a l => rw [hb] at hq; simpa using hq
  have h2 : q.phis.isEmpty = false := by simpa using h
  rw [h1, h2]
  simp

theorem formedM_yes {f : FuncM} {q : BlockM} {d : Defs} (hl : limitsB f = true) (hp : paramsStep f = some d) (hq : f.blocks[0]? = some q) (h : q.phis = []) : formedM f = blocksStep f d f.blocks := by
  unfold formedM
  have h1 : f.blocks.headD ⟨[], [], ⟨0, 0, [], 0⟩⟩ = q := by
    cases hb : f.blocks with
    | nil => rw [hb] at hq; cases hq
    | cons a l => rw [hb] at hq; simpa using hq
  unfold paramsStep at hp
  split at hp
  · rename_i ha
    injection hp with hp
    subst hp
    rw [hl, ha, h1, h]
    rfl
  · cases hp

theorem blocks_drop (f : FuncM) (d : Defs) (l : List BlockM) (k : Nat) (p : BlockM) (h : l[k]? = some p) : blocksStep f d (l.drop k) = (blockStep f d p).bind fun d' => blocksStep f d' (l.drop (k + 1)) := by
  obtain ⟨hk, rfl⟩ := List.getElem?_eq_some_iff.1 h
  rw [List.drop_eq_getElem_cons hk]
  rfl

theorem phisStep_len {f : FuncM} : ∀ {l : List PhiM} {ds d : Defs}, phisStep f ds l = some d → d.length = ds.length + l.length := by
  intro l
  induction l with
  | nil => intro ds d h; injection h with h; subst h; rfl
  | cons p l ih =>
    intro ds d h
    unfold phisStep at h
    rw [Option.bind_eq_some_iff] at h
    obtain ⟨d1, h1, h2⟩ := h
    have := ih h2
    have := phiStep_len h1
    simp only [List.length_cons]
    omega

theorem codeStep_len {f : FuncM} : ∀ {l : List InstrM} {ds d : Defs}, codeStep f ds l = some d → d.length ≤ ds.length + l.length := by
  intro l
  induction l with
  | nil => intro ds d h; injection h with h; subst h; exact Nat.le_refl _
  | cons p l ih =>
    intro ds d h
    unfold codeStep at h
    rw [Option.bind_eq_some_iff] at h
    obtain ⟨d1, h1, h2⟩ := h
    have := ih h2
    have := instrStep_len h1
    simp only [List.length_cons]
    omega

theorem blockStep_len {f : FuncM} {q : BlockM} {ds d : Defs} (h : blockStep f ds q = some d) : d.length ≤ ds.length + (q.phis.length + q.code.length + 1) := by
  unfold blockStep at h
  rw [Option.bind_eq_some_iff] at h
  obtain ⟨d1, h1, h2⟩ := h
  rw [Option.bind_eq_some_iff] at h2
  obtain ⟨d2, h3, h4⟩ := h2
  split at h4
  · injection h4 with h4
    subst h4
    have := phisStep_len h1
    have := codeStep_len h3
    omega
  · cases h4

theorem sum_take_le (l : List Nat) (k : Nat) : (l.take k).sum ≤ l.sum := by
  conv => rhs; rw [← List.take_append_drop k l, List.sum_append]
  omega

theorem size_take_le (bs : List BlockM) (k : Nat) (q : BlockM) (h : bs[k]? = some q) : ((bs.take k).map sizeB).sum + (q.phis.length + q.code.length + 1) ≤ (bs.map sizeB).sum := by
  rw [← size_take bs k q h, List.map_take]
  exact sum_take_le _ _

theorem limits_bd {f : FuncM} (h : limitsB f = true) : f.params.length ≤ 16 ∧ 0 ≤ f.arrays ∧ f.arrays ≤ 8 ∧ 0 ≤ f.cells ∧ f.cells ≤ 64 ∧ 1 ≤ f.blocks.length ∧ f.blocks.length ≤ 512 ∧ (f.blocks.map sizeB).sum ≤ 4096 := by
  unfold limitsB withinB sizeM at h
  simp only [Bool.and_eq_true, decide_eq_true_eq] at h
  omega

theorem grown_row {w w' : World} {g M : Nat} {cs : Array Value} {t : TypeId} (h : w.heap[g]? = some (.cells cs t (0, 0))) (hg : w.grownBy w' (some M)) (hM : g ≠ M) : ∀ o, w'.cell? ⟨g, o, none⟩ = cs[o]? :=
  row_cells h (hg.block _ (Array.getElem?_eq_some_iff.1 h).1 (by simpa using hM))

set_option maxHeartbeats 1000000 in
theorem formed_any (f : FuncM) (B M : Nat) (pv bv : Value) (w : World) (hpv : Ints w B pv f.params) (hbv : BlocksR w B bv f.blocks) (hBM : B ≤ M) (hM : MapIs w M []) :
    Calls Try.prog 86 #[.agg #[pv, .int .i64 f.arrays, .int .i64 f.cells, bv, .map (some M)]] w (Defines (formedM f) M w) := by
  have hMl := hM.lt
  have HM := hideI hM
  have HP := hideI hpv
  have HB := hideI hbv
  obtain ⟨P, c, rfl, hpm, _⟩ := hpv
  obtain ⟨A, c2, rfl, hbm, hbx⟩ := hbv
  have HX := hideI hbx
  clear hbx hM
  obtain ⟨W0, hW0⟩ : ∃ W0 : World, W0 = w.alloc (.cells #[.slice P f.params.length c, .int .i64 f.arrays, .int .i64 f.cells, .slice A f.blocks.length c2, .map (some M)] 116) := ⟨_, rfl⟩
  have hbox : W0.heap[w.heap.size]? = some (.cells #[.slice P f.params.length c, .int .i64 f.arrays, .int .i64 f.cells, .slice A f.blocks.length c2, .map (some M)] 116 (0, 0)) := by rw [hW0]; exact heap_alloc_new w _
  have hsz0 : W0.heap.size = w.heap.size + 1 := by rw [hW0]; simp
  have hbB : BlocksR W0 B (.slice A f.blocks.length c2) f.blocks := by rw [hW0]; exact HB.out.keeps ((Keeps.refl w).alloc (by omega) _)
  have hpB : Ints W0 B (.slice P f.params.length c) f.params := by rw [hW0]; exact HP.out.alloc (by omega) _
  have hmB : MapIs W0 M [] := by rw [hW0]; exact HM.out.alloc _
  have HbB := hideI hbB
  have HpB := hideI hpB
  have HmB := hideI hmB
  have hgw : w.grownBy W0 (some M) := by rw [hW0]; exact World.grownBy_alloc _ _ _
  have HGW := hideI hgw
  have HBOX := hideI hbox
  clear hbB hpB hmB hgw hbox hsz0
  subst hW0
  cases c1 : limitsB f
  · have HC := hideI c1
    go_enter Try.func86, Try.ntmps86
    go_wp2_with (go_at_call 94; refine (limits_any f B _ _ _ _ _ HbB.out (by simp; omega)).mono ?_; rintro e w1 ⟨rfl, hb1⟩; have HB1 := hideI hb1; clear hb1)
    go_ret
    exact defines_end (by rw [formedM_no HC.out]; rfl) (HGW.out.trans_grown (below_grown HB1.out rfl)) (by rw [formedM_no HC.out]; simp)
  have HC := hideI c1
  obtain ⟨l1, l2, l3, l4, l5, l6, l7, l8⟩ := limits_bd c1
  have HL8 := hideI l8
  clear l8
  cases c2 : paramsStep f with
  | none =>
    have HC2 := hideI c2
    go_enter Try.func86, Try.ntmps86
    go_wp2_with (first
      | (go_at_call 94; refine (limits_any f B _ _ _ _ _ HbB.out (by simp; omega)).mono ?_; rintro e w1 ⟨rfl, hb1⟩; obtain ⟨hcl, hfl⟩ := bcell hb1; have HB1 := hideI hb1; clear hb1)
      | (go_at_call 95; refine (params_any f B M _ _ _ _ _ (HpB.out.keep (HB1.out.mono (by simp; omega))) hBM (HmB.out.below HB1.out (by simp; omega)) l1).mono ?_; rintro e w2 ⟨rfl, hg2, hm2⟩; have HG2 := hideI hg2; have HM2 := hideI hm2; clear hg2 hm2; rw [HC2.out]))
    go_ret
    exact defines_end (by rw [formedM_params HC2.out]; rfl) ((HGW.out.trans_grown (below_grown HB1.out rfl)).trans_grown HG2.out) (by rw [formedM_params HC2.out]; simp)
  | some d0 =>
    have HC2 := hideI c2
    obtain ⟨q0, hq0⟩ : ∃ q, f.blocks[0]? = some q := ⟨_, List.getElem?_eq_getElem (by omega)⟩
    obtain ⟨b, off, pv0, cv0, tv0, rfl, hb, e0, _, _, _, _, _, hpv0, _⟩ := HX.out 0 q0 hq0
    obtain ⟨A0, c0, rfl, hm0, _⟩ := hpv0
    have HQ0 := hideI hq0
    simp only [Nat.zero_mul, Nat.add_zero] at e0
    clear hq0
    cases hne : ((q0.phis.length : Int) != 0)
    case true =>
      have hne' := hideI hne
      go_enter Try.func86, Try.ntmps86
      go_wp2_with (first
        | (go_at_call 94; refine (limits_any f B _ _ _ _ _ HbB.out (by simp; omega)).mono ?_; rintro e w1 ⟨rfl, hb1⟩; obtain ⟨hcl, hfl⟩ := bcell hb1; have HB1 := hideI hb1; clear hb1)
        | (go_at_call 95; refine (params_any f B M _ _ _ _ _ (HpB.out.keep (HB1.out.mono (by simp; omega))) hBM (HmB.out.below HB1.out (by simp; omega)) l1).mono ?_; rintro e w2 ⟨rfl, hg2, hm2⟩; have HG2 := hideI ((below_grown HB1.out rfl).trans_grown hg2); have HM2 := hideI (hm2 _ HC2.out); clear hg2 hm2; rw [HC2.out]; have hx2 := grown_row HBOX.out HG2.out (by omega); have hks2 := hideI (Keeps.of_grown HG2.out hBM (by simp; omega)); have e02 := (hks2.out b off hb).trans ((Keeps.refl w).alloc (by omega) _ b off hb |>.trans e0)))
      go_ret
      have hno : formedM f = none := formedM_head HQ0.out (by intro e; have hne := hne'.out; rw [e] at hne; simp at hne)
      exact defines_end (by rw [hno]; rfl) (HGW.out.trans_grown HG2.out) (by rw [hno]; simp)
    case false =>
      have heq := hideI hne
      go_enter Try.func86, Try.ntmps86
      go_wp2_with (first
        | (go_at_call 94; refine (limits_any f B _ _ _ _ _ HbB.out (by simp; omega)).mono ?_; rintro e w1 ⟨rfl, hb1⟩; obtain ⟨hcl, hfl⟩ := bcell hb1; have HB1 := hideI hb1; clear hb1)
        | (go_at_call 95; refine (params_any f B M _ _ _ _ _ (HpB.out.keep (HB1.out.mono (by simp; omega))) hBM (HmB.out.below HB1.out (by simp; omega)) l1).mono ?_; rintro e w2 ⟨rfl, hg2, hm2⟩; have HG2 := hideI ((below_grown HB1.out rfl).trans_grown hg2); have HM2 := hideI (hm2 _ HC2.out); clear hg2 hm2; rw [HC2.out]; have hx2 := grown_row HBOX.out HG2.out (by omega); have hks2 := hideI (Keeps.of_grown HG2.out hBM (by simp; omega)); have e02 := (hks2.out b off hb).trans ((Keeps.refl w).alloc (by omega) _ b off hb |>.trans e0)))
      have hyes := hideI (formedM_yes HC.out HC2.out HQ0.out (by have := bne_eq_false_iff_eq.1 heq.out; exact List.eq_nil_of_length_eq_zero (by omega)))
      have hd0 : d0.length ≤ 16 := by
        have h := HC2.out
        unfold paramsStep at h
        split at h
        · injection h with h; subst h; rw [paramDefs_len]; exact l1
        · cases h
      clear hx2 e02 e0 hks2
      go_loopw [25] (fun i wr => ∃ (k : Nat) (d : Defs), k ≤ f.blocks.length ∧ i = .int .i64 k ∧ blocksStep f d0 f.blocks = blocksStep f d (f.blocks.drop k) ∧ d.length ≤ 16 + ((f.blocks.take k).map sizeB).sum ∧ MapIs wr M d ∧ w2.grownBy wr (some M)) (fun i _ => f.blocks.length - (intOf i).toNat)
      case atStart => exact ⟨0, d0, Nat.zero_le _, rfl, rfl, by simpa using hd0, HM2.out, World.grownBy.refl w2 _⟩
      case round =>
        obtain ⟨k, d, hk, rfl, ht, hdl, hMd, hg⟩ := hrel
        have HT := hideI ht
        have HDL := hideI hdl
        have HD := hideI hMd
        have HG := hideI (HG2.out.trans_grown hg)
        have HGr := hideI hg
        clear ht hdl hMd hg
        have hx := grown_row HBOX.out HG.out (by omega)
        have hsz : w.heap.size < wr.heap.size := by have := HG.out.size; simp at this; omega
        have HK := hideI (((Keeps.refl w).alloc (by omega) _).trans (Keeps.of_grown HG.out hBM (by simp; omega)))
        by_cases hlt : k < f.blocks.length
        · obtain ⟨q, hq⟩ : ∃ q, f.blocks[k]? = some q := ⟨_, List.getElem?_eq_getElem hlt⟩
          obtain ⟨b', off', pv, cv, tv, hbe, hb', e0, e1, e2, e3, e4, e5, hpv, hcv, htv, _⟩ := HX.out k q hq
          injection hbe with hbe
          injection hbe with hb1 hb2
          subst hb1 hb2
          have c0' := (HK.out b (off + k * 6) hb').trans e0
          have c1' := (HK.out b (off + k * 6 + 1) hb').trans e1
          have c2' := (HK.out b (off + k * 6 + 2) hb').trans e2
          have c3' := (HK.out b (off + k * 6 + 3) hb').trans e3
          have c4' := (HK.out b (off + k * 6 + 4) hb').trans e4
          have c5' := (HK.out b (off + k * 6 + 5) hb').trans e5
          have HP' := hideI (hpv.keeps HK.out)
          have HC' := hideI (hcv.keeps HK.out)
          have HT' := hideI (htv.keeps HK.out)
          have HQ := hideI hq
          have hsl : d.length + q.phis.length + q.code.length < 50000 := by
            have h1 := size_take_le _ _ _ hq
            have h2 := HL8.out
            have h3 := HDL.out
            omega
          have HSL := hideI hsl
          obtain ⟨PA, pc, rfl, _⟩ := hpv
          obtain ⟨CA, cc, rfl, _⟩ := hcv
          obtain ⟨TA, tc, rfl, _⟩ := htv
          clear e0 e1 e2 e3 e4 e5 hq hsl
          cases hs : blockStep f d q with
          | none =>
            have HS := hideI hs
            go_wp2_with (go_at_call 96; refine (block_any f q d _ _ _ _ M B _ _ _ _ (HP'.out.keeps ((Keeps.refl _).alloc (by omega) _)) (HC'.out.keeps ((Keeps.refl _).alloc (by omega) _)) (HT'.out.keeps ((Keeps.refl _).alloc (by omega) _)) hBM (HD.out.alloc _) HSL.out l6 l7 l2 l3 l4 l5).mono ?_; rintro e w3 ⟨rfl, hg3, hm3⟩; rw [HS.out]; have HG3 := hideI hg3; clear hg3 hm3)
            go_ret
            have hno : formedM f = none := by
              rw [hyes.out, HT.out, blocks_drop f d f.blocks k q HQ.out, HS.out]
              rfl
            exact defines_end (by rw [hno]; rfl) (((HGW.out.trans_grown HG.out).trans_grown (World.grownBy_alloc _ _ _)).trans_grown HG3.out) (by rw [hno]; simp)
          | some d' =>
            have HS := hideI hs
            go_wp2_with (go_at_call 96; refine (block_any f q d _ _ _ _ M B _ _ _ _ (HP'.out.keeps ((Keeps.refl _).alloc (by omega) _)) (HC'.out.keeps ((Keeps.refl _).alloc (by omega) _)) (HT'.out.keeps ((Keeps.refl _).alloc (by omega) _)) hBM (HD.out.alloc _) HSL.out l6 l7 l2 l3 l4 l5).mono ?_; rintro e w3 ⟨rfl, hg3, hm3⟩; rw [HS.out]; have HG3 := hideI hg3; have HM3 := hideI (hm3 _ HS.out); clear hg3 hm3)
            go_roundw
            case rel =>
              refine ⟨k + 1, d', by omega, by go_num, by rw [HT.out, blocks_drop f d f.blocks k q HQ.out, HS.out]; rfl, ?_, HM3.out, (HGr.out.trans_grown (World.grownBy_alloc _ _ _)).trans_grown HG3.out⟩
              have h1 := blockStep_len HS.out
              have h2 := HDL.out
              rw [size_take _ _ _ HQ.out]
              omega
            case measure => simp [intOf]; omega
        · have hke : formedM f = some d := by rw [hyes.out, HT.out, List.drop_of_length_le (by omega)]; rfl
          have HKE := hideI hke
          clear hke
          go_wp2
          go_ret
          refine defines_end (by rw [HKE.out]; rfl) (HGW.out.trans_grown HG.out) ?_
          intro ds h
          rw [HKE.out] at h
          injection h with h
          subst h
          exact HD.out

end Go.Proofs.Ytclbhbnidodmdaa
