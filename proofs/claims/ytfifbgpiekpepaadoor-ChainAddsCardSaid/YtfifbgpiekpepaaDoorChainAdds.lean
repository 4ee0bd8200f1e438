/- What is proved: for every list of lists of numbers, chain.Add of its first 20 answers what the reference's Add answers, or ErrArg where a chain has more than 16 numbers. No condition but the card's own: the table of the trailing zeros is as Go's library lays it. -/
import Derived.Test.YtfifbgpiekpepaaDoorChLst
import Derived.Test.YtfifbgpiekpepaaDoorRAdd
import Derived.Test.YtfifbgpiekpepaaDoorTie
import Derived.Test.YtfifbgpiekpepaaDoorCards
import Derived.ProofKit
import Derived.LaidMore
import Derived.Lay
import Derived.OpenShut
import Derived.SevenTiedAt
import Derived.Deep.DeepCutAuto
namespace Go.Proofs.YtfifbgpiekpepaaDoor.chainAdds
open Go.ChangeShapes Go.WideShapes Go.ChangeAt Go.RowKit Go.Deep Go.Proofs.YtfifbgpiekpepaaDoor.Chn

theorem cellsLists : Tryd.prog.cellsOf 24 = 1 := by kernel_rfl

/-- a list of lists as it was handed in -/
structure InLL (w : World) (v : Value) (css : List (List Int)) : Prop where
  lr : LR w w.heap.size v css
  cap : ∀ A n c, v = .slice A n c → n ≤ c
  room : ∀ c ∈ css, c.length * 8 ≤ 140737488351232

section
variable {H : Type} {enc : TypeId × Value → H} {w : World}

theorem read_lists {fuel : Nat} {v : Value} {x : DataW H × List MemPlace} (h : RdI enc w fuel 22 [v] x) (hs : SzI 22 x.1) : ∃ css, InLL w v css := by
  rcases open_slice1 Tryd.underlying22 cellsLists h with ⟨hv, _⟩ | ⟨a, len, cap, m, n, V, D, Pl, hv, _, hl, hm, hmm, hx, hi⟩
  · injection hv with hv
    subst hv
    exact ⟨[], ⟨none, 0, rfl, by simp, fun k cs hk => by simp at hk⟩, fun A n c e => by injection e with _ e1 e2; omega, fun c hc => by cases hc⟩
  · injection hv with hv
    subst hv
    simp only [if_true] at hmm
    rw [hx] at hs
    have h1 := hs.slice Tryd.underlying22
    simp only [List.length_map, List.length_range] at h1
    have hb : Tryd.prog.bytesOf 24 = 24 := bytesInts
    have h24 : len ≤ 140737488351232 := by
      have h2 := h1.1
      rw [hb] at h2
      have h3 : reachBytes = 140737488351232 := rfl
      omega
    obtain ⟨css, hcl, hcs⟩ := list_pick (α := List Int) (R := fun k cs => InL w (V k) cs) len fun k hk => by
      obtain ⟨_, hr⟩ := hi k (by omega)
      exact read_ints hr (h1.2 _ (List.mem_map.2 ⟨k, List.mem_range.2 (by omega), rfl⟩))
    subst hcl
    refine ⟨css, ⟨some a, cap, rfl, h24, fun k cs hk => ?_⟩, fun A n c e => by injection e with _ e1 e2; omega, fun c hc => ?_⟩
    · have hk2 := (List.getElem?_eq_some_iff.1 hk).1
      obtain ⟨b, off, rfl, hb⟩ := addr_at (hi 0 (by omega)).1
      refine ⟨b, off, V k, rfl, hb, ?_, (hcs k cs hk).ci⟩
      rw [← Go.WideShapes.add_plain]
      exact (hi k (by omega)).1
    · obtain ⟨k, hk⟩ := List.mem_iff_getElem?.1 hc
      exact (hcs k c hk).room

set_option maxRecDepth 100000 in
/-- an argument that is a list of lists -/
theorem arg_lists {ts : List TypeId} {ds : List (DataW H)} {base : Nat} {v : Value} {d : DataW H} {p : List MemPlace} (hok : Value.okWide Tryd.prog w .any base 22 v) (h : DataW.Trod enc Tryd.prog w 0 (fun _ => true) true 22 v d p)
    (hsz : (DataW.weightsEach Tryd.prog ts ds).all (· ≤ reachBytes) = true) {j : Nat} (ht : ts[j]? = some 22) (hd : ds[j]? = some d) : ∃ css, InLL w v css := by
  obtain ⟨a0, len, cap, rfl⟩ := okWide_slice Tryd.underlying22 hok
  obtain ⟨fuel, hf⟩ := h
  have hs : SzI 22 d := by
    intro n hn
    have h1 := List.all_eq_true.1 hsz n (DataW.weights_mem_each ht hd n hn)
    rw [decide_eq_true_eq] at h1
    exact h1
  exact read_lists (x := (d, p)) hf hs
end

theorem lr_take {w : World} {B : Nat} {A : Option Addr} {n c : Nat} {css : List (List Int)} (h : LR w B (.slice A n c) css) {k : Nat} (hk : k ≤ css.length) : LR w B (.slice A k c) (css.take k) := by
  obtain ⟨A2, c2, e, hm, hat⟩ := h
  injection e with e1 _ e3
  subst e1 e3
  refine ⟨A, c, by rw [List.length_take, Nat.min_eq_left hk], by rw [List.length_take]; omega, fun j cs hj => hat j cs ?_⟩
  rw [List.getElem?_take] at hj
  split at hj
  · exact hj
  · cases hj

/-- is a chain too long? -/
def lg (bs : List (List Int)) : Bool := bs.any fun c => decide (16 < (trimM c).length)

theorem lg_take {bs : List (List Int)} {i : Nat} {c : List Int} (h : bs[i]? = some c) : lg (bs.take (i + 1)) = (lg (bs.take i) || decide (16 < (trimM c).length)) := by
  obtain ⟨hi, rfl⟩ := List.getElem?_eq_some_iff.1 h
  rw [List.take_succ_eq_append_getElem hi]
  simp only [lg, List.any_append, List.any_cons, List.any_nil, Bool.or_false]

theorem lg_yes {bs : List (List Int)} (h : lg bs = true) : addAM bs = none := by
  refine if_pos ?_
  obtain ⟨c, hc, h1⟩ := List.any_eq_true.1 h
  exact ⟨c, hc, by simpa using h1⟩

theorem lg_no {bs : List (List Int)} (h : lg bs = false) : ∀ c ∈ bs, (trimM c).length ≤ 16 := fun c hc => by
  have h1 := List.any_eq_false.1 h c hc
  simp at h1
  omega

theorem sumW_at (bs : List (List Int)) (m j : Nat) (h : m ≤ j → tot bs j = 0) : (sumW bs m).getD j 0 = wrp (tot bs j) := by
  unfold sumW
  rcases Nat.lt_or_ge j m with hj | hj
  · rw [List.getD_eq_getElem?_getD, List.getElem?_map, List.getElem?_range hj]
    rfl
  · rw [List.getD_eq_getElem?_getD, List.getElem?_eq_none (by simpa using hj), h hj]
    rfl

theorem tot_nil : ∀ (bs : List (List Int)) (j : Nat), (∀ c ∈ bs, c.getD j 0 = 0) → tot bs j = 0
  | [], _, _ => rfl
  | c :: r, j, h => by rw [tot, h c (List.mem_cons_self ..), tot_nil r j fun d hd => h d (List.mem_cons_of_mem _ hd)]; rfl

theorem sum_same {bs : List (List Int)} (h : ∀ c ∈ bs, (trimM c).length ≤ 16) : trimM (sumW bs (maxL bs)) = trimM (sumW bs 16) := trimM_eq _ _ fun j => by
  rw [sumW_at bs (maxL bs) j fun hj => tot_nil bs j fun c hc => getD_over (m := c.length) (Nat.le_refl _) (Nat.le_trans (maxL_le bs c hc) hj), sumW_at bs 16 j fun hj => tot_nil bs j fun c hc => by
    rw [← trimM_at]
    exact getD_over (h c hc) hj]

theorem add_some {bs : List (List Int)} (h : ∀ c ∈ bs, (trimM c).length ≤ 16) : addAM bs = some (trimM (sumW bs 16)) := by
  refine (if_neg ?_).trans (if_neg ?_)
  · rintro ⟨c, hc, h1⟩
    have := h c hc
    omega
  · have h1 := trimM_len (sumW bs 16)
    have h2 : (sumW bs 16).length = 16 := by simp [sumW]
    omega

set_option maxRecDepth 100000 in
set_option maxHeartbeats 4000000 in
theorem walk (css : List (List Int)) (v : Value) (w : World) (hT : Tab w) (hx : InLL w v css) :
    Calls Tryd.prog 3 #[v] w fun e w' => e = .returned (.bool true) ∧ Below w.heap.size w w' := by
  have HT := hideI hT
  have HT0 := hT.1
  have HX := hideI hx
  obtain ⟨⟨A, c, rfl, hm, _⟩, hcap, _⟩ := hx
  have hcn := hcap _ _ _ rfl
  have HM := hideI hm
  obtain ⟨bs, hbs⟩ : ∃ bs, bs = css.take 20 := ⟨_, rfl⟩
  have HRM : Hid (∀ c ∈ bs, c.length * 8 ≤ 140737488351232) := hideI fun c hc => HX.out.room c (by rw [hbs] at hc; exact List.mem_of_mem_take hc)
  have hN20 : bs.length ≤ 20 := by rw [hbs, List.length_take]; omega
  obtain ⟨N, hN⟩ : ∃ N, N = bs.length := ⟨_, rfl⟩
  rw [← hN] at hN20
  have HN := hideI hN
  have HBS := hideI hbs
  clear hcap hT hm hN hbs
  go_enter Tryd.func3, Tryd.ntmps3
  go_upto_if 9 with fail
  go_cut [0] (fun s0 wx => s0 = .slice A N c ∧ wx = w)
  case first =>
    by_cases hl : 20 < css.length
    · have hl2 : (20 : Int) < (css.length : Int) := by omega
      have hc2 : (20 : Int) ≤ (c : Int) := by omega
      have hn20 : N = 20 := by rw [HN.out, HBS.out, List.length_take]; omega
      obtain ⟨A2, c2, e, _, hat⟩ := HX.out.lr
      injection e with e e1 e2
      subst e e2
      obtain ⟨b, off, _, rfl, _⟩ := hat 0 _ (List.getElem?_eq_getElem (by omega))
      have hc0 : ¬ c = 0 := by omega
      subst hn20
      clear hat e1
      go_wp2_with fail
      all_goals (go_meet; exact ⟨rfl, rfl⟩)
    · have hl2 : ¬ (20 : Int) < (css.length : Int) := by omega
      have hn20 : N = css.length := by rw [HN.out, HBS.out, List.length_take]; omega
      have HNC := hideI hn20
      clear hn20
      go_wp2_with fail
      all_goals (go_meet; exact ⟨by rw [HNC.out], rfl⟩)
  case rest =>
    obtain ⟨rfl, hwc⟩ := hcut
    obtain rfl := hwc.symm
    have HLR : Hid (LR w w.heap.size (.slice A N c) bs) := hideI (by
      have h1 := lr_take HX.out.lr (k := N) (by rw [HN.out, HBS.out, List.length_take]; omega)
      have h2 : css.take N = bs := by
        rw [HBS.out]
        by_cases h : 20 < css.length
        · rw [show N = 20 by rw [HN.out, HBS.out, List.length_take]; omega]
        · rw [List.take_of_length_le (by rw [HN.out, HBS.out, List.length_take]; omega), List.take_of_length_le (by omega)]
      rw [h2] at h1
      exact h1)
    have HCL : Hid (∀ (i : Nat) (cs : List Int), bs[i]? = some cs → ∃ b off, A = some ⟨b, off, none⟩ ∧ ∃ Au Lu cu, ∀ V, Below w.heap.size w V → V.cell? ⟨b, off + i, none⟩ = some (.slice Au Lu cu) ∧ Calls Tryd.prog 11 #[.slice Au Lu cu] V fun e w' => e = .returned (.bool (decide (16 < (trimM cs).length))) ∧ Below V.heap.size V w') := hideI fun i cs hcs => by
      obtain ⟨A', c', e, _, hat⟩ := HLR.out
      injection e with e e1 e2
      subst e
      obtain ⟨b, off, u, hA, hb, hcl, hu⟩ := hat i cs hcs
      have hu2 := hu
      obtain ⟨⟨Au, cu, rfl, _⟩, _⟩ := hu
      refine ⟨b, off, hA, Au, cs.length, cu, fun V hV => ⟨(hV.cell (p := ⟨b, off + i, none⟩) hb).trans hcl, refLongB_any cs w.heap.size _ V (hu2.1.keep hV) hV.size ?_⟩⟩
      have := HRM.out cs (List.mem_of_getElem? hcs)
      omega
    clear HX HM HBS hcn
    go_wp2
    go_loopw [3, 4] (fun u3 u4 wv => ∃ (i : Nat) (q : Bool), i ≤ N ∧ u4 = .int .i64 i ∧ u3 = .bool q ∧ Hid (q = lg (bs.take i)) ∧ Hid (Below w.heap.size w wv)) (fun _ u4 _ => N - (intOf u4).toNat)
    case atStart => exact ⟨0, false, Nat.zero_le _, rfl, rfl, hideI (by rw [List.take_zero]; rfl), hideI (Below.refl _ _)⟩
    case round =>
      obtain ⟨i, q, hi, rfl, rfl, HQ, HB⟩ := hrel
      by_cases hlt : i < N
      · have hl : (i : Int) < (N : Int) := by omega
        obtain ⟨cs, hcs⟩ : ∃ cs, bs[i]? = some cs := ⟨_, List.getElem?_eq_getElem (by rw [← HN.out]; exact hlt)⟩
        have HT2 := hideI (lg_take hcs)
        obtain ⟨b, off, hA, Au, Lu, cu, hV⟩ := HCL.out i cs hcs
        subst hA
        obtain ⟨hcl, hlong⟩ := hV wr HB.out
        have HLO := hideI hlong
        clear hcs hV hlong
        cases q
        · have HE : Hid (decide (16 < (trimM cs).length) = lg (bs.take (i + 1))) := hideI (by rw [HT2.out, ← HQ.out]; simp)
          go_wp2_with (go_at_call 11; go_must (refine HLO.out.mono ?_); rintro e wn ⟨rfl, hb⟩; replace HB := hideI (HB.out.trans (hb.mono HB.out.size)); clear hb)
          go_roundw
          case rel => exact ⟨i + 1, _, by omega, by go_num, rfl, HE, HB⟩
          case measure => simp [intOf]; omega
        · have HE : Hid (true = lg (bs.take (i + 1))) := hideI (by rw [HT2.out, ← HQ.out]; rfl)
          go_wp2
          go_roundw
          case rel => exact ⟨i + 1, true, by omega, by go_num, rfl, HE, HB⟩
          case measure => simp [intOf]; omega
      · have hiN : i = N := by omega
        have hnl : ¬ (i : Int) < (N : Int) := by omega
        have HQ2 : Hid (q = lg bs) := hideI (by rw [HQ.out, hiN, HN.out, List.take_length])
        have HADD := hideI (chAdd_any bs w.heap.size (.slice A N c) wr (HLR.out.keep HB.out) HB.out.size)
        clear hiN
        cases q
        · have hno := lg_no HQ2.out.symm
          have HE := hideI (add_some hno)
          have HSM := hideI (sum_same hno)
          obtain ⟨T, hT⟩ : ∃ T, T = trimM (sumW bs 16) := ⟨_, rfl⟩
          rw [← hT] at HE HSM
          have HTL : Hid (T.length ≤ 16) := hideI (by
            have h1 := trimM_len (sumW bs 16)
            have h2 : (sumW bs 16).length = 16 := by simp [sumW]
            rw [hT]
            omega)
          clear hno hT
          go_upto_region 9 with (go_at_call 12; go_must (refine HADD.out.mono ?_); rintro e wn h2; obtain ⟨A4, c4, rfl, _, hv, hb⟩ := h2.some_ HE.out; have HR4 := hideI (hv.ints (by have := HTL.out; omega)); replace HB := hideI (HB.out.trans (hb.mono HB.out.size)); clear h2 hb hv)
          go_wp2_with (first
            | (go_at_call 13; go_must (refine (awake_any _ (HT.out.keep HB.out HT0)).mono ?_); rintro e wn ⟨rfl, hb⟩; replace HR4 := hideI ((HR4.out.keep hb).more hb.size); replace HB := hideI (HB.out.trans (hb.mono HB.out.size)); clear hb)
            | (go_at_call 15; go_must (refine (refAdd_any bs w.heap.size _ _ (HLR.out.keep HB.out) HB.out.size HRM.out).mono ?_); rintro e wn ⟨vm, rfl, hv, hb⟩; rw [HSM.out] at hv; have HVM := hideI (hv.ints (by have := HTL.out; omega)); replace HR4 := hideI ((HR4.out.keep hb).more hb.size); replace HB := hideI (HB.out.trans (hb.mono HB.out.size)); clear hv hb)
            | (go_at_call 14; go_must (refine (sameInts_any _ _ _ _ T T HR4.out HVM.out).mono ?_); rintro e wn ⟨rfl, m1, hw⟩; have hb := below_of_drew hw; clear hw; replace HB := hideI (HB.out.trans (hb.mono HB.out.size)); clear hb))
          go_ret
          exact ⟨by simp, HB.out⟩
        · have HE := hideI (lg_yes HQ2.out.symm)
          go_upto_region 9 with (go_at_call 12; go_must (refine HADD.out.mono ?_); rintro e wn h2; obtain ⟨rfl, hb⟩ := h2.none_ HE.out; replace HB := hideI (HB.out.trans (hb.mono HB.out.size)); clear h2 hb)
          go_wp2_with (go_at_call 13; go_must (refine (awake_any _ (HT.out.keep HB.out HT0)).mono ?_); rintro e wn ⟨rfl, hb⟩; replace HB := hideI (HB.out.trans (hb.mono HB.out.size)); clear hb)
          go_ret
          exact ⟨by simp, HB.out⟩

set_option maxRecDepth 100000 in
theorem lifted (os : Os) (started : os.Started) (H : Type) (enc : TypeId × Value → H) :
    ReturnsInHanded {} Tryd.checked os 3 .any (fun w args => (Rows.chainAddsSpec.pre enc Tryd.prog Tryd.f3 Rows.chainAddsRow.domain false w args ∧ laidMetH Tryd.prog Rows.chainAddsRow.laid w) ∧ sizedMet enc Tryd.prog Tryd.f3 (OpenSpec.ofChange Rows.chainAddsSpec) false w args) (Rows.chainAddsSpec.post enc Tryd.prog Tryd.f3 false true false false) := by
  refine returnsInHanded_of_change_and (C := Tryd.checked) (X := fun w _ => laidMetH Tryd.prog Rows.chainAddsRow.laid w) (fun _ _ _ hh h => h.of_heap hh) own started (by kernel_rfl) Tryd.func3
    (ChangeSpec.witness_shaped (enc := enc) (C := Tryd.checked) (os := os) (X := fun w _ => laidMetH Tryd.prog Rows.chainAddsRow.laid w) false (World.laidAll Tryd.prog os Rows.chainAddsRow.laid) #[.slice none 0 0] 8 (World.laidAll_os _ _ _)
      (World.shaped_of_ZipB (by kernel_rfl) (by kernel_rfl)) (by kernel_rfl) (by kernel_rfl) (by kernel_rfl)
      (by rw [MakeChecks.laidMetH_plain _ _ _ (by kernel_rfl)]; exact laidMet_laidAll _ (by kernel_rfl) (by kernel_rfl))) ?_
  intro W base args ds gs before hval0 hW _ hsz hL _
  have hT : Tab W := tab_of rfl hL (fun w => MakeChecks.laidMetH_plain _ _ _ (by kernel_rfl))
  have hval : ∀ (j : Nat) t v, Tryd.f3.params[j]? = some t → args[j]? = some v → Value.okWide Tryd.prog W .any base t v := hval0
  have hW' := hW
  obtain ⟨p, q, hA0, hV, rfl, hfz, hnd⟩ := hW
  have hA : DataW.TrodAll enc Tryd.prog W 0 (fun _ => true) true Tryd.f3.params.toList args.toList ds p := hA0
  rw [Tryd.params3] at hA hval
  obtain ⟨v0, vs0, d0, ds0, p0, q0, hargs, rfl, rfl, h0, r0⟩ := trodAll_cons hA
  obtain ⟨rfl, rfl, rfl⟩ := trodAll_nil r0
  obtain rfl : args = #[v0] := by cases args; simp_all
  obtain ⟨rfl, rfl⟩ := trodVars_none hV
  obtain ⟨x0, hx0⟩ := arg_lists (hval 0 22 v0 rfl rfl) h0 hsz (j := 0) rfl rfl
  clear hA0 hval0
  refine (walk x0 v0 W hT hx0).mono fun e W' ⟨he, hg⟩ => ?_
  subst he
  exact ⟨_, rfl, law_post (by kernel_rfl) hW' rfl (by kernel_rfl) Tryd.underlying4 rfl rfl rfl (by rw [Tryd.params3]; decide +kernel) hg⟩

theorem over : Rows.chainAddsRow.holds Tryd.pinned (OpenSpec.ofChange Rows.chainAddsSpec) :=
  OpenClaim.holds_of_wide 3 Tryd.f3 rfl rfl rfl rfl rfl rfl rfl ⟨rfl, rfl, rfl, rfl, rfl⟩ rfl rfl rfl rfl rfl (by kernel_rfl) Tryd.func3 (by kernel_rfl)
    (of_decide_eq_true (by kernel_rfl)) (by unfold Func.isWrapper; first | (rw [if_pos (by decide +kernel)]; kernel_rfl) | (rw [if_neg (by decide +kernel)]; exact ⟨rfl, rfl⟩))
    (fun os started H enc _ => lifted os started H enc)

theorem proved : Rows.ChainAddsCardSaid :=
  Claim7.holds_tied_plain_at .later [] [.data] true Rows.chainAddsCard.stood.harness false
    over (fun _ h => by cases h) (by kernel_rfl) (fun _ h => by cases h) chainAdds_row_tie rfl ⟨rfl, rfl⟩ (by kernel_rfl) rfl
    (fun f fn hf hfn => by
      obtain rfl : f = 3 := Option.some.inj ((show Tryd.prog.funcNamed "strake/strakelaw12.ChainAdds" = some 3 by kernel_rfl).symm.trans hf) |>.symm
      obtain rfl : fn = Tryd.f3 := (Option.some.inj (Tryd.func3.symm.trans hfn)).symm
      exact ⟨by kernel_rfl, fun j t ht => by
        rw [Tryd.params3] at ht
        have hm : t ∈ [22] := by simpa using Array.mem_of_getElem? ht
        have hall : ([22].all fun u => !Tryd.prog.wantsStandIn u) = true := by kernel_rfl
        exact (show Tryd.prog.wantsStandIn t = false by simpa using List.all_eq_true.1 hall t hm)⟩)
    (by kernel_rfl)
#print axioms proved
end Go.Proofs.YtfifbgpiekpepaaDoor.chainAdds
