/- What InterpSpareUpto rests on, part 17: SpareN, Env, TwoRuns, TwoSteps, SpareW. -/
import Derived.Test.YtncmnbchkabgaaaGreatPkInterpSpareUpto16
import Derived.Deep.DeepCutAuto
import Derived.Deep.RegionHeld3

namespace Go.Proofs.YtncmnbchkabgaaaGreat
open Go.RowKit Go.Maps

/-- an owned row alone -/
abbrev RowOne (d : RowD) : Rows := fun _ => some d

def lenAt (w : World) (a : Addr) : Nat := match w.cell? a with | some (.slice _ n _) => n | _ => 0

set_option maxRecDepth 100000 in
set_option maxHeartbeats 4000000 in
theorem spare_narrow (f : FuncM) (I : InM) (pv bv av rv mv : Value) (w : World) (hF : FnIn w f pv bv) (hI : InIn w I av rv) (hc : I.args.length < f.params.length ∨ (I.arrs.length : Int) < f.arrays) (hs1 : I.args.length ≤ 1048576) (hs2 : I.arrs.length ≤ 1048576) :
    Calls Tryz.prog 3 #[.agg #[pv, .int .i64 f.arrays, .int .i64 f.cells, bv], .agg #[av, rv], mv] w fun e w' => e = .returned (.bool true) ∧ Below w.heap.size w w' := by
  have HFI := hideI hF
  have HII := hideI hI
  obtain ⟨P, pc, hpv, hpl, _⟩ := hF.par
  obtain ⟨Aa, ca, hav, _, _⟩ := hI.args
  obtain ⟨Ra, cr, hrv, _, _⟩ := hI.arrs
  subst hpv hav hrv
  obtain ⟨np, hnp⟩ : ∃ n, n = f.params.length := ⟨_, rfl⟩
  obtain ⟨na, hna⟩ : ∃ n, n = I.args.length := ⟨_, rfl⟩
  obtain ⟨nr, hnr⟩ : ∃ n, n = I.arrs.length := ⟨_, rfl⟩
  have HN := hideI (And.intro hnp (And.intro hna hnr))
  obtain ⟨W2, hW2⟩ : ∃ W2, W2 = ((w.alloc (.cells #[.slice P np pc, .int .i64 f.arrays, .int .i64 f.cells, bv] 25)).alloc (.cells #[.slice Aa na ca, .slice Ra nr cr] 28)) := ⟨_, rfl⟩
  have hb2 : Below w.heap.size w W2 := by rw [hW2]; exact below_two w _ _
  have hs2' : W2.heap.size = w.heap.size + 2 := by rw [hW2]; simp
  have hf0 : W2.heap[w.heap.size]? = some (.cells #[.slice P np pc, .int .i64 f.arrays, .int .i64 f.cells, bv] 25 (0, 0)) := by
    rw [hW2, Below.heap_alloc _ _ _ (by simp)]
    exact heap_alloc_new w _
  have hf1 : W2.heap[w.heap.size + 1]? = some (.cells #[.slice Aa na ca, .slice Ra nr cr] 28 (0, 0)) := by
    rw [hW2]
    have := heap_alloc_new (w.alloc (.cells #[.slice P np pc, .int .i64 f.arrays, .int .i64 f.cells, bv] 25)) (.cells #[.slice Aa na ca, .slice Ra nr cr] 28)
    simpa using this
  have HC0 : Hid (∀ W, Below W2.heap.size W2 W → ∀ o, W.cell? ⟨w.heap.size, o, none⟩ = (#[.slice P np pc, .int .i64 f.arrays, .int .i64 f.cells, bv] : Array Value)[o]?) := hideI fun W hW => row_cells hf0 (hW.block _ (by omega))
  have HC1 : Hid (∀ W, Below W2.heap.size W2 W → ∀ o, W.cell? ⟨w.heap.size + 1, o, none⟩ = (#[.slice Aa na ca, .slice Ra nr cr] : Array Value)[o]?) := hideI fun W hW => row_cells hf1 (hW.block _ (by omega))
  have HIA : Hid (∀ W, Below W2.heap.size W2 W → Ints W w.heap.size (.slice Aa na ca) I.args ∧ ArrsR W w.heap.size (.slice Ra nr cr) I.arrs ∧ Ints W w.heap.size (.slice P np pc) f.params ∧ BlocksR W w.heap.size bv f.blocks ∧ Below w.heap.size w W) := hideI fun W hW => by
    have hb : Below w.heap.size w W := hb2.trans (hW.mono (by omega))
    rw [hna, hnr, hnp]
    exact ⟨hI.args.keeps (Keeps.of_below hb), hI.arrs.keeps (Keeps.of_below hb), hF.par.keeps (Keeps.of_below hb), hF.blk.keeps (Keeps.of_below hb), hb⟩
  have HID := hideI (uses_i64 hF.ok)
  have HW2 := hideI hW2
  have HB2 := hideI hb2
  have HS2 := hideI hs2'
  have hna5 : na ≤ 1048576 := by omega
  have hnr5 : nr ≤ 1048576 := by omega
  have hc' : na < np ∨ (nr : Int) < f.arrays := by rw [hnp, hna, hnr]; exact hc
  have HCD := hideI hc'
  have q0 : W2.cell? ⟨w.heap.size, 0, none⟩ = some (.slice P np pc) := HC0.out W2 (Below.refl _ _) 0
  have q1 : W2.cell? ⟨w.heap.size, 1, none⟩ = some (.int .i64 f.arrays) := HC0.out W2 (Below.refl _ _) 1
  have r0 : W2.cell? ⟨w.heap.size + 1, 0, none⟩ = some (.slice Aa na ca) := HC1.out W2 (Below.refl _ _) 0
  have r1 : W2.cell? ⟨w.heap.size + 1, 1, none⟩ = some (.slice Ra nr cr) := HC1.out W2 (Below.refl _ _) 1
  rw [← hnp, ← hna, ← hnr]
  clear hF hI hW2 hb2 hs2' hf0 hf1 hc hc' hnp hna hnr hs1 hs2 hpl
  go_enter Tryz.func3, Tryz.ntmps3
  go_upto_region 1 with fail
  rw [← HW2.out]
  go_cut [23] (fun c wx => c = .bool true ∧ wx = W2)
  case first =>
    by_cases h : na < np
    · go_wp2_with fail
      go_meet
      exact ⟨rfl, rfl⟩
    · have h2 : (nr : Int) < f.arrays := HCD.out.resolve_left h
      have h3 : np ≤ na := by omega
      go_wp2_with fail
      go_meet
      exact ⟨rfl, rfl⟩
  case rest =>
    obtain ⟨rfl, hwc⟩ := hcut
    obtain rfl := hwc.symm
    go_upto_region 3 with fail
    have hs3 := (OwnC.nothing W2 (fun _ => none) (fun _ => .slice none 0 0)).make #[.slice Aa na ca, .slice Ra nr cr] 28
    obtain ⟨W3, hW3⟩ : ∃ W3, W3 = W2.alloc (.cells #[.slice Aa na ca, .slice Ra nr cr] 28) := ⟨_, rfl⟩
    obtain ⟨gW, hgW⟩ : ∃ g, g = W2.heap.size := ⟨_, rfl⟩
    rw [← hW3, ← hgW] at hs3
    rw [← hW3, ← hgW]
    have HS3 := hideI hs3
    have HS4 := hideI (hs3.empty (t0 := .fr 0 0) (fun h => h))
    have hgW2 : gW < W3.heap.size := hs3.lt (List.mem_cons_self ..)
    have r0 := HC1.out (W3.alloc (.cells #[] 3)) HS4.out.below 0
    replace r0 : (W3.alloc (.cells #[] 3)).cell? ⟨w.heap.size + 1, 0, none⟩ = some (.slice Aa na ca) := r0
    have r0' : W3.cell? ⟨w.heap.size + 1, 0, none⟩ = some (.slice Aa na ca) := HC1.out W3 hs3.below 0
    have hown4 : (W3.alloc (.cells #[] 3)).ownsRow W2.heap.size 3 1 (.slice (some ⟨W3.heap.size, 0, none⟩) 0 0) 0 (([] : List Int).map (Value.int .i64)) := by
      have h := HS4.out.own.rows (.fr 0 0) (intsRow []) (.inr rfl) (upd_same _ _ _)
      rw [upd_same] at h
      exact h
    have hb3 : W2.heap.size ≤ (W3.alloc (.cells #[] 3)).heap.size := HS4.out.below.size
    have hia := (HIA.out _ HS4.out.below).1
    have hl0 : 0 + I.args.length ≤ 4000000 := by have := HN.out.2.1; omega
    clear hs3 hW3 hgW q0 q1 r1
    go_upto_region 4 with (first
      | (at_builtin; go_loud (refine wpList_app rfl _ _ 22 rfl (.slice (some ⟨W3.heap.size, 0, none⟩) 0 0) (.slice Aa na ca) rfl rfl (app_ints (ys := []) hown4 hia hl0 hb3) ?_; intro g1 cap1 w5 hown5 hgrow5 hor5 hlt5; rw [Nat.zero_add, ← HN.out.2.1] at hown5 ⊢; have hown5' : w5.ownsRow W2.heap.size 3 1 (.slice (some ⟨g1, 0, none⟩) na cap1) (I.args).length (I.args.map (Value.int .i64)) := (by rw [← HN.out.2.1]; exact hown5); have HS5 := hideI (OwnC.grow (t0 := .fr 0 0) (d := intsRow I.args) HS4.out (.inr rfl) hown5' (by rw [upd_same]; exact hgrow5) rfl (by rw [upd_same]; rcases hor5 with h | h; exact .inl (by rw [h]; rfl); exact .inr h)); have ho := HS5.out.box (List.mem_cons_self ..) 0; have o0 : w5.cell? ⟨gW, 0, none⟩ = some (.slice Aa na ca) := ho.1; have o0z := ho.2; clear ho hown5 hown5' hgrow5 hor5 hown4 hia r0 r0')))
    have hs6 := HS5.out.store (j := 0) (.slice (some ⟨g1, 0, none⟩) na cap1)
    simp only [List.setIfInBounds_toArray, List.set_cons_zero, List.set_cons_succ] at hs6
    obtain ⟨W6, hW6⟩ : ∃ W6, W6 = w5.setCell ⟨gW, 0, none⟩ (.slice (some ⟨g1, 0, none⟩) na cap1) := ⟨_, rfl⟩
    rw [← hW6] at hs6
    rw [← hW6]
    have HS6 : Hid (OwnC W2 W6 (fun _ => some (intsRow (I.args ++ List.replicate 0 0))) (fun _ => .slice (some ⟨g1, 0, none⟩) na cap1) (fun t => t = .fr 0 0) [(gW, #[.slice (some ⟨g1, 0, none⟩) na cap1, .slice Ra nr cr], 28)]) := by
      refine hideI (hs6.congr (fun t ht => ?_) (fun t ht => ?_) (fun t ht => .inr ht))
      · subst ht
        rw [upd_same]
        simp
      · subst ht
        rw [upd_same]
    clear hs6 hW6 HS5 HS4 HS3 o0 o0z hgW2 hb3 hl0
    go_loopw [] (fun wr => ∃ (k n g cap : Nat), n = na + k ∧ (0 < k → n ≤ np ∧ np ≤ 16) ∧ Hid (OwnC W2 wr (fun _ => some (intsRow (I.args ++ List.replicate k 0))) (fun _ => .slice (some ⟨g, 0, none⟩) n cap) (fun t => t = .fr 0 0) [(gW, #[.slice (some ⟨g, 0, none⟩) n cap, .slice Ra nr cr], 28)])) (fun wr => np - lenAt wr ⟨gW, 0, none⟩)
    case atStart => exact ⟨0, na, g1, cap1, rfl, fun h => absurd h (by omega), HS6⟩
    case round =>
      clear HS6
      obtain ⟨k, n, g, cap, hn, hk, HS7⟩ := hrel
      have HNK := hideI hn
      have o0 := (HS7.out.box (List.mem_cons_self ..) 0).1
      replace o0 : wr.cell? ⟨gW, 0, none⟩ = some (.slice (some ⟨g, 0, none⟩) n cap) := o0
      have o0z := (HS7.out.box (List.mem_cons_self ..) 0).2
      have q0 : wr.cell? ⟨w.heap.size, 0, none⟩ = some (.slice P np pc) := HC0.out wr HS7.out.below 0
      have hm : lenAt wr ⟨gW, 0, none⟩ = n := by unfold lenAt; rw [o0]
      have HM := hideI hm
      clear hn hm
      by_cases hcont : n < np ∧ np ≤ 16
      · obtain ⟨h1, h2⟩ := hcont
        have hown7 : (wr.alloc (.cells #[.int .i64 0] 3)).ownsRow W2.heap.size 3 1 (.slice (some ⟨g, 0, none⟩) n cap) n ((I.args ++ List.replicate k 0).map (Value.int .i64)) := by
          have h := HS7.out.own.rows (.fr 0 0) _ rfl rfl
          have h2 : wr.ownsRow W2.heap.size 3 1 (.slice (some ⟨g, 0, none⟩) n cap) (I.args ++ List.replicate k 0).length ((I.args ++ List.replicate k 0).map (Value.int .i64)) := h
          rw [List.length_append, List.length_replicate, ← HN.out.2.1, ← HNK.out] at h2
          exact h2.alloc _
        obtain ⟨i1, hjx, hy0, hy1, hy2⟩ := info_parts int_info
        have hwr : W2.heap.size ≤ wr.heap.size := HS7.out.below.size
        go_wp2_with (first
          | (at_builtin; go_loud (refine wpList_append_lies _ rfl _ _ _ rfl W2.heap.size 3 i1 (.int .i64 0) 1 8 Tryz.underlying22 hjx hy0 hy1 hy2 rfl (by decide) _ _ _ rfl hown7 ⟨wr.heap.size, 0, none⟩ 1 1 [.int .i64 0] rfl rfl (World.news_of_block (heap_alloc_new wr (.cells #[.int .i64 0] 3))) (by simp [Value.oneCell']) (by decide) (by simp only [maxLen]; omega) (by omega) (by simp; omega) _ rfl ?_; intro g2 cap2 w8 hown8 hgrow8 hor8 _; have hown8' : w8.ownsRow W2.heap.size 3 1 (.slice (some ⟨g2, 0, none⟩) (n + 1) cap2) (I.args ++ List.replicate (k + 1) 0).length ((I.args ++ List.replicate (k + 1) 0).map (Value.int .i64)) := (by rw [List.replicate_succ', ← List.append_assoc, List.length_append, List.map_append, List.length_append, List.length_replicate, ← HN.out.2.1, ← HNK.out]; exact hown8); have HS8 := hideI (OwnC.grow (t0 := .fr 0 0) (d := intsRow (I.args ++ List.replicate (k + 1) 0)) (HS7.out.grows ((Below.refl _ _).alloc (Nat.le_refl _) _)) rfl hown8' hgrow8 rfl hor8); have ho := HS8.out.box (List.mem_cons_self ..) 0; clear o0 o0z; have o0 : w8.cell? ⟨gW, 0, none⟩ = some (.slice (some ⟨g, 0, none⟩) n cap) := ho.1; have o0z := ho.2; clear ho hown8 hown8' hgrow8 hor8 hown7 q0)))
        have hs9 := HS8.out.store (j := 0) (.slice (some ⟨g2, 0, none⟩) (n + 1) cap2)
        simp only [List.setIfInBounds_toArray, List.set_cons_zero, List.set_cons_succ] at hs9
        have hs10 := hs9.congr (D' := fun t => t = .fr 0 0) (row' := fun _ => some (intsRow (I.args ++ List.replicate (k + 1) 0))) (val' := fun _ => .slice (some ⟨g2, 0, none⟩) (n + 1) cap2) (fun t ht => by subst ht; rw [upd_same]) (fun t ht => by subst ht; rw [upd_same]) (fun t ht => ht)
        have hl9 : lenAt (w8.setCell ⟨gW, 0, none⟩ (.slice (some ⟨g2, 0, none⟩) (n + 1) cap2)) ⟨gW, 0, none⟩ = n + 1 := by
          have h := (hs10.box (List.mem_cons_self ..) 0).1
          unfold lenAt
          rw [h]
          rfl
        exact ⟨⟨k + 1, n + 1, g2, cap2, by have := HNK.out; omega, fun _ => ⟨by omega, h2⟩, hideI hs10⟩, by rw [hl9, HM.out]; omega⟩
      · go_upto_region 4 with fail
        go_cut [42] (fun c wx => c = .bool false ∧ wx = wr)
        case first =>
          by_cases h1 : n < np
          · have h2 : 16 < np := by omega
            go_wp2_with fail
            go_meet
            exact ⟨by first | rfl | (congr 1; simp; omega), rfl⟩
          · have h2 : np ≤ n := by omega
            go_wp2_with fail
            go_meet
            exact ⟨rfl, rfl⟩
        case rest =>
          obtain ⟨rfl, hwc⟩ := hcut
          obtain rfl := hwc.symm
          clear q0 o0 o0z hcont
          go_upto_region 6 with fail
          have HS8 := hideI (OwnC.emptyT (t0 := .fr 0 1) 22 HS7.out (fun h => by cases h))
          obtain ⟨us, Rb, cb, hre, HLV0, hat, hone⟩ := arrs_vals (HIA.out W2 (Below.refl _ _)).2.1
          obtain ⟨e1, e2, e3⟩ : Ra = Rb ∧ nr = I.arrs.length ∧ cr = cb := by
            injection hre with a b c
            exact ⟨a, b, c⟩
          subst e1 e3
          have hown8 : (wr.alloc (.cells #[] 22)).ownsRow W2.heap.size 22 1 (.slice (some ⟨wr.heap.size, 0, none⟩) 0 0) 0 [] := by
            have h := HS8.out.own.rows (.fr 0 1) ⟨22, 1, 0, []⟩ (.inr rfl) (upd_same _ _ _)
            rw [upd_same] at h
            exact h
          have hat' : ∀ j u, us[j]? = some u → ∃ b off, Ra = some ⟨b, off, none⟩ ∧ (wr.alloc (.cells #[] 22)).cell? ⟨b, off + j, none⟩ = some u := fun j u hj => by
            obtain ⟨b, off, h1, h2, h3⟩ := hat j u hj
            exact ⟨b, off, h1, (HS8.out.below.cell (p := ⟨b, off + j, none⟩) (by have := HS2.out; show b < W2.heap.size; omega)).trans h3⟩
          have hul : us.length = nr := by rw [HLV0.1, e2]
          have hb8 : W2.heap.size ≤ (wr.alloc (.cells #[] 22)).heap.size := HS8.out.below.size
          have r1 : (wr.alloc (.cells #[] 22)).cell? ⟨w.heap.size + 1, 1, none⟩ = some (.slice Ra nr cr) := HC1.out _ HS8.out.below 1
          have r1' : wr.cell? ⟨w.heap.size + 1, 1, none⟩ = some (.slice Ra nr cr) := HC1.out _ HS7.out.below 1
          have hl0 : 0 + nr ≤ 4000000 := by omega
          have HLV := hideI HLV0
          have HUL := hideI hul
          have HAT := hideI hat'
          have HONE := hideI hone
          clear hre HLV0 hat hone hat' e2 hul
          go_upto_region 7 with (first
            | (at_builtin; go_loud (refine wpList_app rfl _ _ 26 rfl (.slice (some ⟨wr.heap.size, 0, none⟩) 0 0) (.slice Ra nr cr) rfl rfl (app_vals (ys := []) hown8 HUL.out HAT.out HONE.out hl0 hb8) ?_; intro g2 cap2 w9 hown9 hgrow9 hor9 hlt9; rw [Nat.zero_add, List.nil_append] at hown9; rw [Nat.zero_add]; have hown9' : w9.ownsRow W2.heap.size 22 1 (.slice (some ⟨g2, 0, none⟩) nr cap2) us.length us := (by rw [HUL.out]; exact hown9); have HS9 := hideI (OwnC.grow (t0 := .fr 0 1) (d := ⟨22, 1, us.length, us⟩) HS8.out (.inr rfl) hown9' (by rw [upd_same]; exact hgrow9) rfl (by rw [upd_same]; rcases hor9 with h | h; exact .inl (by rw [h]; rfl); exact .inr h)); have hbo := HS9.out.box (List.mem_cons_self ..) 1; have o1 : w9.cell? ⟨gW, 1, none⟩ = some (.slice Ra nr cr) := hbo.1; have o1z := hbo.2; clear hbo hown9 hown9' hgrow9 hor9 r1 r1' hown8)))
          have hs10 := HS9.out.store (j := 1) (.slice (some ⟨g2, 0, none⟩) nr cap2)
          simp only [List.setIfInBounds_toArray, List.set_cons_zero, List.set_cons_succ] at hs10
          obtain ⟨W10, hW10⟩ : ∃ W, W = w9.setCell ⟨gW, 1, none⟩ (.slice (some ⟨g2, 0, none⟩) nr cap2) := ⟨_, rfl⟩
          rw [← hW10] at hs10
          rw [← hW10]
          have HS10 : Hid (OwnC W2 W10 (fun t => if t = .fr 0 1 then some ⟨22, 1, us.length, us⟩ else some (intsRow (I.args ++ List.replicate k 0))) (fun t => if t = .fr 0 1 then .slice (some ⟨g2, 0, none⟩) nr cap2 else .slice (some ⟨g, 0, none⟩) n cap) (fun t => t = .fr 0 0 ∨ t = .fr 0 1) [(gW, #[.slice (some ⟨g, 0, none⟩) n cap, .slice (some ⟨g2, 0, none⟩) nr cap2], 28)]) := by
            refine hideI (hs10.congr (fun t ht => ?_) (fun t ht => ?_) (fun t ht => ht))
            · rcases ht with rfl | rfl
              · rw [if_neg (by simp), upd_ne _ _ (by simp), upd_ne _ _ (by simp)]
              · rw [if_pos rfl, upd_same]
            · rcases ht with rfl | rfl
              · rw [if_neg (by simp), upd_ne _ _ (by simp), upd_ne _ _ (by simp)]
              · rw [if_pos rfl, upd_same]
          have HL10 : Hid (ListsV W10 w.heap.size us (I.arrs ++ List.replicate 0 [])) := by
            rw [List.replicate_zero, List.append_nil]
            exact hideI (HLV.out.keeps (Keeps.of_below (hs10.below.mono (by have := HS2.out; omega))))
          clear hs10 hW10 HS9 HS8 o1 o1z hb8 hl0
          go_loopw [] (fun wr => ∃ (k2 n2 g2 cap2 : Nat) (us2 : List Value), n2 = nr + k2 ∧ (0 < k2 → (n2 : Int) ≤ f.arrays ∧ f.arrays ≤ 8) ∧ Hid (us2.length = n2) ∧ Hid (OwnC W2 wr (fun t => if t = .fr 0 1 then some ⟨22, 1, us2.length, us2⟩ else some (intsRow (I.args ++ List.replicate k 0))) (fun t => if t = .fr 0 1 then .slice (some ⟨g2, 0, none⟩) n2 cap2 else .slice (some ⟨g, 0, none⟩) n cap) (fun t => t = .fr 0 0 ∨ t = .fr 0 1) [(gW, #[.slice (some ⟨g, 0, none⟩) n cap, .slice (some ⟨g2, 0, none⟩) n2 cap2], 28)]) ∧ Hid (ListsV wr w.heap.size us2 (I.arrs ++ List.replicate k2 []))) (fun wr => f.arrays.toNat - lenAt wr ⟨gW, 1, none⟩)
          case atStart => exact ⟨0, nr, g2, cap2, us, rfl, fun h => absurd h (by omega), HUL, HS10, HL10⟩
          case round =>
            clear HS10 HL10 HUL HAT HONE HLV
            obtain ⟨k2, n2, g2, cap2, us2, hn2, hk2, HUL, HS10, HL10⟩ := hrel
            have HNK2 := hideI hn2
            have HK2 := hideI hk2
            have o1 : wr.cell? ⟨gW, 1, none⟩ = some (.slice (some ⟨g2, 0, none⟩) n2 cap2) := (HS10.out.box (List.mem_cons_self ..) 1).1
            have o1z := (HS10.out.box (List.mem_cons_self ..) 1).2
            have q1 : wr.cell? ⟨w.heap.size, 1, none⟩ = some (.int .i64 f.arrays) := HC0.out wr HS10.out.below 1
            have HM2 : Hid (lenAt wr ⟨gW, 1, none⟩ = n2) := hideI (by unfold lenAt; rw [o1])
            clear hn2 hk2
            by_cases hcont : (n2 : Int) < f.arrays ∧ f.arrays ≤ 8
            · obtain ⟨h1, h2⟩ := hcont
              have h3 : n2 < 8 := by omega
              have hown7 : (wr.alloc (.cells #[.slice none 0 0] 22)).ownsRow W2.heap.size 22 1 (.slice (some ⟨g2, 0, none⟩) n2 cap2) n2 us2 := by
                have h := HS10.out.own.rows (.fr 0 1) ⟨22, 1, us2.length, us2⟩ (.inr rfl) (if_pos rfl)
                rw [if_pos rfl] at h
                have h2 : wr.ownsRow W2.heap.size 22 1 (.slice (some ⟨g2, 0, none⟩) n2 cap2) us2.length us2 := h
                rw [HUL.out] at h2
                exact h2.alloc _
              obtain ⟨i1, hjx, hy0, hy1, hy2⟩ := info_parts ints_info
              have hwr : W2.heap.size ≤ wr.heap.size := HS10.out.below.size
              go_wp2_with (first
                | (at_builtin; go_loud (refine wpList_append_lies _ rfl _ _ _ rfl W2.heap.size 22 i1 (.slice none 0 0) 1 24 Tryz.underlying26 hjx hy0 hy1 hy2 rfl (by decide) _ _ _ rfl hown7 ⟨wr.heap.size, 0, none⟩ 1 1 [.slice none 0 0] rfl rfl (World.news_of_block (heap_alloc_new wr (.cells #[.slice none 0 0] 22))) (by simp [Value.oneCell']) (by decide) (by simp only [maxLen]; omega) (by omega) (by simp; omega) _ rfl ?_; intro g3 cap3 w8 hown8 hgrow8 hor8 _; have hown8' : w8.ownsRow W2.heap.size 22 1 (.slice (some ⟨g3, 0, none⟩) (n2 + 1) cap3) (us2 ++ [Value.slice none 0 0]).length (us2 ++ [Value.slice none 0 0]) := (by rw [List.length_append, HUL.out]; exact hown8); have HS8 := hideI (OwnC.grow (t0 := .fr 0 1) (d := ⟨22, 1, (us2 ++ [Value.slice none 0 0]).length, us2 ++ [Value.slice none 0 0]⟩) (HS10.out.grows ((Below.refl _ _).alloc (Nat.le_refl _) _)) (.inr rfl) hown8' (by rw [if_pos rfl]; exact hgrow8) rfl (by rw [if_pos rfl]; exact hor8)); have ho := HS8.out.box (List.mem_cons_self ..) 1; clear o1 o1z; have o1 : w8.cell? ⟨gW, 1, none⟩ = some (.slice (some ⟨g2, 0, none⟩) n2 cap2) := ho.1; have o1z := ho.2; clear ho hown8 hown8' hgrow8 hor8 hown7 q1)))
              have hs9 := HS8.out.store (j := 1) (.slice (some ⟨g3, 0, none⟩) (n2 + 1) cap3)
              simp only [List.setIfInBounds_toArray, List.set_cons_zero, List.set_cons_succ] at hs9
              have hs11 := hs9.congr (D' := fun t => t = .fr 0 0 ∨ t = .fr 0 1) (row' := fun t => if t = .fr 0 1 then some ⟨22, 1, (us2 ++ [Value.slice none 0 0]).length, us2 ++ [Value.slice none 0 0]⟩ else some (intsRow (I.args ++ List.replicate k 0))) (val' := fun t => if t = .fr 0 1 then .slice (some ⟨g3, 0, none⟩) (n2 + 1) cap3 else .slice (some ⟨g, 0, none⟩) n cap) (fun t ht => by
                rcases ht with rfl | rfl
                · rw [if_neg (by simp), upd_ne _ _ (by simp), if_neg (by simp)]
                · rw [if_pos rfl, upd_same]) (fun t ht => by
                rcases ht with rfl | rfl
                · rw [if_neg (by simp), upd_ne _ _ (by simp), if_neg (by simp)]
                · rw [if_pos rfl, upd_same]) (fun t ht => ht)
              have hl9 : lenAt (w8.setCell ⟨gW, 1, none⟩ (.slice (some ⟨g3, 0, none⟩) (n2 + 1) cap3)) ⟨gW, 1, none⟩ = n2 + 1 := by
                have h := (hs11.box (List.mem_cons_self ..) 1).1
                unfold lenAt
                rw [h]
                rfl
              have hkp : Keeps w.heap.size W2 (w8.setCell ⟨gW, 1, none⟩ (.slice (some ⟨g3, 0, none⟩) (n2 + 1) cap3)) := Keeps.of_below (hs11.below.mono (by have := HS2.out; omega))
              have hkp0 : Keeps w.heap.size W2 wr := Keeps.of_below (HS10.out.below.mono (by have := HS2.out; omega))
              have HL11 : Hid (ListsV (w8.setCell ⟨gW, 1, none⟩ (.slice (some ⟨g3, 0, none⟩) (n2 + 1) cap3)) w.heap.size (us2 ++ [Value.slice none 0 0]) (I.arrs ++ List.replicate (k2 + 1) [])) := by
                rw [List.replicate_succ', ← List.append_assoc]
                refine hideI (ListsV.push (HL10.out.keeps fun b o hb => (hkp b o hb).trans (hkp0 b o hb).symm) (Ints.nil _ _) (fun A n c e => ?_))
                injection e with _ e1 e2
                omega
              exact ⟨⟨k2 + 1, n2 + 1, g3, cap3, us2 ++ [.slice none 0 0], by have := HNK2.out; omega, fun _ => ⟨by omega, h2⟩, hideI (by rw [List.length_append, HUL.out]; rfl), hideI hs11, HL11⟩, by rw [hl9, HM2.out]; omega⟩
            · go_upto_region 7 with fail
              go_cut [63] (fun c wx => c = .bool false ∧ wx = wr)
              case first =>
                by_cases h1 : (n2 : Int) < f.arrays
                · have h2 : (8 : Int) < f.arrays := by omega
                  go_wp2_with fail
                  go_meet
                  exact ⟨by first | rfl | (congr 1; simp; omega), rfl⟩
                · have h2 : f.arrays ≤ (n2 : Int) := by omega
                  go_wp2_with fail
                  go_meet
                  exact ⟨by first | rfl | (congr 1; simp; omega), rfl⟩
              case rest =>
                obtain ⟨rfl, hwc⟩ := hcut
                obtain rfl := hwc.symm
                clear q1 o1 o1z hcont
                go_upto_region 9 with fail
                have hsta : startS f ⟨I.args ++ List.replicate k 0, I.arrs ++ List.replicate k2 []⟩ = startS f I := start_eq (fun i => arg_zero k _ i) (fun i _ => arrs_nil)
                have HSTA := hideI hsta
                have HSS : Hid (∀ W, Below wr.heap.size wr W → W.cell? ⟨w.heap.size, 0, none⟩ = some (.slice P np pc) ∧ W.cell? ⟨w.heap.size, 1, none⟩ = some (.int .i64 f.arrays) ∧ W.cell? ⟨w.heap.size, 2, none⟩ = some (.int .i64 f.cells) ∧ W.cell? ⟨w.heap.size, 3, none⟩ = some bv ∧ W.cell? ⟨w.heap.size + 1, 0, none⟩ = some (.slice Aa na ca) ∧ W.cell? ⟨w.heap.size + 1, 1, none⟩ = some (.slice Ra nr cr) ∧ W.cell? ⟨gW, 0, none⟩ = some (.slice (some ⟨g, 0, none⟩) n cap) ∧ W.cell? ⟨gW, 1, none⟩ = some (.slice (some ⟨g2, 0, none⟩) n2 cap2)) := hideI fun W hW => by
                  have h := HS10.out.grows hW
                  have hq := HC0.out W h.below
                  have hr := HC1.out W h.below
                  have hx := h.box (List.mem_cons_self ..)
                  exact ⟨hq 0, hq 1, hq 2, hq 3, hr 0, hr 1, (hx 0).1, (hx 1).1⟩
                have hia : Ints wr wr.heap.size (.slice (some ⟨g, 0, none⟩) n cap) (I.args ++ List.replicate k 0) := by
                  have h := HS10.out.own.rows (.fr 0 0) (intsRow (I.args ++ List.replicate k 0)) (.inl rfl) (if_neg (by simp))
                  rw [if_neg (by simp)] at h
                  exact own_ints h rfl (by show (I.args ++ List.replicate k 0).length ≤ _; rw [List.length_append, List.length_replicate, ← HN.out.2.1]; have := HNK.out; by_cases hk0 : 0 < k; have := (hk hk0).2; have := (hk hk0).1; omega; omega)
                have hra : ArrsR wr wr.heap.size (.slice (some ⟨g2, 0, none⟩) n2 cap2) (I.arrs ++ List.replicate k2 []) := by
                  have h := HS10.out.own.rows (.fr 0 1) ⟨22, 1, us2.length, us2⟩ (.inr rfl) (if_pos rfl)
                  rw [if_pos rfl] at h
                  have h2 : wr.ownsRow W2.heap.size 22 1 (.slice (some ⟨g2, 0, none⟩) n2 cap2) us2.length us2 := h
                  rw [HUL.out] at h2
                  exact HL10.out.arrs h2 (by have := HS2.out; have := HS10.out.below.size; omega) (by rw [List.length_append, List.length_replicate, ← HN.out.2.2]; exact HNK2.out) (by have := HNK2.out; by_cases hk0 : 0 < k2; have := (HK2.out hk0).1; have := (HK2.out hk0).2; omega; omega)
                have HRI : Hid (∀ W, Below wr.heap.size wr W → Calls Tryz.prog 10 #[.agg #[.slice P np pc, .int .i64 f.arrays, .int .i64 f.cells, bv], .agg #[.slice Aa na ca, .slice Ra nr cr], .int .i64 500] W (RunT f I 500 W)) := hideI fun W hW => by
                  obtain ⟨h1, h2, h3, h4, h5⟩ := HIA.out W (HS10.out.grows hW).below
                  exact irun_laid f I w.heap.size _ _ _ _ 500 W h3 h4 h5.size HID.out h1 h2
                have HRJ : Hid (∀ W, Below wr.heap.size wr W → Calls Tryz.prog 10 #[.agg #[.slice P np pc, .int .i64 f.arrays, .int .i64 f.cells, bv], .agg #[.slice (some ⟨g, 0, none⟩) n cap, .slice (some ⟨g2, 0, none⟩) n2 cap2], .int .i64 500] W (RunT f ⟨I.args ++ List.replicate k 0, I.arrs ++ List.replicate k2 []⟩ 500 W)) := hideI fun W hW => by
                  obtain ⟨h1, h2, h3, h4, h5⟩ := HIA.out W (HS10.out.grows hW).below
                  have hle : w.heap.size ≤ wr.heap.size := by have := HS2.out; have := HS10.out.below.size; omega
                  exact irun_laid f ⟨I.args ++ List.replicate k 0, I.arrs ++ List.replicate k2 []⟩ wr.heap.size _ _ _ _ 500 W (h3.more hle) (h4.more' hle) hW.size HID.out (hia.keeps (Keeps.of_below hW)) (hra.keeps (Keeps.of_below hW))
                have HEND : Hid (Below w.heap.size w wr) := hideI (HIA.out wr HS10.out.below).2.2.2.2
                have hS0 := HSS.out wr (Below.refl _ _)
                clear hsta hia hra
                refine wp_region_late (by kernel_rfl) (fun W => W.cell? ⟨w.heap.size, 0, none⟩ = some (.slice P np pc) ∧ W.cell? ⟨w.heap.size, 1, none⟩ = some (.int .i64 f.arrays) ∧ W.cell? ⟨w.heap.size, 2, none⟩ = some (.int .i64 f.cells) ∧ W.cell? ⟨w.heap.size, 3, none⟩ = some bv ∧ W.cell? ⟨w.heap.size + 1, 0, none⟩ = some (.slice Aa na ca) ∧ W.cell? ⟨w.heap.size + 1, 1, none⟩ = some (.slice Ra nr cr) ∧ W.cell? ⟨gW, 0, none⟩ = some (.slice (some ⟨g, 0, none⟩) n cap) ∧ W.cell? ⟨gW, 1, none⟩ = some (.slice (some ⟨g2, 0, none⟩) n2 cap2)) [] ?_
                refine wpAnyT_ready (rs := [0]) (by kernel_rfl) (by simp) ?_
                refine AllReadyT.cons rfl (fun K hK => ?_) ?_
                · go_simp
                  refine (awake6_any _).mono ?_
                  rintro e w5 ⟨rfl, hb5⟩
                  have HB5 := hideI ((Below.refl wr.heap.size wr).drew.trans hb5)
                  clear hb5
                  refine hK.out _ _ (fun _ _ => HSS.out w5 HB5.out) ?_
                  have hS0 := HSS.out w5 HB5.out
                  clear hK K
                  try simp only [Act.put, List.setIfInBounds_toArray, List.set_cons_zero, List.set_cons_succ]
                  refine wpAnyT_quiet (i := 1) (v := ?_) rfl (by kernel_rfl) (by kernel_rfl) (by kernel_rfl) (fun _ _ _ h => h) (Or.inl ⟨by rfl, ?_⟩) ?_
                  rotate_left
                  · (intro w; go_simp; try with_reducible rfl)
                  try simp only [Act.put, List.setIfInBounds_toArray, List.set_cons_zero, List.set_cons_succ]
                  refine wpAnyT_take [] (i := 2) (v := ?_) rfl (by kernel_rfl) (by kernel_rfl) (by kernel_rfl) (by kernel_rfl) (by kernel_rfl) (by kernel_rfl) (fun _ _ _ h => h) hS0 (Or.inl ⟨by rfl, ?_⟩) ?_
                  rotate_left
                  · (intro w hSw; go_split_ands; go_simp; try with_reducible rfl)
                  try simp only [Act.put, List.setIfInBounds_toArray, List.set_cons_zero, List.set_cons_succ]
                  refine wpAnyT_take [] (i := 3) (v := ?_) rfl (by kernel_rfl) (by kernel_rfl) (by kernel_rfl) (by kernel_rfl) (by kernel_rfl) (by kernel_rfl) (fun _ _ _ h => h) hS0 (Or.inl ⟨by rfl, ?_⟩) ?_
                  rotate_left
                  · (intro w hSw; go_split_ands; go_simp; try with_reducible rfl)
                  try simp only [Act.put, List.setIfInBounds_toArray, List.set_cons_zero, List.set_cons_succ]
                  refine wpAnyT_take [] (i := 5) (v := ?_) rfl (by kernel_rfl) (by kernel_rfl) (by kernel_rfl) (by kernel_rfl) (by kernel_rfl) (by kernel_rfl) (fun _ _ _ h => h) hS0 (Or.inl ⟨by rfl, ?_⟩) ?_
                  rotate_left
                  · (intro w hSw; go_split_ands; go_simp; try with_reducible rfl)
                  try simp only [Act.put, List.setIfInBounds_toArray, List.set_cons_zero, List.set_cons_succ]
                  refine wpAnyT_take [] (i := 6) (v := ?_) rfl (by kernel_rfl) (by kernel_rfl) (by kernel_rfl) (by kernel_rfl) (by kernel_rfl) (by kernel_rfl) (fun _ _ _ h => h) hS0 (Or.inl ⟨by rfl, ?_⟩) ?_
                  rotate_left
                  · (intro w hSw; go_split_ands; go_simp; try with_reducible rfl)
                  try simp only [Act.put, List.setIfInBounds_toArray, List.set_cons_zero, List.set_cons_succ]
                  refine wpAnyT_ready (rs := [4]) (by kernel_rfl) (by simp) ?_
                  refine AllReadyT.cons rfl (fun K hK => ?_) ?_
                  · go_simp
                    refine (HRI.out _ HB5.out).mono ?_
                    rintro e w6 ⟨tv1, s1, en1, rfl, hr1, ht1, hb6⟩
                    have HT1 := hideI (hr1.reads ht1)
                    have HR1 := hideI hr1
                    have HB6 := hideI (HB5.out.trans (hb6.mono HB5.out.size))
                    clear hr1 ht1 hb6
                    refine hK.out _ _ (fun _ _ => HSS.out w6 HB6.out) ?_
                    clear hK K
                    try simp only [Act.put, List.setIfInBounds_toArray, List.set_cons_zero, List.set_cons_succ]
                    refine wpAnyT_ready (rs := [7]) (by kernel_rfl) (by simp) ?_
                    refine AllReadyT.cons rfl (fun K hK => ?_) ?_
                    · go_simp
                      refine (HRJ.out _ HB6.out).mono ?_
                      rintro e w7 ⟨tv2, s2, en2, rfl, hr2, ht2, hb7⟩
                      obtain ⟨rfl, rfl⟩ := HR1.out.one (hr2.same HSTA.out)
                      have HT2 := hideI (hr2.reads ht2)
                      have HT1' := hideI ((HT1.out.keeps (Keeps.of_below hb7)).moreB hb7.size)
                      have HB7 := hideI (HB6.out.trans (hb7.mono HB6.out.size))
                      clear hr2 ht2 hb7
                      refine hK.out _ _ (fun _ _ => HSS.out w7 HB7.out) ?_
                      clear hK K
                      try simp only [Act.put, List.setIfInBounds_toArray, List.set_cons_zero, List.set_cons_succ]
                      refine wpAnyT_ready (rs := [8]) (by kernel_rfl) (by simp) ?_
                      refine AllReadyT.cons rfl (fun K hK => ?_) ?_
                      · go_simp
                        refine (Go.Proofs.YtncmnbchkabgaaaGreat.same_yes w7 w7.heap.size _ _ s1 en1 HT1'.out HT2.out (Nat.le_refl _)).mono ?_
                        rintro e w8 ⟨rfl, hb8⟩
                        have HB8 := hideI (HB7.out.trans (hb8.mono HB7.out.size))
                        clear hb8
                        refine hK.out _ _ (fun _ _ => HSS.out w8 HB8.out) ?_
                        clear hK K
                        try simp only [Act.put, List.setIfInBounds_toArray, List.set_cons_zero, List.set_cons_succ]
                        refine wpAnyT_quiet (i := 9) (v := ?_) rfl (by kernel_rfl) (by kernel_rfl) (by kernel_rfl) (fun _ _ _ h => h) (Or.inl ⟨by rfl, ?_⟩) ?_
                        rotate_left
                        · (intro w; go_simp; try with_reducible rfl)
                        try simp only [Act.put, List.setIfInBounds_toArray, List.set_cons_zero, List.set_cons_succ]
                        refine wpAnyT_quiet (i := 10) (v := ?_) rfl (by kernel_rfl) (by kernel_rfl) (by kernel_rfl) (fun _ _ _ h => h) (Or.inl ⟨by rfl, ?_⟩) ?_
                        rotate_left
                        · (intro w; go_simp; try with_reducible rfl)
                        try simp only [Act.put, List.setIfInBounds_toArray, List.set_cons_zero, List.set_cons_succ]
                        refine wpAnyT_done (by kernel_rfl) ?_ _
                        clear hS0
                        go_wp2
                        first | go_ret | refine bodyPost_ret (results_tmp rfl _ _ _) (by rfl) ?_
                        exact ⟨rfl, HEND.out.trans (HB8.out.mono HEND.out.size)⟩
                      · exact AllReadyT.nil
                    · exact AllReadyT.nil
                  · exact AllReadyT.nil
                · exact AllReadyT.nil
end Go.Proofs.YtncmnbchkabgaaaGreat

namespace Go.Proofs.YtncmnbchkabgaaaGreat
open Go.RowKit

def updE (e : Nat → Value) (d : Option Nat) (v : Value) : Nat → Value := fun x => if d = some x then v else e x
def updB (L : Nat → Bool) (i : Nat) : Nat → Bool := fun x => if i = x then true else L x

/-- the temporaries ds hold what e says -/
def putEnv (a : Act) : List Nat → (Nat → Value) → Act
  | [], _ => a
  | d :: ds, e => putEnv (a.put (some d) (e d)) ds e

theorem put_twice (a : Act) (d : Nat) (v u : Value) : (a.put (some d) v).put (some d) u = a.put (some d) u := by
  simp [Act.put]

theorem put_swap (a : Act) {d c : Nat} (h : d ≠ c) (v u : Value) : (a.put (some d) v).put (some c) u = (a.put (some c) u).put (some d) v := by
  simp only [Act.put]
  rw [Array.setIfInBounds_comm _ _ h]

theorem putEnv_put : ∀ (ds : List Nat) (a : Act) (e : Nat → Value) (d : Nat) (v : Value), d ∉ ds → (putEnv a ds e).put (some d) v = putEnv (a.put (some d) v) ds e
  | [], _, _, _, _, _ => rfl
  | c :: ds, a, e, d, v, h => by
    show (putEnv (a.put (some c) (e c)) ds e).put (some d) v = putEnv ((a.put (some d) v).put (some c) (e c)) ds e
    rw [putEnv_put ds _ e d v (fun hm => h (List.mem_cons_of_mem _ hm)), put_swap a (fun e => h (by rw [e]; exact List.mem_cons_self ..))]

theorem putEnv_congr : ∀ (ds : List Nat) (a : Act) (e e' : Nat → Value), (∀ d ∈ ds, e d = e' d) → putEnv a ds e = putEnv a ds e'
  | [], _, _, _, _ => rfl
  | c :: ds, a, e, e', h => by
    show putEnv (a.put (some c) (e c)) ds e = putEnv (a.put (some c) (e' c)) ds e'
    rw [h c (List.mem_cons_self ..), putEnv_congr ds _ e e' fun d hd => h d (List.mem_cons_of_mem _ hd)]

theorem putEnv_upd : ∀ (ds : List Nat) (a : Act) (e : Nat → Value) (d : Nat) (v : Value), ds.Nodup → d ∈ ds → (putEnv a ds e).put (some d) v = putEnv a ds (updE e (some d) v)
  | c :: ds, a, e, d, v, hn, hm => by
    obtain ⟨hc, hn⟩ := List.nodup_cons.1 hn
    show (putEnv (a.put (some c) (e c)) ds e).put (some d) v = putEnv (a.put (some c) (updE e (some d) v c)) ds (updE e (some d) v)
    by_cases h : c = d
    · subst h
      rw [putEnv_put ds _ e c v hc, put_twice, show updE e (some c) v c = v by simp [updE]]
      refine putEnv_congr ds _ _ _ fun x hx => ?_
      have : c ≠ x := fun h => hc (by rw [h]; exact hx)
      simp [updE, this]
    · rw [show updE e (some d) v c = e c by simp [updE, Ne.symm h]]
      exact putEnv_upd ds _ e d v hn (by rcases List.mem_cons.1 hm with h' | h'; exact absurd h'.symm h; exact h')

theorem putEnv_size : ∀ (ds : List Nat) (a : Act) (e : Nat → Value), (putEnv a ds e).tmps.size = a.tmps.size
  | [], _, _ => rfl
  | c :: ds, a, e => by
    show (putEnv (a.put (some c) (e c)) ds e).tmps.size = _
    rw [putEnv_size ds]
    simp [Act.put]

theorem putEnv_out : ∀ (ds : List Nat) (a : Act) (e : Nat → Value) (d : Nat), d ∉ ds → (putEnv a ds e).eval (.tmp d) = a.eval (.tmp d)
  | [], _, _, _, _ => rfl
  | c :: ds, a, e, d, h => by
    show (putEnv (a.put (some c) (e c)) ds e).eval (.tmp d) = _
    rw [putEnv_out ds _ e d fun hm => h (List.mem_cons_of_mem _ hm)]
    have : c ≠ d := fun e => h (by rw [e]; exact List.mem_cons_self ..)
    simp [Act.put, Act.eval, Array.getD_eq_getD_getElem?, this]

theorem putEnv_in : ∀ (ds : List Nat) (a : Act) (e : Nat → Value) (d : Nat), ds.Nodup → d ∈ ds → d < a.tmps.size → (putEnv a ds e).eval (.tmp d) = e d
  | c :: ds, a, e, d, hn, hm, hs => by
    obtain ⟨hc, hn⟩ := List.nodup_cons.1 hn
    show (putEnv (a.put (some c) (e c)) ds e).eval (.tmp d) = _
    by_cases h : c = d
    · subst h
      rw [putEnv_out ds _ e c hc]
      simp [Act.put, Act.eval, Array.getD_eq_getD_getElem?, hs]
    · exact putEnv_in ds _ e d hn (by rcases List.mem_cons.1 hm with h' | h'; exact absurd h'.symm h; exact h') (by simp [Act.put]; exact hs)

theorem putEnv_self : ∀ (ds : List Nat) (a : Act), putEnv a ds (fun d => a.eval (.tmp d)) = a
  | [], _ => rfl
  | c :: ds, a => by
    show putEnv (a.put (some c) (a.eval (.tmp c))) ds _ = a
    have h : a.put (some c) (a.eval (.tmp c)) = a := by
      obtain ⟨t, l⟩ := a
      simp only [Act.put, Act.eval, Act.mk.injEq, and_true]
      apply Array.ext_getElem?
      intro i
      rw [Array.getElem?_setIfInBounds]
      split
      · rename_i h
        subst h
        split
        · rename_i h
          simp [h]
        · rename_i h
          rw [Array.getElem?_eq_none (by omega)]
      · rfl
    rw [h]
    exact putEnv_self ds a

section
variable {P : Program} {ops : Array Oper} {Q : Exit → Act → World → Prop} {a0 : Act} {ds : List Nat} {F : (Nat → Bool) → (Nat → Value) → World → Prop}

/-- one operation keeps F, whatever was done ahead of it -/
def StepOk (P : Program) (ops : Array Oper) (Q : Exit → Act → World → Prop) (a0 : Act) (ds : List Nat) (F : (Nat → Bool) → (Nat → Value) → World → Prop) (i : Nat) (o : Oper) : Prop :=
  ∀ (L : Nat → Bool) (e : Nat → Value) (w : World) (a : Act), L i = false → (∀ x ∈ o.after.toList, Region.binds .any x = true → L x.on = true) → F L e w →
    (∀ d ∈ ds, a.eval (.tmp d) = e d) → (∀ d, d ∉ ds → a.eval (.tmp d) = a0.eval (.tmp d)) →
    ∀ K : Act → World → Prop, (∀ v w', F (updB L i) (updE e o.dst v) w' → K (a.put o.dst v) w') → if Region.wanted o (yielded ops a.tmps) = true then Oper.wp P o a w K Q else K (a.put o.dst undef) w

def StepsOk (P : Program) (ops : Array Oper) (Q : Exit → Act → World → Prop) (a0 : Act) (ds : List Nat) (F : (Nat → Bool) → (Nat → Value) → World → Prop) : Nat → List Oper → Prop
  | _, [] => True
  | i, o :: r => StepOk P ops Q a0 ds F i o ∧ StepsOk P ops Q a0 ds F (i + 1) r

theorem steps_at {l : List Oper} : ∀ {k : Nat}, StepsOk P ops Q a0 ds F k l → ∀ {i : Nat} {o : Oper}, l[i]? = some o → StepOk P ops Q a0 ds F (k + i) o := by
  induction l with
  | nil => intro k _ i o ho; cases ho
  | cons p l ih =>
    intro k h i o ho
    obtain ⟨h1, h2⟩ := (id h : StepOk P ops Q a0 ds F k p ∧ StepsOk P ops Q a0 ds F (k + 1) l)
    cases i with
    | zero =>
      rw [List.getElem?_cons_zero] at ho
      rw [Option.some.inj ho] at h1
      exact h1
    | succ i =>
      rw [List.getElem?_cons_succ] at ho
      have := ih h2 ho
      rw [show k + (i + 1) = k + 1 + i by omega]
      exact this

def EnvJ (ops : Array Oper) (a0 : Act) (ds : List Nat) (F : (Nat → Bool) → (Nat → Value) → World → Prop) (listed : Array Bool) (a : Act) (w : World) : Prop :=
  listed.size = ops.size ∧ ∃ e, a = putEnv a0 ds e ∧ F (fun i => listed.getD i true) e w

/-- every operation writes nowhere, or where ds says -/
def dstsB (ops : Array Oper) (ds : List Nat) (n : Nat) : Bool := ops.all fun o => match o.dst with | some d => ds.contains d && decide (d < n) | none => true

theorem count_set {listed : Array Bool} {i : Nat} (hl : i < listed.size) (h0 : listed.getD i true = false) : ∀ l : List Nat, (l.filter fun j => !(listed.setIfInBounds i true).getD j true).length ≤ (l.filter fun j => !listed.getD j true).length ∧ (i ∈ l → (l.filter fun j => !(listed.setIfInBounds i true).getD j true).length < (l.filter fun j => !listed.getD j true).length)
  | [] => ⟨Nat.le_refl _, fun h => by cases h⟩
  | j :: l => by
    obtain ⟨h1, h2⟩ := count_set hl h0 l
    by_cases hij : i = j
    · subst hij
      have e1 : (!(listed.setIfInBounds i true).getD i true) = false := by simp [hl]
      have e2 : (!listed.getD i true) = true := by rw [h0]; rfl
      rw [List.filter_cons, List.filter_cons, e1, e2]
      simp only [Bool.false_eq_true, if_false, if_true, List.length_cons]
      exact ⟨by omega, fun _ => by omega⟩
    · rw [List.filter_cons, List.filter_cons, getD_set_ne true hij]
      have hm : i ∈ j :: l → i ∈ l := fun h => by rcases List.mem_cons.1 h with h | h; exact absurd h hij; exact h
      cases hv : listed.getD j true with
      | true =>
        simp only [Bool.not_true, Bool.false_eq_true, if_false]
        exact ⟨h1, fun h => h2 (hm h)⟩
      | false =>
        simp only [Bool.not_false, if_true, List.length_cons]
        exact ⟨by omega, fun h => by have := h2 (hm h); omega⟩

theorem env_step (hn : ds.Nodup) (hd : dstsB ops ds a0.tmps.size = true) (hds : ds.all (fun d => decide (d < a0.tmps.size)) = true) (hF : ∀ L L' e w, (∀ i, L i = L' i) → F L e w → F L' e w) (hs : StepsOk P ops Q a0 ds F 0 ops.toList)
    {listed : Array Bool} {a : Act} {w : World} (h : EnvJ ops a0 ds F listed a w) {i : Nat} (hi : i ∈ Region.ready .any ops listed) (K' : Act → World → Prop) (hK' : ∀ a' w', EnvJ ops a0 ds F (listed.setIfInBounds i true) a' w' → K' a' w') : wpOp P ops Q i K' a w := by
  obtain ⟨h1, e, rfl, hf⟩ := h
  obtain ⟨h0, o, ho, hafter⟩ := mem_ready.1 hi
  have hlt := (Array.getElem?_eq_some_iff.1 ho).1
  have hst := steps_at hs (i := i) (o := o) (by rw [Array.getElem?_toList]; exact ho)
  rw [Nat.zero_add] at hst
  have hdo : ∀ d, o.dst = some d → d ∈ ds := fun d hdd => by
    unfold dstsB at hd
    rw [Array.all_eq_true_iff_forall_mem] at hd
    have := hd o (Array.mem_of_getElem? ho)
    rw [hdd] at this
    have h2 : d ∈ ds ∧ d < a0.tmps.size := by simpa using this
    exact h2.1
  refine wpOp_step ho fun K hK => ?_
  refine hst (fun i => listed.getD i true) e w (putEnv a0 ds e) h0 (fun x hx hb => ?_) hf (fun d hdd => ?_) (fun d hdd => putEnv_out ds a0 e d hdd) K (fun v w' hf' => ?_)
  · have h2 := hafter x (by simpa using hx) hb
    rcases Nat.lt_or_ge x.on listed.size with h' | h'
    · simp [h'] at h2 ⊢; exact h2
    · simp [Array.getElem?_eq_none h'] at h2
  · rw [List.all_eq_true] at hds
    exact putEnv_in ds a0 e d hn hdd (by simpa using hds d hdd)
  · refine hK _ _ (hK' _ _ ⟨by simpa using h1, updE e o.dst v, ?_, hF _ _ _ _ (fun j => ?_) hf'⟩)
    · cases hdst : o.dst with
      | none => exact putEnv_congr ds a0 _ _ fun d _ => by simp [updE]
      | some d => exact putEnv_upd ds a0 e d v hn (hdo d hdst)
    · unfold updB
      by_cases hij : i = j
      · subst hij
        simp [h1, hlt]
      · rw [if_neg hij, getD_set_ne true hij]

theorem wpAny_env (hn : ds.Nodup) (hd : dstsB ops ds a0.tmps.size = true) (hds : ds.all (fun d => decide (d < a0.tmps.size)) = true) (hF : ∀ L L' e w, (∀ i, L i = L' i) → F L e w → F L' e w) (hs : StepsOk P ops Q a0 ds F 0 ops.toList)
    (hend : ∀ e w, F (fun _ => true) e w → Q .normal (putEnv a0 ds e) w) (hall : ∀ l : Array Bool, l.size = ops.size → Region.ready .any ops l = [] → ∀ i, l.getD i true = true) (fuel : Nat) :
    ∀ (listed : Array Bool) (a : Act) (w : World), EnvJ ops a0 ds F listed a w → ((List.range ops.size).filter fun i => !listed.getD i true).length ≤ fuel → wpAny P .any ops Q fuel listed a w := by
  have hfin : ∀ (listed : Array Bool) (a : Act) (w : World), EnvJ ops a0 ds F listed a w → Region.ready .any ops listed = [] → Q .normal a w := fun listed a w ⟨h1, e, h2, hf⟩ hr => by
    rw [h2]
    exact hend e w (hF _ _ e w (fun i => hall listed h1 hr i) hf)
  induction fuel with
  | zero =>
    intro listed a w h hlen
    have hr : Region.ready .any ops listed = [] := by
      cases hr : Region.ready .any ops listed with
      | nil => rfl
      | cons j r =>
        obtain ⟨h0, o, ho, _⟩ := mem_ready.1 (by rw [hr]; exact List.mem_cons_self .. : j ∈ Region.ready .any ops listed)
        have hm : j ∈ (List.range ops.size).filter fun i => !listed.getD i true := List.mem_filter.2 ⟨List.mem_range.2 (Array.getElem?_eq_some_iff.1 ho).1, by rw [h0]; rfl⟩
        have := List.length_pos_of_mem hm
        omega
    exact ⟨hr, hfin listed a w h hr⟩
  | succ fuel ih =>
    intro listed a w h hlen
    refine ⟨fun hr => hfin listed a w h hr, fun i hi => ?_⟩
    refine env_step hn hd hds hF hs h hi _ fun a' w' h' => ih _ _ _ h' ?_
    obtain ⟨h0, o, ho, _⟩ := mem_ready.1 hi
    have hlt := (Array.getElem?_eq_some_iff.1 ho).1
    have := (count_set (listed := listed) (by rw [h.1]; exact hlt) h0 (List.range ops.size)).2 (List.mem_range.2 hlt)
    omega

/-- each operation waits only for those ahead of it in the text -/
def fwdB (ops : Array Oper) : Bool := (List.range ops.size).all fun i => match ops[i]? with | some o => o.after.all fun x => !Region.binds .any x || decide (x.on < i) | none => true

theorem fwd_all (h : fwdB ops = true) (l : Array Bool) (hl : l.size = ops.size) (hr : Region.ready .any ops l = []) : ∀ i, l.getD i true = true := by
  intro i
  induction i using Nat.strongRecOn with
  | _ i ih =>
    rcases Nat.lt_or_ge i ops.size with hlt | hge
    · cases hv : l.getD i true with
      | true => rfl
      | false =>
        exfalso
        have ho : ops[i]? = some ops[i] := Array.getElem?_eq_getElem hlt
        have : i ∈ Region.ready .any ops l := mem_ready.2 ⟨hv, ops[i], ho, fun x hx hb => by
          unfold fwdB at h
          rw [List.all_eq_true] at h
          have h2 := h i (List.mem_range.2 hlt)
          rw [ho] at h2
          simp only [Array.all_eq_true_iff_forall_mem] at h2
          have h3 := h2 x hx
          rw [hb] at h3
          have h4 : x.on < i := by simpa using h3
          have h5 := ih x.on h4
          have h6 : x.on < l.size := by omega
          simp [h6] at h5 ⊢
          exact h5⟩
        rw [hr] at this
        cases this
    · simp [Array.getElem?_eq_none (by omega : l.size ≤ i)]

/-- the law: F holds at the beginning, every operation keeps it, and the end follows from it -/
theorem wp_region_env {id : Nat} {w : World} (hm : P.follows .mixedOrders = true) (ds : List Nat) (F : (Nat → Bool) → (Nat → Value) → World → Prop) (n : Nat) (hsz : a0.tmps.size = n) (hn : ds.Nodup) (hd : dstsB ops ds n = true) (hds : ds.all (fun d => decide (d < n)) = true) (hfw : fwdB ops = true)
    (h0 : ∀ e, F (fun _ => false) e w.drew) (hF : ∀ L L' e w, (∀ i, i < ops.size → L i = L' i) → F L e w → F L' e w) (hs : StepsOk P ops Q a0 ds F 0 ops.toList) (hend : ∀ e w, F (fun _ => true) e w → Q .normal (putEnv a0 ds e) w) :
    (Code.region id ops true).wp P Q a0 w := by
  subst hsz
  refine wp_region_any hm (wpAny_env (F := F) hn hd hds (fun L L' e w h => hF L L' e w fun i _ => h i) hs hend (fwd_all hfw) ops.size _ a0 _ ⟨by simp, _, (putEnv_self ds a0).symm, hF _ _ _ _ (fun i hi => ?_) (h0 _)⟩ ?_)
  · simp [hi]
  · exact Nat.le_trans (List.length_filter_le _ _) (by simp)
end
end Go.Proofs.YtncmnbchkabgaaaGreat

namespace Go.Proofs.YtncmnbchkabgaaaGreat
open Go.RowKit Go.Maps

/-- where the region's operations stand, and where their values lie: calls, makings, stores -/
structure TwoP where
  c : Bool → Nat
  s : Bool → Nat
  a : Bool → Nat
  t : Bool → Nat
  p : Bool → Nat
  known : List (Nat × Nat)

/-- no two are one -/
def TwoP.okB (q : TwoP) : Bool :=
  decide ([q.c false, q.c true, q.a false, q.a true, q.p false, q.p true].Nodup) && decide ([q.s false, q.s true, q.t false, q.t true].Nodup) &&
  q.known.all fun x => q.known.all (fun y => x.1 != y.1 || x == y) && !([q.c false, q.c true, q.a false, q.a true, q.p false, q.p true].contains x.1) && !([q.s false, q.s true, q.t false, q.t true].contains x.2)

structure TwoP.Ok (q : TwoP) : Prop where
  cc : q.c false ≠ q.c true
  aa : q.a false ≠ q.a true
  pp : q.p false ≠ q.p true
  ca : ∀ j k, q.c j ≠ q.a k
  cp : ∀ j k, q.c j ≠ q.p k
  ap : ∀ j k, q.a j ≠ q.p k
  ss : q.s false ≠ q.s true
  tt : q.t false ≠ q.t true
  st : ∀ j k, q.s j ≠ q.t k
  one : ∀ x ∈ q.known, ∀ y ∈ q.known, x.1 = y.1 → x = y
  kc : ∀ x ∈ q.known, ∀ j, x.1 ≠ q.c j ∧ x.1 ≠ q.a j ∧ x.1 ≠ q.p j ∧ x.2 ≠ q.s j ∧ x.2 ≠ q.t j

theorem TwoP.ok_of {q : TwoP} (h : q.okB = true) : q.Ok := by
  unfold TwoP.okB at h
  simp only [Bool.and_eq_true, decide_eq_true_eq, List.all_eq_true, Bool.not_eq_true', Bool.or_eq_true, bne_iff_ne, beq_iff_eq, List.nodup_cons, List.mem_cons, List.not_mem_nil, or_false, not_or, List.contains_eq_mem, decide_eq_false_iff_not] at h
  obtain ⟨⟨⟨⟨c1, c2, c3, c4, c5⟩, ⟨d2, d3, d4, d5⟩, ⟨e3, e4, e5⟩, ⟨f4, f5⟩, g5, _⟩, ⟨s1, s2, s3⟩, ⟨r2, r3⟩, q3, _⟩, hk⟩ := h
  refine ⟨c1, e3, g5, fun j k => ?_, fun j k => ?_, fun j k => ?_, s1, q3, fun j k => ?_, fun x hx y hy he => ?_, fun x hx j => ?_⟩
  · cases j <;> cases k <;> assumption
  · cases j <;> cases k <;> assumption
  · cases j <;> cases k <;> assumption
  · cases j <;> cases k <;> assumption
  · obtain ⟨⟨h1, _⟩, _⟩ := hk x hx
    rcases h1 y hy with h1 | h1
    · exact absurd he h1
    · exact h1
  · obtain ⟨⟨_, h2⟩, h3⟩ := hk x hx
    obtain ⟨a1, a2, a3, a4, a5, a6⟩ := h2
    obtain ⟨b1, b2, b3, b4⟩ := h3
    cases j <;> exact ⟨by assumption, by assumption, by assumption, by assumption, by assumption⟩

/-- between two operations -/
structure TwoF (q : TwoP) (kv : Nat → Value) (RR : Bool → StM → EndM → Prop) (W2 : World) (L : Nat → Bool) (e : Nat → Value) (w : World) : Prop where
  below : Below W2.heap.size W2 w
  known : ∀ x ∈ q.known, L x.1 = true → e x.2 = kv x.2
  run : ∀ j, L (q.c j) = true → ∃ s en lo hi, RR j s en ∧ TraceIn lo hi w (e (q.s j)) s en ∧ hi ≤ w.heap.size ∧ ∀ k g, L (q.a k) = true → e (q.t k) = .pointer (some ⟨g, 0, none⟩) → g < lo ∨ hi ≤ g
  made : ∀ k, L (q.a k) = true → ∃ g x0 x1 x2 x3 x4 x5 x6 x7, e (q.t k) = .pointer (some ⟨g, 0, none⟩) ∧ W2.heap.size ≤ g ∧ g < w.heap.size ∧ w.heap[g]? = some (.cells #[x0, x1, x2, x3, x4, x5, x6, x7] 32 (0, 0))
  ne : L (q.a false) = true → L (q.a true) = true → e (q.t false) ≠ e (q.t true)
  put : ∀ k, L (q.p k) = true → L (q.a k) = true ∧ L (q.c k) = true ∧ ∃ g cs, e (q.t k) = .pointer (some ⟨g, 0, none⟩) ∧ e (q.s k) = .agg cs ∧ w.heap[g]? = some (.cells cs 32 (0, 0))

section
variable {q : TwoP} {kv : Nat → Value} {RR : Bool → StM → EndM → Prop} {W2 : World} {L : Nat → Bool} {e : Nat → Value} {w w' : World}

theorem TwoF.start (W2 : World) : TwoF q kv RR W2 (fun _ => false) e W2.drew :=
  ⟨(Below.refl _ _).drew, (fun _ _ h => absurd h (by decide)), (fun _ h => absurd h (by decide)), (fun _ h => absurd h (by decide)), (fun h => absurd h (by decide)), (fun _ h => absurd h (by decide))⟩

theorem updB_of {L : Nat → Bool} {i x : Nat} (h : updB L i x = true) (hn : i ≠ x) : L x = true := by
  unfold updB at h
  rwa [if_neg hn] at h

theorem updE_other (e : Nat → Value) {d x : Nat} (h : d ≠ x) (v : Value) : updE e (some d) v x = e x := by
  unfold updE
  rw [if_neg (by simpa using h)]

theorem updE_same (e : Nat → Value) (d : Nat) (v : Value) : updE e (some d) v d = v := by
  unfold updE
  rw [if_pos rfl]

/-- the world grows -/
theorem TwoF.grow (h : TwoF q kv RR W2 L e w) (hb : Below w.heap.size w w') : TwoF q kv RR W2 L e w' := by
  refine ⟨h.below.trans (hb.mono h.below.size), h.known, fun j hj => ?_, fun k hk => ?_, h.ne, fun k hk => ?_⟩
  · obtain ⟨s, en, lo, hi, h1, h2, h3, h4⟩ := h.run j hj
    exact ⟨s, en, lo, hi, h1, h2.kept fun b _ hb2 => hb.block b (by omega), Nat.le_trans h3 hb.size, h4⟩
  · obtain ⟨g, x0, x1, x2, x3, x4, x5, x6, x7, h1, h2, h3, h4⟩ := h.made k hk
    exact ⟨g, x0, x1, x2, x3, x4, x5, x6, x7, h1, h2, Nat.lt_of_lt_of_le h3 hb.size, (hb.block g h3).trans h4⟩
  · obtain ⟨h1, h2, g, cs, h3, h4, h5⟩ := h.put k hk
    obtain ⟨g2, _, _, _, _, _, _, _, _, e2, _, h6, _⟩ := h.made k h1
    rw [h3] at e2
    have : g = g2 := by simpa using e2
    subst this
    exact ⟨h1, h2, g, cs, h3, h4, (hb.block g h6).trans h5⟩

/-- an operation whose value is known -/
theorem TwoF.knows (h : TwoF q kv RR W2 L e w) (ok : q.Ok) {i d : Nat} (hm : (i, d) ∈ q.known) : TwoF q kv RR W2 (updB L i) (updE e (some d) (kv d)) w := by
  have hk := ok.kc _ hm
  refine ⟨h.below, fun x hx hL => ?_, fun j hj => ?_, fun k hk2 => ?_, fun h1 h2 => ?_, fun k hk2 => ?_⟩
  · by_cases hd : d = x.2
    · rw [hd, updE_same]
    · rw [updE_other _ hd]
      refine h.known x hx (updB_of hL fun hi => hd ?_)
      rw [← ok.one _ hm _ hx hi]
  · rw [updE_other _ (hk j).2.2.2.1]
    obtain ⟨s, en, lo, hi, h1, h2, h3, h4⟩ := h.run j (updB_of hj (hk j).1)
    refine ⟨s, en, lo, hi, h1, h2, h3, fun k g hL he => h4 k g (updB_of hL (hk k).2.1) ?_⟩
    rwa [updE_other _ (hk k).2.2.2.2] at he
  · rw [updE_other _ (hk k).2.2.2.2]
    exact h.made k (updB_of hk2 (hk k).2.1)
  · rw [updE_other _ (hk false).2.2.2.2, updE_other _ (hk true).2.2.2.2]
    exact h.ne (updB_of h1 (hk false).2.1) (updB_of h2 (hk true).2.1)
  · rw [updE_other _ (hk k).2.2.2.1, updE_other _ (hk k).2.2.2.2]
    obtain ⟨h1, h2, r⟩ := h.put k (updB_of hk2 (hk k).2.2.1)
    refine ⟨?_, ?_, r⟩
    · unfold updB; split <;> simp_all
    · unfold updB; split <;> simp_all

theorem updB_up {L : Nat → Bool} {i x : Nat} (h : L x = true) : updB L i x = true := by
  unfold updB
  split
  · rfl
  · exact h

/-- a run has come back -/
theorem TwoF.ran (h : TwoF q kv RR W2 L e w) (ok : q.Ok) {j : Bool} (hj : L (q.c j) = false) {v : Value} {s : StM} {en : EndM} (hr : RR j s en) (ht : TraceAt w.heap.size w' v s en) (hb : Below w.heap.size w w') : TwoF q kv RR W2 (updB L (q.c j)) (updE e (some (q.s j)) v) w' := by
  have h1 := h.grow hb
  have hcc : ∀ k, k ≠ j → q.c j ≠ q.c k := fun k hk => by
    have := ok.cc
    cases j <;> cases k <;> simp_all
    exact fun h => this h.symm
  have hss : ∀ k, k ≠ j → q.s j ≠ q.s k := fun k hk => by
    have := ok.ss
    cases j <;> cases k <;> simp_all
    exact fun h => this h.symm
  have hL : ∀ {k}, updB L (q.c j) (q.a k) = true → L (q.a k) = true := fun {k} hL => updB_of hL (ok.ca j k)
  have hE : ∀ k, updE e (some (q.s j)) v (q.t k) = e (q.t k) := fun k => updE_other _ (ok.st j k) _
  refine ⟨h1.below, fun x hx hLx => ?_, fun k hk => ?_, fun k hk => ?_, fun h2 h3 => ?_, fun k hk => ?_⟩
  · have := ok.kc x hx j
    rw [updE_other _ (Ne.symm this.2.2.2.1)]
    exact h1.known x hx (updB_of hLx (Ne.symm this.1))
  · by_cases e1 : k = j
    · subst e1
      rw [updE_same]
      refine ⟨s, en, w.heap.size, w'.heap.size, hr, ht.within, Nat.le_refl _, fun k2 g hLa he => .inl ?_⟩
      rw [hE] at he
      obtain ⟨g2, _, _, _, _, _, _, _, _, e2, _, h6, _⟩ := h.made k2 (hL hLa)
      rw [he] at e2
      have : g = g2 := by simpa using e2
      omega
    · rw [updE_other _ (hss k e1)]
      obtain ⟨s2, en2, lo, hi, a1, a2, a3, a4⟩ := h1.run k (updB_of hk (hcc k e1))
      exact ⟨s2, en2, lo, hi, a1, a2, a3, fun k2 g hLa he => a4 k2 g (hL hLa) (by rwa [hE] at he)⟩
  · rw [hE]
    exact h1.made k (hL hk)
  · rw [hE, hE]
    exact h1.ne (hL h2) (hL h3)
  · obtain ⟨a1, a2, g, cs, a3, a4, a5⟩ := h1.put k (updB_of hk (ok.cp j k))
    have hkj : k ≠ j := fun h => by rw [h, hj] at a2; cases a2
    exact ⟨updB_up a1, updB_up a2, g, cs, by rw [hE]; exact a3, by rw [updE_other _ (hss k hkj)]; exact a4, a5⟩

/-- a variable is made -/
theorem TwoF.makes (h : TwoF q kv RR W2 L e w) (ok : q.Ok) {j : Bool} (hj : L (q.a j) = false) (x0 x1 x2 x3 x4 x5 x6 x7 : Value) : TwoF q kv RR W2 (updB L (q.a j)) (updE e (some (q.t j)) (.pointer (some ⟨w.heap.size, 0, none⟩))) (w.alloc (.cells #[x0, x1, x2, x3, x4, x5, x6, x7] 32)) := by
  have h1 := h.grow ((Below.refl w.heap.size w).alloc (Nat.le_refl _) (.cells #[x0, x1, x2, x3, x4, x5, x6, x7] 32))
  have haa : ∀ k, k ≠ j → q.a j ≠ q.a k := fun k hk => by
    have := ok.aa
    cases j <;> cases k <;> simp_all
    exact fun h => this h.symm
  have htt : ∀ k, k ≠ j → q.t j ≠ q.t k := fun k hk => by
    have := ok.tt
    cases j <;> cases k <;> simp_all
    exact fun h => this h.symm
  have hS : ∀ k v, updE e (some (q.t j)) v (q.s k) = e (q.s k) := fun k v => updE_other _ (Ne.symm (ok.st k j)) _
  have hold : ∀ k, L (q.a k) = true → e (q.t k) ≠ .pointer (some ⟨w.heap.size, 0, none⟩) := fun k hk he => by
    obtain ⟨g2, _, _, _, _, _, _, _, _, e2, _, h6, _⟩ := h.made k hk
    rw [he] at e2
    have : w.heap.size = g2 := by injection e2 with e2; injection e2 with e2; injection e2
    omega
  refine ⟨h1.below, fun x hx hLx => ?_, fun k hk => ?_, fun k hk => ?_, fun h2 h3 => ?_, fun k hk => ?_⟩
  · have := ok.kc x hx j
    rw [updE_other _ (Ne.symm this.2.2.2.2)]
    exact h1.known x hx (updB_of hLx (Ne.symm this.2.1))
  · rw [hS]
    have hLc := updB_of hk (Ne.symm (ok.ca k j))
    obtain ⟨s2, en2, lo, hi, a1, a2, a3, a4⟩ := h1.run k hLc
    obtain ⟨_, _, _, hi0, _, _, b3, _⟩ := h.run k hLc
    obtain ⟨s3, en3, lo3, hi3, c1, c2, c3, c4⟩ := h.run k hLc
    refine ⟨s3, en3, lo3, hi3, c1, c2.kept fun b _ hb2 => Below.heap_alloc _ _ _ (by omega), by simp; omega, fun k2 g hLa he => ?_⟩
    by_cases e1 : k2 = j
    · subst e1
      rw [updE_same] at he
      have : w.heap.size = g := by simpa using he
      exact .inr (by omega)
    · rw [updE_other _ (htt k2 e1)] at he
      exact c4 k2 g (updB_of hLa (haa k2 e1)) he
  · by_cases e1 : k = j
    · subst e1
      rw [updE_same]
      exact ⟨w.heap.size, x0, x1, x2, x3, x4, x5, x6, x7, rfl, h.below.size, by simp, heap_alloc_new w _⟩
    · rw [updE_other _ (htt k e1)]
      exact h1.made k (updB_of hk (haa k e1))
  · cases j with
    | false =>
      rw [updE_same, updE_other _ (htt true (by decide))]
      exact fun he => hold true (updB_of h3 (haa true (by decide))) he.symm
    | true =>
      rw [updE_same, updE_other _ (htt false (by decide))]
      exact hold false (updB_of h2 (haa false (by decide)))
  · obtain ⟨a1, a2, g, cs, a3, a4, a5⟩ := h1.put k (updB_of hk (ok.ap j k))
    have hkj : k ≠ j := fun h => by rw [h, hj] at a1; cases a1
    exact ⟨updB_up a1, updB_up a2, g, cs, by rw [updE_other _ (htt k hkj)]; exact a3, by rw [hS]; exact a4, a5⟩

/-- a trace is stored -/
theorem TwoF.stores (h : TwoF q kv RR W2 L e w) (ok : q.Ok) {j : Bool} (hj : L (q.p j) = false) (ha : L (q.a j) = true) (hc : L (q.c j) = true) {g : Nat} {cs : Array Value} {v : Value} (hg : e (q.t j) = .pointer (some ⟨g, 0, none⟩)) (hcs : e (q.s j) = .agg cs)
    (hW : w'.heap[g]? = some (.cells cs 32 (0, 0))) (hW8 : ∃ x0 x1 x2 x3 x4 x5 x6 x7, cs = #[x0, x1, x2, x3, x4, x5, x6, x7]) (ho : ∀ b, b ≠ g → w'.heap[b]? = w.heap[b]?) (hb : Below W2.heap.size w w') (hsz : w'.heap.size = w.heap.size) : TwoF q kv RR W2 (updB L (q.p j)) (updE e none v) w' := by
  have hE : updE e none v = e := funext fun x => by simp [updE]
  have hpp : ∀ k, k ≠ j → q.p j ≠ q.p k := fun k hk => by
    have := ok.pp
    cases j <;> cases k <;> simp_all
    exact fun h => this h.symm
  have hLa : ∀ {k}, updB L (q.p j) (q.a k) = true → L (q.a k) = true := fun {k} hL => updB_of hL (Ne.symm (ok.ap k j))
  have hLc : ∀ {k}, updB L (q.p j) (q.c k) = true → L (q.c k) = true := fun {k} hL => updB_of hL (Ne.symm (ok.cp k j))
  have hother : ∀ k g2, k ≠ j → L (q.a k) = true → e (q.t k) = .pointer (some ⟨g2, 0, none⟩) → g2 ≠ g := fun k g2 hk hLk he hgg => by
    subst hgg
    cases j <;> cases k <;> simp_all
    · exact h.ne ha hLk (by rw [he, hg])
    · exact h.ne hLk ha (by rw [he, hg])
  rw [hE]
  refine ⟨h.below.trans hb, fun x hx hLx => ?_, fun k hk => ?_, fun k hk => ?_, fun h2 h3 => h.ne (hLa h2) (hLa h3), fun k hk => ?_⟩
  · have := ok.kc x hx j
    exact h.known x hx (updB_of hLx (Ne.symm this.2.2.1))
  · obtain ⟨s2, en2, lo, hi, a1, a2, a3, a4⟩ := h.run k (hLc hk)
    have hout := a4 j g ha hg
    exact ⟨s2, en2, lo, hi, a1, a2.kept fun b h1 h2 => ho b (by omega), by omega, fun k2 g2 hL2 he => a4 k2 g2 (hLa hL2) he⟩
  · obtain ⟨g2, y0, y1, y2, y3, y4, y5, y6, y7, b1, b2, b3, b4⟩ := h.made k (hLa hk)
    by_cases e1 : k = j
    · subst e1
      rw [hg] at b1
      have : g = g2 := by simpa using b1
      subst this
      obtain ⟨x0, x1, x2, x3, x4, x5, x6, x7, rfl⟩ := hW8
      exact ⟨g, x0, x1, x2, x3, x4, x5, x6, x7, hg, b2, by omega, hW⟩
    · exact ⟨g2, y0, y1, y2, y3, y4, y5, y6, y7, b1, b2, by omega, (ho g2 (hother k g2 e1 (hLa hk) b1)).trans b4⟩
  · by_cases e1 : k = j
    · subst e1
      exact ⟨updB_up ha, updB_up hc, g, cs, hg, hcs, hW⟩
    · obtain ⟨a1, a2, g2, cs2, a3, a4, a5⟩ := h.put k (updB_of hk (hpp k e1))
      exact ⟨updB_up a1, updB_up a2, g2, cs2, a3, a4, (ho g2 (hother k g2 e1 a1 a3)).trans a5⟩
/-- a run's variable, when all is done -/
theorem TwoF.done (h : TwoF q kv RR W2 L e w) {j : Bool} (hc : L (q.c j) = true) (ha : L (q.a j) = true) (hp : L (q.p j) = true) :
    ∃ g s en lo cs, e (q.t j) = .pointer (some ⟨g, 0, none⟩) ∧ W2.heap.size ≤ g ∧ g < w.heap.size ∧ RR j s en ∧ TraceAt lo w (.agg cs) s en ∧ w.heap[g]? = some (.cells cs 32 (0, 0)) := by
  obtain ⟨s, en, lo, hi, h1, h2, _⟩ := h.run j hc
  obtain ⟨g, _, _, _, _, _, _, _, _, e1, h3, h4, _⟩ := h.made j ha
  obtain ⟨_, _, g2, cs, e2, e3, h5⟩ := h.put j hp
  rw [e1] at e2
  have : g = g2 := by injection e2 with e2; injection e2 with e2; injection e2
  subst this
  rw [e3] at h2
  exact ⟨g, s, en, lo, cs, e1, h3, h4, h1, h2.at, h5⟩
end
end Go.Proofs.YtncmnbchkabgaaaGreat

namespace Go.Proofs.YtncmnbchkabgaaaGreat
open Go.RowKit Go.Maps

theorem load_func (ev : Operand → Value) (w : World) (b t d : Nat) (p0 p1 p2 p3 : Value) (pos : String) (af : Array Edge) (g) (ty : TypeId) (ha : ev (.tmp t) = .pointer (some ⟨b, 0, none⟩)) (hw : ∀ o, w.cell? ⟨b, o, none⟩ = (#[p0, p1, p2, p3] : Array Value)[o]?) :
   (execOp ev { dst := some d, op := .load 25 (.tmp t), type := ty, pos := pos, after := af, guard := g }).run Tryz.prog w = .ok (.value (.agg #[p0, p1, p2, p3])) w := by
  have h0 := hw 0
  have h1 := hw 1
  have h2 := hw 2
  have h3 := hw 3
  clear hw
  go_simp

theorem alloc_trace (ev : Operand → Value) (w : World) (d : Nat) (pos : String) (af : Array Edge) (g) (ty : TypeId) :
   ∃ x0 x1 x2 x3 x4 x5 x6 x7, (execOp ev { dst := some d, op := .alloc 32, type := ty, pos := pos, after := af, guard := g }).run Tryz.prog w = .ok (.value (.pointer (some ⟨w.heap.size, 0, none⟩))) (w.alloc (.cells #[x0, x1, x2, x3, x4, x5, x6, x7] 32)) := by
  refine ⟨.int .i64 0, .int .i64 0, .int .i64 0, .slice none 0 0, .slice none 0 0, .int .i64 0, .int .i64 0, .slice none 0 0, ?_⟩
  go_simp

theorem call_run (ev : Operand → Value) (w : World) (d t1 t2 t3 : Nat) (fv iv nv : Value) (pos : String) (af : Array Edge) (g) (ty : TypeId) (h1 : ev (.tmp t1) = fv) (h2 : ev (.tmp t2) = iv) (h3 : ev (.tmp t3) = nv) (hf : ev (.func 10) = .func (.func 10) #[] #[]) :
   (execOp ev { dst := some d, op := .call { callee := .value (.func 10), args := #[.tmp t1, .tmp t2, .tmp t3], argTypes := #[25, 28, 3] }, type := ty, pos := pos, after := af, guard := g }).run Tryz.prog w = .ok (.enter 10 #[fv, iv, nv]) w := by
  go_simp

theorem store_trace (ev : Operand → Value) (w : World) (t s b : Nat) (x0 x1 x2 x3 x4 x5 x6 x7 v0 v1 v2 v3 v4 v5 v6 v7 : Value) (n0 n1 n2 n5 n6 : Int) (A3 A4 A7 : Option Addr) (l3 c3 l4 c4 l7 c7 : Nat) (k0 : v0 = .int .i64 n0) (k1 : v1 = .int .i64 n1) (k2 : v2 = .int .i64 n2) (k3 : v3 = .slice A3 l3 c3) (k4 : v4 = .slice A4 l4 c4) (k5 : v5 = .int .i64 n5) (k6 : v6 = .int .i64 n6) (k7 : v7 = .slice A7 l7 c7) (pos : String) (af : Array Edge) (g) (ty : TypeId) (h1 : ev (.tmp t) = .pointer (some ⟨b, 0, none⟩)) (h2 : ev (.tmp s) = .agg #[v0, v1, v2, v3, v4, v5, v6, v7]) (hw : w.heap[b]? = some (.cells #[x0, x1, x2, x3, x4, x5, x6, x7] 32 (0, 0))) :
   (execOp ev { dst := none, op := .store 32 (.tmp t) (.tmp s), type := ty, pos := pos, after := af, guard := g }).run Tryz.prog w = .ok .skip ((((((((w.setCell ⟨b, 0, none⟩ v0).setCell ⟨b, 1, none⟩ v1).setCell ⟨b, 2, none⟩ v2).setCell ⟨b, 3, none⟩ v3).setCell ⟨b, 4, none⟩ v4).setCell ⟨b, 5, none⟩ v5).setCell ⟨b, 6, none⟩ v6).setCell ⟨b, 7, none⟩ v7) := by
  have hx := row_cells hw rfl
  have hz := fun o => frozen_of_row w b o _ _ hw
  have y0 : w.cell? ⟨b, 0, none⟩ = some x0 := hx 0
  have y1 : w.cell? ⟨b, 1, none⟩ = some x1 := hx 1
  have y2 : w.cell? ⟨b, 2, none⟩ = some x2 := hx 2
  have y3 : w.cell? ⟨b, 3, none⟩ = some x3 := hx 3
  have y4 : w.cell? ⟨b, 4, none⟩ = some x4 := hx 4
  have y5 : w.cell? ⟨b, 5, none⟩ = some x5 := hx 5
  have y6 : w.cell? ⟨b, 6, none⟩ = some x6 := hx 6
  have y7 : w.cell? ⟨b, 7, none⟩ = some x7 := hx 7
  have z0 := hz 0
  have z1 := hz 1
  have z2 := hz 2
  have z3 := hz 3
  have z4 := hz 4
  have z5 := hz 5
  have z6 := hz 6
  have z7 := hz 7
  clear hx hz
  subst k0 k1 k2 k3 k4 k5 k6 k7
  go_simp

theorem load_input (ev : Operand → Value) (w : World) (b t d : Nat) (p0 p1 : Value) (pos : String) (af : Array Edge) (g) (ty : TypeId) (ha : ev (.tmp t) = .pointer (some ⟨b, 0, none⟩)) (hw : ∀ o, w.cell? ⟨b, o, none⟩ = (#[p0, p1] : Array Value)[o]?) :
   (execOp ev { dst := some d, op := .load 28 (.tmp t), type := ty, pos := pos, after := af, guard := g }).run Tryz.prog w = .ok (.value (.agg #[p0, p1])) w := by
  have h0 := hw 0
  have h1 := hw 1
  clear hw
  go_simp

/-- so many operations there are -/
def maskB (n : Nat) (L : Nat → Bool) : Nat → Bool := fun i => L i && decide (i < n)

theorem mask_of {n i : Nat} {L : Nat → Bool} (h : L i = true) (hi : i < n) : maskB n L i = true := by
  unfold maskB
  rw [h, decide_eq_true hi]
  rfl

theorem mask_upd {n i : Nat} (hi : i < n) (L : Nat → Bool) : maskB n (updB L i) = updB (maskB n L) i := by
  funext x
  unfold maskB updB
  by_cases h : i = x
  · subst h
    rw [if_pos rfl, if_pos rfl, decide_eq_true hi]
    rfl
  · rw [if_neg h, if_neg h]

theorem mask_congr {n : Nat} {L L' : Nat → Bool} (h : ∀ i, i < n → L i = L' i) : maskB n L = maskB n L' := by
  funext x
  unfold maskB
  by_cases hx : x < n
  · rw [h x hx]
  · rw [decide_eq_false hx, Bool.and_false, Bool.and_false]

/-- these are waited for -/
def awaitsB (af : List Edge) (ks : List Nat) (n : Nat) : Bool := ks.all fun k => decide (k < n) && af.any fun x => Region.binds .any x && x.on == k

theorem awaits_spec {af : List Edge} {ks : List Nat} {n : Nat} (h : awaitsB af ks n = true) : ∀ k ∈ ks, k < n ∧ ∃ x ∈ af, Region.binds .any x = true ∧ x.on = k := by
  intro k hk
  unfold awaitsB at h
  rw [List.all_eq_true] at h
  have := h k hk
  rw [Bool.and_eq_true, decide_eq_true_iff, List.any_eq_true] at this
  obtain ⟨h1, x, hx, h2⟩ := this
  rw [Bool.and_eq_true, beq_iff_eq] at h2
  exact ⟨h1, x, hx, h2⟩

theorem move_run (ev : Operand → Value) (w : World) (x : Operand) (d : Option Nat) (pos : String) (af : Array Edge) (g) (ty : TypeId) :
   (execOp ev { dst := d, op := .move x, type := ty, pos := pos, after := af, guard := g }).run Tryz.prog w = .ok (.value (ev x)) w := by
  go_simp

section
variable {q : TwoP} {kv : Nat → Value} {RR : Bool → StM → EndM → Prop} {W2 : World} {Q : Exit → Act → World → Prop} {ops : Array Oper} {a0 : Act} {ds : List Nat} {n : Nat}

/-- what a region of runs keeps -/
def RunsF (n : Nat) (q : TwoP) (kv : Nat → Value) (RR : Bool → StM → EndM → Prop) (W2 : World) : (Nat → Bool) → (Nat → Value) → World → Prop := fun L e w => TwoF q kv RR W2 (maskB n L) e w

set_option maxRecDepth 100000 in
theorem step_known (ok : q.Ok) {i d : Nat} {o : Oper} (hi : i < n) (hm : (i, d) ∈ q.known) (hd : o.dst = some d) (hg : o.guard = none)
    (hrun : ∀ (a : Act) (w : World), Below W2.heap.size W2 w → (∀ x, x ∉ ds → a.eval (.tmp x) = a0.eval (.tmp x)) → (execOp a.eval o).run Tryz.prog w = .ok (.value (kv d)) w) : StepOk Tryz.prog ops Q a0 ds (RunsF n q kv RR W2) i o := by
  intro L e w a _ _ hF _ hout K hK
  rw [if_pos (by unfold Region.wanted; rw [hg])]
  unfold Oper.wp
  rw [hrun a w hF.below hout]
  show K (a.put o.dst (kv d)) w
  refine hK _ _ ?_
  unfold RunsF
  rw [mask_upd hi, hd]
  exact hF.knows ok hm

set_option maxRecDepth 100000 in
theorem step_make (ok : q.Ok) {j : Bool} {o : Oper} (hi : q.a j < n) (hd : o.dst = some (q.t j)) (hg : o.guard = none) (ho : o.op = .alloc 32) : StepOk Tryz.prog ops Q a0 ds (RunsF n q kv RR W2) (q.a j) o := by
  intro L e w a hL _ hF _ hout K hK
  rw [if_pos (by unfold Region.wanted; rw [hg])]
  obtain ⟨dst, op, ty, pos, af, g⟩ := o
  subst hd ho
  obtain ⟨x0, x1, x2, x3, x4, x5, x6, x7, hrun⟩ := alloc_trace a.eval w (q.t j) pos af g ty
  unfold Oper.wp
  rw [hrun]
  refine hK _ _ ?_
  unfold RunsF
  rw [mask_upd hi]
  exact hF.makes ok (by unfold maskB; rw [hL]; rfl) x0 x1 x2 x3 x4 x5 x6 x7

set_option maxRecDepth 100000 in
theorem step_run (ok : q.Ok) {j : Bool} {o : Oper} {t1 t2 t3 k1 k2 k3 : Nat} (hi : q.c j < n) (hd : o.dst = some (q.s j)) (hg : o.guard = none)
    (ho : o.op = .call { callee := .value (.func 10), args := #[.tmp t1, .tmp t2, .tmp t3], argTypes := #[25, 28, 3] })
    (haw : awaitsB o.after.toList [k1, k2, k3] n = true) (hk1 : (k1, t1) ∈ q.known) (hk2 : (k2, t2) ∈ q.known) (hk3 : (k3, t3) ∈ q.known) (hds : t1 ∈ ds ∧ t2 ∈ ds ∧ t3 ∈ ds)
    (hcall : ∀ W, Below W2.heap.size W2 W → Calls Tryz.prog 10 #[kv t1, kv t2, kv t3] W fun e w' => ∃ v s en, e = .returned v ∧ RR j s en ∧ TraceAt W.heap.size w' v s en ∧ Below W.heap.size W w') :
    StepOk Tryz.prog ops Q a0 ds (RunsF n q kv RR W2) (q.c j) o := by
  intro L e w a hL haf hF hin hout K hK
  rw [if_pos (by unfold Region.wanted; rw [hg])]
  have hdone : ∀ k ∈ [k1, k2, k3], maskB n L k = true := fun k hk => by
    obtain ⟨hkn, x, hx, hb, rfl⟩ := awaits_spec haw k hk
    exact mask_of (haf x hx hb) hkn
  have e1 : a.eval (.tmp t1) = kv t1 := (hin t1 hds.1).trans (hF.known _ hk1 (hdone k1 (by simp)))
  have e2 : a.eval (.tmp t2) = kv t2 := (hin t2 hds.2.1).trans (hF.known _ hk2 (hdone k2 (by simp)))
  have e3 : a.eval (.tmp t3) = kv t3 := (hin t3 hds.2.2).trans (hF.known _ hk3 (hdone k3 (by simp)))
  obtain ⟨dst, op, ty, pos, af, g⟩ := o
  subst hd ho
  unfold Oper.wp
  rw [call_run a.eval w (q.s j) t1 t2 t3 _ _ _ pos af g ty e1 e2 e3 rfl]
  refine (hcall w hF.below).mono ?_
  rintro en w' ⟨v, s, en, rfl, hr, ht, hb⟩
  refine hK _ _ ?_
  unfold RunsF
  rw [mask_upd hi]
  exact hF.ran ok (by unfold maskB; rw [hL]; rfl) hr ht hb

set_option maxRecDepth 100000 in
theorem step_store (ok : q.Ok) {j : Bool} {o : Oper} (hi : q.p j < n) (hd : o.dst = none) (hg : o.guard = none) (ho : o.op = .store 32 (.tmp (q.t j)) (.tmp (q.s j)))
    (haw : awaitsB o.after.toList [q.a j, q.c j] n = true) (hds : q.t j ∈ ds ∧ q.s j ∈ ds) :
    StepOk Tryz.prog ops Q a0 ds (RunsF n q kv RR W2) (q.p j) o := by
  intro L e w a hL haf hF hin hout K hK
  rw [if_pos (by unfold Region.wanted; rw [hg])]
  have hdone : ∀ k ∈ [q.a j, q.c j], maskB n L k = true := fun k hk => by
    obtain ⟨hkn, x, hx, hb, rfl⟩ := awaits_spec haw k hk
    exact mask_of (haf x hx hb) hkn
  have ha := hdone (q.a j) (by simp)
  have hc := hdone (q.c j) (by simp)
  obtain ⟨g, x0, x1, x2, x3, x4, x5, x6, x7, e1, hlo, _, hg8⟩ := hF.made j ha
  obtain ⟨s, en, lo, hi2, _, ⟨nv, val, e2, hrows⟩, _⟩ := hF.run j hc
  obtain ⟨Ao, co, ho⟩ := row_form (hrows .out _ rfl).1
  obtain ⟨Aa, ca, ha2⟩ := row_form (hrows .arrs _ rfl).1
  obtain ⟨Av, cv, hv⟩ := row_form (hrows .vis _ rfl).1
  obtain ⟨dst, op, ty, pos, af, gd⟩ := o
  subst hd ho
  unfold Oper.wp
  rw [store_trace a.eval w (q.t j) (q.s j) g x0 x1 x2 x3 x4 x5 x6 x7 _ _ _ _ _ _ _ _ _ _ _ _ _ Ao Aa Av _ co _ ca _ cv rfl rfl rfl ho ha2 rfl rfl hv pos af gd ty ((hin _ hds.1).trans e1) ((hin _ hds.2).trans e2) hg8]
  obtain ⟨h1, h2, h3⟩ := eight_set hg8 _ _ _ _ _ _ _ _ rfl
  refine hK _ _ ?_
  unfold RunsF
  rw [mask_upd hi]
  exact hF.stores ok (by unfold maskB; rw [hL]; rfl) ha hc e1 e2 h1 ⟨_, _, _, _, _, _, _, _, rfl⟩ h2 (h3 _ hlo) (by simp)
end

end Go.Proofs.YtncmnbchkabgaaaGreat

namespace Go.Proofs.YtncmnbchkabgaaaGreat
open Go.RowKit Go.Maps

abbrev tA : Tag := .fr 0 0
abbrev tB : Tag := .fr 0 1
def spE (L : Nat → Bool) : Nat := if L 5 then 84 else if L 3 then 82 else 79
def spG (L : Nat → Bool) : Nat := if L 12 then 91 else if L 9 then 88 else 85
def spA (args more : List Int) (L : Nat → Bool) : List Int := if L 5 then args ++ more else if L 3 then args else []
def spB (us : List Value) (mv : Value) (L : Nat → Bool) : List Value := if L 12 then us ++ [mv] else if L 9 then us else []
def spRow (args more : List Int) (us : List Value) (mv : Value) (L : Nat → Bool) : Rows := fun t => if t = tA then some (intsRow (spA args more L)) else if t = tB then some ⟨22, 1, (spB us mv L).length, spB us mv L⟩ else none
def spD (L : Nat → Bool) (t : Tag) : Prop := (t = tA ∧ L 0 = true) ∨ (t = tB ∧ L 6 = true)

structure SpS (W2 : World) (mv : Value) (args more : List Int) (us : List Value) (L : Nat → Bool) (e : Nat → Value) (w : World) (v : Vals) (bl : List VarD) : Prop where
  own : OwnC W2 w (spRow args more us mv L) v (spD L) bl
  a : L 0 = true → v tA = e (spE L) ∧ ∃ g c, v tA = .slice (some ⟨g, 0, none⟩) (spA args more L).length c
  b : L 6 = true → v tB = e (spG L) ∧ ∃ g c, v tB = .slice (some ⟨g, 0, none⟩) (spB us mv L).length c
  n : L 11 = true → ∃ g, e 90 = .slice (some ⟨g, 0, none⟩) 1 1 ∧ (g, #[mv], 22) ∈ bl
  x : L 14 = true → ∃ g y z, e 8 = .pointer (some ⟨g, 0, none⟩) ∧ (g, #[y, z], 28) ∈ bl ∧ (L 15 = true → y = e 84 ∧ z = e 91)

structure SpF (W2 : World) (gI : Nat) (av rv mv : Value) (args more : List Int) (us : List Value) (L : Nat → Bool) (e : Nat → Value) (w : World) : Prop where
  o3 : L 3 = true → L 0 = true
  o5 : L 5 = true → L 3 = true
  o9 : L 9 = true → L 6 = true ∧ L 5 = true
  o12 : L 12 = true → L 9 = true ∧ L 11 = true
  o13 : L 13 = true → L 5 = true ∧ L 12 = true
  o15 : L 15 = true → L 13 = true ∧ L 14 = true
  k1 : L 1 = true → e 80 = .pointer (some ⟨gI, 0, none⟩)
  k2 : L 2 = true → e 81 = av
  k4 : L 4 = true → e 83 = mv
  k7 : L 7 = true → e 86 = .pointer (some ⟨gI, 1, none⟩)
  k8 : L 8 = true → e 87 = rv
  k10 : L 10 = true → e 89 = mv
  k13 : L 13 = true → e 92 = .agg #[e 84, e 91]
  st : ∃ v bl, SpS W2 mv args more us L e w v bl

section
variable {W2 : World} {gI : Nat} {av rv mv : Value} {args more : List Int} {us : List Value} {L : Nat → Bool} {e : Nat → Value} {w w' : World} {v : Vals} {bl : List VarD}

theorem SpF.start (e : Nat → Value) : SpF W2 gI av rv mv args more us (fun _ => false) e W2.drew := by
  refine ⟨(fun h => by cases h), (fun h => by cases h), (fun h => by cases h), (fun h => by cases h), (fun h => by cases h), (fun h => by cases h), (fun h => by cases h), (fun h => by cases h), (fun h => by cases h), (fun h => by cases h), (fun h => by cases h), (fun h => by cases h), (fun h => by cases h), fun _ => .slice none 0 0, [], ?_, (fun h => by cases h), (fun h => by cases h), (fun h => by cases h), (fun h => by cases h)⟩
  exact ((OwnC.nothing W2 (fun _ => none) (fun _ => .slice none 0 0)).grows (Below.refl _ _).drew).congr (fun t ht => by rcases ht with ⟨_, h⟩ | ⟨_, h⟩ <;> cases h) (fun _ _ => rfl) (fun t ht => by rcases ht with ⟨_, h⟩ | ⟨_, h⟩ <;> cases h)

theorem updB_ne {L : Nat → Bool} {i j : Nat} (h : i ≠ j) : updB L i j = L j := if_neg h
theorem updB_eq {L : Nat → Bool} {i : Nat} : updB L i i = true := if_pos rfl

/-- an operation that changes nothing of what the rows are -/
theorem SpS.same (h : SpS W2 mv args more us L e w v bl) {i d : Nat} {x : Value} (hi : i = 1 ∧ d = 80 ∨ i = 2 ∧ d = 81 ∨ i = 4 ∧ d = 83 ∨ i = 7 ∧ d = 86 ∨ i = 8 ∧ d = 87 ∨ i = 10 ∧ d = 89 ∨ i = 13 ∧ d = 92) : SpS W2 mv args more us (updB L i) (updE e (some d) x) w v bl := by
  have hE : ∀ c, c = 79 ∨ c = 82 ∨ c = 84 ∨ c = 85 ∨ c = 88 ∨ c = 90 ∨ c = 91 ∨ c = 8 → updE e (some d) x c = e c := fun c hc => by
    unfold updE
    rw [if_neg (by simp; omega)]
  have hL : ∀ c, c = 0 ∨ c = 3 ∨ c = 5 ∨ c = 6 ∨ c = 9 ∨ c = 11 ∨ c = 12 ∨ c = 14 ∨ c = 15 → updB L i c = L c := fun c hc => updB_ne (by omega)
  have e1 : spE (updB L i) = spE L := by unfold spE; rw [hL 5 (by simp), hL 3 (by simp)]
  have e2 : spG (updB L i) = spG L := by unfold spG; rw [hL 12 (by simp), hL 9 (by simp)]
  have e3 : spA args more (updB L i) = spA args more L := by unfold spA; rw [hL 5 (by simp), hL 3 (by simp)]
  have e4 : spB us mv (updB L i) = spB us mv L := by unfold spB; rw [hL 12 (by simp), hL 9 (by simp)]
  have e5 : spRow args more us mv (updB L i) = spRow args more us mv L := by unfold spRow; rw [e3, e4]
  have e6 : spD (updB L i) = spD L := by unfold spD; rw [hL 0 (by simp), hL 6 (by simp)]
  have e7 : updE e (some d) x (spE L) = e (spE L) := hE _ (by unfold spE; split; simp; split <;> simp)
  have e8 : updE e (some d) x (spG L) = e (spG L) := hE _ (by unfold spG; split; simp; split <;> simp)
  refine ⟨by rw [e5, e6]; exact h.own, fun h0 => ?_, fun h0 => ?_, fun h0 => ?_, fun h0 => ?_⟩
  · rw [hL 0 (by simp)] at h0
    rw [e1, e3, e7]
    exact h.a h0
  · rw [hL 6 (by simp)] at h0
    rw [e2, e4, e8]
    exact h.b h0
  · rw [hL 11 (by simp)] at h0
    rw [hE 90 (by simp)]
    exact h.n h0
  · rw [hL 14 (by simp)] at h0
    rw [hE 8 (by simp), hL 15 (by simp), hE 84 (by simp), hE 91 (by simp)]
    exact h.x h0

/-- a fact of SpF that the operation does not touch -/
theorem SpF.put (h : SpF W2 gI av rv mv args more us L e w) {i d : Nat} {x : Value} (hL : L i = false)
    (h3 : i = 3 → L 0 = true) (h5 : i = 5 → L 3 = true) (h9 : i = 9 → L 6 = true ∧ L 5 = true) (h12 : i = 12 → L 9 = true ∧ L 11 = true) (h13 : i = 13 → (L 5 = true ∧ L 12 = true) ∧ d = 92 ∧ x = .agg #[e 84, e 91]) (h15 : i = 15 → L 13 = true ∧ L 14 = true)
    (hk : i = 1 ∧ d = 80 ∧ x = .pointer (some ⟨gI, 0, none⟩) ∨ i = 2 ∧ d = 81 ∧ x = av ∨ i = 4 ∧ d = 83 ∧ x = mv ∨ i = 7 ∧ d = 86 ∧ x = .pointer (some ⟨gI, 1, none⟩) ∨ i = 8 ∧ d = 87 ∧ x = rv ∨ i = 10 ∧ d = 89 ∧ x = mv ∨ i = 13 ∧ d = 92 ∨ i = 0 ∧ d = 79 ∨ i = 3 ∧ d = 82 ∨ i = 5 ∧ d = 84 ∨ i = 6 ∧ d = 85 ∨ i = 9 ∧ d = 88 ∨ i = 11 ∧ d = 90 ∨ i = 12 ∧ d = 91 ∨ i = 14 ∧ d = 8 ∨ i = 15 ∧ d = 1000)
    (hst : ∃ v bl, SpS W2 mv args more us (updB L i) (updE e (some d) x) w' v bl) : SpF W2 gI av rv mv args more us (updB L i) (updE e (some d) x) w' := by
  have up : ∀ {c}, L c = true → updB L i c = true := fun {c} hc => by
    unfold updB
    split
    · rfl
    · exact hc
  have dn : ∀ {c}, updB L i c = true → c ≠ i → L c = true := fun {c} hc hn => by rwa [updB_ne (Ne.symm hn)] at hc
  have hE : ∀ c, d ≠ c → updE e (some d) x c = e c := fun c hc => by
    unfold updE
    rw [if_neg (by simpa using hc)]
  have hS : updE e (some d) x d = x := by unfold updE; rw [if_pos rfl]
  refine ⟨fun q => ?_, fun q => ?_, fun q => ?_, fun q => ?_, fun q => ?_, fun q => ?_, fun q => ?_, fun q => ?_, fun q => ?_, fun q => ?_, fun q => ?_, fun q => ?_, fun q => ?_, hst⟩
  · by_cases c : i = 3
    · exact up (h3 c)
    · exact up (h.o3 (dn q (Ne.symm c)))
  · by_cases c : i = 5
    · exact up (h5 c)
    · exact up (h.o5 (dn q (Ne.symm c)))
  · by_cases c : i = 9
    · exact ⟨up (h9 c).1, up (h9 c).2⟩
    · exact ⟨up (h.o9 (dn q (Ne.symm c))).1, up (h.o9 (dn q (Ne.symm c))).2⟩
  · by_cases c : i = 12
    · exact ⟨up (h12 c).1, up (h12 c).2⟩
    · exact ⟨up (h.o12 (dn q (Ne.symm c))).1, up (h.o12 (dn q (Ne.symm c))).2⟩
  · by_cases c : i = 13
    · exact ⟨up (h13 c).1.1, up (h13 c).1.2⟩
    · exact ⟨up (h.o13 (dn q (Ne.symm c))).1, up (h.o13 (dn q (Ne.symm c))).2⟩
  · by_cases c : i = 15
    · exact ⟨up (h15 c).1, up (h15 c).2⟩
    · exact ⟨up (h.o15 (dn q (Ne.symm c))).1, up (h.o15 (dn q (Ne.symm c))).2⟩
  · by_cases c : i = 1
    · obtain ⟨rfl, rfl⟩ : d = 80 ∧ x = .pointer (some ⟨gI, 0, none⟩) := by rcases hk with ⟨_, h1, h2⟩ | hk; exact ⟨h1, h2⟩; omega
      exact hS
    · rw [hE 80 (by omega)]; exact h.k1 (dn q (Ne.symm c))
  · by_cases c : i = 2
    · obtain ⟨rfl, rfl⟩ : d = 81 ∧ x = av := by rcases hk with hk | ⟨_, h1, h2⟩ | hk; omega; exact ⟨h1, h2⟩; omega
      exact hS
    · rw [hE 81 (by omega)]; exact h.k2 (dn q (Ne.symm c))
  · by_cases c : i = 4
    · obtain ⟨rfl, rfl⟩ : d = 83 ∧ x = mv := by rcases hk with hk | hk | ⟨_, h1, h2⟩ | hk; omega; omega; exact ⟨h1, h2⟩; omega
      exact hS
    · rw [hE 83 (by omega)]; exact h.k4 (dn q (Ne.symm c))
  · by_cases c : i = 7
    · obtain ⟨rfl, rfl⟩ : d = 86 ∧ x = .pointer (some ⟨gI, 1, none⟩) := by rcases hk with hk | hk | hk | ⟨_, h1, h2⟩ | hk; omega; omega; omega; exact ⟨h1, h2⟩; omega
      exact hS
    · rw [hE 86 (by omega)]; exact h.k7 (dn q (Ne.symm c))
  · by_cases c : i = 8
    · obtain ⟨rfl, rfl⟩ : d = 87 ∧ x = rv := by rcases hk with hk | hk | hk | hk | ⟨_, h1, h2⟩ | hk; omega; omega; omega; omega; exact ⟨h1, h2⟩; omega
      exact hS
    · rw [hE 87 (by omega)]; exact h.k8 (dn q (Ne.symm c))
  · by_cases c : i = 10
    · obtain ⟨rfl, rfl⟩ : d = 89 ∧ x = mv := by rcases hk with hk | hk | hk | hk | hk | ⟨_, h1, h2⟩ | hk; omega; omega; omega; omega; omega; exact ⟨h1, h2⟩; omega
      exact hS
    · rw [hE 89 (by omega)]; exact h.k10 (dn q (Ne.symm c))
  · by_cases c : i = 13
    · obtain ⟨_, rfl, rfl⟩ := h13 c
      rw [hS, hE 84 (by omega), hE 91 (by omega)]
    · have q13 := dn q (Ne.symm c)
      have n5 : i ≠ 5 := fun c5 => by rw [c5, (h.o13 q13).1] at hL; cases hL
      have n12 : i ≠ 12 := fun c5 => by rw [c5, (h.o13 q13).2] at hL; cases hL
      rw [hE 92 (by omega), hE 84 (by omega), hE 91 (by omega)]
      exact h.k13 q13
end
end Go.Proofs.YtncmnbchkabgaaaGreat
