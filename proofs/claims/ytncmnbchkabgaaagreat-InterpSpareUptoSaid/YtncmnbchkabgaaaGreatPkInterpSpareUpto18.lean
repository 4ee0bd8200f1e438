/- What InterpSpareUpto rests on, part 18: SpareP. -/
import Derived.Test.YtncmnbchkabgaaaGreatPkInterpSpareUpto17

namespace Go.Proofs.YtncmnbchkabgaaaGreat
open Go.RowKit Go.Maps

theorem OwnC.storeAll {w0 w : World} {row : Rows} {v : Vals} {D : Tag → Prop} {bl : List VarD} {g j : Nat} {cs : Array Value} {T : TypeId} (h : OwnC w0 w row v D bl) (hm : (g, cs, T) ∈ bl) (u : Value) : OwnC w0 (w.setCell ⟨g, j, none⟩ u) row v D (bl.map fun x => if x.1 = g then (x.1, x.2.1.setIfInBounds j u, x.2.2) else x) := by
  have hf : ∀ x : VarD, (if x.1 = g then (x.1, x.2.1.setIfInBounds j u, x.2.2) else x).1 = x.1 := fun x => by split <;> rfl
  refine ⟨h.own.other fun t ht => h.off _ hm t ht, fun y hy => ?_, fun y hy t ht => ?_, ?_, h.below.setCell (p := ⟨g, j, none⟩) (h.cells _ hm).2 u⟩
  · obtain ⟨x, hx, rfl⟩ := List.mem_map.1 hy
    obtain ⟨h1, h2⟩ := h.cells x hx
    by_cases c : x.1 = g
    · rw [if_pos c]
      refine ⟨?_, h2⟩
      show (w.setCell ⟨g, j, none⟩ u).heap[x.1]? = _
      rw [c] at h1 ⊢
      exact heap_setCell_same w g j _ _ u h1
    · rw [if_neg c]
      exact ⟨(Below.heap_setCell _ _ _ _ c).trans h1, h2⟩
  · obtain ⟨x, hx, rfl⟩ := List.mem_map.1 hy
    rw [hf]
    exact h.off x hx t ht
  · rw [List.map_map]
    have : (fun x : VarD => x.1) ∘ (fun x : VarD => if x.1 = g then (x.1, x.2.1.setIfInBounds j u, x.2.2) else x) = fun x => x.1 := funext hf
    rw [this]
    exact h.dis

section
variable {W2 : World} {gI : Nat} {av rv mv : Value} {args more : List Int} {us : List Value} {L : Nat → Bool} {e : Nat → Value} {w : World}

/-- the wider input is stored -/
theorem step15 {v : Vals} {bl : List VarD} {g : Nat} {y z : Value} (h : SpF W2 gI av rv mv args more us L e w) (h13 : L 13 = true) (h14 : L 14 = true) (hs : SpS W2 mv args more us L e w v bl) (h8 : e 8 = .pointer (some ⟨g, 0, none⟩)) (hm : (g, #[y, z], 28) ∈ bl) :
    SpF W2 gI av rv mv args more us (updB L 15) e ((w.setCell ⟨g, 0, none⟩ (e 84)).setCell ⟨g, 1, none⟩ (e 91)) := by
  have up : ∀ {c}, L c = true → updB L 15 c = true := fun {c} hc => by
    unfold updB
    split
    · rfl
    · exact hc
  have dn : ∀ {c}, updB L 15 c = true → 15 ≠ c → L c = true := fun {c} hc hn => by rwa [updB_ne hn] at hc
  have e1 : spE (updB L 15) = spE L := by unfold spE; rw [updB_ne (by omega), updB_ne (by omega)]
  have e2 : spG (updB L 15) = spG L := by unfold spG; rw [updB_ne (by omega), updB_ne (by omega)]
  have e3 : spA args more (updB L 15) = spA args more L := by unfold spA; rw [updB_ne (by omega), updB_ne (by omega)]
  have e4 : spB us mv (updB L 15) = spB us mv L := by unfold spB; rw [updB_ne (by omega), updB_ne (by omega)]
  have e5 : spRow args more us mv (updB L 15) = spRow args more us mv L := by unfold spRow; rw [e3, e4]
  have e6 : spD (updB L 15) = spD L := by unfold spD; rw [updB_ne (by omega), updB_ne (by omega)]
  have o1 := hs.own.storeAll (j := 0) hm (e 84)
  have m1 : (g, #[e 84, z], 28) ∈ bl.map fun x : VarD => if x.1 = g then (x.1, x.2.1.setIfInBounds 0 (e 84), x.2.2) else x := List.mem_map.2 ⟨_, hm, by rw [if_pos rfl]; rfl⟩
  have o2 := o1.storeAll (j := 1) m1 (e 91)
  refine ⟨fun q => up (h.o3 (dn q (by omega))), fun q => up (h.o5 (dn q (by omega))), fun q => ⟨up (h.o9 (dn q (by omega))).1, up (h.o9 (dn q (by omega))).2⟩, fun q => ⟨up (h.o12 (dn q (by omega))).1, up (h.o12 (dn q (by omega))).2⟩, fun q => ⟨up (h.o13 (dn q (by omega))).1, up (h.o13 (dn q (by omega))).2⟩, fun _ => ⟨up h13, up h14⟩,
    fun q => h.k1 (dn q (by omega)), fun q => h.k2 (dn q (by omega)), fun q => h.k4 (dn q (by omega)), fun q => h.k7 (dn q (by omega)), fun q => h.k8 (dn q (by omega)), fun q => h.k10 (dn q (by omega)), fun q => h.k13 (dn q (by omega)), v, _, by rw [e5, e6]; exact o2, fun q => by rw [e1, e3]; exact hs.a (dn q (by omega)), fun q => by rw [e2, e4]; exact hs.b (dn q (by omega)), fun q => ?_, fun _ => ⟨g, e 84, e 91, h8, List.mem_map.2 ⟨_, m1, by rw [if_pos rfl]; rfl⟩, fun _ => ⟨rfl, rfl⟩⟩⟩
  obtain ⟨gn, h1, h2⟩ := hs.n (dn q (by omega))
  have hne : gn ≠ g := fun c => by
    have a1 := (hs.own.cells _ h2).1
    have a2 := (hs.own.cells _ hm).1
    rw [show gn = g from c] at a1
    rw [a1] at a2
    injection a2 with a2
    injection a2 with a2
    have := congrArg Array.size a2
    cases this
  exact ⟨gn, h1, List.mem_map.2 ⟨_, List.mem_map.2 ⟨_, h2, by rw [if_neg hne]⟩, by rw [if_neg hne]⟩⟩

set_option maxRecDepth 100000 in
theorem sp_store {Q : Exit → Act → World → Prop} {ops : Array Oper} {a0 : Act} {ds : List Nat} {o : Oper} (hd : o.dst = none) (hg : o.guard = none) (ho : o.op = .store 28 (.tmp 8) (.tmp 92)) (haw : awaitsB o.after.toList [13, 14] 16 = true) (hds : 8 ∈ ds ∧ 92 ∈ ds) : StepOk Tryz.prog ops Q a0 ds (SpM W2 gI av rv mv args more us) 15 o := by
  intro L e w a hL haf hF hin hout K hK
  rw [if_pos (by unfold Region.wanted; rw [hg])]
  have hdone : ∀ k ∈ [13, 14], maskB 16 L k = true := fun k hk => by
    obtain ⟨hkn, x, hx, hb, rfl⟩ := awaits_spec haw k hk
    exact mask_of (haf x hx hb) hkn
  have h13 := hdone 13 (by simp)
  have h14 := hdone 14 (by simp)
  obtain ⟨v, bl, hs⟩ := hF.st
  obtain ⟨h5, h12⟩ := hF.o13 h13
  obtain ⟨ha, g, c, hv⟩ := hs.a (hF.o3 (hF.o5 h5))
  obtain ⟨hb, g2, c2, hv2⟩ := hs.b (hF.o9 (hF.o12 h12).1).1
  rw [show spE (maskB 16 L) = 84 by unfold spE; rw [h5]; rfl] at ha
  rw [show spG (maskB 16 L) = 91 by unfold spG; rw [h12]; rfl] at hb
  have e84 := ha.symm.trans hv
  have e91 := hb.symm.trans hv2
  obtain ⟨gx, y, z, e8, hm, _⟩ := hs.x h14
  have e92 := hF.k13 h13
  have hst := step15 hF h13 h14 hs e8 hm
  rw [e84, e91] at hst e92
  obtain ⟨dst, op, ty, pos, af, gd⟩ := o
  subst hd ho
  unfold Oper.wp
  rw [exec_store a.eval w 8 92 gx y z _ _ _ _ _ _ pos af gd ty ((hin 8 hds.1).trans e8) ((hin 92 hds.2).trans e92) (hs.own.cells _ hm).1]
  refine hK _ _ ?_
  show SpF _ _ _ _ _ _ _ _ (maskB 16 (updB L 15)) _ _
  rw [mask_upd (by omega), show ∀ x, updE e none x = e from fun x => funext fun y => by simp [updE]]
  exact hst
end

set_option maxRecDepth 100000 in
set_option maxHeartbeats 4000000 in
theorem spare_wide (f : FuncM) (I : InM) (more : List Int) (pv bv av rv mv : Value) (w : World) (hF : FnIn w f pv bv) (hI : InIn w I av rv) (hmi : Ints w w.heap.size mv more) (hmc : ∀ A n c, mv = .slice A n c → n ≤ c) (hc : f.params.length ≤ I.args.length ∧ f.arrays ≤ (I.arrs.length : Int)) (hs1 : I.args.length ≤ 1048576) (hs2 : I.arrs.length ≤ 1048576) (hs3 : more.length ≤ 1048576) :
    Calls Tryz.prog 3 #[.agg #[pv, .int .i64 f.arrays, .int .i64 f.cells, bv], .agg #[av, rv], mv] w fun e w' => e = .returned (.bool true) ∧ Below w.heap.size w w' := by
  have HFI := hideI hF
  have HII := hideI hI
  obtain ⟨P, pc, hpv, hpl, _⟩ := hF.par
  obtain ⟨Aa, ca, hav, _, _⟩ := hI.args
  obtain ⟨Ra, cr, hrv, _, _⟩ := hI.arrs
  obtain ⟨Am, cm, hmv, _, _⟩ := id hmi
  subst hpv hav hrv hmv
  obtain ⟨np, hnp⟩ : ∃ n, n = f.params.length := ⟨_, rfl⟩
  obtain ⟨na, hna⟩ : ∃ n, n = I.args.length := ⟨_, rfl⟩
  obtain ⟨nr, hnr⟩ : ∃ n, n = I.arrs.length := ⟨_, rfl⟩
  obtain ⟨nm, hnm⟩ : ∃ n, n = more.length := ⟨_, rfl⟩
  have HN := hideI (And.intro hnp (And.intro hna (And.intro hnr hnm)))
  have hnm5 : nm ≤ 1048576 := by omega
  have hcm : nm ≤ cm := by rw [hnm]; exact hmc _ _ _ rfl
  obtain ⟨W2, hW2⟩ : ∃ W2, W2 = ((w.alloc (.cells #[.slice P np pc, .int .i64 f.arrays, .int .i64 f.cells, bv] 25)).alloc (.cells #[.slice Aa na ca, .slice Ra nr cr] 28)) := ⟨_, rfl⟩
  have hb2 : Below w.heap.size w W2 := by rw [hW2]; exact below_two w _ _
  have hs2' : W2.heap.size = w.heap.size + 2 := by rw [hW2]; simp
  have hf0 : W2.heap[w.heap.size]? = some (.cells #[.slice P np pc, .int .i64 f.arrays, .int .i64 f.cells, bv] 25 (0, 0)) := by
    rw [hW2, Below.heap_alloc _ _ _ (by simp)]
    exact heap_alloc_new w _
  have hf1 : W2.heap[w.heap.size + 1]? = some (.cells #[.slice Aa na ca, .slice Ra nr cr] 28 (0, 0)) := by
    rw [hW2]
    have := heap_alloc_new (w.alloc (.cells #[.slice P np pc, .int .i64 f.arrays, .int .i64 f.cells, bv] 25)) (.cells #[.slice Aa na ca, .slice Ra nr cr] 28)
    simpa using this
  have HC0 : Hid (∀ W, Below W2.heap.size W2 W → ∀ o, W.cell? ⟨w.heap.size, o, none⟩ = (#[.slice P np pc, .int .i64 f.arrays, .int .i64 f.cells, bv] : Array Value)[o]?) := hideI fun W hW => row_cells hf0 (hW.block _ (by omega))
  have HC1 : Hid (∀ W, Below W2.heap.size W2 W → ∀ o, W.cell? ⟨w.heap.size + 1, o, none⟩ = (#[.slice Aa na ca, .slice Ra nr cr] : Array Value)[o]?) := hideI fun W hW => row_cells hf1 (hW.block _ (by omega))
  have HIA : Hid (∀ W, Below W2.heap.size W2 W → Ints W w.heap.size (.slice Aa na ca) I.args ∧ ArrsR W w.heap.size (.slice Ra nr cr) I.arrs ∧ Ints W w.heap.size (.slice P np pc) f.params ∧ BlocksR W w.heap.size bv f.blocks ∧ Below w.heap.size w W) := hideI fun W hW => by
    have hb : Below w.heap.size w W := hb2.trans (hW.mono (by omega))
    rw [hna, hnr, hnp]
    exact ⟨hI.args.keeps (Keeps.of_below hb), hI.arrs.keeps (Keeps.of_below hb), hF.par.keeps (Keeps.of_below hb), hF.blk.keeps (Keeps.of_below hb), hb⟩
  have HID := hideI (uses_i64 hF.ok)
  have HMI : Hid (∀ W, Below W2.heap.size W2 W → Ints W w.heap.size (.slice Am nm cm) more) := hideI fun W hW => by
    rw [hnm]
    exact hmi.keeps (Keeps.of_below (hb2.trans (hW.mono (by omega))))
  have HW2 := hideI hW2
  have HB2 := hideI hb2
  have HS2 := hideI hs2'
  have hna5 : na ≤ 1048576 := by omega
  have hnr5 : nr ≤ 1048576 := by omega
  have hc' : np ≤ na ∧ f.arrays ≤ (nr : Int) := by rw [hnp, hna, hnr]; exact hc
  have HCD := hideI hc'
  have q0 : W2.cell? ⟨w.heap.size, 0, none⟩ = some (.slice P np pc) := HC0.out W2 (Below.refl _ _) 0
  have q1 : W2.cell? ⟨w.heap.size, 1, none⟩ = some (.int .i64 f.arrays) := HC0.out W2 (Below.refl _ _) 1
  have r0 : W2.cell? ⟨w.heap.size + 1, 0, none⟩ = some (.slice Aa na ca) := HC1.out W2 (Below.refl _ _) 0
  have r1 : W2.cell? ⟨w.heap.size + 1, 1, none⟩ = some (.slice Ra nr cr) := HC1.out W2 (Below.refl _ _) 1
  rw [← hnp, ← hna, ← hnr, ← hnm]
  clear hmi hmc hs3 hnm hF hI hW2 hb2 hs2' hf0 hf1 hc hc' hnp hna hnr hs1 hs2 hpl
  go_enter Tryz.func3, Tryz.ntmps3
  go_upto_region 1 with fail
  rw [← HW2.out]
  go_cut [23] (fun c wx => c = .bool false ∧ wx = W2)
  case first =>
    have h1 : np ≤ na := HCD.out.1
    have h2 : f.arrays ≤ (nr : Int) := HCD.out.2
    go_wp2_with fail
    go_meet
    exact ⟨by first | rfl | (congr 1; simp; omega), rfl⟩
  case rest =>
    obtain ⟨rfl, hwc⟩ := hcut
    obtain rfl := hwc.symm
    obtain ⟨us, Rb, cb, hre, HLV0, hat, hone⟩ := arrs_vals (HIA.out W2 (Below.refl _ _)).2.1
    obtain ⟨e1, e2, e3⟩ : Ra = Rb ∧ nr = I.arrs.length ∧ cr = cb := by
      injection hre with a b c
      exact ⟨a, b, c⟩
    subst e1 e3
    have hul : nr = us.length := by rw [HLV0.1, e2]
    have HLV := hideI HLV0
    have HONE := hideI hone
    have HAT : Hid (∀ W, Below W2.heap.size W2 W → ∀ (j : Nat) (u : Value), us[j]? = some u → ∃ b off, Ra = some ⟨b, off, none⟩ ∧ W.cell? ⟨b, off + j, none⟩ = some u) := hideI fun W hW j u hj => by
      obtain ⟨b, off, h1, h2, h3⟩ := hat j u hj
      exact ⟨b, off, h1, (hW.cell (p := ⟨b, off + j, none⟩) (by have := HS2.out; show b < W2.heap.size; omega)).trans h3⟩
    clear hre HLV0 hat hone e2 q0 q1 r0 r1
    subst hul
    go_upto_region 10 with fail
    refine wp_region_env (by kernel_rfl) [79, 80, 81, 82, 83, 84, 85, 86, 87, 88, 89, 90, 91, 92, 8] (SpM W2 (w.heap.size + 1) (.slice Aa na ca) (.slice Ra us.length cr) (.slice Am nm cm) I.args more us) 103 rfl (by decide) (by kernel_rfl) (by kernel_rfl) (by kernel_rfl) (fun e => ?_) (fun L L' e w h => ?_) ?_ (fun e W4 h => ?_)
    · exact SpF.start e
    · intro k
      show SpF _ _ _ _ _ _ _ _ (maskB 16 L') e w
      rw [mask_congr (n := 16) fun i hi => (h i hi).symm]
      exact k
    · refine And.intro ?_ (And.intro ?_ (And.intro ?_ (And.intro ?_ (And.intro ?_ (And.intro ?_ (And.intro ?_ (And.intro ?_ (And.intro ?_ (And.intro ?_ (And.intro ?_ (And.intro ?_ (And.intro ?_ (And.intro ?_ (And.intro ?_ (And.intro ?_ trivial)))))))))))))))
      · exact sp_step [] (d := 79) (by decide) rfl rfl (by rfl) fun L e w a hL _ hF hin hout => ⟨_, _, exec_emptyI a.eval w 79 _ _ _ _, step0 hF hL⟩
      · exact sp_step [] (d := 80) (by decide) rfl rfl (by rfl) fun L e w a hL _ hF hin hout => ⟨_, _, exec_field a.eval w 80 4 _ 0 _ _ _ _ ((hout 4 (by decide)).trans rfl) (.inl rfl), stepK hF hL (.inl ⟨rfl, rfl, rfl⟩)⟩
      · exact sp_step [1] (d := 81) (by decide) rfl rfl (by rfl) fun L e w a hL hk hF hin hout => by
          obtain ⟨v, bl, hs⟩ := hF.st
          exact ⟨_, _, exec_loadI a.eval w 81 80 _ 0 _ _ _ _ _ ((hin 80 (by decide)).trans (hF.k1 (hk 1 (by simp)))) (HC1.out w hs.own.below 0), stepK hF hL (.inr (.inl ⟨rfl, rfl, rfl⟩))⟩
      · exact sp_step [0, 2] (d := 82) (by decide) rfl rfl (by rfl) fun L e w a hL hk hF hin hout => by
          obtain ⟨v, bl, hs⟩ := hF.st
          have h0 := hk 0 (by simp)
          obtain ⟨ha, g, c, hv⟩ := hs.a h0
          have h5 : L 5 = false := by cases q : L 5 with | false => rfl | true => rw [hF.o5 q] at hL; cases hL
          have hA : spA I.args more L = [] := by unfold spA; rw [h5, hL]; rfl
          have hE : spE L = 79 := by unfold spE; rw [h5, hL]; rfl
          have hown := hs.own.own.rows tA _ (.inl ⟨rfl, h0⟩) rowA
          rw [hv, hA] at hown
          rw [hA] at hv
          rw [hE] at ha
          obtain ⟨g1, cap, w', hr, h1, h2, h3, _⟩ := app_ints (ty := 22) (ys := []) (n0 := 0) hown (HIA.out w hs.own.below).1 (by have := HN.out.2.1; omega) hs.own.below.size
          rw [show 0 + I.args.length = ([] : List Int).length + I.args.length from rfl] at hr h1
          exact ⟨_, w', exec_append (s := .tmp 79) (x := .tmp 81) rfl ((hin 79 (by decide)).trans (ha.symm.trans hv)) ((hin 81 (by decide)).trans (hF.k2 (hk 2 (by simp)))) hr, stepA hF hL (.inl ⟨rfl, rfl, h0⟩) hs hA (by unfold spA; rw [updB_ne (by omega), h5, updB_eq]; rfl) (by unfold spE; rw [updB_ne (by omega), h5, updB_eq]; rfl) hv h1 h2 h3⟩
      · exact sp_step [] (d := 83) (by decide) rfl rfl (by rfl) fun L e w a hL _ hF hin hout => ⟨_, _, (move_run a.eval w _ _ _ _ _ _).trans (by rw [hout 2 (by decide)]; rfl), stepK hF hL (.inr (.inr (.inl ⟨rfl, rfl, rfl⟩)))⟩
      · exact sp_step [3, 4] (d := 84) (by decide) rfl rfl (by rfl) fun L e w a hL hk hF hin hout => by
          obtain ⟨v, bl, hs⟩ := hF.st
          have h3' := hk 3 (by simp)
          have h0 := hF.o3 h3'
          obtain ⟨ha, g, c, hv⟩ := hs.a h0
          have hA : spA I.args more L = I.args := by unfold spA; rw [hL, h3']; rfl
          have hE : spE L = 82 := by unfold spE; rw [hL, h3']; rfl
          have hown := hs.own.own.rows tA _ (.inl ⟨rfl, h0⟩) rowA
          rw [hv, hA] at hown
          rw [hA] at hv
          rw [hE] at ha
          obtain ⟨g1, cap, w', hr, h1, h2, h3, _⟩ := app_ints (ty := 22) (ys := I.args) (n0 := I.args.length) hown (HMI.out w hs.own.below) (by have := HN.out.2.1; have := HN.out.2.2.2; omega) hs.own.below.size
          exact ⟨_, w', exec_append (s := .tmp 82) (x := .tmp 83) rfl ((hin 82 (by decide)).trans (ha.symm.trans hv)) ((hin 83 (by decide)).trans (hF.k4 (hk 4 (by simp)))) hr, stepA hF hL (.inr ⟨rfl, rfl, h3'⟩) hs hA (by unfold spA; rw [updB_eq]; rfl) (by unfold spE; rw [updB_eq]; rfl) hv h1 h2 h3⟩
      · exact sp_step [] (d := 85) (by decide) rfl rfl (by rfl) fun L e w a hL _ hF hin hout => ⟨_, _, exec_emptyL a.eval w 85 _ _ _ _, step6 hF hL⟩
      · exact sp_step [] (d := 86) (by decide) rfl rfl (by rfl) fun L e w a hL _ hF hin hout => ⟨_, _, exec_field a.eval w 86 4 _ 1 _ _ _ _ ((hout 4 (by decide)).trans rfl) (.inr rfl), stepK hF hL (.inr (.inr (.inr (.inl ⟨rfl, rfl, rfl⟩))))⟩
      · exact sp_step [7] (d := 87) (by decide) rfl rfl (by rfl) fun L e w a hL hk hF hin hout => by
          obtain ⟨v, bl, hs⟩ := hF.st
          exact ⟨_, _, exec_loadL a.eval w 87 86 _ 1 _ _ _ _ _ ((hin 86 (by decide)).trans (hF.k7 (hk 7 (by simp)))) (HC1.out w hs.own.below 1), stepK hF hL (.inr (.inr (.inr (.inr (.inl ⟨rfl, rfl, rfl⟩)))))⟩
      · exact sp_step [5, 6, 8] (d := 88) (by decide) rfl rfl (by rfl) fun L e w a hL hk hF hin hout => by
          obtain ⟨v, bl, hs⟩ := hF.st
          have h6 := hk 6 (by simp)
          obtain ⟨hb, g, c, hv⟩ := hs.b h6
          have h12 : L 12 = false := by cases q : L 12 with | false => rfl | true => rw [(hF.o12 q).1] at hL; cases hL
          have hB : spB us (.slice Am nm cm) L = [] := by unfold spB; rw [h12, hL]; rfl
          have hE : spG L = 85 := by unfold spG; rw [h12, hL]; rfl
          have hown := hs.own.own.rows tB _ (.inr ⟨rfl, h6⟩) rowB
          rw [hv, hB] at hown
          rw [hB] at hv
          rw [hE] at hb
          obtain ⟨g1, cap, w', hr, h1, h2, h3, _⟩ := app_vals (ty := 26) (ys := []) (n0 := 0) hown rfl (HAT.out w hs.own.below) HONE.out (by omega) hs.own.below.size
          rw [show 0 + us.length = ([] : List Value).length + us.length from rfl] at hr h1
          exact ⟨_, w', exec_append (s := .tmp 85) (x := .tmp 87) rfl ((hin 85 (by decide)).trans (hb.symm.trans hv)) ((hin 87 (by decide)).trans (hF.k8 (hk 8 (by simp)))) hr, stepB hF hL (.inl ⟨rfl, rfl, h6, hk 5 (by simp)⟩) hs (by unfold spB; rw [updB_ne (by omega), h12, updB_eq]; rfl) (by unfold spG; rw [updB_ne (by omega), h12, updB_eq]; rfl) hv h1 h2 h3⟩
      · exact sp_step [] (d := 89) (by decide) rfl rfl (by rfl) fun L e w a hL _ hF hin hout => ⟨_, _, (move_run a.eval w _ _ _ _ _ _).trans (by rw [hout 2 (by decide)]; rfl), stepK hF hL (.inr (.inr (.inr (.inr (.inr (.inl ⟨rfl, rfl, rfl⟩))))))⟩
      · exact sp_step [10] (d := 90) (by decide) rfl rfl (by rfl) fun L e w a hL hk hF hin hout => ⟨_, _, exec_one a.eval w 90 89 _ _ _ _ _ _ _ ((hin 89 (by decide)).trans (hF.k10 (hk 10 (by simp)))), step11 hF hL⟩
      · exact sp_step [9, 11] (d := 91) (by decide) rfl rfl (by rfl) fun L e w a hL hk hF hin hout => by
          obtain ⟨v, bl, hs⟩ := hF.st
          have h9 := hk 9 (by simp)
          have h11 := hk 11 (by simp)
          have h6 := (hF.o9 h9).1
          obtain ⟨hb, g, c, hv⟩ := hs.b h6
          obtain ⟨gn, en, hmn⟩ := hs.n h11
          have hB : spB us (.slice Am nm cm) L = us := by unfold spB; rw [hL, h9]; rfl
          have hE : spG L = 88 := by unfold spG; rw [hL, h9]; rfl
          have hown := hs.own.own.rows tB _ (.inr ⟨rfl, h6⟩) rowB
          rw [hv, hB] at hown
          rw [hB] at hv
          rw [hE] at hb
          obtain ⟨g1, cap, w', hr, h1, h2, h3, _⟩ := app_vals (ty := 26) (ys := us) (n0 := us.length) (us := [.slice Am nm cm]) (A := some ⟨gn, 0, none⟩) (m := 1) (c := 1) hown rfl (fun j u hj => by
            cases j with
            | zero =>
              obtain rfl : Value.slice Am nm cm = u := by simpa using hj
              exact ⟨gn, 0, rfl, (hs.own.box hmn 0).1⟩
            | succ j => simp at hj) (fun u hu => by
            obtain rfl : u = Value.slice Am nm cm := by simpa using hu
            rfl) (by omega) hs.own.below.size
          exact ⟨_, w', exec_append (s := .tmp 88) (x := .tmp 90) rfl ((hin 88 (by decide)).trans (hb.symm.trans hv)) ((hin 90 (by decide)).trans en) hr, stepB hF hL (.inr ⟨rfl, rfl, h9, h11⟩) hs (xs := [.slice Am nm cm]) (by unfold spB; rw [updB_eq]; rfl) (by unfold spG; rw [updB_eq]; rfl) hv h1 h2 h3⟩
      · exact sp_step [5, 12] (d := 92) (by decide) rfl rfl (by rfl) fun L e w a hL hk hF hin hout => by
          obtain ⟨v, bl, hs⟩ := hF.st
          have h5 := hk 5 (by simp)
          have h12 := hk 12 (by simp)
          obtain ⟨ha, g, c, hv⟩ := hs.a (hF.o3 (hF.o5 h5))
          obtain ⟨hb, g2, c2, hv2⟩ := hs.b (hF.o9 (hF.o12 h12).1).1
          rw [show spE L = 84 by unfold spE; rw [h5]; rfl] at ha
          rw [show spG L = 91 by unfold spG; rw [h12]; rfl] at hb
          have e84 := ha.symm.trans hv
          have e91 := hb.symm.trans hv2
          have hst := stepK (x := .agg #[e 84, e 91]) hF hL (.inr (.inr (.inr (.inr (.inr (.inr ⟨rfl, rfl, ⟨h5, h12⟩, rfl⟩))))))
          rw [e84, e91] at hst
          exact ⟨_, _, exec_build a.eval w 92 84 91 _ _ _ _ _ _ _ _ _ _ ((hin 84 (by decide)).trans e84) ((hin 91 (by decide)).trans e91), hst⟩
      · exact sp_step [] (d := 8) (by decide) rfl rfl (by rfl) fun L e w a hL _ hF hin hout => ⟨_, _, exec_alloc a.eval w 8 _ _ _ _, step14 hF hL⟩
      · exact sp_store rfl rfl rfl (by rfl) (by decide)
    · have hF : SpF W2 (w.heap.size + 1) (.slice Aa na ca) (.slice Ra us.length cr) (.slice Am nm cm) I.args more us (maskB 16 fun _ => true) e W4 := h
      obtain ⟨v, bl, hs⟩ := hF.st
      obtain ⟨ha, g, cap, hvA⟩ := hs.a rfl
      obtain ⟨hb, g2, cap2, hvB⟩ := hs.b rfl
      obtain ⟨gW, y, z, e8, hm, hyz⟩ := hs.x rfl
      obtain ⟨rfl, rfl⟩ := hyz rfl
      have hA : spA I.args more (maskB 16 fun _ => true) = I.args ++ more := rfl
      have hB : spB us (.slice Am nm cm) (maskB 16 fun _ => true) = us ++ [.slice Am nm cm] := rfl
      have hrA := hs.own.own.rows tA _ (.inl ⟨rfl, rfl⟩) rowA
      have hrB := hs.own.own.rows tB _ (.inr ⟨rfl, rfl⟩) rowB
      have e84 : e 84 = v tA := ha.symm
      have e91 : e 91 = v tB := hb.symm
      rw [hvA, hA] at hrA
      rw [hvB, hB] at hrB
      rw [e84, e91, hvA, hvB, hA, hB] at hm
      obtain ⟨n, hn⟩ : ∃ n, n = (I.args ++ more).length := ⟨_, rfl⟩
      obtain ⟨n2, hn2⟩ : ∃ n, n = (us ++ [Value.slice Am nm cm]).length := ⟨_, rfl⟩
      have hn' : n = na + nm := by rw [hn, List.length_append, ← HN.out.2.1, ← HN.out.2.2.2]
      have hn2' : n2 = us.length + 1 := by rw [hn2, List.length_append]; rfl
      rw [← hn, ← hn2] at hm
      have hrA' : W4.ownsRow W2.heap.size 3 1 (.slice (some ⟨g, 0, none⟩) n cap) n ((I.args ++ more).map (Value.int .i64)) := by rw [hn]; exact hrA
      have hrB' : W4.ownsRow W2.heap.size 22 1 (.slice (some ⟨g2, 0, none⟩) n2 cap2) n2 (us ++ [.slice Am nm cm]) := by rw [hn2]; exact hrB
      have HS10 := hideI hs.own
      have HM10 := hideI hm
      have HL10 : Hid (ListsV W4 w.heap.size (us ++ [.slice Am nm cm]) (I.arrs ++ [more])) := hideI (ListsV.push (HLV.out.keeps (Keeps.of_below (HS10.out.below.mono (by have := HS2.out; omega)))) (HMI.out W4 HS10.out.below) (fun A n c q => by
        injection q with _ q1 q2
        omega))
      have hsta : startS f ⟨I.args ++ more, I.arrs ++ [more]⟩ = startS f I := start_eq (fun i => arg_more more (by have h1 := HCD.out.1; have h2 := HN.out.1; have h3 := HN.out.2.1; omega) _ i) (fun i hi => arrs_more (n := f.arrays.toNat) (by have h1 := HCD.out.2; have h2 := HN.out.2.2.1; omega) hi)
      have HSTA := hideI hsta
      have HSS : Hid (∀ W, Below W4.heap.size W4 W → W.cell? ⟨w.heap.size, 0, none⟩ = some (.slice P np pc) ∧ W.cell? ⟨w.heap.size, 1, none⟩ = some (.int .i64 f.arrays) ∧ W.cell? ⟨w.heap.size, 2, none⟩ = some (.int .i64 f.cells) ∧ W.cell? ⟨w.heap.size, 3, none⟩ = some bv ∧ W.cell? ⟨w.heap.size + 1, 0, none⟩ = some (.slice Aa na ca) ∧ W.cell? ⟨w.heap.size + 1, 1, none⟩ = some (.slice Ra us.length cr) ∧ W.cell? ⟨gW, 0, none⟩ = some (.slice (some ⟨g, 0, none⟩) n cap) ∧ W.cell? ⟨gW, 1, none⟩ = some (.slice (some ⟨g2, 0, none⟩) n2 cap2)) := hideI fun W hW => by
        have h := HS10.out.grows hW
        have hq := HC0.out W h.below
        have hr := HC1.out W h.below
        have hx := h.box HM10.out
        exact ⟨hq 0, hq 1, hq 2, hq 3, hr 0, hr 1, (hx 0).1, (hx 1).1⟩
      have hia : Ints W4 W4.heap.size (.slice (some ⟨g, 0, none⟩) n cap) (I.args ++ more) := own_ints hrA' hn (by omega)
      have hra : ArrsR W4 W4.heap.size (.slice (some ⟨g2, 0, none⟩) n2 cap2) (I.arrs ++ [more]) := HL10.out.arrs hrB' (by have := HS2.out; have := HS10.out.below.size; omega) (by rw [hn2', List.length_append, HN.out.2.2.1]; rfl) (by omega)
      have HRI : Hid (∀ W, Below W4.heap.size W4 W → Calls Tryz.prog 10 #[.agg #[.slice P np pc, .int .i64 f.arrays, .int .i64 f.cells, bv], .agg #[.slice Aa na ca, .slice Ra us.length cr], .int .i64 500] W (RunT f I 500 W)) := hideI fun W hW => by
        obtain ⟨h1, h2, h3, h4, h5⟩ := HIA.out W (HS10.out.grows hW).below
        exact irun_laid f I w.heap.size _ _ _ _ 500 W h3 h4 h5.size HID.out h1 h2
      have HRJ : Hid (∀ W, Below W4.heap.size W4 W → Calls Tryz.prog 10 #[.agg #[.slice P np pc, .int .i64 f.arrays, .int .i64 f.cells, bv], .agg #[.slice (some ⟨g, 0, none⟩) n cap, .slice (some ⟨g2, 0, none⟩) n2 cap2], .int .i64 500] W (RunT f ⟨I.args ++ more, I.arrs ++ [more]⟩ 500 W)) := hideI fun W hW => by
        obtain ⟨h1, h2, h3, h4, h5⟩ := HIA.out W (HS10.out.grows hW).below
        have hle : w.heap.size ≤ W4.heap.size := by have := HS2.out; have := HS10.out.below.size; omega
        exact irun_laid f ⟨I.args ++ more, I.arrs ++ [more]⟩ W4.heap.size _ _ _ _ 500 W (h3.more hle) (h4.more' hle) hW.size HID.out (hia.keeps (Keeps.of_below hW)) (hra.keeps (Keeps.of_below hW))
      have HEND : Hid (Below w.heap.size w W4) := hideI (HIA.out W4 HS10.out.below).2.2.2.2
      have hS0 := HSS.out W4 (Below.refl _ _)
      clear hsta hia hra h hF hs ha hb hvA hvB hm hyz hA hB hrA hrB hrA' hrB' hn hn' hn2 hn2' HL10 HM10 e84 e91
      simp only [putEnv, Act.put, List.setIfInBounds_toArray, List.set_cons_zero, List.set_cons_succ, e8]
      clear e8
      obtain ⟨u79, h79⟩ : ∃ x, x = e 79 := ⟨_, rfl⟩
      obtain ⟨u80, h80⟩ : ∃ x, x = e 80 := ⟨_, rfl⟩
      obtain ⟨u81, h81⟩ : ∃ x, x = e 81 := ⟨_, rfl⟩
      obtain ⟨u82, h82⟩ : ∃ x, x = e 82 := ⟨_, rfl⟩
      obtain ⟨u83, h83⟩ : ∃ x, x = e 83 := ⟨_, rfl⟩
      obtain ⟨u84, h84⟩ : ∃ x, x = e 84 := ⟨_, rfl⟩
      obtain ⟨u85, h85⟩ : ∃ x, x = e 85 := ⟨_, rfl⟩
      obtain ⟨u86, h86⟩ : ∃ x, x = e 86 := ⟨_, rfl⟩
      obtain ⟨u87, h87⟩ : ∃ x, x = e 87 := ⟨_, rfl⟩
      obtain ⟨u88, h88⟩ : ∃ x, x = e 88 := ⟨_, rfl⟩
      obtain ⟨u89, h89⟩ : ∃ x, x = e 89 := ⟨_, rfl⟩
      obtain ⟨u90, h90⟩ : ∃ x, x = e 90 := ⟨_, rfl⟩
      obtain ⟨u91, h91⟩ : ∃ x, x = e 91 := ⟨_, rfl⟩
      obtain ⟨u92, h92⟩ : ∃ x, x = e 92 := ⟨_, rfl⟩
      rw [← h79, ← h80, ← h81, ← h82, ← h83, ← h84, ← h85, ← h86, ← h87, ← h88, ← h89, ← h90, ← h91, ← h92]
      clear h79 h80 h81 h82 h83 h84 h85 h86 h87 h88 h89 h90 h91 h92
      go_upto_region 11 with fail
      refine wp_region_late (by kernel_rfl) (fun W => W.cell? ⟨w.heap.size, 0, none⟩ = some (.slice P np pc) ∧ W.cell? ⟨w.heap.size, 1, none⟩ = some (.int .i64 f.arrays) ∧ W.cell? ⟨w.heap.size, 2, none⟩ = some (.int .i64 f.cells) ∧ W.cell? ⟨w.heap.size, 3, none⟩ = some bv ∧ W.cell? ⟨w.heap.size + 1, 0, none⟩ = some (.slice Aa na ca) ∧ W.cell? ⟨w.heap.size + 1, 1, none⟩ = some (.slice Ra us.length cr) ∧ W.cell? ⟨gW, 0, none⟩ = some (.slice (some ⟨g, 0, none⟩) n cap) ∧ W.cell? ⟨gW, 1, none⟩ = some (.slice (some ⟨g2, 0, none⟩) n2 cap2)) [] ?_
      refine wpAnyT_ready (rs := [0]) (by kernel_rfl) (by simp) ?_
      refine AllReadyT.cons rfl (fun K hK => ?_) ?_
      · go_simp
        refine (awake6_any _).mono ?_
        rintro e w5 ⟨rfl, hb5⟩
        have HB5 := hideI ((Below.refl W4.heap.size W4).drew.trans hb5)
        clear hb5
        refine hK.out _ _ (fun _ _ => HSS.out w5 HB5.out) ?_
        have hS0 := HSS.out w5 HB5.out
        clear hK K
        try simp only [Act.put, List.setIfInBounds_toArray, List.set_cons_zero, List.set_cons_succ]
        refine wpAnyT_quiet (i := 1) (v := ?_) rfl (by kernel_rfl) (by kernel_rfl) (by kernel_rfl) (fun _ _ _ h => h) (Or.inl ⟨by rfl, ?_⟩) ?_
        rotate_left
        · (intro w; go_simp; try with_reducible rfl)
        try simp only [Act.put, List.setIfInBounds_toArray, List.set_cons_zero, List.set_cons_succ]
        refine wpAnyT_take [] (i := 2) (v := ?_) rfl (by kernel_rfl) (by kernel_rfl) (by kernel_rfl) (by kernel_rfl) (by kernel_rfl) (by kernel_rfl) (fun _ _ _ h => h) hS0 (Or.inl ⟨by rfl, ?_⟩) ?_
        rotate_left
        · (intro w hSw; go_split_ands; go_simp; try with_reducible rfl)
        try simp only [Act.put, List.setIfInBounds_toArray, List.set_cons_zero, List.set_cons_succ]
        refine wpAnyT_take [] (i := 3) (v := ?_) rfl (by kernel_rfl) (by kernel_rfl) (by kernel_rfl) (by kernel_rfl) (by kernel_rfl) (by kernel_rfl) (fun _ _ _ h => h) hS0 (Or.inl ⟨by rfl, ?_⟩) ?_
        rotate_left
        · (intro w hSw; go_split_ands; go_simp; try with_reducible rfl)
        try simp only [Act.put, List.setIfInBounds_toArray, List.set_cons_zero, List.set_cons_succ]
        refine wpAnyT_take [] (i := 5) (v := ?_) rfl (by kernel_rfl) (by kernel_rfl) (by kernel_rfl) (by kernel_rfl) (by kernel_rfl) (by kernel_rfl) (fun _ _ _ h => h) hS0 (Or.inl ⟨by rfl, ?_⟩) ?_
        rotate_left
        · (intro w hSw; go_split_ands; go_simp; try with_reducible rfl)
        try simp only [Act.put, List.setIfInBounds_toArray, List.set_cons_zero, List.set_cons_succ]
        refine wpAnyT_take [] (i := 6) (v := ?_) rfl (by kernel_rfl) (by kernel_rfl) (by kernel_rfl) (by kernel_rfl) (by kernel_rfl) (by kernel_rfl) (fun _ _ _ h => h) hS0 (Or.inl ⟨by rfl, ?_⟩) ?_
        rotate_left
        · (intro w hSw; go_split_ands; go_simp; try with_reducible rfl)
        try simp only [Act.put, List.setIfInBounds_toArray, List.set_cons_zero, List.set_cons_succ]
        refine wpAnyT_ready (rs := [4]) (by kernel_rfl) (by simp) ?_
        refine AllReadyT.cons rfl (fun K hK => ?_) ?_
        · go_simp
          refine (HRI.out _ HB5.out).mono ?_
          rintro e w6 ⟨tv1, s1, en1, rfl, hr1, ht1, hb6⟩
          have HT1 := hideI (hr1.reads ht1)
          have HR1 := hideI hr1
          have HB6 := hideI (HB5.out.trans (hb6.mono HB5.out.size))
          clear hr1 ht1 hb6
          refine hK.out _ _ (fun _ _ => HSS.out w6 HB6.out) ?_
          clear hK K
          try simp only [Act.put, List.setIfInBounds_toArray, List.set_cons_zero, List.set_cons_succ]
          refine wpAnyT_ready (rs := [7]) (by kernel_rfl) (by simp) ?_
          refine AllReadyT.cons rfl (fun K hK => ?_) ?_
          · go_simp
            refine (HRJ.out _ HB6.out).mono ?_
            rintro e w7 ⟨tv2, s2, en2, rfl, hr2, ht2, hb7⟩
            obtain ⟨rfl, rfl⟩ := HR1.out.one (hr2.same HSTA.out)
            have HT2 := hideI (hr2.reads ht2)
            have HT1' := hideI ((HT1.out.keeps (Keeps.of_below hb7)).moreB hb7.size)
            have HB7 := hideI (HB6.out.trans (hb7.mono HB6.out.size))
            clear hr2 ht2 hb7
            refine hK.out _ _ (fun _ _ => HSS.out w7 HB7.out) ?_
            clear hK K
            try simp only [Act.put, List.setIfInBounds_toArray, List.set_cons_zero, List.set_cons_succ]
            refine wpAnyT_ready (rs := [8]) (by kernel_rfl) (by simp) ?_
            refine AllReadyT.cons rfl (fun K hK => ?_) ?_
            · go_simp
              refine (Go.Proofs.YtncmnbchkabgaaaGreat.same_yes w7 w7.heap.size _ _ s1 en1 HT1'.out HT2.out (Nat.le_refl _)).mono ?_
              rintro e w8 ⟨rfl, hb8⟩
              have HB8 := hideI (HB7.out.trans (hb8.mono HB7.out.size))
              clear hb8
              refine hK.out _ _ (fun _ _ => HSS.out w8 HB8.out) ?_
              clear hK K
              try simp only [Act.put, List.setIfInBounds_toArray, List.set_cons_zero, List.set_cons_succ]
              refine wpAnyT_quiet (i := 9) (v := ?_) rfl (by kernel_rfl) (by kernel_rfl) (by kernel_rfl) (fun _ _ _ h => h) (Or.inl ⟨by rfl, ?_⟩) ?_
              rotate_left
              · (intro w; go_simp; try with_reducible rfl)
              try simp only [Act.put, List.setIfInBounds_toArray, List.set_cons_zero, List.set_cons_succ]
              refine wpAnyT_quiet (i := 10) (v := ?_) rfl (by kernel_rfl) (by kernel_rfl) (by kernel_rfl) (fun _ _ _ h => h) (Or.inl ⟨by rfl, ?_⟩) ?_
              rotate_left
              · (intro w; go_simp; try with_reducible rfl)
              try simp only [Act.put, List.setIfInBounds_toArray, List.set_cons_zero, List.set_cons_succ]
              refine wpAnyT_done (by kernel_rfl) ?_ _
              clear hS0
              go_wp2
              first | go_ret | refine bodyPost_ret (results_tmp rfl _ _ _) (by rfl) ?_
              exact ⟨rfl, HEND.out.trans (HB8.out.mono HEND.out.size)⟩
            · exact AllReadyT.nil
          · exact AllReadyT.nil
        · exact AllReadyT.nil
      · exact AllReadyT.nil
end Go.Proofs.YtncmnbchkabgaaaGreat
