/- GraphPruned: a pruned function has nothing more to prune, and as many blocks as the order of the one that it came from. No condition. -/
import Derived.Test.YtocnlclighonfaaPkGraphPruned1
namespace Go.Proofs.Ytocnlclighonfaa.graphPruned
open Go.ChangeShapes Go.WideShapes Go.ChangeAt Go.RowKit Go.Maps

theorem ints_nodup {l : List Nat} (h : l.Nodup) : (l.map fun (x : Nat) => (x : Int)).Nodup := by
  rw [List.Nodup, List.pairwise_map]
  exact h.imp fun h e => h (by omega)

theorem same_len {l m : List Nat} (h1 : l.Nodup) (h2 : m.Nodup) (h : ∀ x, x ∈ l ↔ x ∈ m) : l.length = m.length := by
  have key : ∀ {l m : List Nat}, l.Nodup → (∀ x, x ∈ l → x ∈ m) → l.length ≤ m.length := by
    intro l m h1 h
    have := sub_len (l.map fun (x : Nat) => (x : Int)) (m.map fun (x : Nat) => (x : Int)) (ints_nodup h1) (fun x hx => by
      obtain ⟨y, hy, rfl⟩ := List.mem_map.1 hx
      exact List.mem_map.2 ⟨y, h y hy, rfl⟩)
    simpa using this
  exact Nat.le_antisymm (key h1 fun x => (h x).1) (key h2 fun x => (h x).2)

theorem cntS_filter (S : Nat → Bool) : ∀ n, cntS S n = ((List.range n).filter S).length
  | 0 => rfl
  | n + 1 => by
    rw [cntS, cntS_filter S n, List.range_succ, List.filter_append, List.length_append]
    congr 1
    cases h : S n <;> simp [h]

theorem order_len {f : FuncM} {o : List Nat} (h0 : (lookM f).1 = 0) (ho : OrderIs f.blocks o) : o.length = (pruneM (inO o) f).blocks.length := by
  rw [prune_len, cntS_filter]
  refine same_len ho.facts.2.1 (List.nodup_range.filter _) fun x => ?_
  rw [List.mem_filter, List.mem_range]
  unfold inO
  rw [decide_eq_true_iff]
  exact ⟨fun h => ⟨ho.range (look_ends h0) (look_some_block h0).1 x h, h⟩, fun h => h.2⟩

theorem all_come {f : FuncM} {o q : List Nat} (h0 : (lookM f).1 = 0) (ho : OrderIs f.blocks o) (hq : OrderIs (pruneM (inO o) f).blocks q) : ∀ b, b < (pruneM (inO o) f).blocks.length → b ∈ q := fun b hb => (hq.reach b).2 (prune_come h0 (fun x => by
  unfold inO
  rw [decide_eq_true_iff]
  exact ho.reach x) hb)

/-- a pruned function has nothing more to prune -/
theorem pruned_same {f : FuncM} {o q : List Nat} (h0 : (lookM f).1 = 0) (ho : OrderIs f.blocks o) (hg : (lookM (pruneM (inO o) f)).1 = 0) (hq : OrderIs (pruneM (inO o) f).blocks q) : pruneM (inO q) (pruneM (inO o) f) = pruneM (inO o) f :=
  pruneM_id hg (fun k hk => decide_eq_true (all_come h0 ho hq k hk))

/-- prune of what is pruned -/
theorem prune_again (f g : FuncM) (o : List Nat) (B : Nat) (pv bv : Value) (w : World) (h0 : (lookM f).1 = 0) (ho : OrderIs f.blocks o) (hgf : g = pruneM (inO o) f) (hg0 : (lookM g).1 = 0) (hpv : Ints w B pv g.params) (hbv : BlocksR w B bv g.blocks) (hB : B ≤ w.heap.size) (hid : ∀ u ∈ usesM g, I64 u.1) :
    Calls Try.prog 23 #[.agg #[pv, .int .i64 g.arrays, .int .i64 g.cells, bv]] w (fun e w' => ∃ (A : Option Addr) (c : Nat) (A' : Option Addr) (c' : Nat), e = .returned (.tuple #[.agg #[.slice A g.params.length c, .int .i64 g.arrays, .int .i64 g.cells, .slice A' g.blocks.length c'], .int .i64 0]) ∧
      Ints w' w'.heap.size (.slice A g.params.length c) g.params ∧ BlocksR w' w'.heap.size (.slice A' g.blocks.length c') g.blocks ∧ Below w.heap.size w w') := by
  have hsame : ∀ q, OrderIs g.blocks q → pruneM (inO q) g = g := fun q hq => by
    subst hgf
    exact pruned_same h0 ho hg0 hq
  refine (gPrune_any g B pv bv w hpv hbv hB hid).mono ?_
  rintro e w' (⟨c, hc, hor, _⟩ | ⟨_, o2, A, c, A', c', ho2, _, rfl, h1, h2, hb⟩)
  · rcases hor with ⟨h, _⟩ | ⟨_, o2, ho2, e⟩
    · exact absurd hg0 h
    · rw [hsame o2 ho2] at e
      exact absurd (e.trans hg0) hc
  · rw [hsame o2 ho2] at h2 ⊢
    exact ⟨A, c, A', c', rfl, h1, h2, hb⟩

set_option maxRecDepth 100000 in
set_option maxHeartbeats 8000000 in
theorem walk (f : FuncM) (pv bv : Value) (w : World) (hF : FnIn w f pv bv) :
    Calls Try.prog 7 #[.agg #[pv, .int .i64 f.arrays, .int .i64 f.cells, bv]] w fun e w' => e = .returned (.bool true) ∧ Below w.heap.size w w' := by
  have HF := hideI hF
  have HID := hideI (uses_i64 hF.ok)
  obtain ⟨P, pc, hpv, _⟩ := hF.par
  obtain ⟨A, cc, hbv, _⟩ := hF.blk
  subst hpv hbv
  have HB : Hid (Below w.heap.size w (w.alloc (.cells #[.slice P f.params.length pc, .int .i64 f.arrays, .int .i64 f.cells, .slice A f.blocks.length cc] 25))) := (Below.refl _ w).alloc (Nat.le_refl _) _
  have HX := hideI (heap_alloc_new w (.cells #[.slice P f.params.length pc, .int .i64 f.arrays, .int .i64 f.cells, .slice A f.blocks.length cc] 25))
  have hx := row_cells HX.out rfl
  have q0 := hx 0
  have q1 := hx 1
  have q2 := hx 2
  have q3 := hx 3
  clear hF hx
  go_enter Try.func7, Try.ntmps7
  go_wp2_with fail
  refine (gPrune_any f w.heap.size _ _ _ (HF.out.par.keeps (Keeps.of_below HB.out)) (HF.out.blk.keeps (Keeps.of_below HB.out)) HB.out.size HID.out).mono ?_
  rintro e w2 (⟨c1, hc1, _, rfl, hb⟩ | ⟨h0, o, A2, c2, A3, c3, hor, hg0, rfl, hr1, hr2, hb⟩)
  · have hne : (c1 != 0) = true := by simpa using hc1
    have HB2 := hideI (HB.out.trans (hb.mono HB.out.size))
    have HBG : Hid (Below w.heap.size w (w2.alloc (.cells #[.slice none 0 0, .int .i64 0, .int .i64 0, .slice none 0 0] 25))) := hideI (HB2.out.alloc HB2.out.size _)
    replace HB := HBG
    clear hc1 hb q0 q1 q2 q3
    go_wp2_with (go_at_call 17; refine (awake3_any _).mono ?_; rintro e w5 ⟨rfl, hb⟩; replace HB := hideI (HB.out.trans (hb.mono HB.out.size)); clear hb)
    go_ret
    exact ⟨rfl, HB.out⟩
  · obtain ⟨g, hg⟩ : ∃ g, g = pruneM (inO o) f := ⟨_, rfl⟩
    have HGU : Hid (∀ u ∈ usesM g, I64 u.1) := hideI (fun u hu => HID.out u (by rw [hg] at hu; exact prune_uses h0 u hu))
    have hol := order_len h0 hor
    rw [← hg] at hg0 hr2 hol ⊢
    have hgp : g.params.length = f.params.length := by rw [hg]; rfl
    have HGP : Hid (g.params = f.params ∧ g.arrays = f.arrays ∧ g.cells = f.cells) := hideI (by rw [hg]; exact ⟨rfl, rfl, rfl⟩)
    have HWX := hideI (lt_of_heap HX.out)
    have HB2 := hideI (HB.out.trans (hb.mono HB.out.size))
    have HX2 := hideI ((hb.block _ (lt_of_heap HX.out)).trans HX.out)
    have HR1 := hideI hr1
    have HR2 := hideI hr2
    have H0 := hideI h0
    have HOR := hideI hor
    have HG0 := hideI hg0
    have HG := hideI hg
    have HOL := hideI hol
    have HBG : Hid (Below w2.heap.size w2 (w2.alloc (.cells #[.slice A2 f.params.length c2, .int .i64 f.arrays, .int .i64 f.cells, .slice A3 g.blocks.length c3] 25))) := (Below.refl _ w2).alloc (Nat.le_refl _) _
    have HXG := hideI (heap_alloc_new w2 (.cells #[.slice A2 f.params.length c2, .int .i64 f.arrays, .int .i64 f.cells, .slice A3 g.blocks.length c3] 25))
    have HLX := hideI (lt_of_heap HX2.out)
    -- what lies there behind the first call
    have HK : Hid (∀ W, Below (w2.alloc (.cells #[.slice A2 f.params.length c2, .int .i64 f.arrays, .int .i64 f.cells, .slice A3 g.blocks.length c3] 25)).heap.size (w2.alloc (.cells #[.slice A2 f.params.length c2, .int .i64 f.arrays, .int .i64 f.cells, .slice A3 g.blocks.length c3] 25)) W → Below w2.heap.size w2 W ∧ (∀ o, W.cell? ⟨w.heap.size, o, none⟩ = (#[.slice P f.params.length pc, .int .i64 f.arrays, .int .i64 f.cells, .slice A f.blocks.length cc] : Array Value)[o]?) ∧ (∀ o, W.cell? ⟨w2.heap.size, o, none⟩ = (#[.slice A2 f.params.length c2, .int .i64 f.arrays, .int .i64 f.cells, .slice A3 g.blocks.length c3] : Array Value)[o]?) ∧ Ints W w2.heap.size (.slice A2 f.params.length c2) g.params ∧ BlocksR W w2.heap.size (.slice A3 g.blocks.length c3) g.blocks ∧ Ints W w.heap.size (.slice P f.params.length pc) f.params ∧ BlocksR W w.heap.size (.slice A f.blocks.length cc) f.blocks ∧ w2.heap.size ≤ W.heap.size ∧ w.heap.size ≤ W.heap.size) := hideI (fun W hW => by
      have h1 : Below w2.heap.size w2 W := HBG.out.trans (hW.mono HBG.out.size)
      have h2 : Below w.heap.size w W := HB2.out.trans (h1.mono HB2.out.size)
      exact ⟨h1, row_cells HX2.out (h1.block _ HLX.out), row_cells HXG.out (hW.block _ (lt_of_heap HXG.out)), by rw [HGP.out.1]; exact HR1.out.keeps (Keeps.of_below h1), HR2.out.keeps (Keeps.of_below h1), HF.out.par.keeps (Keeps.of_below h2), HF.out.blk.keeps (Keeps.of_below h2), h1.size, h2.size⟩)
    clear h0 hor hg0 hb hr1 hr2 q0 q1 q2 q3 hg hgp hol
    go_wp2_with (go_at_call 17; refine (awake3_any _).mono ?_; rintro e w5 ⟨rfl, hb⟩; have HB5 := hideI hb; (obtain ⟨_, hx, hy, _⟩ := HK.out _ hb); have y0 := hy 0; have y1 := hy 1; have y2 := hy 2; have y3 := hy 3; clear hx hy hb)
    have hag := prune_again f g o w2.heap.size (.slice A2 f.params.length c2) (.slice A3 g.blocks.length c3) w5 H0.out HOR.out HG.out HG0.out (HK.out _ HB5.out).2.2.2.1 (HK.out _ HB5.out).2.2.2.2.1 (HK.out _ HB5.out).2.2.2.2.2.2.2.1 HGU.out
    rw [HGP.out.2.1, HGP.out.2.2] at hag
    refine hag.mono ?_
    rintro e w6 ⟨A4, c4, A5, c5, rfl, hs1, hs2, hb⟩
    have HB6 : Hid (Below (w2.alloc (.cells #[.slice A2 f.params.length c2, .int .i64 f.arrays, .int .i64 f.cells, .slice A3 g.blocks.length c3] 25)).heap.size (w2.alloc (.cells #[.slice A2 f.params.length c2, .int .i64 f.arrays, .int .i64 f.cells, .slice A3 g.blocks.length c3] 25)) w6) := hideI (HB5.out.trans (hb.mono HB5.out.size))
    have HS1 := hideI hs1
    have HS2 := hideI hs2
    have HB7 : Hid (Below (w2.alloc (.cells #[.slice A2 f.params.length c2, .int .i64 f.arrays, .int .i64 f.cells, .slice A3 g.blocks.length c3] 25)).heap.size (w2.alloc (.cells #[.slice A2 f.params.length c2, .int .i64 f.arrays, .int .i64 f.cells, .slice A3 g.blocks.length c3] 25)) (w6.alloc (.cells #[.slice A4 g.params.length c4, .int .i64 f.arrays, .int .i64 f.cells, .slice A5 g.blocks.length c5] 25))) := hideI (HB6.out.alloc HB6.out.size _)
    have HXb := hideI (heap_alloc_new w6 (.cells #[.slice A4 g.params.length c4, .int .i64 f.arrays, .int .i64 f.cells, .slice A5 g.blocks.length c5] 25))
    have HBb : Hid (Below w6.heap.size w6 (w6.alloc (.cells #[.slice A4 g.params.length c4, .int .i64 f.arrays, .int .i64 f.cells, .slice A5 g.blocks.length c5] 25))) := hideI ((Below.refl _ w6).alloc (Nat.le_refl _) _)
    obtain ⟨W7, hW7⟩ : ∃ W7, W7 = w6.alloc (.cells #[.slice A4 g.params.length c4, .int .i64 f.arrays, .int .i64 f.cells, .slice A5 g.blocks.length c5] 25) := ⟨_, rfl⟩
    have HW7 := hideI hW7
    rw [← hW7] at HB7 HXb HBb
    obtain ⟨_, hx, _⟩ := HK.out _ HB6.out
    have q0 := hx 0
    have q1 := hx 1
    have q2 := hx 2
    have q3 := hx 3
    have hl6 : w.heap.size < w6.heap.size := Nat.lt_of_lt_of_le HLX.out (HK.out _ HB6.out).2.2.2.2.2.2.2.1
    clear hs1 hs2 hb hag hx hW7 y0 y1 y2 y3
    go_wp2_with fail
    rw [← HW7.out]
    clear q0 q1 q2 q3
    refine (gOrder_yes f w.heap.size _ _ _ (HK.out _ HB7.out).2.2.2.2.2.1 (HK.out _ HB7.out).2.2.2.2.2.2.1 (HK.out _ HB7.out).2.2.2.2.2.2.2.2 HID.out H0.out).mono ?_
    rintro e w8 ⟨o8, g8, cap8, rfl, ho8, _, _, _, hb8⟩
    obtain rfl := ho8.one HOR.out
    rw [HOL.out]
    have HB8 : Hid (Below (w2.alloc (.cells #[.slice A2 f.params.length c2, .int .i64 f.arrays, .int .i64 f.cells, .slice A3 g.blocks.length c3] 25)).heap.size (w2.alloc (.cells #[.slice A2 f.params.length c2, .int .i64 f.arrays, .int .i64 f.cells, .slice A3 g.blocks.length c3] 25)) w8) := hideI (HB7.out.trans (hb8.mono HB7.out.size))
    have HBb8 := hideI (HBb.out.trans (hb8.mono HBb.out.size))
    have HXb8 := hideI ((hb8.block _ (lt_of_heap HXb.out)).trans HXb.out)
    obtain ⟨_, _, hy, _⟩ := HK.out _ HB8.out
    have y0 := hy 0
    have y1 := hy 1
    have y2 := hy 2
    have y3 := hy 3
    clear hb8 hy ho8
    go_wp2_with fail
    clear y0 y1 y2 y3
    have hgo := gOrder_yes g w2.heap.size (.slice A2 f.params.length c2) (.slice A3 g.blocks.length c3) w8 (HK.out _ HB8.out).2.2.2.1 (HK.out _ HB8.out).2.2.2.2.1 (HK.out _ HB8.out).2.2.2.2.2.2.2.1 HGU.out HG0.out
    rw [HGP.out.2.1, HGP.out.2.2] at hgo
    refine hgo.mono ?_
    clear hgo
    rintro e w9 ⟨q9, g9, cap9, rfl, hq9, _, _, _, hb9⟩
    have e9 : q9.length = g.blocks.length := by
      have h1 := order_len HG0.out hq9
      have hgg := HG.out
      have h2 : pruneM (inO q9) g = g := by
        have := pruned_same (q := q9) H0.out HOR.out (by rw [← hgg]; exact HG0.out) (by rw [← hgg]; exact hq9)
        rw [← hgg] at this
        exact this
      rw [h2] at h1
      exact h1
    rw [e9]
    have HB9 : Hid (Below (w2.alloc (.cells #[.slice A2 f.params.length c2, .int .i64 f.arrays, .int .i64 f.cells, .slice A3 g.blocks.length c3] 25)).heap.size (w2.alloc (.cells #[.slice A2 f.params.length c2, .int .i64 f.arrays, .int .i64 f.cells, .slice A3 g.blocks.length c3] 25)) w9) := hideI (HB8.out.trans (hb9.mono HB8.out.size))
    have HBb9 := hideI (HBb8.out.trans (hb9.mono HBb8.out.size))
    have hz := row_cells HXb8.out (hb9.block _ (lt_of_heap HXb8.out))
    have z0 := hz 0
    have z1 := hz 1
    have z2 := hz 2
    have z3 := hz 3
    obtain ⟨h9, _, hy, hk1, hk2, _⟩ := HK.out _ HB9.out
    have y0 := hy 0
    have y1 := hy 1
    have y2 := hy 2
    have y3 := hy 3
    have hself : ((g.blocks.length : Int) == (g.blocks.length : Int)) = true := beq_self_eq_true _
    have hsm := same_yes g w9.heap.size (.slice A2 f.params.length c2) (.slice A3 g.blocks.length c3) (.slice A4 g.params.length c4) (.slice A5 g.blocks.length c5) w9 (hk1.more h9.size) (hk2.more' h9.size) ((HS1.out.keeps (Keeps.of_below HBb9.out)).more HBb9.out.size) ((HS2.out.keeps (Keeps.of_below HBb9.out)).more' HBb9.out.size) (Nat.le_refl _)
    rw [HGP.out.2.1, HGP.out.2.2] at hsm
    have HSM := hideI hsm
    have HEND := hideI (HB2.out.trans (h9.mono HB2.out.size))
    clear hb9 hz hy hk1 hk2 h9 hsm e9 hq9
    go_wp2_with (first
      | (go_at_call 25; go_must (refine HSM.out.mono ?_); rintro e w10 ⟨rfl, hb⟩; have HB10 := hideI (HEND.out.trans (hb.mono HEND.out.size)); have hy := row_cells HXG.out ((hb.block _ (Nat.lt_of_lt_of_le (lt_of_heap HXG.out) HB9.out.size)).trans (HB9.out.block _ (lt_of_heap HXG.out))); clear y0 y1 y2 y3 z0 z1 z2 z3; have y3 := hy 3; clear hy hb))
    go_ret
    exact ⟨by simp, HB10.out⟩

set_option maxRecDepth 100000 in
theorem lifted (os : Os) (started : os.Started) (H : Type) (enc : TypeId × Value → H) :
    ReturnsInHanded {} Try.checked os 7 .any (Rows.graphPrunedSpec.pre6 enc Try.prog Try.f7 Rows.graphPrunedRow.domain false) (Rows.graphPrunedSpec.post enc Try.prog Try.f7 false true false false) := by
  refine returnsInHanded_of_change_sized (C := Try.checked) own started (by kernel_rfl) Try.func7
    (ChangeSpec.witness6 (enc := enc) (C := Try.checked) false ⟨#[], #[.agg #[.slice none 0 0, .int .i64 0, .int .i64 0, .slice none 0 0]], []⟩ 8 (by kernel_rfl) (by kernel_rfl) (by kernel_rfl) (by kernel_rfl)) ?_
  intro W base args ds gs before hval0 hW hcnd hsz _
  have hval : ∀ (j : Nat) t v, Try.f7.params[j]? = some t → args[j]? = some v → Value.okWide Try.prog W .any base t v := hval0
  have hW' := hW
  obtain ⟨p, q, hA0, hV, rfl, hfz, hnd⟩ := hW
  have hA : DataW.TrodAll enc Try.prog W 0 (fun _ => true) true Try.f7.params.toList args.toList ds p := hA0
  rw [Try.params7] at hA hval
  obtain ⟨v0, vs0, d0, ds0, p0, q0, hargs, rfl, rfl, h0, r0⟩ := trodAll_cons hA
  obtain ⟨rfl, rfl, rfl⟩ := trodAll_nil r0
  obtain rfl : args = #[v0] := by cases args; simp_all
  obtain ⟨rfl, rfl⟩ := trodVars_none hV
  obtain ⟨f, pv, bv, rfl, hF⟩ := open_func (hval 0 25 v0 rfl rfl) h0 hsz (j := 0) rfl rfl
  clear hA0 hval0
  refine (walk f pv bv W hF).mono fun e W' ⟨he, hg⟩ => ?_
  subst he
  exact ⟨_, rfl, law_post (by kernel_rfl) hW' rfl (by kernel_rfl) Try.underlying4 rfl rfl rfl (by rw [Try.params7]; decide +kernel) hg⟩

theorem over : Rows.graphPrunedRow.holds Try.pinned (OpenSpec.ofChange Rows.graphPrunedSpec) :=
  OpenClaim.holds_of_wide 7 Try.f7 rfl rfl rfl rfl rfl rfl rfl ⟨rfl, rfl, rfl, rfl, rfl⟩ rfl rfl rfl rfl rfl (by kernel_rfl) Try.func7 (by kernel_rfl)
    (of_decide_eq_true (by kernel_rfl)) (by unfold Func.isWrapper; first | (rw [if_pos (by decide +kernel)]; kernel_rfl) | (rw [if_neg (by decide +kernel)]; exact ⟨rfl, rfl⟩))
    (fun os started H enc _ => lifted os started H enc)

theorem proved : Rows.GraphPrunedSaid := over
#print axioms proved
end Go.Proofs.Ytocnlclighonfaa.graphPruned
