/- What L9 rests on, part 7: Late, LAddL, STreeM, SWalk, STree. -/
import Derived.Test.YtglbepdjahddmaaPkL96
import Derived.Deep.RegionHeld3
import Derived.Deep.AppendLies
import Derived.Laws.EntriesVeiled

namespace Go.Proofs.Ytglbepdjahddmaa

section
variable {P : Program} {ops : Array Oper} {Q : Exit → Act → World → Prop} {md : Region.Mode} {S : World → Prop} {T : List Nat}

/-- Whatever order is picked from here on, and every operation but those of T keeps S. -/
def wpAnyT (P : Program) (md : Region.Mode) (ops : Array Oper) (Q : Exit → Act → World → Prop) (S : World → Prop) (T : List Nat) : Nat → Array Bool → Act → World → Prop
  | 0, listed, a, w => Region.ready md ops listed = [] ∧ Q .normal a w
  | fuel + 1, listed, a, w =>
    (Region.ready md ops listed = [] → Q .normal a w) ∧
    ∀ i ∈ Region.ready md ops listed, wpOp P ops Q i (fun a' w' => (i ∉ T → S w → S w') ∧ wpAnyT P md ops Q S T fuel (listed.setIfInBounds i true) a' w') a w

theorem wpAny_of_late : ∀ (fuel : Nat) (listed : Array Bool) (a : Act) (w : World), wpAnyT P md ops Q S T fuel listed a w → wpAny P md ops Q fuel listed a w
  | 0, _, _, _, h => h
  | fuel + 1, _, _, _, h => ⟨h.1, fun i hi => wpOp_mono (fun a' w' h' => wpAny_of_late fuel _ a' w' h'.2) (h.2 i hi)⟩

/-- once all that is left is of T, no world need meet S -/
theorem late_of_wpAny : ∀ (fuel : Nat) (listed : Array Bool) (a : Act) (w : World), (∀ i, listed.getD i true = false → i ∈ T) → wpAny P md ops Q fuel listed a w → wpAnyT P md ops Q S T fuel listed a w
  | 0, _, _, _, _, h => h
  | fuel + 1, listed, _, _, hl, h => ⟨h.1, fun i hi => wpOp_mono (fun a' w' h' => ⟨fun hn _ => absurd (hl i (by have := (mem_ready.1 hi).1; exact this)) hn, late_of_wpAny fuel _ a' w' (fun j hj => by
      by_cases e : i = j
      · subst e
        refine hl i ?_
        exact (mem_ready.1 hi).1
      · rw [getD_set_ne true e] at hj; exact hl j hj) h'⟩) (h.2 i hi)⟩

/-- every operation of U waits for number i, or for one of U -/
def waitsB (md : Region.Mode) (ops : Array Oper) (U : List Nat) (i : Nat) : Bool :=
  U.all fun j => match ops[j]? with | some oj => oj.after.any (fun e => Region.binds md e && (e.on == i || U.contains e.on)) | none => true

theorem waits_spec {U : List Nat} {i : Nat} (h : waitsB md ops U i = true) {j : Nat} (hj : j ∈ U) {oj : Oper} (ho : ops[j]? = some oj) : ∃ e ∈ oj.after, Region.binds md e = true ∧ (e.on = i ∨ e.on ∈ U) := by
  unfold waitsB at h
  rw [List.all_eq_true] at h
  have h1 := h j hj
  rw [ho] at h1
  simp only [Array.any_eq_true', Bool.and_eq_true, Bool.or_eq_true, beq_iff_eq, List.contains_eq_mem, decide_eq_true_eq] at h1
  obtain ⟨e, he, h2, h3⟩ := h1
  exact ⟨e, he, h2, h3⟩

theorem wpAnyT_first {i : Nat} {oi : Oper} {v : Value} (hi : ops[i]? = some oi) (hsel : ∀ (j : Nat) (o : Oper) cs b, ops[j]? = some o → o.op ≠ .select cs b)
    (hQ : ∀ c a w, Q (.panic c) (a.put oi.dst v) w → Q (.panic c) a w) {R : World → Prop} {U : List Nat} (hU : waitsB md ops U i = true) (hR : ∀ (j : Nat) (oj : Oper) (w w' : World), ops[j]? = some oj → j ∉ U → (j ∉ T → S w → S w') → R w → R w') :
    ∀ (fuel : Nat) (listed : Array Bool) (a : Act) (w : World),
      (∀ j oj, ops[j]? = some oj → j ≠ i → listed.getD j true = false → (∀ e ∈ oj.after, Region.binds md e = true → e.on ≠ i) → oi.apart ops oj = true) →
      (∀ u ∈ U, listed.getD u true = false) → i ∈ Region.ready md ops listed → YieldsIf P ops R oi v a → R w →
      wpAnyT P md ops Q S T fuel (listed.setIfInBounds i true) (a.put oi.dst v) w → wpAnyT P md ops Q S T (fuel + 1) listed a w := by
  intro fuel
  induction fuel with
  | zero =>
    intro listed a w _ _ hr hy hW H
    refine ⟨fun h => (by rw [h] at hr; cases hr), fun j hj => ?_⟩
    by_cases hji : j = i
    · subst hji; exact hy.wpOp hi hW ⟨fun _ h => h, H⟩
    · have := ready_mono hj hji
      rw [H.1] at this
      cases this
  | succ fuel ih =>
    intro listed a w hfree hun hr hy hW H
    refine ⟨fun h => (by rw [h] at hr; cases hr), fun j hj => ?_⟩
    by_cases hji : j = i
    · subst hji; exact hy.wpOp hi hW ⟨fun _ h => h, H⟩
    · have h1 := H.2 j (ready_mono hj hji)
      obtain ⟨hjun, oj, hoj, hall⟩ := mem_ready.1 hj
      have hnot : ∀ e ∈ oj.after, Region.binds md e = true → e.on ≠ i := fun e he hb heq => by
        have h1 := hall e he hb
        have h0 := (mem_ready.1 hr).1
        rw [heq] at h1
        rcases Nat.lt_or_ge i listed.size with h' | h'
        · simp [h'] at h0 h1; rw [h0] at h1; cases h1
        · simp [Array.getElem?_eq_none h'] at h1
      have hnU : ∀ e ∈ oj.after, Region.binds md e = true → e.on ∉ U := fun e he hb hm => by
        have h1 := hall e he hb
        have h0 := hun _ hm
        rcases Nat.lt_or_ge e.on listed.size with h' | h'
        · simp [h'] at h0 h1; rw [h0] at h1; cases h1
        · simp [Array.getElem?_eq_none h'] at h1
      have hjU : j ∉ U := fun hm => by
        obtain ⟨e, he, hb, heq⟩ := waits_spec hU hm hoj
        rcases heq with heq | heq
        · exact hnot e he hb heq
        · exact hnU e he hb heq
      have hun' : ∀ u ∈ U, (listed.setIfInBounds j true).getD u true = false := fun u hu => by
        have hne : j ≠ u := fun e => hjU (by rw [e]; exact hu)
        rw [getD_set_ne true hne]
        exact hun u hu
      have h2 := wpOp_putIf hoj (hfree j oj hoj hji hjun hnot) (fun cs b => hsel i oi cs b hi) (fun cs b => hsel j oj cs b hoj) hQ hy h1
      have hfree' : ∀ k ok, ops[k]? = some ok → k ≠ i → (listed.setIfInBounds j true).getD k true = false →
          (∀ e ∈ ok.after, Region.binds md e = true → e.on ≠ i) → oi.apart ops ok = true := fun k ok hk hki hun hno => by
        refine hfree k ok hk hki ?_ hno
        by_cases hjk : j = k
        · subst hjk; exact hjun
        · rw [getD_set_ne true hjk] at hun; exact hun
      refine wpOp_mono (fun a' w' h3 => ⟨h3.2.1, ih (listed.setIfInBounds j true) a' w' hfree' hun' (ready_mono hr (Ne.symm hji)) h3.1 (hR j oj w w' hoj hjU h3.2.1 hW) ?_⟩) h2
      rw [Array.setIfInBounds_comm _ _ hji]
      exact h3.2.2

/-- Take a load first, for which all of U waits, T among them. -/
theorem wpAnyT_take (U : List Nat) {i : Nat} {oi : Oper} {v : Value} {fuel : Nat} {listed : Array Bool} {a : Act} {w : World} (hi : ops.toList[i]? = some oi)
    (hs : Region.noSelect ops = true) (hf : Region.free md ops listed i = true) (hr : (Region.ready md ops listed).contains i = true) (hU : waitsB md ops U i = true) (hT : T.all (U.contains ·) = true) (hl : U.all (fun u => !(listed.getD u true)) = true)
    (hQ : ∀ c a w, Q (.panic c) (a.put oi.dst v) w → Q (.panic c) a w) (hS : S w) (hy : YieldsIf P ops S oi v a)
    (h : wpAnyT P md ops Q S T fuel (listed.setIfInBounds i true) (a.put oi.dst v) w) : wpAnyT P md ops Q S T (fuel + 1) listed a w :=
  wpAnyT_first (by simpa using hi) (Region.noSelect_spec hs) hQ hU (fun j oj w w' ho hn hw => hw fun hm => hn (by
    rw [List.all_eq_true] at hT
    simpa using hT j hm)) fuel listed a w (Region.free_spec (by simpa using hi) hf) (fun u hu => by rw [List.all_eq_true] at hl; simpa using hl u hu) (by simpa using hr) hy hS h

/-- Take first what yields in whatever world. -/
theorem wpAnyT_quiet {i : Nat} {oi : Oper} {v : Value} {fuel : Nat} {listed : Array Bool} {a : Act} {w : World} (hi : ops.toList[i]? = some oi)
    (hs : Region.noSelect ops = true) (hf : Region.free md ops listed i = true) (hr : (Region.ready md ops listed).contains i = true)
    (hQ : ∀ c a w, Q (.panic c) (a.put oi.dst v) w → Q (.panic c) a w) (hy : Yields P ops oi v a)
    (h : wpAnyT P md ops Q S T fuel (listed.setIfInBounds i true) (a.put oi.dst v) w) : wpAnyT P md ops Q S T (fuel + 1) listed a w :=
  wpAnyT_first (R := fun _ => True) (U := []) (by simpa using hi) (Region.noSelect_spec hs) hQ rfl (fun _ _ _ _ _ _ _ _ => trivial) fuel listed a w (Region.free_spec (by simpa using hi) hf) (fun u hu => by cases hu) (by simpa using hr)
    (hy.imp (fun ⟨hw, hv⟩ => ⟨hw, fun w _ => hv w⟩) id) trivial h

/-- Each of the operations rs comes up next. -/
def AllReadyT (P : Program) (md : Region.Mode) (ops : Array Oper) (Q : Exit → Act → World → Prop) (S : World → Prop) (T : List Nat) (fuel : Nat) (listed : Array Bool) (a : Act) (w : World) (rs : List Nat) : Prop :=
  ∀ i ∈ rs, wpOp P ops Q i (fun a' w' => (i ∉ T → S w → S w') ∧ wpAnyT P md ops Q S T fuel (listed.setIfInBounds i true) a' w') a w

theorem AllReadyT.nil {fuel : Nat} {listed : Array Bool} {a : Act} {w : World} : AllReadyT P md ops Q S T fuel listed a w [] := fun _ h => by cases h

theorem AllReadyT.cons {fuel : Nat} {listed : Array Bool} {a : Act} {w : World} {i : Nat} {o : Oper} {rs : List Nat} (ho : ops.toList[i]? = some o)
    (h : ∀ K' : Act → World → Prop, Shut (∀ a' w', (i ∉ T → S w → S w') → wpAnyT P md ops Q S T fuel (listed.setIfInBounds i true) a' w' → K' a' w') → if Region.wanted o (yielded ops a.tmps) = true then Oper.wp P o a w K' Q else K' (a.put o.dst undef) w)
    (hs : AllReadyT P md ops Q S T fuel listed a w rs) : AllReadyT P md ops Q S T fuel listed a w (i :: rs) := fun j hj => by
  have ho : ops[i]? = some o := by simpa using ho
  rcases List.mem_cons.1 hj with rfl | hj
  · exact wpOp_step ho (fun K' hK => h K' (fun a w hS hW => hK a w ⟨hS, hW⟩))
  · exact hs j hj

theorem wpAnyT_ready {rs : List Nat} {fuel : Nat} {listed : Array Bool} {a : Act} {w : World} (hr : Region.ready md ops listed = rs) (hne : rs ≠ [])
    (h : AllReadyT P md ops Q S T fuel listed a w rs) : wpAnyT P md ops Q S T (fuel + 1) listed a w := ⟨fun h0 => absurd (hr ▸ h0) hne, hr ▸ h⟩

theorem wpAnyT_done {listed : Array Bool} {a : Act} {w : World} (hr : Region.ready md ops listed = []) (h : Q .normal a w) :
    ∀ fuel, wpAnyT P md ops Q S T fuel listed a w
  | 0 => ⟨hr, h⟩
  | _ + 1 => ⟨fun _ => h, by rw [hr]; simp⟩

/-- The beginning. -/
theorem wp_region_late {id : Nat} {a : Act} {w : World} (hm : P.follows .mixedOrders = true) (S : World → Prop) (T : List Nat)
    (h : wpAnyT P .any ops Q S T ops.size (Array.replicate ops.size false) a w.drew) : (Code.region id ops true).wp P Q a w :=
  wp_region_any hm (wpAny_of_late _ _ _ _ h)

end

end Go.Proofs.Ytglbepdjahddmaa

namespace Go.Proofs.Ytglbepdjahddmaa
open Go.RowKit Go.Maps

theorem own_sl {w : World} {base n : Nat} {e : TypeId} {v : Value} {xs : List Value} {size : Nat} (h : w.ownsRow base e size v n xs) : ∃ A c, v = .slice A n c := by
  rcases h.2 with ⟨e, e0⟩ | ⟨g, cap, cur, e, _⟩
  · exact ⟨none, 0, by rw [e, e0]⟩
  · exact ⟨_, _, e⟩

/-- the loop of a head, as it is found -/
def lpOf (bs : List BlockM) (D L : Nat → Nat → Bool) (h : Nat) : LpM := ⟨h, blocksM bs.length L h, latchesM bs D h, exitsM bs L h, 0⟩

def AddLPost (f7 : Array Value) (gn base : Nat) (ls : List LpM) (w : World) (e : Ending) (w' : World) : Prop :=
  ∃ g cap : Nat, e = .returned (.tuple #[]) ∧ w'.heap[gn]? = some (.cells (f7.push (.slice (some ⟨g, 0, none⟩) ls.length cap)) 54 (0, 0)) ∧ LoopsR w' base (.slice (some ⟨g, 0, none⟩) ls.length cap) ls ∧ Below gn w w'

set_option maxRecDepth 100000 in
set_option maxHeartbeats 8000000 in
theorem lAddL_any (bs : List BlockM) (o : List Nat) (pl : Nat → Nat) (par : Nat → Option Nat) (D L : Nat → Nat → Bool) (lo gp gi gl h c B gn base : Nat) (vs : List Value) (p0 p1 p2 lv s : Value) (A : Option Addr) (ls : List LpM) (w : World) (K : LoopOk bs o pl par D L) (H : LfAt w lo bs o pl par gp vs gi gl) (hh : h < bs.length) (hin : EndsIn bs) (hbv : BlocksR w B (.slice A bs.length c) bs) (hB : B ≤ gn)
    (hgn : w.heap[gn]? = some (.cells #[p0, p1, p2, .slice A bs.length c, .slice (some ⟨gp, 0, none⟩) bs.length bs.length, .slice (some ⟨gi, 0, none⟩) bs.length bs.length, .slice (some ⟨gl, 0, none⟩) bs.length bs.length, lv] 54 (0, 0))) (hbase : gn < base) (hbs : base ≤ w.heap.size) (hls : LoopsR w base lv ls) (hlen : ls.length ≤ 512) (hsub : SubR w base lv s (latchesM bs D h)) :
    Calls Try.prog 28 #[.pointer (some ⟨gn, 0, none⟩), .int .i64 h, s] w (AddLPost #[p0, p1, p2, .slice A bs.length c, .slice (some ⟨gp, 0, none⟩) bs.length bs.length, .slice (some ⟨gi, 0, none⟩) bs.length bs.length, .slice (some ⟨gl, 0, none⟩) bs.length bs.length] gn base (ls ++ [lpOf bs D L h]) w) := by
  have HK := hideI K
  have hn5 := K.n5
  have HIN := hideI hin
  have hgl := lt_of_heap hgn
  have hBw : B ≤ w.heap.size := by omega
  have HG := hideI hgn
  have hlatl : (latchesM bs D h).length ≤ 512 := by
    unfold latchesM
    exact Nat.le_trans (List.length_filter_le _ _) (Nat.le_trans (predsTo_len _ _ _) hn5)
  have hblkl : (blocksM bs.length L h).length ≤ 512 := by
    unfold blocksM
    have := List.length_filter_le (L h) (List.range bs.length)
    rw [List.length_range] at this
    omega
  have HBV := hideI hbv
  have HLS := hideI hls
  have HSUB := hideI hsub
  have HWI := hideI (lWithin_any bs o pl par D L lo gp gi gl h c w.heap.size vs p0 p1 p2 lv s A w K H hh (hsub.ints (by omega)) (Nat.le_refl _))
  obtain ⟨As, cs, rfl⟩ := own_sl hsub.1
  obtain ⟨nl, hnl⟩ : ∃ nl, nl = (latchesM bs D h).length := ⟨_, rfl⟩
  obtain ⟨nb, hnb⟩ : ∃ nb, nb = (blocksM bs.length L h).length := ⟨_, rfl⟩
  have HNL := hideI hnl
  have HNB := hideI hnb
  rw [← hnl] at hlatl HWI HSUB ⊢
  have hx := row_cells hgn rfl
  have q0 := hx 0
  have q1 := hx 1
  have q2 := hx 2
  have q3 := hx 3
  have q4 := hx 4
  have q5 := hx 5
  have q6 := hx 6
  have q7 := hx 7
  clear K H hin hgn hbv hls hsub hx hnl hnb
  go_enter Try.func28, Try.ntmps28
  go_upto_region 2 with (first
    | (go_at_call 41; go_must (refine HWI.out.mono ?_); rintro e w1 ⟨gm, rfl, hown1, hb1⟩; have HO1 := hideI hown1; have HB1 := hideI hb1; have hgm := hown1.lt gm rfl; have HRI := hideI (lRise_any bs.length gm (L h) w1 hn5 hgm.2 (fun b hb => (by rw [World.ownsRow.cellAt hown1 b (by omega)]; exact boolsM_at hb))); clear hown1 hb1 hgm q0 q1 q2 q3 q4 q5 q6 q7)
    | (go_at_call 42; go_must (refine HRI.out.mono ?_); rintro e w2 ⟨v7, rfl, hown2, hb2⟩; (obtain ⟨A7, c7, rfl⟩ := own_sl hown2); have HO2 := hideI hown2; have HB2 := hideI (HB1.out.trans (hb2.mono HB1.out.size)); replace HO1 := hideI (own_kept_below HO1.out hb2 (fun k hk => (HO1.out.lt k hk).2)); clear hown2 hb2))
  have hO7 : w2.ownsRow w1.heap.size 3 1 (.slice A7 nb c7) (blocksM bs.length L h).length (natInts (blocksM bs.length L h)) := by rw [HNB.out]; exact HO2.out
  have HO7 := hideI (World.ownsRow.mono hO7 HB1.out.size)
  rw [show ((List.range bs.length).filter (L h)).length = nb from HNB.out.symm]
  have HX2 := hideI ((HB2.out.block gn hgl).trans HG.out)
  have hx := row_cells HX2.out rfl
  have q0 := hx 0
  have q1 := hx 1
  have q2 := hx 2
  have q3 := hx 3
  have q4 := hx 4
  have q5 := hx 5
  have q6 := hx 6
  have q7 := hx 7
  have f7 := free_rowN HX2.out rfl 7
  have hw2 : w.heap.size ≤ w2.heap.size := HB2.out.size
  have hgl2 : gn < w2.heap.size := by omega
  have hI7 : Ints w2.drew w2.drew.heap.size (.slice A7 nb c7) ((blocksM bs.length L h).map fun (x : Nat) => (x : Int)) := nat_ints hO7 (by omega)
  have HEX := hideI (lExits_any bs L h c w2.heap.size gm p0 p1 p2 (.slice (some ⟨gp, 0, none⟩) bs.length bs.length) (.slice (some ⟨gi, 0, none⟩) bs.length bs.length) (.slice (some ⟨gl, 0, none⟩) bs.length bs.length) lv (.slice A7 nb c7) A w2.drew hn5 HIN.out (((HBV.out.keeps (Keeps.of_below (HB2.out.mono hBw))).more' (Nat.le_trans hBw hw2)).keeps (fun _ _ _ => rfl)) (Nat.le_refl _) hI7 (HO1.out.lt gm rfl).2 (fun b hb => (by rw [World.ownsRow.cellAt HO1.out b (by omega)]; exact boolsM_at hb : w2.cell? ⟨gm, b, none⟩ = _)))
  clear hI7
  have HS : Hid (∀ W, Below w2.heap.size w2 W → W.cell? ⟨gn, 0, none⟩ = some (p0) ∧ W.cell? ⟨gn, 1, none⟩ = some (p1) ∧ W.cell? ⟨gn, 2, none⟩ = some (p2) ∧ W.cell? ⟨gn, 3, none⟩ = some (.slice A bs.length c) ∧ W.cell? ⟨gn, 4, none⟩ = some (.slice (some ⟨gp, 0, none⟩) bs.length bs.length) ∧ W.cell? ⟨gn, 5, none⟩ = some (.slice (some ⟨gi, 0, none⟩) bs.length bs.length) ∧ W.cell? ⟨gn, 6, none⟩ = some (.slice (some ⟨gl, 0, none⟩) bs.length bs.length) ∧ W.cell? ⟨gn, 7, none⟩ = some (lv)) := fun W hW => by
    have hx := row_cells HX2.out (hW.block gn hgl2)
    exact ⟨hx 0, hx 1, hx 2, hx 3, hx 4, hx 5, hx 6, hx 7⟩
  have hS0 := HS.out w2 (Below.refl _ _)
  clear hx hO7
  refine wp_region_late (by kernel_rfl) (fun W => W.cell? ⟨gn, 0, none⟩ = some (p0) ∧ W.cell? ⟨gn, 1, none⟩ = some (p1) ∧ W.cell? ⟨gn, 2, none⟩ = some (p2) ∧ W.cell? ⟨gn, 3, none⟩ = some (.slice A bs.length c) ∧ W.cell? ⟨gn, 4, none⟩ = some (.slice (some ⟨gp, 0, none⟩) bs.length bs.length) ∧ W.cell? ⟨gn, 5, none⟩ = some (.slice (some ⟨gi, 0, none⟩) bs.length bs.length) ∧ W.cell? ⟨gn, 6, none⟩ = some (.slice (some ⟨gl, 0, none⟩) bs.length bs.length) ∧ W.cell? ⟨gn, 7, none⟩ = some (lv)) [16, 19] ?_
  refine wpAnyT_quiet (i := 0) (v := ?_) rfl (by kernel_rfl) (by kernel_rfl) (by kernel_rfl) (fun _ _ _ h => h) (Or.inl ⟨by rfl, ?_⟩) ?_
  rotate_left
  · (intro w; go_simp; try with_reducible rfl)
  try simp only [Act.put, List.setIfInBounds_toArray, List.set_cons_zero, List.set_cons_succ]
  refine wpAnyT_quiet (i := 1) (v := ?_) rfl (by kernel_rfl) (by kernel_rfl) (by kernel_rfl) (fun _ _ _ h => h) (Or.inl ⟨by rfl, ?_⟩) ?_
  rotate_left
  · (intro w; go_simp; try with_reducible rfl)
  try simp only [Act.put, List.setIfInBounds_toArray, List.set_cons_zero, List.set_cons_succ]
  refine wpAnyT_quiet (i := 2) (v := ?_) rfl (by kernel_rfl) (by kernel_rfl) (by kernel_rfl) (fun _ _ _ h => h) (Or.inl ⟨by rfl, ?_⟩) ?_
  rotate_left
  · (intro w; go_simp; try with_reducible rfl)
  try simp only [Act.put, List.setIfInBounds_toArray, List.set_cons_zero, List.set_cons_succ]
  refine wpAnyT_quiet (i := 3) (v := ?_) rfl (by kernel_rfl) (by kernel_rfl) (by kernel_rfl) (fun _ _ _ h => h) (Or.inl ⟨by rfl, ?_⟩) ?_
  rotate_left
  · (intro w; go_simp; try with_reducible rfl)
  try simp only [Act.put, List.setIfInBounds_toArray, List.set_cons_zero, List.set_cons_succ]
  refine wpAnyT_take [16, 19] (i := 4) (v := ?_) rfl (by kernel_rfl) (by kernel_rfl) (by kernel_rfl) (by kernel_rfl) (by kernel_rfl) (by kernel_rfl) (fun _ _ _ h => h) hS0 (Or.inl ⟨by rfl, ?_⟩) ?_
  rotate_left
  · (intro w hSw; go_split_ands; go_simp; try with_reducible rfl)
  try simp only [Act.put, List.setIfInBounds_toArray, List.set_cons_zero, List.set_cons_succ]
  refine wpAnyT_quiet (i := 5) (v := ?_) rfl (by kernel_rfl) (by kernel_rfl) (by kernel_rfl) (fun _ _ _ h => h) (Or.inl ⟨by rfl, ?_⟩) ?_
  rotate_left
  · (intro w; go_simp; try with_reducible rfl)
  try simp only [Act.put, List.setIfInBounds_toArray, List.set_cons_zero, List.set_cons_succ]
  refine wpAnyT_quiet (i := 6) (v := ?_) rfl (by kernel_rfl) (by kernel_rfl) (by kernel_rfl) (fun _ _ _ h => h) (Or.inl ⟨by rfl, ?_⟩) ?_
  rotate_left
  · (intro w; go_simp; try with_reducible rfl)
  try simp only [Act.put, List.setIfInBounds_toArray, List.set_cons_zero, List.set_cons_succ]
  refine wpAnyT_quiet (i := 7) (v := ?_) rfl (by kernel_rfl) (by kernel_rfl) (by kernel_rfl) (fun _ _ _ h => h) (Or.inl ⟨by rfl, ?_⟩) ?_
  rotate_left
  · (intro w; go_simp; try with_reducible rfl)
  try simp only [Act.put, List.setIfInBounds_toArray, List.set_cons_zero, List.set_cons_succ]
  refine wpAnyT_quiet (i := 8) (v := ?_) rfl (by kernel_rfl) (by kernel_rfl) (by kernel_rfl) (fun _ _ _ h => h) (Or.inl ⟨by rfl, ?_⟩) ?_
  rotate_left
  · (intro w; go_simp; try with_reducible rfl)
  try simp only [Act.put, List.setIfInBounds_toArray, List.set_cons_zero, List.set_cons_succ]
  refine wpAnyT_quiet (i := 9) (v := ?_) rfl (by kernel_rfl) (by kernel_rfl) (by kernel_rfl) (fun _ _ _ h => h) (Or.inl ⟨by rfl, ?_⟩) ?_
  rotate_left
  · (intro w; go_simp; try with_reducible rfl)
  try simp only [Act.put, List.setIfInBounds_toArray, List.set_cons_zero, List.set_cons_succ]
  refine wpAnyT_take [13, 14, 15, 16, 19] (i := 10) (v := ?_) rfl (by kernel_rfl) (by kernel_rfl) (by kernel_rfl) (by kernel_rfl) (by kernel_rfl) (by kernel_rfl) (fun _ _ _ h => h) hS0 (Or.inl ⟨by rfl, ?_⟩) ?_
  rotate_left
  · (intro w hSw; go_split_ands; go_simp; try with_reducible rfl)
  try simp only [Act.put, List.setIfInBounds_toArray, List.set_cons_zero, List.set_cons_succ]
  refine wpAnyT_quiet (i := 11) (v := ?_) rfl (by kernel_rfl) (by kernel_rfl) (by kernel_rfl) (fun _ _ _ h => h) (Or.inl ⟨by rfl, ?_⟩) ?_
  rotate_left
  · (intro w; go_simp; try with_reducible rfl)
  try simp only [Act.put, List.setIfInBounds_toArray, List.set_cons_zero, List.set_cons_succ]
  refine wpAnyT_quiet (i := 12) (v := ?_) rfl (by kernel_rfl) (by kernel_rfl) (by kernel_rfl) (fun _ _ _ h => h) (Or.inl ⟨by rfl, ?_⟩) ?_
  rotate_left
  · (intro w; go_simp; try with_reducible rfl)
  try simp only [Act.put, List.setIfInBounds_toArray, List.set_cons_zero, List.set_cons_succ]
  refine wpAnyT_ready (rs := [13]) (by kernel_rfl) (by simp) ?_
  refine AllReadyT.cons rfl (fun K hK => ?_) ?_
  · go_simp
    refine HEX.out.mono ?_
    rintro e w3 ⟨vx, rfl, hown3, hb3d⟩
    have hb3 : Below w2.heap.size w2 w3 := ⟨hb3d.os, hb3d.tape, hb3d.output, hb3d.size, hb3d.block⟩
    obtain ⟨Ax, cx, rfl⟩ := own_sl hown3
    obtain ⟨nx, hnx⟩ : ∃ nx, nx = (exitsM bs L h).length := ⟨_, rfl⟩
    have HO3 := hideI hown3
    rw [← hnx] at HO3 ⊢
    have HNX := hideI hnx
    have HB3 := hideI hb3
    refine hK.out _ _ (fun _ _ => HS.out _ HB3.out) ?_
    clear hK K hown3 hb3d hb3 hnx
    try simp only [Act.put, List.setIfInBounds_toArray, List.set_cons_zero, List.set_cons_succ]
    refine wpAnyT_quiet (i := 14) (v := ?_) rfl (by kernel_rfl) (by kernel_rfl) (by kernel_rfl) (fun _ _ _ h => h) (Or.inl ⟨by rfl, ?_⟩) ?_
    rotate_left
    · (intro w; go_simp; try with_reducible rfl)
    try simp only [Act.put, List.setIfInBounds_toArray, List.set_cons_zero, List.set_cons_succ]
    refine wpAnyT_ready (rs := [15]) (by kernel_rfl) (by simp) ?_
    refine AllReadyT.cons rfl (fun K hK => ?_) ?_
    · go_simp
      have hs3 : w2.heap.size ≤ w3.heap.size := HB3.out.size
      refine hK.out _ _ (fun _ _ => HS.out _ (HB3.out.alloc hs3 _)) ?_
      clear hK K
      try simp only [Act.put, List.setIfInBounds_toArray, List.set_cons_zero, List.set_cons_succ]
      obtain ⟨cs0, hr1, hr2⟩ := HLS.out.ex
      have HB23 : Hid (Below w.heap.size w w3) := HB2.out.trans (HB3.out.mono hw2)
      have hrow := own_kept_below hr1 HB23.out (fun k hk => (hr1.lt k hk).2)
      have HAT : Hid (∀ (i : Nat) lp, ls[i]? = some lp → LpAt w3 base lv cs0 i lp) := fun i lp hi => (hr2 i lp hi).map fun _ _ sr => sr.kept HB23.out
      have hlt : ∀ k, lv.ownBlock = some k → k < w.heap.size := fun k hk => (hr1.lt k hk).2
      have S1 : Hid (SubR w3 base lv (.slice A7 nb c7) (blocksM bs.length L h)) := by
        have h1 : w2.ownsRow w.heap.size 3 1 (.slice A7 nb c7) (blocksM bs.length L h).length (natInts (blocksM bs.length L h)) := by rw [HNB.out]; exact World.ownsRow.mono HO2.out HB1.out.size
        refine ⟨World.ownsRow.mono (own_kept_below h1 HB3.out (fun k hk => (h1.lt k hk).2)) hbs, fun k hk e => ?_⟩
        have h2 := (h1.lt k hk).1
        have h3 := hlt k e
        omega
      have S2 : Hid (SubR w3 base lv (.slice As nl cs) (latchesM bs D h)) := HSUB.out.kept HB23.out
      have S3 : Hid (SubR w3 base lv (.slice Ax nx cx) (exitsM bs L h)) := by
        have h1 : w3.ownsRow w2.heap.size 3 1 (.slice Ax nx cx) (exitsM bs L h).length (natInts (exitsM bs L h)) := by rw [← HNX.out]; exact HO3.out
        refine ⟨World.ownsRow.mono h1 (Nat.le_trans hbs hw2), fun k hk e => ?_⟩
        have h2 := (h1.lt k hk).1
        have h3 := hlt k e
        omega
      have HROW := hideI hrow
      have hnews := World.news_of_block (heap_alloc_new w3 (.cells #[.int .i64 (h : Int), .slice A7 nb c7, .slice As nl cs, .slice Ax nx cx, .int .i64 0] 38))
      obtain ⟨i0, hix, hz0, hz1, hz2⟩ := info_parts loop_info
      clear hr1 hr2 hrow hlt
      refine wpAnyT_ready (rs := [16]) (by kernel_rfl) (by simp) ?_
      refine AllReadyT.cons rfl (fun K hK => ?_) ?_
      · refine step_append_lies _ rfl (.tmp 20) (.tmp 31) _ rfl base 38 i0 _ 5 88 Try.underlying26 hix hz0 hz1 hz2 rfl (by decide) lv ls.length cs0 rfl (HROW.out.alloc _) ⟨w3.heap.size, 0, none⟩ 1 1 [.int .i64 (h : Int), .slice A7 nb c7, .slice As nl cs, .slice Ax nx cx, .int .i64 0] rfl rfl hnews (by simp [Value.oneCell']) (by decide) (by unfold maxLen; omega) (by omega) (by simp; omega) _ rfl ?_
        intro g1 cap1 w5 hown5 hgrow5 hor5 _
        refine hK.out _ _ (fun h => absurd (by simp) h) ?_
        clear hK K hnews hix hz0 hz1 hz2
        try simp only [Act.put, List.setIfInBounds_toArray, List.set_cons_zero, List.set_cons_succ]
        have hX5 : w5.heap[gn]? = some (.cells #[p0, p1, p2, .slice A bs.length c, .slice (some ⟨gp, 0, none⟩) bs.length bs.length, .slice (some ⟨gi, 0, none⟩) bs.length bs.length, .slice (some ⟨gl, 0, none⟩) bs.length bs.length, lv] 54 (0, 0)) := by
          have h1 := hgrow5.block gn (by simp; omega) (fun e => by have := (HROW.out.lt gn e.symm).1; omega)
          rw [h1, Below.heap_alloc _ _ _ (by omega)]
          exact (HB3.out.block gn hgl2).trans HX2.out
        have HX5 := hideI hX5
        have HB5 : Hid (Below gn w w5) := ((HB23.out.mono (Nat.le_of_lt hgl)).alloc (by have := HB23.out.size; omega) (.cells #[.int .i64 (h : Int), .slice A7 nb c7, .slice As nl cs, .slice Ax nx cx, .int .i64 0] 38)).grown hgrow5 (by simp; omega) (fun k hk => by have := (HROW.out.lt k hk).1; omega)
        have HLP := hideI (LoopsR.push (lp := lpOf bs D L h) HROW.out HAT.out S1.out S2.out S3.out hown5 hgrow5 hor5)
        have k7 := row_cells hX5 rfl 7
        have z7 := free_rowN hX5 rfl 7
        clear hown5 hgrow5 hor5 hX5
        refine wpAnyT_quiet (i := 17) (v := ?_) rfl (by kernel_rfl) (by kernel_rfl) (by kernel_rfl) (fun _ _ _ h => h) (Or.inl ⟨by rfl, ?_⟩) ?_
        rotate_left
        · (intro w; go_simp; try with_reducible rfl)
        try simp only [Act.put, List.setIfInBounds_toArray, List.set_cons_zero, List.set_cons_succ]
        refine wpAnyT_quiet (i := 18) (v := ?_) rfl (by kernel_rfl) (by kernel_rfl) (by kernel_rfl) (fun _ _ _ h => h) (Or.inl ⟨by rfl, ?_⟩) ?_
        rotate_left
        · (intro w; go_simp; try with_reducible rfl)
        try simp only [Act.put, List.setIfInBounds_toArray, List.set_cons_zero, List.set_cons_succ]
        refine wpAnyT_ready (rs := [19]) (by kernel_rfl) (by simp) ?_
        refine AllReadyT.cons rfl (fun K hK => ?_) ?_
        · go_simp
          refine hK.out _ _ (fun h => absurd (by simp) h) ?_
          clear hK K
          try simp only [Act.put, List.setIfInBounds_toArray, List.set_cons_zero, List.set_cons_succ]
          refine wpAnyT_done (by kernel_rfl) ?_ _
          go_wp2_with fail
          refine bodyPost_ret (v := .tuple #[]) (by simp [results, Try.results28, go_sem]) rfl ⟨g1, cap1, rfl, ?_, ?_, ?_⟩
          · rw [List.length_append]
            rw [heap_setCell_same _ gn 7 _ _ _ HX5.out]
            rfl
          · rw [List.length_append]
            exact HLP.out.other hbase _
          · exact HB5.out.setCell (Nat.le_refl _) _
        · exact AllReadyT.nil
      · exact AllReadyT.nil
    · exact AllReadyT.nil
  · exact AllReadyT.nil

end Go.Proofs.Ytglbepdjahddmaa

namespace Go.Proofs.Ytglbepdjahddmaa

/-- the blocks below k whose parent is b -/
def kidsTo (par : Nat → Option Nat) (k b : Nat) : List Nat := (List.range k).filter fun c => par c == some b

theorem kidsTo_mem {par : Nat → Option Nat} {k b c : Nat} : c ∈ kidsTo par k b ↔ c < k ∧ par c = some b := by
  unfold kidsTo
  rw [List.mem_filter, List.mem_range, beq_iff_eq]

theorem kidsTo_nodup (par : Nat → Option Nat) (k b : Nat) : (kidsTo par k b).Nodup := List.nodup_range.filter _

theorem kidsTo_len (par : Nat → Option Nat) (k b : Nat) : (kidsTo par k b).length ≤ k := by
  have := List.length_filter_le (fun c => par c == some b) (List.range k)
  unfold kidsTo
  simpa using this

theorem kidsTo_succ (par : Nat → Option Nat) (k b : Nat) : kidsTo par (k + 1) b = kidsTo par k b ++ if par k = some b then [k] else [] := by
  unfold kidsTo
  rw [List.range_succ, List.filter_append]
  congr 1
  by_cases h : par k = some b <;> simp [h]

def updF (F : Nat → Int) (b : Nat) (v : Int) : Nat → Int := fun c => if c = b then v else F c

theorem updF_same (F : Nat → Int) (b : Nat) (v : Int) : updF F b v b = v := if_pos rfl
theorem updF_other (F : Nat → Int) {b c : Nat} (v : Int) (h : c ≠ b) : updF F b v c = F c := if_neg h

/-- the walk through some blocks, one after another, and all below each: those that are come to, and the numbers ahead and behind -/
inductive Num (kids : Nat → List Nat) : List Nat → List Nat → (Nat → Int) → (Nat → Int) → Nat → (Nat → Int) → (Nat → Int) → Prop
  | nil {F L : Nat → Int} {k : Nat} : Num kids [] [] F L k F L
  | cons {c : Nat} {cs u v : List Nat} {F L F1 L1 F2 L2 : Nat → Int} {k : Nat} (h1 : Num kids (kids c) u (updF F c (k : Int)) L (k + 1) F1 L1) (h2 : Num kids cs v F1 (updF L1 c ((k + u.length : Nat) : Int)) (k + 1 + u.length) F2 L2) : Num kids (c :: cs) (c :: (u ++ v)) F L k F2 L2

theorem Num.append {kids : Nat → List Nat} {l r u v : List Nat} {F L F1 L1 F2 L2 : Nat → Int} {k : Nat} (h : Num kids l u F L k F1 L1) (h2 : Num kids r v F1 L1 (k + u.length) F2 L2) : Num kids (l ++ r) (u ++ v) F L k F2 L2 := by
  induction h with
  | nil => exact h2
  | @cons c cs u1 u2 F L F1 L1 F2 L2 k a b _ ih2 =>
    have := ih2 (by simpa [Nat.add_assoc, Nat.add_comm, Nat.add_left_comm] using h2)
    rw [List.cons_append, List.cons_append, List.append_assoc]
    exact .cons a this

theorem Num.one {kids : Nat → List Nat} {c k : Nat} {u : List Nat} {F L F1 L1 : Nat → Int} (h : Num kids (kids c) u (updF F c k) L (k + 1) F1 L1) : Num kids [c] (c :: u) F L k F1 (updF L1 c ((k + u.length : Nat) : Int)) := by
  have := Num.cons (cs := []) h .nil
  rwa [List.append_nil] at this

/-- none of these stands below another -/
structure Sib (par : Nat → Option Nat) (l : List Nat) : Prop where
  nodup : l.Nodup
  apart : ∀ c ∈ l, ∀ d ∈ l, c ≠ d → ∀ x, Anc par c x → ¬ Anc par d x

theorem Sib.tail {par : Nat → Option Nat} {c : Nat} {l : List Nat} (h : Sib par (c :: l)) : Sib par l :=
  ⟨(List.nodup_cons.1 h.nodup).2, fun a ha b hb => h.apart a (List.mem_cons_of_mem _ ha) b (List.mem_cons_of_mem _ hb)⟩

theorem Sib.one (par : Nat → Option Nat) (c : Nat) : Sib par [c] :=
  ⟨by simp, fun a ha b hb hne => absurd ((List.mem_singleton.1 ha).trans (List.mem_singleton.1 hb).symm) hne⟩

theorem Sib.take {par : Nat → Option Nat} {l : List Nat} (h : Sib par l) (i : Nat) : Sib par (l.take i) :=
  ⟨h.nodup.sublist (List.take_sublist _ _), fun a ha b hb => h.apart a (List.mem_of_mem_take ha) b (List.mem_of_mem_take hb)⟩

theorem Sib.kids {o : List Nat} {pl : Nat → Nat} {par : Nat → Option Nat} (T : Tree o pl par) (n b : Nat) : Sib par (kidsTo par n b) := by
  refine ⟨kidsTo_nodup par n b, ?_⟩
  intro c hc d hd hne x h1 h2
  have pc := (kidsTo_mem.1 hc).2
  have pd := (kidsTo_mem.1 hd).2
  have hup : ∀ {a e : Nat}, par a = some b → par e = some b → a ≠ e → ¬ Anc par a e := by
    intro a e ha he hn h
    rcases h.step he with h | h
    · exact hn h
    · have h3 := T.anc_le h
      have h4 := (T.up _ _ ha).2.2.1
      omega
  rcases h1.lin h2 with h | h
  · exact hup pc pd hne h
  · exact hup pd pc (fun e => hne e.symm) h

/-- what the walk leaves -/
structure NumOk (par : Nat → Option Nat) (l u : List Nat) (F L : Nat → Int) (k : Nat) (F' L' : Nat → Int) : Prop where
  mem : ∀ x, x ∈ u ↔ ∃ c ∈ l, Anc par c x
  nodup : u.Nodup
  keepF : ∀ x, x ∉ u → F' x = F x
  keepL : ∀ x, x ∉ u → L' x = L x
  lowF : ∀ x ∈ u, (k : Int) ≤ F' x ∧ F' x < k + u.length
  lowL : ∀ x ∈ u, L' x < k + u.length
  over : ∀ x ∈ u, ∀ y ∈ u, (F' x ≤ F' y ∧ F' y ≤ L' x) ↔ Anc par x y

theorem anc_below {par : Nat → Option Nat} {b x : Nat} (h : Anc par b x) : x = b ∨ ∃ c, par c = some b ∧ Anc par c x := by
  induction h with
  | refl => exact .inl rfl
  | up e k ih =>
    rcases ih with rfl | ⟨c, hc, h⟩
    · exact .inr ⟨_, e, .refl⟩
    · exact .inr ⟨c, hc, .up e h⟩

theorem Num.ok {o : List Nat} {pl : Nat → Nat} {par : Nat → Option Nat} (T : Tree o pl par) {n : Nat} (hn : ∀ x ∈ o, x < n) {l u : List Nat} {F L F' L' : Nat → Int} {k : Nat} (h : Num (kidsTo par n) l u F L k F' L') : Sib par l → NumOk par l u F L k F' L' := by
  induction h with
  | nil => intro _; exact ⟨by simp, by simp, by simp, by simp, by simp, by simp, by simp⟩
  | @cons c cs u1 u2 F L F1 L1 F2 L2 k _ _ ih1 ih2 =>
    intro hs
    have A := ih1 (Sib.kids T n c)
    have B := ih2 hs.tail
    have m1 : ∀ x, x ∈ u1 → Anc par c x ∧ x ≠ c := by
      intro x hx
      obtain ⟨d, hd, hdx⟩ := (A.mem x).1 hx
      have pd := (kidsTo_mem.1 hd).2
      have h3 : Anc par c d := .up pd .refl
      refine ⟨h3.trans hdx, fun e => ?_⟩
      subst e
      have h4 := T.anc_le hdx
      have h5 := (T.up _ _ pd).2.2.1
      omega
    have m2 : ∀ x, x ∈ u2 → ¬ Anc par c x := by
      intro x hx hc
      obtain ⟨d, hd, hdx⟩ := (B.mem x).1 hx
      exact hs.apart c (List.mem_cons_self ..) d (List.mem_cons_of_mem _ hd) (fun e => (List.nodup_cons.1 hs.nodup).1 (by rw [e]; exact hd)) x hc hdx
    have d12 : ∀ x, x ∈ u1 → x ∉ u2 := fun x h1 h2 => m2 x h2 (m1 x h1).1
    have cn1 : c ∉ u1 := fun h => (m1 c h).2 rfl
    have cn2 : c ∉ u2 := fun h => m2 c h .refl
    have fc : F2 c = k := by rw [B.keepF c cn2, A.keepF c cn1, updF_same]
    have lc : L2 c = ((k + u1.length : Nat) : Int) := by rw [B.keepL c cn2, updF_same]
    have f1 : ∀ x ∈ u1, F2 x = F1 x := fun x hx => B.keepF x (d12 x hx)
    have l1 : ∀ x ∈ u1, L2 x = L1 x := fun x hx => by rw [B.keepL x (d12 x hx), updF_other _ _ (m1 x hx).2]
    have b1 : ∀ x ∈ u1, ((k : Int) + 1 ≤ F2 x ∧ F2 x < k + 1 + u1.length) ∧ L2 x < k + 1 + u1.length := by
      intro x hx
      have h3 := A.lowF x hx
      have h4 := A.lowL x hx
      rw [f1 x hx, l1 x hx]
      omega
    have b2 : ∀ x ∈ u2, ((k : Int) + 1 + u1.length ≤ F2 x ∧ F2 x < k + 1 + u1.length + u2.length) ∧ L2 x < k + 1 + u1.length + u2.length := by
      intro x hx
      have h3 := B.lowF x hx
      have h4 := B.lowL x hx
      omega
    have hm : ∀ x, x ∈ c :: (u1 ++ u2) ↔ x = c ∨ x ∈ u1 ∨ x ∈ u2 := by intro x; rw [List.mem_cons, List.mem_append]
    have hlen : (c :: (u1 ++ u2)).length = 1 + u1.length + u2.length := by rw [List.length_cons, List.length_append]; omega
    refine ⟨?_, ?_, ?_, ?_, ?_, ?_, ?_⟩
    · intro x
      rw [hm]
      constructor
      · rintro (rfl | h | h)
        · exact ⟨x, List.mem_cons_self .., .refl⟩
        · exact ⟨c, List.mem_cons_self .., (m1 x h).1⟩
        · obtain ⟨d, hd, hdx⟩ := (B.mem x).1 h
          exact ⟨d, List.mem_cons_of_mem _ hd, hdx⟩
      · rintro ⟨d, hd, hdx⟩
        rcases List.mem_cons.1 hd with rfl | hd
        · rcases anc_below hdx with h | ⟨e, pe, hex⟩
          · exact .inl h
          · exact .inr (.inl ((A.mem x).2 ⟨e, kidsTo_mem.2 ⟨hn e (T.up _ _ pe).1, pe⟩, hex⟩))
        · exact .inr (.inr ((B.mem x).2 ⟨d, hd, hdx⟩))
    · rw [List.nodup_cons, List.mem_append, List.nodup_append]
      refine ⟨fun h => h.elim cn1 cn2, A.nodup, B.nodup, ?_⟩
      intro x hx y hy e
      subst e
      exact d12 x hx hy
    · intro x hx
      rw [hm] at hx
      rw [B.keepF x (fun h => hx (.inr (.inr h))), A.keepF x (fun h => hx (.inr (.inl h))), updF_other _ _ (fun e => hx (.inl e))]
    · intro x hx
      rw [hm] at hx
      rw [B.keepL x (fun h => hx (.inr (.inr h))), updF_other _ _ (fun e => hx (.inl e)), A.keepL x (fun h => hx (.inr (.inl h)))]
    · intro x hx
      rw [hlen]
      rcases (hm x).1 hx with rfl | h | h
      · rw [fc]; omega
      · have := b1 x h; omega
      · have := b2 x h; omega
    · intro x hx
      rw [hlen]
      rcases (hm x).1 hx with rfl | h | h
      · rw [lc]; omega
      · have := b1 x h; omega
      · have := b2 x h; omega
    · intro x hx y hy
      rcases (hm x).1 hx with rfl | h1 | h2
      · rcases (hm y).1 hy with rfl | k1 | k2
        · rw [fc, lc]
          exact ⟨fun _ => .refl, fun _ => by omega⟩
        · have := b1 y k1
          rw [fc, lc]
          exact ⟨fun _ => (m1 y k1).1, fun _ => by omega⟩
        · have := b2 y k2
          rw [fc, lc]
          exact ⟨fun h => by omega, fun h => absurd h (m2 y k2)⟩
      · have hb := b1 x h1
        rcases (hm y).1 hy with rfl | k1 | k2
        · rw [fc]
          exact ⟨fun h => by omega, fun h => absurd (T.antisymm h (m1 x h1).1) (m1 x h1).2⟩
        · rw [f1 x h1, f1 y k1, l1 x h1]
          exact A.over x h1 y k1
        · have := b2 y k2
          exact ⟨fun h => by omega, fun h => absurd ((m1 x h1).1.trans h) (m2 y k2)⟩
      · have hb := b2 x h2
        rcases (hm y).1 hy with rfl | k1 | k2
        · rw [fc]
          refine ⟨fun h => by omega, fun h => ?_⟩
          obtain ⟨d, hd, hdx⟩ := (B.mem x).1 h2
          exact absurd (hdx.trans h) (hs.apart y (List.mem_cons_self ..) d (List.mem_cons_of_mem _ hd) (fun e => (List.nodup_cons.1 hs.nodup).1 (by rw [e]; exact hd)) y .refl)
        · have := b1 y k1
          refine ⟨fun h => by omega, fun h => ?_⟩
          obtain ⟨d, hd, hdx⟩ := (B.mem x).1 h2
          exact absurd (hdx.trans h) (hs.apart c (List.mem_cons_self ..) d (List.mem_cons_of_mem _ hd) (fun e => (List.nodup_cons.1 hs.nodup).1 (by rw [e]; exact hd)) y (m1 y k1).1)
        · exact B.over x h2 y k2

/-- all blocks are numbered, and the numbers tell who stands above whom -/
structure Numbered (o : List Nat) (par : Nat → Option Nat) (F L : Nat → Int) : Prop where
  come : ∀ b, F b = -1 ↔ b ∉ o
  over : ∀ a ∈ o, ∀ b ∈ o, (F a ≤ F b ∧ F b ≤ L a) ↔ Anc par a b

theorem Num.numbered {o : List Nat} {pl : Nat → Nat} {par : Nat → Option Nat} {succ : Nat → List Nat} (O : Ord succ o pl) (T : Tree o pl par) (hg : ∀ b ∈ o, Grown par b) {n : Nat} (hn : ∀ x ∈ o, x < n) {u : List Nat} {L F' L' : Nat → Int} (h : Num (kidsTo par n) [0] u (fun _ => -1) L 0 F' L') : Numbered o par F' L' := by
  have A := h.ok T hn (Sib.one par 0)
  have hm : ∀ x, x ∈ u ↔ x ∈ o := by
    intro x
    rw [A.mem]
    constructor
    · rintro ⟨c, hc, h⟩
      rw [List.mem_singleton] at hc
      subst hc
      rcases Anc.rec (motive := fun b _ => b = 0 ∨ ∃ d, par b = some d) (.inl rfl) (fun e _ _ => .inr ⟨_, e⟩) h with rfl | ⟨d, hd⟩
      · exact O.zero_mem
      · exact (T.up _ _ hd).1
    · intro hx
      exact ⟨0, List.mem_singleton.2 rfl, T.zero_anc (pl x + 1) x (by omega) (hg x hx)⟩
  refine ⟨fun b => ?_, fun a ha b hb => A.over a ((hm a).2 ha) b ((hm b).2 hb)⟩
  constructor
  · intro e hb
    have := (A.lowF b ((hm b).2 hb)).1
    omega
  · intro hb
    exact A.keepF b (fun h => hb ((hm b).1 h))

end Go.Proofs.Ytglbepdjahddmaa

namespace Go.Proofs.Ytglbepdjahddmaa
open Go.RowKit Go.Maps

def numsL (n : Nat) (F : Nat → Int) : List Value := (List.range n).map fun b => .int .i64 (F b)

theorem numsL_at {n b : Nat} {F : Nat → Int} (h : b < n) : (numsL n F)[b]? = some (.int .i64 (F b)) := by
  unfold numsL
  rw [List.getElem?_map, List.getElem?_range h]
  rfl

theorem numsL_set {n b : Nat} {F : Nat → Int} {v : Int} : (numsL n F).set b (.int .i64 v) = numsL n (updF F b v) := by
  unfold numsL
  apply List.ext_getElem?
  intro i
  by_cases hi : i < n
  · by_cases e : b = i
    · subst e
      rw [List.getElem?_set_self (by simpa using hi), List.getElem?_map, List.getElem?_range hi]
      simp [updF]
    · rw [List.getElem?_set_ne e, List.getElem?_map, List.getElem?_map, List.getElem?_range hi]
      have e' : ¬ i = b := fun h => e h.symm
      simp [updF, e']
  · rw [List.getElem?_eq_none (by simp; omega), List.getElem?_eq_none (by simp; omega)]

theorem numsL_rep (n : Nat) (v : Int) : numsL n (fun _ => v) = List.replicate n (.int .i64 v) := by
  unfold numsL
  apply List.ext_getElem?
  intro i
  by_cases hi : i < n
  · rw [List.getElem?_map, List.getElem?_range hi, List.getElem?_replicate, if_pos hi]; rfl
  · rw [List.getElem?_eq_none (by simp; omega), List.getElem?_eq_none (by simp; omega)]

/-- of each block those that it dominates closest, below block B -/
structure KidsR (w : World) (B n gb cB : Nat) (kids : Nat → List Nat) : Prop where
  hcb : cB < B
  hgb : gb < B
  cell : w.heap[cB]? = some (.cells #[.slice (some ⟨gb, 0, none⟩) n n] 45 (0, 0))
  list : ∀ b, b < n → ∃ v, w.cell? ⟨gb, b, none⟩ = some v ∧ Ints w B v ((kids b).map fun (x : Nat) => (x : Int))

theorem KidsR.kept {w w' : World} {B n gb cB : Nat} {kids : Nat → List Nat} (h : KidsR w B n gb cB kids) (hb : Below B w w') : KidsR w' B n gb cB kids :=
  ⟨h.hcb, h.hgb, (hb.block _ h.hcb).trans h.cell, fun b hbn => by
    obtain ⟨v, h1, h2⟩ := h.list b hbn
    exact ⟨v, (hb.cell (p := ⟨gb, b, none⟩) h.hgb).trans h1, h2.keeps (Keeps.of_below hb)⟩⟩

/-- what the walk writes -/
structure Wk (B n gF gL g6 c7 cB : Nat) (F L : Nat → Int) (k : Nat) (w : World) : Prop where
  tree : w.heap[g6]? = some (.cells #[.slice (some ⟨gF, 0, none⟩) n n, .slice (some ⟨gL, 0, none⟩) n n] 106 (0, 0))
  rF : w.ownsRow B 3 1 (.slice (some ⟨gF, 0, none⟩) n n) n (numsL n F)
  rL : w.ownsRow B 3 1 (.slice (some ⟨gL, 0, none⟩) n n) n (numsL n L)
  h7 : w.heap[c7]? = some (.cells #[.int .i64 (k : Int)] 3 (0, 0))
  h8 : w.heap[c7 + 1]? = some (.cells #[.func (.func 73) #[] #[.pointer (some ⟨c7, 0, none⟩), .pointer (some ⟨g6, 0, none⟩), .pointer (some ⟨cB, 0, none⟩), .pointer (some ⟨c7 + 1, 0, none⟩)]] 139 (0, 0))
  fl : gF ≠ gL
  f6 : gF ≠ g6
  l6 : gL ≠ g6
  fc : gF < c7
  lc : gL < c7
  c6 : g6 < c7
  b6 : B ≤ g6

section
variable {B n gF gL g6 c7 cB k : Nat} {F L : Nat → Int} {w : World}

theorem Wk.setF (h : Wk B n gF gL g6 c7 cB F L k w) (b : Nat) (v : Int) : Wk B n gF gL g6 c7 cB (updF F b v) L k (w.setCell ⟨gF, b, none⟩ (.int .i64 v)) := by
  have ho : ∀ j, j ≠ gF → (w.setCell ⟨gF, b, none⟩ (.int .i64 v)).heap[j]? = w.heap[j]? := fun j hj => heap_setCell_other w ⟨gF, b, none⟩ j _ hj
  have h1 := h.fl
  have h2 := h.f6
  have h3 := h.fc
  refine ⟨(ho _ (by omega)).trans h.tree, ?_, ownsRow_setCell_other h.rL (by simp [Value.ownBlock]; omega) _, (ho _ (by omega)).trans h.h7, (ho _ (by omega)).trans h.h8, h.fl, h.f6, h.l6, h.fc, h.lc, h.c6, h.b6⟩
  have := (World.ownsRow.stored h.rF b (.int .i64 v)).1
  rwa [numsL_set] at this

theorem Wk.setL (h : Wk B n gF gL g6 c7 cB F L k w) (b : Nat) (v : Int) : Wk B n gF gL g6 c7 cB F (updF L b v) k (w.setCell ⟨gL, b, none⟩ (.int .i64 v)) := by
  have ho : ∀ j, j ≠ gL → (w.setCell ⟨gL, b, none⟩ (.int .i64 v)).heap[j]? = w.heap[j]? := fun j hj => heap_setCell_other w ⟨gL, b, none⟩ j _ hj
  have h1 := h.fl
  have h2 := h.l6
  have h3 := h.lc
  refine ⟨(ho _ (by omega)).trans h.tree, ownsRow_setCell_other h.rF (by simp [Value.ownBlock]; omega) _, ?_, (ho _ (by omega)).trans h.h7, (ho _ (by omega)).trans h.h8, h.fl, h.f6, h.l6, h.fc, h.lc, h.c6, h.b6⟩
  have := (World.ownsRow.stored h.rL b (.int .i64 v)).1
  rwa [numsL_set] at this

theorem Wk.setC (h : Wk B n gF gL g6 c7 cB F L k w) (k' : Nat) : Wk B n gF gL g6 c7 cB F L k' (w.setCell ⟨c7, 0, none⟩ (.int .i64 (k' : Int))) := by
  have ho : ∀ j, j ≠ c7 → (w.setCell ⟨c7, 0, none⟩ (.int .i64 (k' : Int))).heap[j]? = w.heap[j]? := fun j hj => heap_setCell_other w ⟨c7, 0, none⟩ j _ hj
  have h1 := h.fc
  have h2 := h.lc
  have h3 := h.c6
  refine ⟨(ho _ (by omega)).trans h.tree, ownsRow_setCell_other h.rF (by simp [Value.ownBlock]; omega) _, ownsRow_setCell_other h.rL (by simp [Value.ownBlock]; omega) _, by simpa using one_setCell h.h7, (ho _ (by omega)).trans h.h8, h.fl, h.f6, h.l6, h.fc, h.lc, h.c6, h.b6⟩
end

def WalkPost (n gF gL g6 c7 cB B : Nat) (kids : Nat → List Nat) (F L : Nat → Int) (k b : Nat) (w : World) (e : Ending) (w' : World) : Prop :=
  ∃ (u : List Nat) (F1 L1 : Nat → Int), e = .returned (.tuple #[]) ∧ Num kids (kids b) u (updF F b (k : Int)) L (k + 1) F1 L1 ∧ Wk B n gF gL g6 c7 cB F1 (updF L1 b ((k + u.length : Nat) : Int)) (k + 1 + u.length) w' ∧ Below B w w'

set_option maxRecDepth 100000 in
set_option maxHeartbeats 2000000 in
theorem walk_any {o : List Nat} {pl : Nat → Nat} {par : Nat → Option Nat} (T : Tree o pl par) (n : Nat) (hn5 : n ≤ 512) (hn : ∀ x ∈ o, x < n) (hpl : ∀ x ∈ o, pl x < o.length) (B gF gL g6 c7 cB gb : Nat) :
    ∀ (d : Nat) (ws : List Nat) (b : Nat) (F L : Nat → Int) (w : World), o.length ≤ pl b + d → b ∈ o → ws.Nodup → (∀ x ∈ ws, x < n ∧ ¬ Anc par b x) → KidsR w B n gb cB (kidsTo par n) → Wk B n gF gL g6 c7 cB F L ws.length w →
    Calls Try.prog 73 #[.int .i64 b, .pointer (some ⟨c7, 0, none⟩), .pointer (some ⟨g6, 0, none⟩), .pointer (some ⟨cB, 0, none⟩), .pointer (some ⟨c7 + 1, 0, none⟩)] w (WalkPost n gF gL g6 c7 cB B (kidsTo par n) F L ws.length b w) := by
  intro d
  induction d with
  | zero =>
    intro ws b F L w hd hb
    have := hpl b hb
    omega
  | succ d ih =>
    intro ws b F L w hd hb hnd hws hK hW
    have HIH := hideI ih
    have HT := hideI T
    have HNN := hideI hn
    have HND := hideI hnd
    have HWS := hideI hws
    have HK := hideI hK
    have HBO := hideI hb
    have hbn := hn b hb
    obtain ⟨v, hv, hi⟩ := hK.list b hbn
    have HI := hideI hi
    obtain ⟨KA, kc, rfl, hkm, _⟩ := hi
    obtain ⟨m, hm⟩ : ∃ m, m = (kidsTo par n b).length := ⟨_, rfl⟩
    have HM := hideI hm
    rw [List.length_map, ← hm] at hv hkm
    have hm5 : m ≤ 512 := by have := kidsTo_len par n b; omega
    obtain ⟨k, hk⟩ : ∃ k, k = ws.length := ⟨_, rfl⟩
    have HKL := hideI hk
    rw [← hk] at hW ⊢
    have hwn : (b :: ws).Nodup := List.nodup_cons.2 ⟨fun h => (hws b h).2 .refl, hnd⟩
    have hkn : k < n := by
      have := below_len n (b :: ws) hwn (fun x hx => by rcases List.mem_cons.1 hx with rfl | hx; exact hbn; exact (hws x hx).1)
      rw [List.length_cons] at this
      omega
    have hx6 := row_cells hW.tree rfl
    have q0 := hx6 0
    have q7 := cell_of_one hW.h7
    have z7 := free_of_one hW.h7
    have qF : w.cell? ⟨gF, b, none⟩ = some (.int .i64 (F b)) := by rw [World.ownsRow.cellAt hW.rF b (by omega), numsL_at hbn]
    have zF : w.frozen? ⟨gF, b, none⟩ = false := World.ownsRow.frozenAt hW.rF b
    have qB := cell_of_one hK.cell
    have n1 : gF ≠ c7 := by have := hW.fc; omega
    have n2 : cB ≠ gF := by have h1 := hK.hcb; have h2 := (hW.rF.lt gF rfl).1; omega
    have n3 : cB ≠ c7 := by have h1 := hK.hcb; have h2 := hW.b6; have h3 := hW.c6; omega
    have n4 : gb ≠ gF := by have h1 := hK.hgb; have h2 := (hW.rF.lt gF rfl).1; omega
    have n5 : gb ≠ c7 := by have h1 := hK.hgb; have h2 := hW.b6; have h3 := hW.c6; omega
    have HW1 := hideI ((hW.setF b (k : Int)).setC (k + 1))
    have hb67 : B ≤ gF ∧ B ≤ c7 := ⟨(hW.rF.lt gF rfl).1, by have h2 := hW.b6; have h3 := hW.c6; omega⟩
    have HB1 : Hid (Below B w ((w.setCell ⟨gF, b, none⟩ (.int .i64 (k : Int))).setCell ⟨c7, 0, none⟩ (.int .i64 ((k + 1 : Nat) : Int)))) := ((Below.refl B w).setCell (by simpa using hb67.1) _).setCell (by simpa using hb67.2) _
    rw [show ((k + 1 : Nat) : Int) = (k : Int) + 1 from by omega] at HW1 HB1
    clear ih T hn hnd hws hK hb hm hk hW hx6 hwn hb67
    go_enter Try.func73, Try.ntmps73
    go_wp2
    obtain ⟨wm, hwm⟩ : ∃ wm : World, wm = (w.setCell ⟨gF, b, none⟩ (.int .i64 (k : Int))).setCell ⟨c7, 0, none⟩ (.int .i64 ((k : Int) + 1)) := ⟨_, rfl⟩
    rw [← hwm] at HW1 HB1 ⊢
    clear hwm q0 q7 z7 qF zF qB hv n1 n2 n3 n4 n5
    have HSIB := hideI (Sib.kids HT.out n b)
    go_loopw [20] (fun u wr => ∃ (i : Nat) (us : List Nat) (Fi Li : Nat → Int), i ≤ m ∧ u = .int .i64 i ∧ Hid (Num (kidsTo par n) ((kidsTo par n b).take i) us (updF F b (k : Int)) L (k + 1) Fi Li) ∧ Hid (Wk B n gF gL g6 c7 cB Fi Li (k + 1 + us.length) wr) ∧ Hid (Below B w wr)) (fun u _ => m - (intOf u).toNat)
    case atStart => exact ⟨0, [], _, _, Nat.zero_le _, rfl, by exact hideI .nil, HW1, HB1⟩
    case round =>
      obtain ⟨i, us, Fi, Li, hi, rfl, HN, HWr, HBr⟩ := hrel
      have hok := HN.out.ok HT.out HNN.out (HSIB.out.take i)
      have hall : (us ++ (b :: ws)).Nodup ∧ ∀ x ∈ us ++ (b :: ws), x < n := by
        have hus : ∀ x ∈ us, Anc par b x ∧ x ≠ b ∧ x < n := by
          intro x hx
          obtain ⟨c, hc, hcx⟩ := (hok.mem x).1 hx
          have pc := (kidsTo_mem.1 (List.mem_of_mem_take hc)).2
          have h3 : Anc par b c := .up pc .refl
          refine ⟨h3.trans hcx, fun e => ?_, ?_⟩
          · subst e
            have h4 := HT.out.anc_le hcx
            have h5 := (HT.out.up _ _ pc).2.2.1
            omega
          · rcases HT.out.anc_pl hcx with rfl | ⟨_, _⟩
            · exact HNN.out _ (HT.out.up _ _ pc).1
            · cases hcx with
              | refl => exact HNN.out _ (HT.out.up _ _ pc).1
              | up e _ => exact HNN.out _ (HT.out.up _ _ e).1
        refine ⟨?_, ?_⟩
        · rw [List.nodup_append]
          refine ⟨hok.nodup, List.nodup_cons.2 ⟨fun h => (HWS.out b h).2 .refl, HND.out⟩, ?_⟩
          intro x hx y hy e
          subst e
          rcases List.mem_cons.1 hy with rfl | hy
          · exact (hus _ hx).2.1 rfl
          · exact (HWS.out _ hy).2 (hus _ hx).1
        · intro x hx
          rcases List.mem_append.1 hx with hx | hx
          · exact (hus x hx).2.2
          · rcases List.mem_cons.1 hx with rfl | hx
            · exact hbn
            · exact (HWS.out x hx).1
      have hlen := below_len n _ hall.1 hall.2
      rw [List.length_append, List.length_cons, ← HKL.out] at hlen
      have HALL := hideI hall
      have HOK := hideI hok
      clear hok hall
      by_cases hlt : i < m
      · obtain ⟨c, hc⟩ : ∃ c, (kidsTo par n b)[i]? = some c := ⟨_, List.getElem?_eq_getElem (by rw [HM.out] at hlt; exact hlt)⟩
        have hcm := List.mem_of_getElem? hc
        have pc := (kidsTo_mem.1 hcm).2
        have hco := (HT.out.up _ _ pc).1
        have hpl1 := (HT.out.up _ _ pc).2.2.1
        have htk : Hid ((kidsTo par n b).take (i + 1) = (kidsTo par n b).take i ++ [c]) := by
          show _ = _
          rw [List.take_add_one, hc]
          rfl
        have hcw : ∀ x ∈ us ++ (b :: ws), x < n ∧ ¬ Anc par c x := by
          intro x hx
          refine ⟨HALL.out.2 x hx, fun hcx => ?_⟩
          have hbc : Anc par b c := .up pc .refl
          rcases List.mem_append.1 hx with hx | hx
          · obtain ⟨c', hc', hcx'⟩ := (HOK.out.mem x).1 hx
            have hne : c ≠ c' := by
              intro e
              subst e
              obtain ⟨j, hj⟩ := List.getElem?_of_mem hc'
              rw [List.getElem?_take] at hj
              split at hj
              · rename_i hji
                have h1 := (List.getElem?_eq_some_iff.1 hc)
                have h2 := (List.getElem?_eq_some_iff.1 hj)
                exact List.pairwise_iff_getElem.1 (kidsTo_nodup par n b) j i h2.1 h1.1 hji (h2.2.trans h1.2.symm)
              · cases hj
            exact HSIB.out.apart c hcm c' (List.mem_of_mem_take hc') hne x hcx hcx'
          · rcases List.mem_cons.1 hx with rfl | hx
            · have := HT.out.anc_le hcx
              omega
            · exact (HWS.out x hx).2 (hbc.trans hcx)
        obtain ⟨KA', kc', e0, _, hxx⟩ := HI.out.keeps (Keeps.of_below HBr.out)
        cases e0
        obtain ⟨kb, koff, rfl, hkb, hcell⟩ := hxx i (by rw [List.length_map, ← HM.out]; exact hlt)
        rw [List.getElem?_map, hc] at hcell
        simp only [Option.map_some, Option.getD_some] at hcell
        have q8 := cell_of_one HWr.out.h8
        have HC := hideI (HIH.out (us ++ (b :: ws)) c Fi Li wr (by omega) hco HALL.out.1 hcw (HK.out.kept HBr.out) (by rw [List.length_append, List.length_cons, ← HKL.out, show us.length + (k + 1) = k + 1 + us.length by omega]; exact HWr.out))
        have hlw : (us ++ (b :: ws)).length = k + 1 + us.length := by rw [List.length_append, List.length_cons, ← HKL.out]; omega
        rw [hlw] at HC
        clear hxx hc hcm pc hco hpl1 hcw hlw
        go_wp2_with (go_at_call 73; go_must (refine HC.out.mono ?_); rintro e w2 ⟨u2, F2, L2, rfl, hn2, hw2, hb2⟩; have HN2 := hideI hn2; have HW2 := hideI hw2; have HB2 := hideI hb2; clear hn2 hw2 hb2)
        go_roundw
        case rel =>
          refine ⟨i + 1, us ++ (c :: u2), F2, updF L2 c ((k + 1 + us.length + u2.length : Nat) : Int), by omega, by go_num, ?_, ?_, hideI (HBr.out.trans HB2.out)⟩
          · rw [htk.out]
            exact hideI (HN.out.append (Num.one HN2.out))
          · have e : k + 1 + (us ++ c :: u2).length = k + 1 + us.length + 1 + u2.length := by rw [List.length_append, List.length_cons]; omega
            rw [e]
            exact HW2
        case measure => simp [intOf]; omega
      · have hall : (kidsTo par n b).take i = kidsTo par n b := by rw [List.take_of_length_le (by rw [← HM.out]; omega)]
        rw [hall] at HN
        have hx6 := row_cells HWr.out.tree rfl
        have q1 := hx6 1
        have q7 := cell_of_one HWr.out.h7
        have qL : wr.cell? ⟨gL, b, none⟩ = some (.int .i64 (Li b)) := by rw [World.ownsRow.cellAt HWr.out.rL b (by omega), numsL_at hbn]
        have zL : wr.frozen? ⟨gL, b, none⟩ = false := World.ownsRow.frozenAt HWr.out.rL b
        have hbL : B ≤ gL := (HWr.out.rL.lt gL rfl).1
        have HWE := hideI (HWr.out.setL b ((k + us.length : Nat) : Int))
        have HBE : Hid (Below B w (wr.setCell ⟨gL, b, none⟩ (.int .i64 ((k + us.length : Nat) : Int)))) := HBr.out.setCell (by simpa using hbL) _
        obtain ⟨z, hz⟩ : ∃ z : Int, z = ((k + us.length : Nat) : Int) := ⟨_, rfl⟩
        have hz1 : ((k + 1 + us.length : Nat) : Int) = z + 1 := by rw [hz]; omega
        have hz2 : IntKind.i64.wrap (z + 1 - 1) = z := by rw [show z + 1 - 1 = z from by omega]; exact IntWalk.i64_in _ (by omega)
        have hz3 : z + 1 - 1 = z := by omega
        have hz4 : 0 ≤ z ∧ z ≤ 512 := by omega
        rw [← hz] at HWE HBE
        rw [hz1] at q7
        have HZ := hideI hz
        obtain ⟨hz5, hz6⟩ := hz4
        clear hx6 hz hz1 hall
        go_wp2
        go_end0
        refine ⟨us, Fi, Li, rfl, HN.out, ?_, ?_⟩
        · rw [← HZ.out]
          exact HWE.out
        · exact HBE.out

end Go.Proofs.Ytglbepdjahddmaa

namespace Go.Proofs.Ytglbepdjahddmaa
open Go.RowKit Go.Maps

/-- the lists of those that a block dominates closest, as far as k blocks were looked at -/
def kidsAt (par : Nat → Option Nat) (n k : Nat) : List (List Nat) := (List.range n).map fun d => kidsTo par k d

theorem kidsAt_at {par : Nat → Option Nat} {n k d : Nat} (h : d < n) : (kidsAt par n k)[d]? = some (kidsTo par k d) := by
  unfold kidsAt
  rw [List.getElem?_map, List.getElem?_range h]
  rfl

theorem kidsAt_zero (par : Nat → Option Nat) (n : Nat) : kidsAt par n 0 = (List.range n).map fun _ => [] := rfl

theorem kidsAt_skip {par : Nat → Option Nat} {n k : Nat} (h : par k = none) : kidsAt par n (k + 1) = kidsAt par n k := by
  unfold kidsAt
  apply List.map_congr_left
  intro d _
  rw [kidsTo_succ, h, if_neg (by simp), List.append_nil]

theorem kidsAt_push {par : Nat → Option Nat} {n k d : Nat} (h : par k = some d) (_hd : d < n) : (kidsAt par n k).set d (kidsTo par k d ++ [k]) = kidsAt par n (k + 1) := by
  unfold kidsAt
  apply List.ext_getElem?
  intro i
  by_cases hi : i < n
  · by_cases e : d = i
    · subst e
      rw [List.getElem?_set_self (by simpa using hi), List.getElem?_map, List.getElem?_range hi, Option.map_some, kidsTo_succ, if_pos h]
    · rw [List.getElem?_set_ne e, List.getElem?_map, List.getElem?_map, List.getElem?_range hi, Option.map_some, Option.map_some, kidsTo_succ, if_neg (by rw [h]; simpa using e), List.append_nil]
  · rw [List.getElem?_eq_none (by simp; omega), List.getElem?_eq_none (by simp; omega)]

/-- between two rounds: the lists, and the variable that holds them -/
structure BelowAt (w : World) (gb cB n : Nat) (vs : List Value) (ls : List (List Nat)) : Prop where
  lists : Lists w gb gb n vs ls
  cell : w.heap[cB]? = some (.cells #[.slice (some ⟨gb, 0, none⟩) n n] 45 (0, 0))
  apart : ∀ (t : Nat) v, vs[t]? = some v → v.ownBlock ≠ some cB
  ne : gb < cB

theorem BelowAt.push {w w1 : World} {gb cB n t b g' cap' : Nat} {v : Value} {vs : List Value} {l : List Nat} {ls : List (List Nat)} {o : Obj} (h : BelowAt w gb cB n vs ls) (hv : vs[t]? = some v) (hl : ls[t]? = some l)
    (hown' : w1.ownsRow (gb + 1) 3 1 (.slice (some ⟨g', 0, none⟩) (l.length + 1) cap') (l.length + 1) (natInts l ++ [.int .i64 (b : Int)])) (hg : (w.alloc o).grownBy w1 v.ownBlock) (hor : v.ownBlock = some g' ∨ g' = (w.alloc o).heap.size) :
    BelowAt (w1.setCell ⟨gb, t, none⟩ (.slice (some ⟨g', 0, none⟩) (l.length + 1) cap')) gb cB n (vs.set t (.slice (some ⟨g', 0, none⟩) (l.length + 1) cap')) (ls.set t (l ++ [b])) := by
  have hz : cB < w.heap.size := lt_of_heap h.cell
  have hne := h.ne
  refine ⟨h.lists.push hv hl hown' hg hor, ?_, fun t' v' h' e => ?_, h.ne⟩
  · rw [heap_setCell_other w1 ⟨gb, t, none⟩ _ _ (by simp; omega), hg.block _ (by simp; omega) (fun e => h.apart t v hv e.symm), Below.heap_alloc _ _ _ hz]
    exact h.cell
  · by_cases e2 : t = t'
    · subst e2
      rw [List.getElem?_set_self (List.getElem?_eq_some_iff.1 hv).1] at h'
      cases h'
      have e3 : g' = cB := by simpa [Value.ownBlock] using e
      rcases hor with h3 | h3
      · exact h.apart t v hv (by rw [h3, e3])
      · simp at h3
        omega
    · rw [List.getElem?_set_ne e2] at h'
      exact h.apart t' v' h' e

theorem BelowAt.drew {w : World} {gb cB n : Nat} {vs : List Value} {ls : List (List Nat)} (h : BelowAt w gb cB n vs ls) : BelowAt w.drew gb cB n vs ls := ⟨⟨h.lists.vl, h.lists.ll, h.lists.row, h.lists.own, h.lists.apart⟩, h.cell, h.apart, h.ne⟩

theorem BelowAt.kids {w : World} {gb cB n : Nat} {vs : List Value} {par : Nat → Option Nat} (h : BelowAt w gb cB n vs (kidsAt par n n)) (hn : n ≤ 512) : KidsR w w.heap.size n gb cB (kidsTo par n) :=
  ⟨lt_of_heap h.cell, h.lists.lt.2, h.cell, fun b hb => by
    obtain ⟨v, hv⟩ : ∃ v, vs[b]? = some v := ⟨_, List.getElem?_eq_getElem (by rw [h.lists.vl]; exact hb)⟩
    exact ⟨v, by rw [World.ownsRow.cellAt h.lists.row b (by omega)]; exact hv, nat_ints (h.lists.own b v _ hv (kidsAt_at hb)) (by have := kidsTo_len par n b; omega)⟩⟩

/-- between two steps of the making of a tree, in whatever order they come: what was made by now -/
structure TN (W1 W : World) (n : Nat) (A R M : Option Nat) (T : Option (Nat × Array Value)) : Prop where
  below : Below W1.heap.size W1 W
  a : ∀ g, A = some g → W1.heap.size ≤ g ∧ g < W.heap.size ∧ W.cell? ⟨g, 0, none⟩ = some (.int .i64 (-1))
  r : ∀ g, R = some g → W.ownsRow W1.heap.size 3 1 (.slice (some ⟨g, 0, none⟩) n n) n (List.replicate n (.int .i64 (-1)))
  m : ∀ g, M = some g → W.ownsRow W1.heap.size 3 1 (.slice (some ⟨g, 0, none⟩) n n) n (List.replicate n (.int .i64 0))
  t : ∀ g cs, T = some (g, cs) → W1.heap.size ≤ g ∧ W.heap[g]? = some (.cells cs 106 (0, 0))
  rm : ∀ g h, R = some g → M = some h → g ≠ h
  rt : ∀ g h cs, R = some g → T = some (h, cs) → g ≠ h
  mt : ∀ g h cs, M = some g → T = some (h, cs) → g ≠ h

section
variable {W1 W w3 : World} {n g gA : Nat} {A R M : Option Nat} {T : Option (Nat × Array Value)}

theorem TN.start (W1 : World) (n : Nat) : TN W1 W1 n none none none none :=
  ⟨Below.refl _ _, by simp, by simp, by simp, by simp, by simp, by simp, by simp⟩

theorem TN.drew (h : TN W1 W n A R M T) : TN W1 W.drew n A R M T := ⟨drew1_below h.below, h.a, h.r, h.m, h.t, h.rm, h.rt, h.mt⟩

theorem TN.keep (h : TN W1 W n A R M T) (hb : Below W.heap.size W w3) : TN W1 w3 n A R M T := by
  have hs := h.below.size
  refine ⟨h.below.trans (hb.mono hs), fun g e => ?_, fun g e => ?_, fun g e => ?_, fun g cs e => ?_, h.rm, h.rt, h.mt⟩
  · obtain ⟨h1, h2, h3⟩ := h.a g e
    exact ⟨h1, Nat.lt_of_lt_of_le h2 hb.size, (hb.cell (p := ⟨g, 0, none⟩) h2).trans h3⟩
  · exact own_kept_below (h.r g e) hb (fun k hk => ((h.r g e).lt k hk).2)
  · exact own_kept_below (h.m g e) hb (fun k hk => ((h.m g e).lt k hk).2)
  · obtain ⟨h1, h2⟩ := h.t g cs e
    exact ⟨h1, (hb.block _ (lt_of_heap h2)).trans h2⟩

theorem TN.other (h : TN W1 W n A R M T) (o : Obj) : TN W1 (W.alloc o) n A R M T := h.keep ((Below.refl _ _).alloc (Nat.le_refl _) o)

theorem TN.mkA (hg : g = W.heap.size) (h : TN W1 W n none R M T) : TN W1 (W.alloc (.cells #[.int .i64 (-1)] 3)) n (some g) R M T := by
  have k := h.other (.cells #[.int .i64 (-1)] 3)
  refine ⟨k.below, fun g' e => ?_, k.r, k.m, k.t, k.rm, k.rt, k.mt⟩
  cases e
  subst hg
  exact ⟨h.below.size, by simp, row_cells (heap_alloc_new W _) rfl 0⟩

theorem TN.mkM {Z : Array Value} (hZ : Z = (List.replicate n (Value.int .i64 0)).toArray) (hn : n ≤ 100000) (hg : g = W.heap.size) (h : TN W1 W n A R none T) : TN W1 (W.alloc (.cells Z 3)) n A R (some g) T := by
  subst hZ
  have k := h.other (.cells (List.replicate n (.int .i64 0)).toArray 3)
  subst hg
  refine ⟨k.below, k.a, k.r, fun g' e => ?_, k.t, fun g' h' e1 e2 => ?_, k.rt, fun g' h' cs e1 e2 => ?_⟩
  · cases e
    exact own_of_row (v := 0) (fillR_full 0 n).symm (heap_alloc_new W _) h.below.size hn
  · cases e2
    have := ((h.r _ e1).lt g' rfl).2
    omega
  · cases e1
    have := lt_of_heap (h.t _ _ e2).2
    omega

theorem TN.mkT {cs : Array Value} (hg : g = W.heap.size) (h : TN W1 W n A R M none) : TN W1 (W.alloc (.cells cs 106)) n A R M (some (g, cs)) := by
  have k := h.other (.cells cs 106)
  subst hg
  refine ⟨k.below, k.a, k.r, k.m, fun g' cs' e => ?_, k.rm, fun g' h' cs' e1 e2 => ?_, fun g' h' cs' e1 e2 => ?_⟩
  · cases e
    exact ⟨h.below.size, heap_alloc_new W _⟩
  · cases e2
    have := ((h.r _ e1).lt g' rfl).2
    omega
  · cases e2
    have := ((h.m _ e1).lt g' rfl).2
    omega

theorem TN.rep (h0 : 0 < n) (hn : n ≤ 100000) (h : TN W1 W n (some gA) none M T) :
    Calls Try.prog 68 #[.slice (some ⟨gA, 0, none⟩) 1 1, .int .i64 n] W fun e w3 => ∃ gi, e = .returned (.slice (some ⟨gi, 0, none⟩) n n) ∧ TN W1 w3 n none (some gi) M T := by
  obtain ⟨_, ha, hc⟩ := h.a gA rfl
  refine (repeat_any (-1) n gA W h0 hn hc ha).mono ?_
  rintro e w3 ⟨gi, rfl, hown, hb⟩
  have k := h.keep hb
  have hs := h.below.size
  refine ⟨gi, rfl, k.below, by simp, fun g e => ?_, k.m, k.t, fun g h' e1 e2 => ?_, fun g h' cs e1 e2 => ?_, k.mt⟩
  · cases e
    exact World.ownsRow.mono hown hs
  · cases e1
    have h1 : W.heap.size ≤ gi := (hown.lt gi rfl).1
    have h2 := ((h.m _ e2).lt h' rfl).2
    omega
  · cases e1
    have h1 : W.heap.size ≤ gi := (hown.lt gi rfl).1
    have h2 := lt_of_heap (h.t _ _ e2).2
    omega

theorem TN.set0 {x y u : Value} (h : TN W1 W n none R M (some (g, #[x, y]))) : TN W1 (W.setCell ⟨g, 0, none⟩ u) n none R M (some (g, #[u, y])) := by
  obtain ⟨h1, h2⟩ := h.t _ _ rfl
  refine ⟨h.below.setCell (by simpa using h1) _, by simp, fun g' e => ownsRow_setCell_other (h.r g' e) (by have := h.rt g' _ _ e rfl; simpa [Value.ownBlock] using this) _, fun g' e => ownsRow_setCell_other (h.m g' e) (by have := h.mt g' _ _ e rfl; simpa [Value.ownBlock] using this) _, fun g' cs e => ?_, h.rm, fun g' h' cs e1 e2 => ?_, fun g' h' cs e1 e2 => ?_⟩
  · cases e
    exact ⟨h1, by simpa using heap_setCell_same W g 0 _ _ u h2⟩
  · cases e2
    exact h.rt _ _ _ e1 rfl
  · cases e2
    exact h.mt _ _ _ e1 rfl

theorem TN.set1 {x y u : Value} (h : TN W1 W n none R M (some (g, #[x, y]))) : TN W1 (W.setCell ⟨g, 1, none⟩ u) n none R M (some (g, #[x, u])) := by
  obtain ⟨h1, h2⟩ := h.t _ _ rfl
  refine ⟨h.below.setCell (by simpa using h1) _, by simp, fun g' e => ownsRow_setCell_other (h.r g' e) (by have := h.rt g' _ _ e rfl; simpa [Value.ownBlock] using this) _, fun g' e => ownsRow_setCell_other (h.m g' e) (by have := h.mt g' _ _ e rfl; simpa [Value.ownBlock] using this) _, fun g' cs e => ?_, h.rm, fun g' h' cs e1 e2 => ?_, fun g' h' cs e1 e2 => ?_⟩
  · cases e
    exact ⟨h1, by simpa using heap_setCell_same W g 1 _ _ u h2⟩
  · cases e2
    exact h.rt _ _ _ e1 rfl
  · cases e2
    exact h.mt _ _ _ e1 rfl
end

/-- all that the walk down needs, as it begins -/
theorem wk_new {wx wc : World} {n gF gL g6 cB : Nat} (h : TN wx wc n none (some gF) (some gL) (some (g6, #[.slice (some ⟨gF, 0, none⟩) n n, .slice (some ⟨gL, 0, none⟩) n n]))) :
    Wk wx.heap.size n gF gL g6 wc.heap.size cB (fun _ => -1) (fun _ => 0) 0 ((wc.alloc (.cells #[.int .i64 0] 3)).alloc (.cells #[.func (.func 73) #[] #[.pointer (some ⟨wc.heap.size, 0, none⟩), .pointer (some ⟨g6, 0, none⟩), .pointer (some ⟨cB, 0, none⟩), .pointer (some ⟨wc.heap.size + 1, 0, none⟩)]] 139)) := by
  have h6 := h.t _ _ rfl
  have hF := h.r _ rfl
  have hL := h.m _ rfl
  have l6 := lt_of_heap h6.2
  refine ⟨?_, ?_, ?_, ?_, ?_, h.rm _ _ rfl rfl, h.rt _ _ _ rfl rfl, h.mt _ _ _ rfl rfl, (hF.lt gF rfl).2, (hL.lt gL rfl).2, l6, h6.1⟩
  · rw [Below.heap_alloc _ _ _ (by simp; omega), Below.heap_alloc _ _ _ (by omega)]
    exact h6.2
  · rw [numsL_rep]
    exact (hF.alloc _).alloc _
  · rw [numsL_rep]
    exact (hL.alloc _).alloc _
  · rw [Below.heap_alloc _ _ _ (by simp)]
    exact heap_alloc_new wc _
  · have := heap_alloc_new (wc.alloc (.cells #[.int .i64 0] 3)) (.cells #[.func (.func 73) #[] #[.pointer (some ⟨wc.heap.size, 0, none⟩), .pointer (some ⟨g6, 0, none⟩), .pointer (some ⟨cB, 0, none⟩), .pointer (some ⟨wc.heap.size + 1, 0, none⟩)]] 139)
    simpa using this

set_option maxRecDepth 100000 in
set_option maxHeartbeats 4000000 in
theorem sTree_any {o : List Nat} {pl : Nat → Nat} {par : Nat → Option Nat} {succ : Nat → List Nat} (O : Ord succ o pl) (T : Tree o pl par) (hg : ∀ b ∈ o, Grown par b) (n : Nat) (h0 : 0 < n) (hn5 : n ≤ 512) (hn : ∀ x ∈ o, x < n) (base gi : Nat) (w : World)
    (hi : w.ownsRow base 3 1 (.slice (some ⟨gi, 0, none⟩) n n) n (tops n par)) :
    Calls Try.prog 60 #[.slice (some ⟨gi, 0, none⟩) n n] w fun e w' => ∃ (gF gL : Nat) (F L : Nat → Int), e = .returned (.agg #[.slice (some ⟨gF, 0, none⟩) n n, .slice (some ⟨gL, 0, none⟩) n n]) ∧ Numbered o par F L ∧
      w'.ownsRow w.heap.size 3 1 (.slice (some ⟨gF, 0, none⟩) n n) n (numsL n F) ∧ w'.ownsRow w.heap.size 3 1 (.slice (some ⟨gL, 0, none⟩) n n) n (numsL n L) ∧ Below w.heap.size w w' := by
  have HO := hideI O
  have HT := hideI T
  have HGR := hideI hg
  have HNN := hideI hn
  have HI := hideI hi
  have hgi := (hi.lt gi rfl).2
  obtain ⟨i0, hix, hz0, hz1, hz2⟩ := info_parts ints_info
  obtain ⟨i1, hjx, hy0, hy1, hy2⟩ := info_parts int_info
  clear O T hg hn hi
  go_enter Try.func60, Try.ntmps60
  go_wp2_with (first
    | (at_make; go_must (refine wpList_make_full _ rfl _ _ 45 rfl (w.heap.size + 1) 22 i0 (.slice none 0 0) 1 Try.underlying45 hix hz0 hz1 .i64 .i64 _ _ n rfl rfl rfl rfl (by rw [hz2]; omega) (by unfold maxLen; omega) (by simp) ?_); intro w1 hown1 hg1; rw [World.size_alloc] at hown1; go_must (have HL1 := hideI (Lists.made hown1); have HX1 := hideI ((hg1.block w.heap.size (by simp) (by simp)).trans (heap_alloc_new w _)); have HB0 : Hid (Below w.heap.size w w1) := ((Below.refl _ _).alloc (Nat.le_refl _) _).grown hg1 (by simp) (by simp); clear hown1 hg1)))
  obtain ⟨cB, hcB⟩ : ∃ cB, cB = w1.heap.size := ⟨_, rfl⟩
  obtain ⟨W1, hW1⟩ : ∃ W1 : World, W1 = w1.alloc (.cells #[.slice (some ⟨w.heap.size + 1, 0, none⟩) n n] 45) := ⟨_, rfl⟩
  have HBA : Hid (BelowAt W1 (w.heap.size + 1) cB n (List.replicate n (.slice none 0 0)) (kidsAt par n 0)) := by
    refine hideI ⟨?_, ?_, fun t v hv e => ?_, ?_⟩
    · rw [kidsAt_zero, hW1]
      exact HL1.out.kept ((Below.refl _ _).alloc (Nat.le_refl _) _)
    · rw [hW1, hcB]
      exact heap_alloc_new w1 _
    · have e1 := List.mem_of_getElem? hv
      rw [List.mem_replicate] at e1
      obtain ⟨_, rfl⟩ := e1
      cases e
    · rw [hcB]
      exact HL1.out.lt.2
  have HBW : Hid (Below w.heap.size w W1) := by rw [hW1]; exact hideI (HB0.out.alloc HB0.out.size _)
  have HXW : Hid (W1.heap[w.heap.size]? = some (.cells #[.slice none 0 0, .slice none 0 0] 106 (0, 0))) := by
    rw [hW1, Below.heap_alloc _ _ _ (lt_of_heap HX1.out)]
    exact HX1
  have hcB0 : w.heap.size + 1 < cB := by rw [hcB]; exact HL1.out.lt.2
  rw [← hW1, ← hcB]
  clear hW1 hcB
  go_loopw [14] (fun u wr => ∃ (k : Nat) (vs : List Value), k ≤ n ∧ u = .int .i64 k ∧ Hid (BelowAt wr (w.heap.size + 1) cB n vs (kidsAt par n k)) ∧ Hid (Below (w.heap.size + 1) W1 wr)) (fun u _ => n - (intOf u).toNat)
  case atStart => exact ⟨0, _, Nat.zero_le _, rfl, HBA, hideI (Below.refl _ _)⟩
  case round =>
    obtain ⟨k, vs, hk, rfl, HA, HBr⟩ := hrel
    by_cases hlt : k < n
    · have qi : wr.cell? ⟨gi, k, none⟩ = some (.int .i64 (topI (par k))) := by
        rw [(HBr.out.cell (p := ⟨gi, k, none⟩) (by simp; omega)).trans (HBW.out.cell (p := ⟨gi, k, none⟩) hgi), World.ownsRow.cellAt HI.out k (by omega), tops_at hlt]
      cases hp : par k with
      | none =>
        rw [hp] at qi
        have qi2 : wr.cell? ⟨gi, k, none⟩ = some (.int .i64 (-1)) := qi
        have HS : Hid (kidsAt par n (k + 1) = kidsAt par n k) := kidsAt_skip hp
        clear qi hp
        go_wp2
        go_roundw
        case rel => exact ⟨k + 1, vs, by omega, by go_num, by rw [HS.out]; exact HA, HBr⟩
        case measure => simp [intOf]; omega
      | some d =>
        rw [hp] at qi
        have qi2 : wr.cell? ⟨gi, k, none⟩ = some (.int .i64 (d : Int)) := qi
        have hdn : d < n := HNN.out d (HT.out.up _ _ hp).2.1
        obtain ⟨v, hv⟩ : ∃ v, vs[d]? = some v := ⟨_, List.getElem?_eq_getElem (by rw [HA.out.lists.vl]; exact hdn)⟩
        have hl : (kidsAt par n k)[d]? = some (kidsTo par k d) := kidsAt_at hdn
        have hll : (kidsTo par k d).length ≤ 512 := by have := kidsTo_len par k d; omega
        have q1 : wr.cell? ⟨w.heap.size + 1, d, none⟩ = some v := by rw [World.ownsRow.cellAt HA.out.lists.row d (by omega)]; exact hv
        have q2 := cell_of_one HA.out.cell
        have HOWN := hideI (HA.out.lists.own d v _ hv hl)
        have hsz := HA.out.lists.lt.2
        have hne : d ≠ k := by
          intro e
          have := (HT.out.up _ _ hp).2.2.1
          rw [e] at this
          omega
        have HS : Hid ((kidsAt par n k).set d (kidsTo par k d ++ [k]) = kidsAt par n (k + 1)) := kidsAt_push hp hdn
        have HV := hideI hv
        have HL := hideI hl
        have hd1 : (d : Int) ≠ -1 := by omega
        have hd2 : ((d : Int) != -1) = true := by simp; try omega
        clear qi hp hv hl hd1
        go_wp2
        have hS0 : wr.drew.cell? ⟨cB, 0, none⟩ = some (.slice (some ⟨w.heap.size + 1, 0, none⟩) n n) ∧ wr.drew.cell? ⟨w.heap.size + 1, d, none⟩ = some v := ⟨q2, q1⟩
        refine wp_region_late (by kernel_rfl) (fun W => W.cell? ⟨cB, 0, none⟩ = some (.slice (some ⟨w.heap.size + 1, 0, none⟩) n n) ∧ W.cell? ⟨w.heap.size + 1, d, none⟩ = some v) [10] ?_
        refine wpAnyT_take [9, 10] (i := 0) (v := ?_) rfl (by kernel_rfl) (by kernel_rfl) (by kernel_rfl) (by kernel_rfl) (by kernel_rfl) (by kernel_rfl) (fun _ _ _ h => h) hS0 (Or.inl ⟨by rfl, ?_⟩) ?_
        rotate_left
        · (intro w hSw; go_split_ands; go_simp; try with_reducible rfl)
        simp only [Act.put, List.setIfInBounds_toArray, List.set_cons_zero, List.set_cons_succ]
        refine wpAnyT_quiet (i := 1) (v := ?_) rfl (by kernel_rfl) (by kernel_rfl) (by kernel_rfl) (fun _ _ _ h => h) (Or.inl ⟨by rfl, ?_⟩) ?_
        rotate_left
        · (intro w; go_simp; try with_reducible rfl)
        simp only [Act.put, List.setIfInBounds_toArray, List.set_cons_zero, List.set_cons_succ]
        refine wpAnyT_take [4, 5, 8, 10] (i := 2) (v := ?_) rfl (by kernel_rfl) (by kernel_rfl) (by kernel_rfl) (by kernel_rfl) (by kernel_rfl) (by kernel_rfl) (fun _ _ _ h => h) hS0 (Or.inl ⟨by rfl, ?_⟩) ?_
        rotate_left
        · (intro w hSw; go_split_ands; go_simp; try with_reducible rfl)
        simp only [Act.put, List.setIfInBounds_toArray, List.set_cons_zero, List.set_cons_succ]
        refine wpAnyT_quiet (i := 3) (v := ?_) rfl (by kernel_rfl) (by kernel_rfl) (by kernel_rfl) (fun _ _ _ h => h) (Or.inl ⟨by rfl, ?_⟩) ?_
        rotate_left
        · (intro w; go_simp; try with_reducible rfl)
        simp only [Act.put, List.setIfInBounds_toArray, List.set_cons_zero, List.set_cons_succ]
        refine wpAnyT_quiet (i := 4) (v := ?_) rfl (by kernel_rfl) (by kernel_rfl) (by kernel_rfl) (fun _ _ _ h => h) (Or.inl ⟨by rfl, ?_⟩) ?_
        rotate_left
        · (intro w; go_simp; try with_reducible rfl)
        simp only [Act.put, List.setIfInBounds_toArray, List.set_cons_zero, List.set_cons_succ]
        refine wpAnyT_take [8, 10] (i := 5) (v := ?_) rfl (by kernel_rfl) (by kernel_rfl) (by kernel_rfl) (by kernel_rfl) (by kernel_rfl) (by kernel_rfl) (fun _ _ _ h => h) hS0 (Or.inl ⟨by rfl, ?_⟩) ?_
        rotate_left
        · (intro w hSw; go_split_ands; go_simp; try with_reducible rfl)
        simp only [Act.put, List.setIfInBounds_toArray, List.set_cons_zero, List.set_cons_succ]
        refine wpAnyT_quiet (i := 6) (v := ?_) rfl (by kernel_rfl) (by kernel_rfl) (by kernel_rfl) (fun _ _ _ h => h) (Or.inl ⟨by rfl, ?_⟩) ?_
        rotate_left
        · (intro w; go_simp; try with_reducible rfl)
        simp only [Act.put, List.setIfInBounds_toArray, List.set_cons_zero, List.set_cons_succ]
        refine wpAnyT_ready (rs := [7]) (by kernel_rfl) (by simp) ?_
        refine AllReadyT.cons rfl (fun K hK => ?_) AllReadyT.nil
        go_simp
        have hsA : (wr.drew.alloc (.cells #[.int .i64 k] 3)).cell? ⟨cB, 0, none⟩ = some (.slice (some ⟨w.heap.size + 1, 0, none⟩) n n) ∧ (wr.drew.alloc (.cells #[.int .i64 k] 3)).cell? ⟨w.heap.size + 1, d, none⟩ = some v := by
          have hb := (Below.refl wr.heap.size wr.drew).alloc (Nat.le_refl _) (.cells #[.int .i64 (k : Int)] 3)
          exact ⟨(hb.cell (p := ⟨cB, 0, none⟩) (lt_of_heap HA.out.cell)).trans q2, (hb.cell (p := ⟨w.heap.size + 1, d, none⟩) hsz).trans q1⟩
        refine hK.out _ _ (fun _ _ => hsA) ?_
        clear hK K
        try simp only [Act.put, List.setIfInBounds_toArray, List.set_cons_zero, List.set_cons_succ]
        refine wpAnyT_ready (rs := [8]) (by kernel_rfl) (by simp) ?_
        refine AllReadyT.cons rfl (fun K hK => ?_) AllReadyT.nil
        refine step_append_lies _ rfl (.tmp 26) (.tmp 28) _ rfl (w.heap.size + 1 + 1) 3 i1 (.int .i64 0) 1 8 Try.underlying22 hjx hy0 hy1 hy2 rfl (by decide) _ _ _ rfl (World.ownsRow.drew HOWN.out |>.alloc _) ⟨wr.heap.size, 0, none⟩ 1 1 [.int .i64 k] rfl rfl (one_new wr.drew _) (by simp [Value.oneCell']) (by decide) (by simp only [maxLen]; omega) (by omega) (by simp; omega) _ rfl ?_
        intro g1 cap1 w3 hown1 hgrow1 hor1 _
        have HP := hideI (HA.out.drew.push HV.out HL.out hown1 hgrow1 hor1)
        have HPB := hideI (HA.out.drew.lists.pushed (u := .slice (some ⟨g1, 0, none⟩) ((kidsTo par k d).length + 1) cap1) HV.out HL.out hgrow1 (drew1_below HBr.out) (Nat.le_refl _))
        obtain ⟨hc4, hf4⟩ := HA.out.drew.lists.held HV.out HL.out hgrow1
        rw [HS.out] at HP
        have hcBk : w3.cell? ⟨cB, 0, none⟩ = some (.slice (some ⟨w.heap.size + 1, 0, none⟩) n n) :=
          (World.cell?_of_block (a := ⟨cB, 0, none⟩) (hgrow1.block cB (by have := lt_of_heap HA.out.cell; simp; omega) (fun e => HA.out.apart d v HV.out e.symm))).trans hsA.1
        refine hK.out _ _ (fun _ _ => ⟨hcBk, hc4⟩) ?_
        clear hK K hown1 hgrow1 hor1 hsA hS0 q1 q2 hcBk
        try simp only [Act.put, List.setIfInBounds_toArray, List.set_cons_zero, List.set_cons_succ]
        refine wpAnyT_quiet (i := 9) (v := ?_) rfl (by kernel_rfl) (by kernel_rfl) (by kernel_rfl) (fun _ _ _ h => h) (Or.inl ⟨by rfl, ?_⟩) ?_
        rotate_left
        · (intro w; go_simp; try with_reducible rfl)
        simp only [Act.put, List.setIfInBounds_toArray, List.set_cons_zero, List.set_cons_succ]
        refine wpAnyT_ready (rs := [10]) (by kernel_rfl) (by simp) ?_
        refine AllReadyT.cons rfl (fun K hK => ?_) AllReadyT.nil
        go_simp
        refine hK.out _ _ (fun h => absurd (by simp) h) ?_
        clear hK K hc4 hf4
        try simp only [Act.put, List.setIfInBounds_toArray, List.set_cons_zero, List.set_cons_succ]
        refine wpAnyT_done (by kernel_rfl) ?_ _
        go_wp2
        go_roundw
        case rel => exact ⟨k + 1, _, by omega, by go_num, HP, HPB⟩
        case measure => simp [intOf]; omega
    · have hkn : k = n := by omega
      rw [hkn] at HA
      have HKD := hideI (HA.out.kids hn5)
      have HB2 := hideI (HBW.out.trans (HBr.out.mono (Nat.le_succ _)))
      have HX2 := hideI ((HBr.out.block w.heap.size (Nat.lt_succ_self _)).trans HXW.out)
      have hn6 : n ≤ 100000 := by omega
      obtain ⟨Z, hZ⟩ : ∃ Z : Array Value, Z = (List.replicate n (Value.int .i64 0)).toArray := ⟨_, rfl⟩
      have hmk : ∀ W : World, (Instr.makeSlice 22 (.int .i64 (n : Int)) (.int .i64 (n : Int))).run Try.prog W = .ok (.slice (some ⟨W.heap.size, 0, none⟩) n n) (W.alloc (.cells Z 3)) := by
        intro W
        have := run_make (P := Try.prog) W 22 3 i1 (.int .i64 0) Try.underlying22 hjx hy0 .i64 .i64 (n : Int) (n : Int) (by omega) (Int.le_refl _) (by rw [hy2]; omega) (by omega)
        rw [hy1] at this
        have e : madeCells (Value.int .i64 0).cells (n * 1) = Z := by
          rw [hZ]
          apply Array.toList_inj.1
          rw [show (Value.int .i64 0).cells = #[Value.int .i64 0] from rfl, toList_madeCells_one, Nat.mul_one]
        simp only [Int.toNat_natCast] at this
        rw [e] at this
        exact this
      have HZ := hideI hZ
      clear hZ
      clear hkn
      go_wp2
      obtain ⟨wx, rfl⟩ : ∃ wx : World, wx = wr := ⟨_, rfl⟩
      go_cut [6] (fun s6 wc => ∃ g6 gF gL : Nat, s6 = .pointer (some ⟨g6, 0, none⟩) ∧ Hid (TN wx wc n none (some gF) (some gL) (some (g6, #[.slice (some ⟨gF, 0, none⟩) n n, .slice (some ⟨gL, 0, none⟩) n n]))))
      case first =>
        go_region_held3 (fun _ => True) (first | trivial | go_keep) (first
          | (go_at_call 68; (with_reducible refine (TN.rep (M := none) (T := none) h0 hn6 (TN.drew (TN.mkA (by simp) (TN.start wx n)))).mono ?_); rintro e w3 ⟨gR, rfl, hTN⟩)
          | (go_at_call 68; (with_reducible refine (TN.rep (M := some (wx.heap.size + 1)) (T := none) h0 hn6 (TN.drew (TN.mkM HZ.out hn6 (by simp) (TN.mkA (by simp) (TN.start wx n))))).mono ?_); rintro e w3 ⟨gR, rfl, hTN⟩)
          | (go_at_call 68; (with_reducible refine (TN.rep (M := none) (T := some ((wx.heap.size + 1), #[.slice none 0 0, .slice none 0 0])) h0 hn6 (TN.drew (TN.mkT (by simp) (TN.mkA (by simp) (TN.start wx n))))).mono ?_); rintro e w3 ⟨gR, rfl, hTN⟩; obtain ⟨_, h6⟩ := hTN.t _ _ rfl; have hx6 := row_cells h6 rfl; have hz6 := free_rowN h6 rfl; have s0 := hx6 0; have s1 := hx6 1; have z0 := hz6 0; have z1 := hz6 1; have l6 := lt_of_heap h6; clear hx6 hz6)
          | (go_at_call 68; (with_reducible refine (TN.rep (M := some wx.heap.size) (T := none) h0 hn6 (TN.drew (TN.mkA (by simp) (TN.mkM HZ.out hn6 (by simp) (TN.start wx n))))).mono ?_); rintro e w3 ⟨gR, rfl, hTN⟩)
          | (go_at_call 68; (with_reducible refine (TN.rep (M := none) (T := some (wx.heap.size, #[.slice none 0 0, .slice none 0 0])) h0 hn6 (TN.drew (TN.mkA (by simp) (TN.mkT (by simp) (TN.start wx n))))).mono ?_); rintro e w3 ⟨gR, rfl, hTN⟩; obtain ⟨_, h6⟩ := hTN.t _ _ rfl; have hx6 := row_cells h6 rfl; have hz6 := free_rowN h6 rfl; have s0 := hx6 0; have s1 := hx6 1; have z0 := hz6 0; have z1 := hz6 1; have l6 := lt_of_heap h6; clear hx6 hz6)
          | (go_at_call 68; (with_reducible refine (TN.rep (M := some (wx.heap.size + 1)) (T := some ((wx.heap.size + 1 + 1), #[.slice none 0 0, .slice none 0 0])) h0 hn6 (TN.drew (TN.mkT (by simp) (TN.mkM HZ.out hn6 (by simp) (TN.mkA (by simp) (TN.start wx n)))))).mono ?_); rintro e w3 ⟨gR, rfl, hTN⟩; obtain ⟨_, h6⟩ := hTN.t _ _ rfl; have hx6 := row_cells h6 rfl; have hz6 := free_rowN h6 rfl; have s0 := hx6 0; have s1 := hx6 1; have z0 := hz6 0; have z1 := hz6 1; have l6 := lt_of_heap h6; clear hx6 hz6)
          | (go_at_call 68; (with_reducible refine (TN.rep (M := some (wx.heap.size + 1 + 1)) (T := some ((wx.heap.size + 1), #[.slice none 0 0, .slice none 0 0])) h0 hn6 (TN.drew (TN.mkM HZ.out hn6 (by simp) (TN.mkT (by simp) (TN.mkA (by simp) (TN.start wx n)))))).mono ?_); rintro e w3 ⟨gR, rfl, hTN⟩; obtain ⟨_, h6⟩ := hTN.t _ _ rfl; have hx6 := row_cells h6 rfl; have hz6 := free_rowN h6 rfl; have s0 := hx6 0; have s1 := hx6 1; have z0 := hz6 0; have z1 := hz6 1; have l6 := lt_of_heap h6; clear hx6 hz6)
          | (go_at_call 68; (with_reducible refine (TN.rep (M := some wx.heap.size) (T := some ((wx.heap.size + 1 + 1), #[.slice none 0 0, .slice none 0 0])) h0 hn6 (TN.drew (TN.mkT (by simp) (TN.mkA (by simp) (TN.mkM HZ.out hn6 (by simp) (TN.start wx n)))))).mono ?_); rintro e w3 ⟨gR, rfl, hTN⟩; obtain ⟨_, h6⟩ := hTN.t _ _ rfl; have hx6 := row_cells h6 rfl; have hz6 := free_rowN h6 rfl; have s0 := hx6 0; have s1 := hx6 1; have z0 := hz6 0; have z1 := hz6 1; have l6 := lt_of_heap h6; clear hx6 hz6)
          | (go_at_call 68; (with_reducible refine (TN.rep (M := some wx.heap.size) (T := some ((wx.heap.size + 1), #[.slice none 0 0, .slice none 0 0])) h0 hn6 (TN.drew (TN.mkA (by simp) (TN.mkT (by simp) (TN.mkM HZ.out hn6 (by simp) (TN.start wx n)))))).mono ?_); rintro e w3 ⟨gR, rfl, hTN⟩; obtain ⟨_, h6⟩ := hTN.t _ _ rfl; have hx6 := row_cells h6 rfl; have hz6 := free_rowN h6 rfl; have s0 := hx6 0; have s1 := hx6 1; have z0 := hz6 0; have z1 := hz6 1; have l6 := lt_of_heap h6; clear hx6 hz6)
          | (go_at_call 68; (with_reducible refine (TN.rep (M := some (wx.heap.size + 1 + 1)) (T := some (wx.heap.size, #[.slice none 0 0, .slice none 0 0])) h0 hn6 (TN.drew (TN.mkM HZ.out hn6 (by simp) (TN.mkA (by simp) (TN.mkT (by simp) (TN.start wx n)))))).mono ?_); rintro e w3 ⟨gR, rfl, hTN⟩; obtain ⟨_, h6⟩ := hTN.t _ _ rfl; have hx6 := row_cells h6 rfl; have hz6 := free_rowN h6 rfl; have s0 := hx6 0; have s1 := hx6 1; have z0 := hz6 0; have z1 := hz6 1; have l6 := lt_of_heap h6; clear hx6 hz6)
          | (go_at_call 68; (with_reducible refine (TN.rep (M := some (wx.heap.size + 1)) (T := some (wx.heap.size, #[.slice none 0 0, .slice none 0 0])) h0 hn6 (TN.drew (TN.mkA (by simp) (TN.mkM HZ.out hn6 (by simp) (TN.mkT (by simp) (TN.start wx n)))))).mono ?_); rintro e w3 ⟨gR, rfl, hTN⟩; obtain ⟨_, h6⟩ := hTN.t _ _ rfl; have hx6 := row_cells h6 rfl; have hz6 := free_rowN h6 rfl; have s0 := hx6 0; have s1 := hx6 1; have z0 := hz6 0; have z1 := hz6 1; have l6 := lt_of_heap h6; clear hx6 hz6))
        all_goals (go_wp2_with fail; go_meet)
        all_goals
          first
            | (refine ⟨_, gR, wx.heap.size, rfl, hideI ?_⟩; (repeat (first | with_reducible exact hTN | with_reducible apply TN.set1 | with_reducible apply TN.set0 | with_reducible apply TN.mkM HZ.out hn6 (by simp) | with_reducible apply TN.mkT (by simp) | with_reducible apply TN.drew)); done)
            | (refine ⟨_, gR, wx.heap.size + 1, rfl, hideI ?_⟩; (repeat (first | with_reducible exact hTN | with_reducible apply TN.set1 | with_reducible apply TN.set0 | with_reducible apply TN.mkM HZ.out hn6 (by simp) | with_reducible apply TN.mkT (by simp) | with_reducible apply TN.drew)); done)
            | (refine ⟨_, gR, wx.heap.size + 1 + 1, rfl, hideI ?_⟩; (repeat (first | with_reducible exact hTN | with_reducible apply TN.set1 | with_reducible apply TN.set0 | with_reducible apply TN.mkM HZ.out hn6 (by simp) | with_reducible apply TN.mkT (by simp) | with_reducible apply TN.drew)); done)
            | (refine ⟨_, gR, w3.heap.size, rfl, hideI ?_⟩; (repeat (first | with_reducible exact hTN | with_reducible apply TN.set1 | with_reducible apply TN.set0 | with_reducible apply TN.mkM HZ.out hn6 (by simp) | with_reducible apply TN.mkT (by simp) | with_reducible apply TN.drew)); done)
            | (refine ⟨_, gR, w3.heap.size + 1, rfl, hideI ?_⟩; (repeat (first | with_reducible exact hTN | with_reducible apply TN.set1 | with_reducible apply TN.set0 | with_reducible apply TN.mkM HZ.out hn6 (by simp) | with_reducible apply TN.mkT (by simp) | with_reducible apply TN.drew)); done)
      case rest =>
        obtain ⟨g6, gF, gL, rfl, HTN⟩ := hcut
        have HWK := hideI (wk_new (cB := cB) HTN.out)
        have HB3 : Hid (Below wx.heap.size wx ((wc.alloc (.cells #[.int .i64 0] 3)).alloc (.cells #[.func (.func 73) #[] #[.pointer (some ⟨wc.heap.size, 0, none⟩), .pointer (some ⟨g6, 0, none⟩), .pointer (some ⟨cB, 0, none⟩), .pointer (some ⟨wc.heap.size + 1, 0, none⟩)]] 139))) := by
          have h1 := HTN.out.below
          have h2 := h1.size
          exact hideI ((h1.alloc h2 _).alloc (by simp; omega) _)
        have hxl := lt_of_heap HX2.out
        go_wp2_with (go_at_call 73; go_must (refine (walk_any HT.out n hn5 HNN.out (fun x hx => HO.out.lt hx) wx.heap.size gF gL g6 wc.heap.size cB (w.heap.size + 1) o.length [] 0 _ _ _ (Nat.le_add_left _ _) HO.out.zero_mem List.nodup_nil (by simp) (HKD.out.kept HB3.out) HWK.out).mono ?_); rintro e w2 ⟨us, F1, L1, rfl, hnum, hwk, hb2⟩; have HNUM := hideI hnum; have HW2 := hideI hwk; have HB4 := hideI (HB3.out.trans hb2); clear hnum hwk hb2; have hxt := row_cells HW2.out.tree rfl; have q0 := hxt 0; have q1 := hxt 1; have hxr := row_cells HX2.out (HB4.out.block _ hxl); have r0 := hxr 0; have r1 := hxr 1; have z := free_rowN HX2.out (HB4.out.block _ hxl); have z0 := z 0; have z1 := z 1; clear hxt hxr z)
        have HFin : Hid (Numbered o par F1 (updF L1 0 ((0 + us.length : Nat) : Int))) := by
          have := Num.one HNUM.out
          exact hideI (Num.numbered HO.out HT.out HGR.out HNN.out this)
        refine bodyPost_ret (v := .agg #[.slice (some ⟨gF, 0, none⟩) n n, .slice (some ⟨gL, 0, none⟩) n n]) (by simp [results, Try.results60, go_sem, r0, r1]) rfl ?_
        have hb5 := HB2.out.trans (HB4.out.mono HB2.out.size)
        have hlo : w.heap.size ≤ wx.heap.size := HB2.out.size
        refine ⟨gF, gL, F1, _, rfl, HFin.out, ?_, ?_, (hb5.setCell (by simp) _).setCell (by simp) _⟩
        · exact ownsRow_setCell_other (ownsRow_setCell_other (World.ownsRow.mono HW2.out.rF hlo) (by have := (HW2.out.rF.lt gF rfl).1; simp [Value.ownBlock]; omega) _) (by have := (HW2.out.rF.lt gF rfl).1; simp [Value.ownBlock]; omega) _
        · exact ownsRow_setCell_other (ownsRow_setCell_other (World.ownsRow.mono HW2.out.rL hlo) (by have := (HW2.out.rL.lt gL rfl).1; simp [Value.ownBlock]; omega) _) (by have := (HW2.out.rL.lt gL rfl).1; simp [Value.ownBlock]; omega) _

end Go.Proofs.Ytglbepdjahddmaa
