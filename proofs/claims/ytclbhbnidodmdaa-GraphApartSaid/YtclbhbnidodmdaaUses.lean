/- checkUses: every use is of a value, of the type that is taken. -/
import Derived.Test.YtclbhbnidodmdaaEachC
namespace Go.Proofs.Ytclbhbnidodmdaa
open Go.RowKit Go.Maps

/-- what the closure of checkUses keeps -/
structure SeenC (ds : Defs) (cs : Array Value) (M LB UB FB : Nat) (us : List (Int × Int)) (w : World) : Prop where
  map : MapIs w M ds
  look : w.heap[LB]? = some (.cells cs 116 (0, 0))
  unk : w.heap[UB]? = some (.cells #[.bool (unknownB ds us)] 4 (0, 0))
  unf : w.heap[FB]? = some (.cells #[.bool (unfitB ds us)] 4 (0, 0))

theorem lt_of_heap {w : World} {b : Nat} {o : Obj} (h : w.heap[b]? = some o) : b < w.heap.size := (Array.getElem?_eq_some_iff.1 h).1

theorem SeenC.stays {ds : Defs} {cs : Array Value} {M LB UB FB : Nat} : each3.Stays (SeenC ds cs M LB UB FB) := fun _ _ _ h hb =>
  ⟨h.map.below hb h.map.lt, (hb.block _ (lt_of_heap h.look)).trans h.look, (hb.block _ (lt_of_heap h.unk)).trans h.unk, (hb.block _ (lt_of_heap h.unf)).trans h.unf⟩

theorem unknown_snoc (ds : Defs) (us : List (Int × Int)) (id t : Int) : unknownB ds (us ++ [(id, t)]) = (unknownB ds us || !(ds.at id).isSome) := by
  unfold unknownB
  rw [List.any_append]
  simp

theorem unfit_snoc (ds : Defs) (us : List (Int × Int)) (id t : Int) : unfitB ds (us ++ [(id, t)]) = (unfitB ds us || (match ds.at id with | some k => t != 0 && k != t | none => false)) := by
  unfold unfitB
  rw [List.any_append, List.any_cons, List.any_nil, Bool.or_false]
  rfl

theorem MapIs.set_ {w : World} {M : Nat} {ds : Defs} (h : MapIs w M ds) {p : Addr} (u : Value) (hp : p.block ≠ M) : MapIs (w.setCell p u) M ds := by
  obtain ⟨D, ⟨es, clock, hg, r⟩, q⟩ := h
  exact ⟨D, ⟨es, clock, (Below.heap_setCell _ _ _ _ (by omega)).trans hg, r⟩, q⟩

theorem one_set {w : World} {g : Nat} {v u : Value} {t : TypeId} (h : w.heap[g]? = some (.cells #[v] t (0, 0))) : (w.setCell ⟨g, 0, none⟩ u).heap[g]? = some (.cells #[u] t (0, 0)) := one_setCell h

theorem Fr.set_ {S : List Nat} {N B : Nat} {w : World} {p : Addr} (u : Value) (h1 : B ≤ p.block) (h2 : p.block < N) (h3 : p.block ∈ S) : Fr S N B w (w.setCell p u) :=
  ⟨rfl, rfl, rfl, by simp [World.setCell], fun b hb _ => Below.heap_setCell _ _ _ _ (by omega), fun b hb => Below.heap_setCell _ _ _ _ (by omega), fun b _ hb => Below.heap_setCell _ _ _ _ (fun e => hb (e ▸ h3))⟩

theorem sees_some {ds : Defs} {cs : Array Value} {M LB UB FB : Nat} {us : List (Int × Int)} {w : World} {id taken t : Int} (h : SeenC ds cs M LB UB FB us w) (hd : ds.at id = some t) (hf : (taken != 0 && t != taken) = false) :
    SeenC ds cs M LB UB FB (us ++ [(id, taken)]) w :=
  ⟨h.map, h.look, by rw [unknown_snoc, hd]; simpa using h.unk, by rw [unfit_snoc, hd]; simp only [hf, Bool.or_false]; exact h.unf⟩

theorem sees_unfit {ds : Defs} {cs : Array Value} {M LB UB FB : Nat} {us : List (Int × Int)} {w : World} {id taken t : Int} (h : SeenC ds cs M LB UB FB us w) (hd : ds.at id = some t) (hf : (taken != 0 && t != taken) = true)
    (h1 : FB ≠ M) (h2 : FB ≠ LB) (h3 : FB ≠ UB) : SeenC ds cs M LB UB FB (us ++ [(id, taken)]) (w.setCell ⟨FB, 0, none⟩ (.bool true)) :=
  ⟨h.map.set_ _ h1, (Below.heap_setCell _ _ _ _ (by simpa using h2.symm)).trans h.look, by rw [unknown_snoc, hd, Below.heap_setCell _ _ _ _ (by simpa using h3.symm)]; simpa using h.unk, by rw [unfit_snoc, hd]; simp only [hf, Bool.or_true]; exact one_set h.unf⟩

theorem sees_none {ds : Defs} {cs : Array Value} {M LB UB FB : Nat} {us : List (Int × Int)} {w : World} {id taken : Int} (h : SeenC ds cs M LB UB FB us w) (hd : ds.at id = none)
    (h1 : UB ≠ M) (h2 : UB ≠ LB) (h3 : UB ≠ FB) : SeenC ds cs M LB UB FB (us ++ [(id, taken)]) (w.setCell ⟨UB, 0, none⟩ (.bool true)) :=
  ⟨h.map.set_ _ h1, (Below.heap_setCell _ _ _ _ (by simpa using h2.symm)).trans h.look, by rw [unknown_snoc, hd]; simp only [Option.isSome_none, Bool.not_false, Bool.or_true]; exact one_set h.unk, by rw [unfit_snoc, hd, Below.heap_setCell _ _ _ _ (by simpa using h3.symm)]; simpa using h.unf⟩

set_option maxHeartbeats 1000000 in
theorem seesC (ds : Defs) (pv av cv bv : Value) (M LB UB FB N B : Nat) (hMB : B ≤ M) (hMN : M < N) (hU : B ≤ UB) (hUN : UB < N) (hF : B ≤ FB) (hFN : FB < N) (h1 : FB ≠ M) (h2 : FB ≠ LB) (h3 : FB ≠ UB) (h4 : UB ≠ M) (h5 : UB ≠ LB) :
    each3.Sees [UB, FB] N B (SeenC ds #[pv, av, cv, bv, .map (some M)] M LB UB FB) ⟨LB, 0, none⟩ ⟨UB, 0, none⟩ ⟨FB, 0, none⟩ := by
  intro us id taken w hid hS hN
  obtain ⟨D, hown, hD, hwd, hat⟩ := hS.map
  have hh := MapIs.has hat id
  have ha := hat id (.lit (.int .i64 0))
  have hl := row_cells hS.look rfl
  have hu := row_cells hS.unk rfl
  have hf := row_cells hS.unf rfl
  have hfu := free_of_one hS.unk
  have hff := free_of_one hS.unf
  have HS := hideI hS
  have HI := hideI hid
  have HA := hideI ha
  clear hS hat hwd hid ha
  cases hd : ds.at id with
  | none =>
    rw [hd] at hh
    have HDD := hideI hd
    clear hd
    go_enter Try.func98, Try.ntmps98
    go_wp2_with (at_lookup; refine wpList_lookup_own_ok_int _ rfl _ _ 114 rfl 3 3 .i64 lawInt Try.underlying114 Try.underlying3 (zeroInt _) M ds.length D rfl hown _ _ rfl (keyOf_int_mk Try.underlying3 HI.out) ?_; intro c1 hat1 hwc1)
    go_end0
    exact ⟨rfl, sees_none HS.out HDD.out h4 h5 h3.symm, Fr.set_ _ hU hUN (by simp)⟩
  | some t =>
    rw [hd] at hh
    have HDD := hideI hd
    rw [hd] at HA
    clear hd
    cases c1 : (taken != 0)
    · go_enter Try.func98, Try.ntmps98
      go_wp2_with (at_lookup; refine wpList_lookup_own_ok_int _ rfl _ _ 114 rfl 3 3 .i64 lawInt Try.underlying114 Try.underlying3 (zeroInt _) M ds.length D rfl hown _ _ rfl (keyOf_int_mk Try.underlying3 HI.out) ?_; intro c1 hat1 hwc1; rw [HA.out] at hat1; injection hat1 with hat1; injection hat1 with _ hat1; subst hat1)
      go_end0
      exact ⟨rfl, sees_some HS.out HDD.out (by rw [c1]; rfl), Fr.refl _⟩
    · cases c2 : (t != taken)
      · go_enter Try.func98, Try.ntmps98
        go_wp2_with (at_lookup; refine wpList_lookup_own_ok_int _ rfl _ _ 114 rfl 3 3 .i64 lawInt Try.underlying114 Try.underlying3 (zeroInt _) M ds.length D rfl hown _ _ rfl (keyOf_int_mk Try.underlying3 HI.out) ?_; intro c1 hat1 hwc1; rw [HA.out] at hat1; injection hat1 with hat1; injection hat1 with _ hat1; subst hat1)
        go_end0
        exact ⟨rfl, sees_some HS.out HDD.out (by rw [c2]; simp), Fr.refl _⟩
      · go_enter Try.func98, Try.ntmps98
        go_wp2_with (at_lookup; refine wpList_lookup_own_ok_int _ rfl _ _ 114 rfl 3 3 .i64 lawInt Try.underlying114 Try.underlying3 (zeroInt _) M ds.length D rfl hown _ _ rfl (keyOf_int_mk Try.underlying3 HI.out) ?_; intro c1 hat1 hwc1; rw [HA.out] at hat1; injection hat1 with hat1; injection hat1 with _ hat1; subst hat1)
        go_end0
        exact ⟨rfl, sees_unfit HS.out HDD.out (by rw [c1, c2]; rfl) h1 h2 h3, Fr.set_ _ hF hFN (by simp)⟩

def usesErr (ds : Defs) (us : List (Int × Int)) : Int := if unknownB ds us then 6 else if unfitB ds us then 3 else 0

set_option maxHeartbeats 1000000 in
theorem checkUses_any (f : FuncM) (ds : Defs) (B M : Nat) (pv av cv bv : Value) (w : World) (hbv : BlocksR w B bv f.blocks) (hBM : B ≤ M) (hM : MapIs w M ds)
    (hform : ∀ b ∈ f.blocks, ∀ x ∈ b.code, x.args.length = (takesS x.op).length) (hid : ∀ u ∈ usesM f, I64 u.1) :
    Calls Try.prog 87 #[.agg #[pv, av, cv, bv, .map (some M)]] w fun e w' => e = .returned (.int .i64 (usesErr ds (usesM f))) ∧ Below w.heap.size w w' := by
  have hMl := hM.lt
  have HM := hideI hM
  have HB := hideI hbv
  have HFO := hideI hform
  have HID := hideI hid
  obtain ⟨A, c, rfl, _⟩ := hbv
  clear hM hform hid
  have W3 : ∃ W3 : World, W3 = ((w.alloc (.cells #[pv, av, cv, .slice A f.blocks.length c, .map (some M)] 116)).alloc (.cells #[.bool false] 4)).alloc (.cells #[.bool false] 4) := ⟨_, rfl⟩
  obtain ⟨W3, hW3⟩ := W3
  have hsz : W3.heap.size = w.heap.size + 3 := by rw [hW3]; simp
  have hBl : Below w.heap.size w W3 := by rw [hW3]; exact ((((Below.refl _ w).alloc (Nat.le_refl _) _).alloc (by simp) _).alloc (by simp; omega) _)
  have h0 : W3.heap[w.heap.size]? = some (.cells #[pv, av, cv, .slice A f.blocks.length c, .map (some M)] 116 (0, 0)) := by
    rw [hW3, Below.heap_alloc _ _ _ (by simp; omega), Below.heap_alloc _ _ _ (by simp)]
    exact heap_alloc_new w _
  have h1 : W3.heap[w.heap.size + 1]? = some (.cells #[.bool false] 4 (0, 0)) := by
    rw [hW3, Below.heap_alloc _ _ _ (by simp)]
    have := heap_alloc_new (w.alloc (.cells #[pv, av, cv, .slice A f.blocks.length c, .map (some M)] 116)) (.cells #[.bool false] 4)
    simpa using this
  have h2 : W3.heap[w.heap.size + 1 + 1]? = some (.cells #[.bool false] 4 (0, 0)) := by
    rw [hW3]
    have := heap_alloc_new ((w.alloc (.cells #[pv, av, cv, .slice A f.blocks.length c, .map (some M)] 116)).alloc (.cells #[.bool false] 4)) (.cells #[.bool false] 4)
    simpa using this
  have hSee : SeenC ds #[pv, av, cv, .slice A f.blocks.length c, .map (some M)] M w.heap.size (w.heap.size + 1) (w.heap.size + 1 + 1) [] W3 :=
    ⟨HM.out.below hBl hMl, h0, h1, h2⟩
  have HC := hideI (each3.each_any [w.heap.size + 1, w.heap.size + 1 + 1] f.blocks (SeenC ds #[pv, av, cv, .slice A f.blocks.length c, .map (some M)] M w.heap.size (w.heap.size + 1) (w.heap.size + 1 + 1)) ⟨w.heap.size, 0, none⟩ ⟨w.heap.size + 1, 0, none⟩ ⟨w.heap.size + 1 + 1, 0, none⟩ B pv av cv (.slice A f.blocks.length c) (.map (some M)) [] W3
    (HB.out.keeps (Keeps.of_below (hBl.mono (by omega)))) (by omega) hSee (seesC ds pv av cv _ M _ _ _ _ B hBM (by omega) (by omega) (by omega) (by omega) (by omega) (by omega) (by omega) (by omega) (by omega) (by omega)) SeenC.stays HFO.out HID.out)
  have HSZ := hideI hsz
  have HBl := hideI hBl
  clear h0 h1 h2 hSee hsz hBl
  subst hW3
  have hend : ∀ w4, SeenC ds #[pv, av, cv, .slice A f.blocks.length c, .map (some M)] M w.heap.size (w.heap.size + 1) (w.heap.size + 1 + 1) (usesM f) w4 → (∀ o, w4.cell? ⟨w.heap.size + 1, o, none⟩ = (#[Value.bool (unknownB ds (usesM f))] : Array Value)[o]?) ∧ (∀ o, w4.cell? ⟨w.heap.size + 1 + 1, o, none⟩ = (#[Value.bool (unfitB ds (usesM f))] : Array Value)[o]?) :=
    fun w4 h => ⟨row_cells h.unk rfl, row_cells h.unf rfl⟩
  have HEND := hideI hend
  clear hend
  cases c1 : unknownB ds (usesM f) <;> cases c2 : unfitB ds (usesM f)
  all_goals
    have HC1 := hideI c1
    have HC2 := hideI c2
    go_enter Try.func87, Try.ntmps87
    go_wp2_with (go_at_call 97; refine HC.out.mono ?_; rintro e w4 ⟨rfl, hS4, hF4⟩; obtain ⟨k1, k2⟩ := HEND.out w4 hS4; have HF4 := hideI hF4; clear hS4 hF4)
    go_ret
    refine ⟨by unfold usesErr; rw [HC1.out, HC2.out]; rfl, HBl.out.trans ⟨HF4.out.os, HF4.out.tape, HF4.out.output, HF4.out.size, fun b hb => HF4.out.rest b (by rw [HSZ.out]; omega) (by simp; omega)⟩⟩

end Go.Proofs.Ytclbhbnidodmdaa
