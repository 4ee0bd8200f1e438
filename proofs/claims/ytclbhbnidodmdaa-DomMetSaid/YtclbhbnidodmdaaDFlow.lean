/- flowOf: a function's graph, as layer 3 tells it. -/
import Derived.Test.YtclbhbnidodmdaaDGrow
import Derived.Test.YtclbhbnidodmdaaRepeat
import Derived.Deep.CutRange
import Derived.Deep.DeepCutAuto
namespace Go.Proofs.Ytclbhbnidodmdaa
open Go.RowKit Go.Maps

theorem OrderIs.ord {bs : List BlockM} {o : List Nat} (h : OrderIs bs o) : Ord (succM bs) o (fun b => o.idxOf b) := by
  obtain ⟨h1, h2, h3, h4⟩ := h.facts
  refine ⟨h1, fun i x hx => ?_, h3, h4⟩
  have hm := List.mem_of_getElem? hx
  have hl := List.idxOf_lt_length_of_mem hm
  have hi := (List.getElem?_eq_some_iff.1 hx).1
  exact (List.getElem?_inj (l := o) (i := o.idxOf x) (j := i) hl h2).1 (by rw [hx, List.getElem?_eq_getElem hl, List.getElem_idxOf])

theorem places_none (n : Nat) (pl : Nat → Nat) : places n [] pl = List.replicate n (.int .i64 (-1)) := by
  unfold places
  apply List.ext_getElem?
  intro i
  by_cases hi : i < n
  · rw [List.getElem?_map, List.getElem?_eq_getElem (by simpa using hi), List.getElem?_replicate, if_pos hi]
    simp [placeI]
  · rw [List.getElem?_eq_none (by simp; omega), List.getElem?_eq_none (by simp; omega)]

theorem places_set {n i x : Nat} {o : List Nat} {pl : Nat → Nat} (hx : o[i]? = some x) (hp : pl x = i) : (places n (o.take i) pl).set x (.int .i64 (i : Int)) = places n (o.take (i + 1)) pl := by
  unfold places
  apply List.ext_getElem?
  intro j
  by_cases hj : j < n
  · by_cases e : x = j
    · subst e
      rw [List.getElem?_set_self (by simpa using hj), List.getElem?_map, List.getElem?_eq_getElem (by simpa using hj)]
      have : x ∈ o.take (i + 1) := by rw [List.take_add_one, hx]; simp
      simp [placeI, this, hp]
    · rw [List.getElem?_set_ne e, List.getElem?_map, List.getElem?_map, List.getElem?_eq_getElem (by simpa using hj)]
      have : j ∈ o.take (i + 1) ↔ j ∈ o.take i := by
        rw [List.take_add_one, hx]
        simp only [Option.toList_some, List.mem_append, List.mem_singleton]
        exact ⟨fun h => h.resolve_right (fun h2 => e h2.symm), .inl⟩
      simp [placeI, this]
  · rw [List.getElem?_eq_none (by simp; omega), List.getElem?_eq_none (by simp; omega)]

theorem free_rowN {w w' : World} {g : Nat} {cs : Array Value} {t : TypeId} (h : w.heap[g]? = some (.cells cs t (0, 0))) (hk : w'.heap[g]? = w.heap[g]?) (o : Nat) : w'.frozen? ⟨g, o, none⟩ = false := by
  rw [h] at hk
  simp [World.frozen?, hk]

theorem FlowAt.other {w : World} {B : Nat} {bs : List BlockM} {o : List Nat} {pl : Nat → Nat} {gp : Nat} {vs : List Value} {go capo gl : Nat} (h : FlowAt w B bs o pl gp vs go capo gl) (j : Nat) (h1 : j ≠ gp) (h2 : j ≠ go) (h3 : j ≠ gl) (h4 : ∀ (t : Nat) v k, vs[t]? = some v → v.ownBlock = some k → j ≠ k) (off : Nat) (u : Value) : FlowAt (w.setCell ⟨j, off, none⟩ u) B bs o pl gp vs go capo gl := by
  refine ⟨⟨h.preds.vl, h.preds.ll, ?_, fun t v l hv hl => ?_, h.preds.apart⟩, ?_, ?_, h.gp, h.go, h.gl, h.apart⟩
  · exact ownsRow_setCell_other h.preds.row (a := ⟨j, off, none⟩) (by intro e; exact h1 (Option.some.inj e).symm) u
  · exact ownsRow_setCell_other (h.preds.own t v l hv hl) (a := ⟨j, off, none⟩) (by intro e; exact h4 t v j hv e rfl) u
  · exact ownsRow_setCell_other h.order (a := ⟨j, off, none⟩) (by intro e; exact h2 (Option.some.inj e).symm) u
  · exact ownsRow_setCell_other h.place (a := ⟨j, off, none⟩) (by intro e; exact h3 (Option.some.inj e).symm) u

/-- a function's graph stands in memory -/
structure Flows (f : FuncM) (o : List Nat) (pl : Nat → Nat) (capo : Nat) : Prop where
  order : OrderIs f.blocks o
  ord : Ord (succM f.blocks) o pl
  range : ∀ x ∈ o, x < f.blocks.length
  len : o.length ≤ f.blocks.length
  cap : o.length ≤ capo
  most : capo ≤ maxLen
  n0 : 0 < f.blocks.length
  n5 : f.blocks.length ≤ 512

/-- all of it lies from block lo on -/
structure FlowLow (lo gp : Nat) (vs : List Value) (go gl : Nat) : Prop where
  gp : lo ≤ gp
  go : lo ≤ go
  gl : lo ≤ gl
  apart : ∀ (t : Nat) v k, vs[t]? = some v → v.ownBlock = some k → lo ≤ k

def FlowPost (f : FuncM) (w : World) (e : Ending) (w' : World) : Prop :=
  ((lookM f).1 ≠ 0 ∧ e = .returned (.tuple #[.agg #[.slice none 0 0, .slice none 0 0, .slice none 0 0], .int .i64 (lookM f).1]) ∧ Below w.heap.size w w') ∨
  ((lookM f).1 = 0 ∧ ∃ (o : List Nat) (pl : Nat → Nat) (gp : Nat) (vs : List Value) (go capo gl : Nat), e = .returned (.tuple #[.agg #[.slice (some ⟨gp, 0, none⟩) f.blocks.length f.blocks.length, .slice (some ⟨go, 0, none⟩) o.length capo, .slice (some ⟨gl, 0, none⟩) f.blocks.length f.blocks.length], .int .i64 0]) ∧ Flows f o pl capo ∧ FlowAt w' w'.heap.size f.blocks o pl gp vs go capo gl ∧ FlowLow w.heap.size gp vs go gl ∧ Below w.heap.size w w')

theorem own_cap {w : World} {base n cap g : Nat} {xs : List Value} (h : w.ownsRow base 3 1 (.slice (some ⟨g, 0, none⟩) n cap) n xs) : n ≤ cap ∧ cap ≤ maxLen := by
  rcases h.2 with ⟨h1, _⟩ | ⟨g1, cap1, cur, e, _, _, h2, h3, _⟩
  · cases h1
  · cases e; exact ⟨h2, h3⟩

set_option maxRecDepth 100000 in
set_option maxHeartbeats 4000000 in
theorem flow_any (f : FuncM) (B : Nat) (pv bv : Value) (w : World) (hpv : Ints w B pv f.params) (hbv : BlocksR w B bv f.blocks) (hB : B ≤ w.heap.size) (hid : ∀ u ∈ usesM f, I64 u.1) :
    Calls Try.prog 82 #[.agg #[pv, .int .i64 f.arrays, .int .i64 f.cells, bv]] w (FlowPost f w) := by
  have HP := hideI hpv
  have HBL := hideI hbv
  have HID := hideI hid
  obtain ⟨P, pc, rfl, _⟩ := hpv
  obtain ⟨A, c, rfl, hbm, _⟩ := hbv
  obtain ⟨W0, hW0⟩ : ∃ W0, W0 = (w.alloc (.cells #[.slice P f.params.length pc, .int .i64 f.arrays, .int .i64 f.cells, .slice A f.blocks.length c] 25)).alloc (.cells #[.slice none 0 0, .slice none 0 0, .slice none 0 0] 99) := ⟨_, rfl⟩
  have hB0 : Below w.heap.size w W0 := by rw [hW0]; exact ((Below.refl _ w).alloc (Nat.le_refl _) _).alloc (by simp) _
  have hs0 : W0.heap.size = w.heap.size + 2 := by rw [hW0]; simp
  have hbox : W0.heap[w.heap.size]? = some (.cells #[.slice P f.params.length pc, .int .i64 f.arrays, .int .i64 f.cells, .slice A f.blocks.length c] 25 (0, 0)) := by
    rw [hW0, Below.heap_alloc _ _ _ (by simp)]
    exact heap_alloc_new w _
  have hres : W0.heap[w.heap.size + 1]? = some (.cells #[.slice none 0 0, .slice none 0 0, .slice none 0 0] 99 (0, 0)) := by
    rw [hW0]
    have := heap_alloc_new (w.alloc (.cells #[.slice P f.params.length pc, .int .i64 f.arrays, .int .i64 f.cells, .slice A f.blocks.length c] 25)) (.cells #[.slice none 0 0, .slice none 0 0, .slice none 0 0] 99)
    simpa using this
  have HW0 := hideI hW0
  have HB0 := hideI hB0
  have HS0 := hideI hs0
  have G0 : Hid (∀ W, Below W0.heap.size W0 W → (∀ o, W.cell? ⟨w.heap.size, o, none⟩ = (#[.slice P f.params.length pc, .int .i64 f.arrays, .int .i64 f.cells, .slice A f.blocks.length c] : Array Value)[o]?) ∧ (∀ o, W.cell? ⟨w.heap.size + 1, o, none⟩ = (#[.slice none 0 0, .slice none 0 0, .slice none 0 0] : Array Value)[o]?) ∧ (∀ o, W.frozen? ⟨w.heap.size + 1, o, none⟩ = false)) := fun W hW => by
    have h1 := hW.block w.heap.size (by omega)
    have h2 := hW.block (w.heap.size + 1) (by omega)
    exact ⟨row_cells hbox h1, row_cells hres h2, fun o => free_rowN hres h2 o⟩
  have HPW : Hid (∀ W, Below W0.heap.size W0 W → Ints W B (.slice P f.params.length pc) f.params ∧ BlocksR W B (.slice A f.blocks.length c) f.blocks ∧ Below w.heap.size w W) := fun W hW => by
    have h1 : Below w.heap.size w W := HB0.out.trans (hW.mono (by omega))
    exact ⟨HP.out.keeps (Keeps.of_below (h1.mono hB)), HBL.out.keeps (Keeps.of_below (h1.mono hB)), h1⟩
  obtain ⟨q1, q2, q3⟩ := G0.out W0 (Below.refl _ _)
  have b0 := q1 0
  have b1 := q1 1
  have b2 := q1 2
  have b3 := q1 3
  have hBW0 : B ≤ W0.heap.size := by omega
  clear hid hW0 hB0 hs0 hbox hres q1 q2 q3
  by_cases h0 : (lookM f).1 = 0
  · have H0 := hideI h0
    have hnb := look_some_block h0
    have HNB := hideI hnb
    have hn0 := hnb.1
    have hn5 := hnb.2
    clear h0 hnb
    go_enter Try.func82, Try.ntmps82
    go_upto_region 1 with fail
    rw [← HW0.out]
    go_wp2_with (first
      | (go_at_call 16; go_must (refine (gPreds_yes f B _ _ _ (HPW.out _ (Below.refl _ _)).1 (HPW.out _ (Below.refl _ _)).2.1 hBW0 HID.out H0.out).mono ?_); rintro e w1 ⟨gp, vs, rfl, hls, hb1⟩; have HLS := hideI hls; have HB1 := hideI hb1; obtain ⟨q1, q2, q3⟩ := G0.out _ hb1; clear b0 b1 b2 b3; have b0 := q1 0; have b1 := q1 1; have b2 := q1 2; have b3 := q1 3; clear q1 q2 q3 hb1 hls)
      | (go_at_call 18; go_must (refine (gOrder_yes f B _ _ _ (HPW.out _ HB1.out).1 (HPW.out _ HB1.out).2.1 (Nat.le_trans hBW0 HB1.out.size) HID.out H0.out).mono ?_); rintro e w2 ⟨o, go, capo, rfl, ho, ho0, ho1, hown, hb2⟩; have HORD := hideI ho; have HOWN := hideI hown; have HB2 := hideI hb2; clear b0 b1 b2 b3 ho hown hb2)
      | (go_at_call 83; go_must (refine (repeat_any (-1) f.blocks.length w2.heap.size _ hn0 (by omega) (row_cells (heap_alloc_new w2 _) rfl 0) (by simp)).mono ?_); rintro e w3 ⟨gl, rfl, hrep, hb3⟩; have HREP := hideI hrep; have HB3 : Hid (Below w2.heap.size w2 w3) := ((Below.refl _ w2).alloc (Nat.le_refl _) _).trans (hb3.mono (by simp)); clear hrep hb3))
    have hlg := HREP.out.lt gl rfl
    have hsz2 : w2.heap.size < gl := by have := hlg.1; simp at this; omega
    have HSG := hideI hsz2
    have hplace := World.ownsRow.mono HREP.out (Nat.zero_le _)
    rw [← places_none f.blocks.length (fun b => o.idxOf b), show ([] : List Nat) = o.take 0 by simp] at hplace
    have HPL := hideI hplace
    clear hplace hlg HREP hsz2
    go_loopw [34] (fun u wr => ∃ i : Nat, i ≤ o.length ∧ u = .int .i64 i ∧ Hid (wr.ownsRow 0 3 1 (.slice (some ⟨gl, 0, none⟩) f.blocks.length f.blocks.length) f.blocks.length (places f.blocks.length (o.take i) (fun b => o.idxOf b))) ∧ Hid (w3.grownBy wr (some gl))) (fun u _ => o.length - (intOf u).toNat)
    case atStart => exact ⟨0, Nat.zero_le _, rfl, HPL, hideI (World.grownBy.refl _ _)⟩
    case round =>
      obtain ⟨i, hi, rfl, HPr, HGr⟩ := hrel
      have hBr : Below w2.heap.size w2 wr := HB3.out.grown HGr.out HB3.out.size (fun k hk => by cases hk; exact Nat.le_of_lt HSG.out)
      have HBr := hideI hBr
      clear hBr
      by_cases hlt : i < o.length
      · obtain ⟨x, hx⟩ : ∃ x, o[i]? = some x := ⟨_, List.getElem?_eq_getElem hlt⟩
        have hxl := HORD.out.range (look_ends H0.out) hn0 x (List.mem_of_getElem? hx)
        have c1 := nat_cell (own_kept_below HOWN.out HBr.out (fun k hk => (HOWN.out.lt k hk).2)) hx
        have c2 : wr.cell? ⟨gl, x, none⟩ = some (.int .i64 (placeI (o.take i) (fun b => o.idxOf b) x)) := by rw [World.ownsRow.cellAt HPr.out x (by omega)]; exact places_at hxl
        have c3 : wr.frozen? ⟨gl, x, none⟩ = false := World.ownsRow.frozenAt HPr.out x
        have hst := World.ownsRow.stored HPr.out x (.int .i64 (i : Int))
        rw [places_set hx (HORD.out.ord.place i x hx)] at hst
        have HST := hideI hst
        clear hx hst
        go_wp2
        go_roundw
        case rel => exact ⟨i + 1, by omega, by go_num, hideI HST.out.1, hideI (HGr.out.trans HST.out.2)⟩
        case measure => simp [intOf]; omega
      · have hil : i = o.length := by omega
        have HP2 : Hid (wr.ownsRow 0 3 1 (.slice (some ⟨gl, 0, none⟩) f.blocks.length f.blocks.length) f.blocks.length (places f.blocks.length o (fun b => o.idxOf b))) := by
          have h1 := HPr.out
          rw [hil, List.take_of_length_le (Nat.le_refl _)] at h1
          exact h1
        have HBF : Hid (Below W0.heap.size W0 wr) := (HB1.out.trans (HB2.out.mono HB1.out.size)).trans (HBr.out.mono (Nat.le_trans HB1.out.size HB2.out.size))
        obtain ⟨q1, q2, q3⟩ := G0.out _ HBF.out
        have s0 := q2 0
        have s1 := q2 1
        have s2 := q2 2
        have g0 := q3 0
        have g1 := q3 1
        have g2 := q3 2
        have hs0 := HS0.out
        have hsr : W0.heap.size ≤ wr.heap.size := HBF.out.size
        clear q1 q2 q3 hil HPr
        go_wp2
        have hlsr : Lists wr 0 gp f.blocks.length vs (predsAt f.blocks f.blocks.length f.blocks.length 0) := (HLS.out.mono (Nat.zero_le _)).kept (HB2.out.trans (HBr.out.mono HB2.out.size))
        have hp1 := HLS.out.lt
        have hor := own_kept_below HOWN.out HBr.out (fun k hk => (HOWN.out.lt k hk).2)
        have hg1 := HOWN.out.lt go rfl
        have hg2 := HP2.out.lt gl rfl
        have hs1 := HB1.out.size
        have hs2 := HB2.out.size
        have hs3 := HBr.out.size
        have hsg := HSG.out
        have hap : ∀ (t : Nat) v k, vs[t]? = some v → v.ownBlock = some k → gp + 1 ≤ k ∧ k < w1.heap.size := by
          intro t v k hv hk
          have htl : t < (predsAt f.blocks f.blocks.length f.blocks.length 0).length := by rw [HLS.out.ll, ← HLS.out.vl]; exact (List.getElem?_eq_some_iff.1 hv).1
          exact (HLS.out.own t v _ hv (List.getElem?_eq_getElem htl)).lt k hk
        refine bodyPost_ret (v := .tuple #[.agg #[.slice (some ⟨gp, 0, none⟩) f.blocks.length f.blocks.length, .slice (some ⟨go, 0, none⟩) o.length capo, .slice (some ⟨gl, 0, none⟩) f.blocks.length f.blocks.length], .int .i64 0]) (by simp [results, Try.results82, go_sem, s0, s1, s2]) rfl (.inr ⟨H0.out, o, _, gp, vs, go, capo, gl, rfl, ⟨HORD.out, HORD.out.ord, HORD.out.range (look_ends H0.out) hn0, ho1, (own_cap HOWN.out).1, (own_cap HOWN.out).2, hn0, hn5⟩, ?_, ⟨by omega, by omega, by omega, fun t v k hv hk => by have := hap t v k hv hk; omega⟩, ?_⟩)
        · have hF : FlowAt wr wr.heap.size f.blocks o (fun b => o.idxOf b) gp vs go capo gl := ⟨hlsr, World.ownsRow.mono hor (Nat.zero_le _), HP2.out, by omega, by omega, hg2.2, fun t v k hv hk => by have := hap t v k hv hk; omega⟩
          have hj : ∀ (t : Nat) v k, vs[t]? = some v → v.ownBlock = some k → w.heap.size + 1 ≠ k := fun t v k hv hk => by have := hap t v k hv hk; omega
          have hF1 := ((hF.other (w.heap.size + 1) (by omega) (by omega) (by omega) hj 0 (.slice (some ⟨gp, 0, none⟩) f.blocks.length f.blocks.length)).other (w.heap.size + 1) (by omega) (by omega) (by omega) hj 1 (.slice (some ⟨go, 0, none⟩) o.length capo)).other (w.heap.size + 1) (by omega) (by omega) (by omega) hj 2 (.slice (some ⟨gl, 0, none⟩) f.blocks.length f.blocks.length)
          simpa using hF1
        · exact (((HPW.out _ HBF.out).2.2.setCell (by simp) _).setCell (by simp) _).setCell (by simp) _
  · have H0 := hideI h0
    have hb : ((lookM f).1 != 0) = true := by simpa using h0
    clear h0
    go_enter Try.func82, Try.ntmps82
    go_upto_region 1 with fail
    rw [← HW0.out]
    go_wp2_with (first
      | (go_at_call 16; go_must (refine (gPreds_no f B _ _ _ (HPW.out _ (Below.refl _ _)).1 (HPW.out _ (Below.refl _ _)).2.1 hBW0 HID.out H0.out).mono ?_); rintro e w1 ⟨rfl, hb1⟩; have HB1 := hideI hb1; obtain ⟨q1, q2, q3⟩ := G0.out _ hb1; have s0 := q2 0; have s1 := q2 1; have s2 := q2 2; have g0 := q3 0; have g1 := q3 1; have g2 := q3 2; clear q1 q2 q3 hb1 b0 b1 b2 b3))
    refine bodyPost_ret (v := .tuple #[.agg #[.slice none 0 0, .slice none 0 0, .slice none 0 0], .int .i64 (lookM f).1]) (by simp [results, Try.results82, go_sem, s0, s1, s2]) rfl (.inl ⟨H0.out, rfl, ?_⟩)
    exact (((HPW.out _ HB1.out).2.2.setCell (by simp) _).setCell (by simp) _).setCell (by simp) _

end Go.Proofs.Ytclbhbnidodmdaa
