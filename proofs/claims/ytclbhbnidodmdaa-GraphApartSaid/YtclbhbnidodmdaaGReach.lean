/- graph.Order, graph.Reach. -/
import Derived.Test.YtclbhbnidodmdaaGOrder
namespace Go.Proofs.Ytclbhbnidodmdaa
open Go.RowKit Go.Maps

theorem marks_congr {n : Nat} {a b : List Nat} (h : ∀ x, x ∈ a ↔ x ∈ b) : marks n a = marks n b := by
  unfold marks
  apply List.map_congr_left
  intro i _
  simp [h]

theorem marks_take {n i x : Nat} {o : List Nat} (h : o[i]? = some x) : marks n (x :: o.take i) = marks n (o.take (i + 1)) := by
  apply marks_congr
  intro y
  rw [List.take_add_one, h]
  simp only [List.mem_cons, List.mem_append, Option.toList_some, List.not_mem_nil, or_false]
  exact or_comm

def ReachPost (bs : List BlockM) (w : World) (e : Ending) (w' : World) : Prop :=
  ∃ (o : List Nat) (g : Nat), e = .returned (.slice (some ⟨g, 0, none⟩) bs.length bs.length) ∧ OrderIs bs o ∧ w'.ownsRow w.heap.size 4 1 (.slice (some ⟨g, 0, none⟩) bs.length bs.length) bs.length (marks bs.length o) ∧ Below w.heap.size w w'

theorem nat_cell {w : World} {base g n cap i x : Nat} {o : List Nat} (h : w.ownsRow base 3 1 (.slice (some ⟨g, 0, none⟩) n cap) n (natInts o)) (hx : o[i]? = some x) : w.cell? ⟨g, i, none⟩ = some (.int .i64 (x : Int)) := by
  have hl : o.length = n := by have := h.1; unfold natInts at this; simpa using this
  have hi := (List.getElem?_eq_some_iff.1 hx).1
  rw [World.ownsRow.cellAt h i (by omega)]
  unfold natInts
  rw [List.getElem?_map, hx]
  rfl

theorem own_kept_below {base B : Nat} {e : TypeId} {size n : Nat} {v : Value} {xs : List Value} {w w' : World} (h : w.ownsRow base e size v n xs) (hb : Below B w w') (hv : ∀ k, v.ownBlock = some k → k < B) : w'.ownsRow base e size v n xs := by
  refine ⟨h.1, ?_⟩
  rcases h.2 with h2 | ⟨g, cap, cur, rfl, h3, h4, r⟩
  · exact .inl h2
  · exact .inr ⟨g, cap, cur, rfl, h3, (hb.block g (hv g rfl)).trans h4, r⟩

set_option maxRecDepth 100000 in
set_option maxHeartbeats 2000000 in
theorem reach_any (bs : List BlockM) (B : Nat) (pv av cv bv : Value) (w : World) (hbv : BlocksR w B bv bs) (hB : B ≤ w.heap.size) (h0 : 0 < bs.length) (hn5 : bs.length ≤ 512) (hin : EndsIn bs) :
    Calls Try.prog 47 #[.agg #[pv, av, cv, bv]] w (ReachPost bs w) := by
  have HBL := hideI hbv
  have HIN := hideI hin
  obtain ⟨A, c, rfl, hbm, _⟩ := hbv
  obtain ⟨i0, hix, hz0, hz1, hz2⟩ := info_parts bool_info
  clear hin
  go_enter Try.func47, Try.ntmps47
  go_wp2_with (first
    | (at_make; go_must (refine wpList_make_full _ rfl _ _ 31 rfl (w.heap.size + 1) 4 i0 (.bool false) 1 Try.underlying31 hix hz0 hz1 .i64 .i64 _ _ bs.length rfl rfl rfl rfl (by rw [hz2]; omega) (by unfold maxLen; omega) (by simp) ?_); intro w1 hown1 hg1; rw [World.size_alloc] at hown1; go_must (rw [marks_made] at hown1; have hgb := row_cells ((hg1.block w.heap.size (by simp) (by simp)).trans (heap_alloc_new w _)) rfl; have HB0 : Hid (Below w.heap.size w w1) := ((Below.refl _ _).alloc (Nat.le_refl _) _).grown hg1 (by simp) (by simp); have hlt1 : w.heap.size + 1 < w1.heap.size := (hown1.lt _ rfl).2; have HO1 := hideI hown1; clear hown1 hg1; have g0 := hgb 0; have g1 := hgb 1; have g2 := hgb 2; have g3 := hgb 3; clear hgb))
    | (go_at_call 48; go_must (refine (order_any bs w.heap.size pv av cv _ _ ((HBL.out.more' hB).keeps (Keeps.of_below HB0.out)) HB0.out.size h0 hn5 HIN.out).mono ?_); rintro e w2 ⟨o, g, cap, rfl, ho, ho0, ho1, hown2, hb2⟩; go_must (have HORD := hideI ho; have HX := hideI hown2; have hg0 := hown2.lt g rfl; have HO2 := hideI (own_kept_below HO1.out hb2 (fun k hk => by cases hk; exact hlt1)); have HB2 := hideI (HB0.out.trans (hb2.mono HB0.out.size)); have hlt2 := hb2.size; clear ho hown2 hb2)))
  go_loopw [14] (fun u wr => ∃ i : Nat, i ≤ o.length ∧ u = .int .i64 i ∧ Hid (wr.ownsRow (w.heap.size + 1) 4 1 (.slice (some ⟨w.heap.size + 1, 0, none⟩) bs.length bs.length) bs.length (marks bs.length (o.take i))) ∧ Hid (w2.grownBy wr (some (w.heap.size + 1)))) (fun u _ => o.length - (intOf u).toNat)
  case atStart => exact ⟨0, Nat.zero_le _, rfl, HO2, hideI (World.grownBy.refl _ _)⟩
  case round =>
    obtain ⟨i, hi, rfl, HR, HG⟩ := hrel
    by_cases hlt : i < o.length
    · obtain ⟨x, hx⟩ : ∃ x, o[i]? = some x := ⟨_, List.getElem?_eq_getElem hlt⟩
      have hxl := HORD.out.range HIN.out h0 x (List.mem_of_getElem? hx)
      have c1 : wr.cell? ⟨g, i, none⟩ = some (.int .i64 (x : Int)) := (World.cell?_of_block (a := ⟨g, i, none⟩) (HG.out.block g hg0.2 (by simp; omega))).trans (nat_cell HX.out hx)
      have c2 : wr.cell? ⟨w.heap.size + 1, x, none⟩ = some (.bool (decide (x ∈ o.take i))) := by rw [World.ownsRow.cellAt HR.out x (by omega), marks_at hxl]
      have c3 : wr.frozen? ⟨w.heap.size + 1, x, none⟩ = false := World.ownsRow.frozenAt HR.out x
      have HS := World.ownsRow.stored HR.out x (.bool true)
      rw [marks_set, marks_take hx] at HS
      have HS := hideI HS
      clear hx
      go_wp2
      go_roundw
      case rel => exact ⟨i + 1, by omega, by go_num, hideI HS.out.1, hideI (HG.out.trans_grown HS.out.2)⟩
      case measure => simp [intOf]; omega
    · have HE : Hid (o.take i = o) := List.take_of_length_le (by omega)
      rw [HE.out] at HR
      go_wp2
      go_ret
      exact ⟨o, _, rfl, HORD.out, World.ownsRow.mono HR.out (by omega), HB2.out.trans ⟨HG.out.os, HG.out.tape, HG.out.output, HG.out.size, fun b hb => HG.out.block b (Nat.lt_of_lt_of_le hb HB2.out.size) (by simp; omega)⟩⟩

end Go.Proofs.Ytclbhbnidodmdaa
