/- What GraphPrunes rests on, part 13: RefIds, TypesM, RefCheck. -/
import Derived.Test.YtncmnbchkabgaaaPkGraphPrunes12
import Derived.Deep.Onto
import Derived.IntWalk
import Derived.Deep.RegionHeld3

namespace Go.Proofs.Ytncmnbchkabgaaa
open Go.RowKit

/-- what is asked of the ids -/
def RangeTo (f : FuncM) (vs : List (Int × Int)) (k : Nat) : Prop := ∀ (j : Nat) (d : Int × Int), j < k → vs[j]? = some d → f.params.length ≤ j → (f.params.length : Int) ≤ d.1 ∧ d.1 < 1048576
def IdsOk (f : FuncM) : Prop := RangeTo f (valuesM f) (valuesM f).length ∧ ((valuesM f).map (·.1)).Nodup

def RefIdsPost (f : FuncM) (w : World) (e : Ending) (w' : World) : Prop :=
  Below w.heap.size w w' ∧ ((¬ IdsOk f ∧ e = .returned (.tuple #[.slice none 0 0, .bool false])) ∨
    (IdsOk f ∧ ∃ (v : Value) (xs : List Int), e = .returned (.tuple #[v, .bool true]) ∧ w'.ownsRow w.heap.size 3 1 v xs.length (xs.map (Value.int .i64)) ∧ xs.Pairwise (· < ·) ∧ xs.Perm ((valuesM f).map (·.1))))

theorem val_at (vs : List (Int × Int)) : ∀ (j : Nat) (d : Int × Int), vs[j]? = some d → (valCells vs)[j * 2]? = some (.int .i64 d.1) ∧ (valCells vs)[j * 2 + 1]? = some (.int .i64 d.2) := by
  induction vs with
  | nil => intro j d h; simp at h
  | cons a l ih =>
    intro j d h
    have hc : valCells (a :: l) = .int .i64 a.1 :: .int .i64 a.2 :: valCells l := rfl
    cases j with
    | zero => simp at h; subst h; rw [hc]; exact ⟨rfl, rfl⟩
    | succ j =>
      have := ih j d (by simpa using h)
      rw [hc, show (j + 1) * 2 = j * 2 + 1 + 1 by omega]
      simpa using this

theorem RV.read {w : World} {base : Nat} {v : Value} {vs : List (Int × Int)} (h : RV w base v vs) :
    ∃ A c, v = .slice A vs.length c ∧ ∀ (j : Nat) (d : Int × Int), vs[j]? = some d → ∃ g, A = some ⟨g, 0, none⟩ ∧ g < w.heap.size ∧ w.cell? ⟨g, j * 2, none⟩ = some (.int .i64 d.1) ∧ w.cell? ⟨g, j * 2 + 1, none⟩ = some (.int .i64 d.2) := by
  rcases Nat.eq_zero_or_pos vs.length with h0 | h0
  · have hv : vs = [] := List.eq_nil_of_length_eq_zero h0
    subst hv
    rcases h.2 with ⟨rfl, _⟩ | ⟨g, cap, cur, rfl, _⟩
    · exact ⟨_, _, rfl, by simp⟩
    · exact ⟨_, _, rfl, by simp⟩
  · obtain ⟨g, cap, rfl, hb, hlt⟩ := World.ownsRow.form h h0
    refine ⟨_, _, rfl, fun j d hj => ⟨g, rfl, hlt, ?_, ?_⟩⟩
    · obtain ⟨hjl, _⟩ := List.getElem?_eq_some_iff.1 hj
      rw [World.ownsRow.cellAt h (j * 2) (by omega)]
      exact (val_at vs j d hj).1
    · obtain ⟨hjl, _⟩ := List.getElem?_eq_some_iff.1 hj
      rw [World.ownsRow.cellAt h (j * 2 + 1) (by omega)]
      exact (val_at vs j d hj).2

/-- the call's own row of numbers, read -/
theorem own_read {w : World} {base : Nat} {v : Value} {xs : List Int} (h : w.ownsRow base 3 1 v xs.length (xs.map (Value.int .i64))) :
    ∃ A c, v = .slice A xs.length c ∧ ∀ (j : Nat) (x : Int), xs[j]? = some x → ∃ g, A = some ⟨g, 0, none⟩ ∧ w.cell? ⟨g, j, none⟩ = some (.int .i64 x) := by
  rcases Nat.eq_zero_or_pos xs.length with h0 | h0
  · have hv : xs = [] := List.eq_nil_of_length_eq_zero h0
    subst hv
    rcases h.2 with ⟨rfl, _⟩ | ⟨g, cap, cur, rfl, _⟩
    · exact ⟨_, _, rfl, by simp⟩
    · exact ⟨_, _, rfl, by simp⟩
  · obtain ⟨g, cap, rfl, hb, hlt⟩ := World.ownsRow.form h h0
    refine ⟨_, _, rfl, fun j x hj => ⟨g, rfl, ?_⟩⟩
    obtain ⟨hjl, _⟩ := List.getElem?_eq_some_iff.1 hj
    rw [World.ownsRow.cellAt h j (by omega), List.getElem?_map, hj]
    rfl

theorem ins_list {xs zs : List Int} {a : Nat} {id : Int} (ha : a ≤ xs.length) (hl : zs.length = xs.length + 1) (h1 : ∀ j, j < a → zs[j]? = xs[j]?) (h2 : ∀ j, a < j → zs[j]? = xs[j - 1]?) : zs.set a id = xs.take a ++ id :: xs.drop a := by
  apply List.ext_getElem?
  intro j
  rw [List.getElem?_set]
  rcases Nat.lt_trichotomy j a with h | h | h
  · rw [if_neg (by omega), h1 j h, List.getElem?_append_left (by simp; omega), List.getElem?_take, if_pos h]
  · subst h
    rw [if_pos rfl, if_pos (by omega), List.getElem?_append_right (by simp; omega)]
    simp [Nat.min_eq_left ha]
  · rw [if_neg (by omega), h2 j h, List.getElem?_append_right (by simp; omega)]
    have : j - (xs.take a).length = (j - 1 - a) + 1 := by simp; omega
    rw [this, List.getElem?_cons_succ, List.getElem?_drop]
    congr 1
    omega

theorem ins_rising {xs : List Int} {a : Nat} {id : Int} (hr : xs.Pairwise (· < ·)) (h1 : ∀ j x, j < a → xs[j]? = some x → x < id) (h2 : ∀ j x, a ≤ j → xs[j]? = some x → id < x) : (xs.take a ++ id :: xs.drop a).Pairwise (· < ·) := by
  have ht : ∀ x ∈ xs.take a, x < id := by
    intro x hx
    obtain ⟨i, hi⟩ := List.getElem?_of_mem hx
    rw [List.getElem?_take] at hi
    split at hi
    · exact h1 i x (by assumption) hi
    · cases hi
  have hd : ∀ x ∈ xs.drop a, id < x := by
    intro x hx
    obtain ⟨i, hi⟩ := List.getElem?_of_mem hx
    rw [List.getElem?_drop] at hi
    exact h2 _ x (by omega) hi
  rw [List.pairwise_append]
  refine ⟨hr.sublist (List.take_sublist ..), ?_, ?_⟩
  · rw [List.pairwise_cons]
    exact ⟨hd, hr.sublist (List.drop_sublist ..)⟩
  · intro x hx y hy
    have h3 := ht x hx
    rcases List.mem_cons.1 hy with rfl | hy
    · exact h3
    · have := hd y hy
      omega

theorem ins_perm {xs l : List Int} {a : Nat} {id : Int} (h : xs.Perm l) : (xs.take a ++ id :: xs.drop a).Perm (l ++ [id]) := by
  have h1 : (xs.take a ++ id :: xs.drop a).Perm (id :: (xs.take a ++ xs.drop a)) := List.perm_middle
  rw [List.take_append_drop] at h1
  exact (h1.trans (h.cons id)).trans (List.perm_append_singleton id l).symm

theorem fst_take {vs : List (Int × Int)} {k : Nat} {d : Int × Int} (h : vs[k]? = some d) : (vs.take (k + 1)).map (·.1) = (vs.take k).map (·.1) ++ [d.1] := by
  obtain ⟨hk, rfl⟩ := List.getElem?_eq_some_iff.1 h
  rw [List.take_succ_eq_append_getElem hk, List.map_append]
  rfl

theorem fst_twice {vs : List (Int × Int)} {k : Nat} {d : Int × Int} (h : vs[k]? = some d) (hm : d.1 ∈ (vs.take k).map (·.1)) : ¬ (vs.map (·.1)).Nodup := by
  intro hn
  have h2 : ((vs.take (k + 1)).map (·.1)).Nodup := hn.sublist ((List.take_sublist ..).map _)
  rw [fst_take h, List.nodup_append] at h2
  exact h2.2.2 _ hm d.1 (by simp) rfl

theorem rangeTo_succ {f : FuncM} {vs : List (Int × Int)} {k : Nat} {d : Int × Int} (h : RangeTo f vs k) (hd : vs[k]? = some d) (hr : f.params.length ≤ k → (f.params.length : Int) ≤ d.1 ∧ d.1 < 1048576) : RangeTo f vs (k + 1) := by
  intro j e hj he hp
  rcases Nat.lt_or_ge j k with hjk | hjk
  · exact h j e hjk he hp
  · have : j = k := by omega
    subst this
    rw [hd] at he
    injection he with he
    subst he
    exact hr hp

theorem range_no {f : FuncM} {k : Nat} {d : Int × Int} (hd : (valuesM f)[k]? = some d) (hp : f.params.length ≤ k) (h : d.1 < f.params.length ∨ 1048576 ≤ d.1) : ¬ IdsOk f := by
  intro ho
  obtain ⟨hk, _⟩ := List.getElem?_eq_some_iff.1 hd
  have := ho.1 k d hk hd hp
  omega

theorem values_few {f : FuncM} (h : FewV f) : (valuesM f).length < 5000 := by
  have h1 := h.1
  have h2 := h.2
  have h3 := values_len f.blocks
  unfold sizeM at h2
  unfold valuesM
  rw [List.length_append, paramDefs_len]
  omega

theorem grown_below {w w' : World} {o : Obj} {base n : Nat} {e : TypeId} {size : Nat} {v : Value} {xs : List Value} (hg : (w.alloc o).grownBy w' v.ownBlock) (ho : w.ownsRow base e size v n xs) (hb : base ≤ w.heap.size) : Below base w w' :=
  ((Below.refl base w).alloc hb o).grown hg (by simp; omega) (fun g hgg => (ho.lt g hgg).1)

theorem below_stored {B g j : Nat} {w w' : World} {u : Value} (h : Below B w w') (hg : B ≤ g) : Below B w (w'.setCell ⟨g, j, none⟩ u) := h.setCell hg u

set_option maxRecDepth 100000 in
set_option maxHeartbeats 16000000 in
theorem refIds_any (f : FuncM) (B : Nat) (pv bv : Value) (w : World) (hpv : Ints w B pv f.params) (hbv : BlocksR w B bv f.blocks) (hB : B ≤ w.heap.size) (hfew : FewV f) (hl5 : f.blocks.length ≤ 512) :
    Calls Try.prog 33 #[.agg #[pv, .int .i64 f.arrays, .int .i64 f.cells, bv]] w (RefIdsPost f w) := by
  obtain ⟨i0, hi, hz0, hz1, hz2⟩ := info_parts int_info
  have HPV := hideI hpv
  have HBV := hideI hbv
  have HFEW := hideI hfew
  have hvn := values_few hfew
  obtain ⟨A, c, rfl, hbm, _⟩ := hbv
  obtain ⟨P, pc, rfl, hpm, _⟩ := hpv
  obtain ⟨np, hnp⟩ : ∃ np, np = f.params.length := ⟨_, rfl⟩
  have hn16 : np ≤ 16 := by rw [hnp]; exact hfew.1
  have HNP := hideI hnp
  have hbox0 := hideI (heap_alloc_new w (.cells #[.slice P f.params.length pc, .int .i64 f.arrays, .int .i64 f.cells, .slice A f.blocks.length c] 25))
  have HB0 : Hid (Below w.heap.size w (w.alloc (.cells #[.slice P f.params.length pc, .int .i64 f.arrays, .int .i64 f.cells, .slice A f.blocks.length c] 25))) := (Below.refl _ w).alloc (Nat.le_refl _) _
  clear hfew hnp
  go_enter Try.func33, Try.ntmps33
  go_wp2_with (go_at_call 34; refine (refValues_any f B _ _ _ (HPV.out.keeps ((Keeps.refl w).alloc hB _)) (HBV.out.keeps ((Keeps.refl w).alloc hB _)) (by simp; omega) HFEW.out hl5).mono ?_; rintro e w1 ⟨v1, rfl, hv1, hb1⟩; obtain ⟨VA, vc, rfl, hvr⟩ := RV.read hv1; have HVR := hideI hvr; have HBX := hideI ((hb1.block _ (lt_of_heap hbox0.out)).trans hbox0.out); have HB1 := hideI (HB0.out.trans (hb1.mono (by simp))); clear hb1 hv1 hvr)
  obtain ⟨vs, hvs⟩ : ∃ vs, vs = valuesM f := ⟨_, rfl⟩
  rw [← hvs] at hvn HVR
  rw [← hvs]
  rw [← HNP.out] at HBX
  have HVS := hideI hvs
  clear hvs
  have hszb : w.heap.size < w1.heap.size := lt_of_heap HBX.out
  have hR0 : Hid ((w1.alloc (.cells #[] 3)).ownsRow w1.heap.size 3 1 (.slice (some ⟨w1.heap.size, 0, none⟩) 0 0) 0 []) := World.ownsRow_made (base := w1.heap.size) (e := 3) (size := 1) w1 #[] 0 (Nat.le_refl _) (by decide) rfl
  have hBe0 : Hid (Below w1.heap.size w1 (w1.alloc (.cells #[] 3))) := (Below.refl _ _).alloc (Nat.le_refl _) _
  go_loopw [5, 6] (fun o i wr => ∃ (k : Nat) (xs : List Int), k ≤ vs.length ∧ i = .int .i64 k ∧ Hid (xs.length = k) ∧ wr.ownsRow w1.heap.size 3 1 o xs.length (xs.map (Value.int .i64)) ∧ Hid (xs.Pairwise (· < ·)) ∧ Hid (xs.Perm ((vs.take k).map (·.1))) ∧ Hid (RangeTo f vs k) ∧ Below w1.heap.size w1 wr) (fun _ i _ => vs.length - (intOf i).toNat)
  case atStart => exact ⟨0, [], Nat.zero_le _, rfl, rfl, hR0.out, List.Pairwise.nil, List.Perm.refl _, (fun j d hj => absurd hj (by omega)), hBe0.out⟩
  case round =>
    obtain ⟨k, xs, hk, rfl, hxl, hown, hris, hperm, hrng, hbe⟩ := hrel
    have HBE := hideI hbe
    obtain ⟨OA, oc, rfl, hord⟩ := own_read hown
    have HORD := hideI hord
    have HBXr := hideI ((hbe.block _ hszb).trans HBX.out)
    have hx := row_cells HBXr.out rfl
    have hszr : w1.heap.size ≤ wr.heap.size := hbe.size
    have hnl : xs.length ≤ vs.length := by have := hxl.out; omega
    obtain ⟨n, hn⟩ : ∃ n, n = xs.length := ⟨_, rfl⟩
    rw [← hn] at hnl
    rw [← hn] at hown
    rw [← hn]
    have HOWN := hideI hown
    have HN := hideI hn
    clear hown hbe hord hn
    by_cases hlt : k < vs.length
    · obtain ⟨d, hd⟩ : ∃ d, vs[k]? = some d := ⟨_, List.getElem?_eq_getElem hlt⟩
      obtain ⟨g, rfl, hg, c0, c1⟩ := HVR.out k d hd
      have d0 := ((Keeps.of_below HBE.out) g (k * 2) hg).trans c0
      have HD := hideI hd
      obtain ⟨id, hid⟩ : ∃ id, id = d.1 := ⟨_, rfl⟩
      rw [← hid] at d0
      have HID := hideI hid
      clear hd hid c0 c1
      have hcase : (decide (np ≤ k) = false ∨ (decide (np ≤ k) = true ∧ decide (id < np) = false ∧ decide (1048576 ≤ id) = false)) ∨ ((decide (np ≤ k) = true ∧ decide (id < np) = true) ∨ (decide (np ≤ k) = true ∧ decide (id < np) = false ∧ decide (1048576 ≤ id) = true)) := by
        by_cases h1 : np ≤ k <;> by_cases h2 : id < np <;> by_cases h3 : 1048576 ≤ id <;> simp [h1, h2, h3]
      rcases hcase with hgo | hno
      · have HRNG : Hid (RangeTo f vs (k + 1)) := by
          refine rangeTo_succ hrng.out HD.out (fun hp => ?_)
          rw [← HNP.out] at hp ⊢
          rw [← HID.out]
          rcases hgo with h | ⟨h, h2, h3⟩
          · exact absurd hp (of_decide_eq_false h)
          · have := of_decide_eq_false h2
            have := of_decide_eq_false h3
            omega
        rcases hgo with h1 | ⟨h1, h2, h3⟩
        all_goals
          go_wp2
          go_loopw [8] (fun u wr' => ∃ (z : Int) (a : Nat), a ≤ n ∧ u = .int .i64 z ∧ Hid (z = a) ∧ Hid (∀ (j : Nat) (x : Int), a ≤ j → xs[j]? = some x → id < x) ∧ wr' = wr) (fun u _ => (intOf u).toNat)
          case atStart => exact ⟨n, n, Nat.le_refl _, rfl, rfl, (fun j x hj hx => by obtain ⟨h, _⟩ := List.getElem?_eq_some_iff.1 hx; have := HN.out; omega), rfl⟩
          case round =>
            obtain ⟨z, a, ha, rfl, hza, hup, rfl⟩ := hrel
            have hrest : (decide (0 < z) = false ∨ ∃ (x : Int), decide (0 < z) = true ∧ xs[a - 1]? = some x ∧ decide (id < x) = false ∧ (x == id) = false) ∨ (∃ (x : Int), decide (0 < z) = true ∧ xs[a - 1]? = some x ∧ (decide (id < x) = true ∨ (decide (id < x) = false ∧ (x == id) = true))) := by
              have hza' := hza.out
              by_cases h0 : a = 0
              · exact .inl (.inl (by simp; omega))
              · have hxx : xs[a - 1]? = some (xs[a - 1]'(by have := HN.out; omega)) := List.getElem?_eq_getElem _
                have hz0 : decide (0 < z) = true := by simp; omega
                rcases Int.lt_trichotomy id (xs[a - 1]'(by have := HN.out; omega)) with h | h | h
                · exact .inr ⟨_, hz0, hxx, .inl (by simpa using h)⟩
                · exact .inr ⟨_, hz0, hxx, .inr ⟨by simp; omega, by simp; omega⟩⟩
                · exact .inl (.inr ⟨_, hz0, hxx, by simp; omega, by simp; omega⟩)
            rcases hrest with hins | ⟨x, zq1, hxx, hcmp⟩
            · have HLOW : Hid (∀ (j : Nat) (y : Int), j < a → xs[j]? = some y → y < id) := by
                intro j y hj hy
                rcases hins with h | ⟨x, h1, h2, h3, h4⟩
                · have h' := of_decide_eq_false h
                  have := hza.out
                  omega
                · have hxid : x < id := by
                    have h5 := of_decide_eq_false h3
                    have h6 : x ≠ id := by simpa using h4
                    omega
                  obtain ⟨e1, e2⟩ := List.getElem?_eq_some_iff.1 hy
                  obtain ⟨e3, e4⟩ := List.getElem?_eq_some_iff.1 h2
                  rcases Nat.lt_or_ge j (a - 1) with hja | hja
                  · have := List.pairwise_iff_getElem.1 hris.out j (a - 1) e1 e3 hja
                    omega
                  · have : j = a - 1 := by omega
                    subst this
                    omega
              have hzn : z.toNat = a := by have := hza.out; omega
              have hz00 : 0 ≤ z := by have := hza.out; omega
              have hown := HOWN.out
              have hnm : n < 5000 := by omega
              rcases hins with h4 | ⟨x, zq1, hxx, h5, h6⟩
              rotate_left
              obtain ⟨g2, rfl, hgx⟩ := HORD.out (a - 1) x hxx
              have zq2 : 1 ≤ z := of_decide_eq_true zq1
              have zq3 : z - 1 < (n : Int) := by have := hza.out; omega
              have zq4 : (z - 1).toNat = a - 1 := by have := hza.out; omega
              have zq5 : z.toNat - 1 = a - 1 := by have := hza.out; omega
              have zq6 : IntKind.i64.wrap (z - 1) = z - 1 := IntWalk.i64_in _ (by have := hza.out; omega)
              clear hxx
              rotate_right
              all_goals
                go_wp2_with (at_builtin; refine wpList_append_lies _ rfl _ _ _ rfl w1.heap.size 3 i0 _ 1 8 Try.underlying22 hi hz0 hz1 hz2 rfl (by decide) _ _ _ rfl (hown.alloc _) ⟨wr.heap.size, 0, none⟩ 1 1 [.int .i64 0] rfl rfl (one_new _ _) (by simp [Value.oneCell']) (by decide) (by unfold maxLen; omega) (by omega) (by simp; omega) _ rfl ?_; intro g1 cap1 w4 hown1 hgrow1 hor hgl1; have HO4 := hideI hown1; have HG4 := hideI hgrow1; clear hown1 hgrow1 hor)
                have HB4 : Hid (Below w1.heap.size w1 w4) := HBE.out.trans (grown_below HG4.out HOWN.out hszr)
                have HO5 : Hid (w4.ownsRow w1.heap.size 3 1 (.slice (some ⟨g1, 0, none⟩) (n + 1) cap1) (n + 1) ((xs ++ [0]).map (Value.int .i64))) := by have := HO4.out; show World.ownsRow _ _ _ _ _ _ _; rw [List.map_append]; exact this
                have hg1 : w1.heap.size ≤ g1 := (World.ownsRow.lt HO5.out g1 rfl).1
                clear hown
                go_loopw [9] (fun u wr' => ∃ (m : Nat) (zs : List Int), a ≤ m ∧ m ≤ n ∧ u = .int .i64 m ∧ Hid (zs.length = n + 1) ∧ Hid (∀ j, j < m → zs[j]? = xs[j]?) ∧ Hid (∀ j, m < j → zs[j]? = xs[j - 1]?) ∧ wr'.ownsRow w1.heap.size 3 1 (.slice (some ⟨g1, 0, none⟩) (n + 1) cap1) (n + 1) (zs.map (Value.int .i64)) ∧ Below w1.heap.size w1 wr') (fun u _ => (intOf u).toNat)
                case atStart =>
                  refine ⟨n, xs ++ [0], ha, Nat.le_refl _, by go_num, (by show (xs ++ [0]).length = n + 1; rw [HN.out]; simp), (fun j hj => List.getElem?_append_left (by have := HN.out; omega)), ?_, HO5.out, HB4.out⟩
                  intro j hj
                  have := HN.out
                  rw [List.getElem?_eq_none (by simp; omega), List.getElem?_eq_none (by omega)]
                case round =>
                  obtain ⟨m, zs, ham, hmn, rfl, hzl, hzlow, hzup, hown6, hb6⟩ := hrel
                  have HO6 := hideI hown6
                  have HB6 := hideI hb6
                  clear hown6 hb6
                  by_cases hma : a < m
                  · obtain ⟨m', rfl⟩ : ∃ m', m = m' + 1 := ⟨m - 1, by omega⟩
                    have hzm : decide (z < (m' : Int) + 1) = true := by have := hza.out; simp; omega
                    obtain ⟨y, hy⟩ : ∃ y, zs[m']? = some y := ⟨_, List.getElem?_eq_getElem (by have := hzl.out; omega)⟩
                    have q1 : wr.cell? ⟨g1, m', none⟩ = some (.int .i64 y) := by rw [World.ownsRow.cellAt HO6.out m' (by omega), List.getElem?_map, hy]; rfl
                    obtain ⟨y2, hy2⟩ : ∃ y, zs[m' + 1]? = some y := ⟨_, List.getElem?_eq_getElem (by have := hzl.out; omega)⟩
                    have q2 : wr.cell? ⟨g1, m' + 1, none⟩ = some (.int .i64 y2) := by rw [World.ownsRow.cellAt HO6.out (m' + 1) (by omega), List.getElem?_map, hy2]; rfl
                    have q3 : wr.frozen? ⟨g1, m' + 1, none⟩ = false := World.ownsRow.frozenAt HO6.out (m' + 1)
                    have HY := hideI hy
                    clear hy hy2
                    go_wp2
                    go_roundw
                    case rel =>
                      refine ⟨m', zs.set (m' + 1) y, by omega, by omega, rfl, by have := hzl.out; show (zs.set (m' + 1) y).length = n + 1; rw [List.length_set]; exact this, ?_, ?_, ?_, below_stored HB6.out hg1⟩
                      · intro j hj
                        rw [List.getElem?_set_ne (by omega)]
                        exact hzlow.out j (by omega)
                      · intro j hj
                        by_cases hj1 : j = m' + 1
                        · subst hj1
                          rw [List.getElem?_set_self (by have := hzl.out; omega), Nat.add_sub_cancel, ← hzlow.out m' (by omega)]
                          exact HY.out.symm
                        · rw [List.getElem?_set_ne (by omega)]
                          exact hzup.out j (by omega)
                      · rw [List.map_set]
                        exact (World.ownsRow.stored HO6.out (m' + 1) _).1
                    case measure => simp [intOf]
                  · have hmz : decide (z < (m : Int)) = false := by have := hza.out; simp; omega
                    have hme : m = a := by omega
                    obtain ⟨y2, hy2⟩ : ∃ y, zs[a]? = some y := ⟨_, List.getElem?_eq_getElem (by have := hzl.out; omega)⟩
                    have q2 : wr.cell? ⟨g1, a, none⟩ = some (.int .i64 y2) := by rw [World.ownsRow.cellAt HO6.out a (by omega), List.getElem?_map, hy2]; rfl
                    have q3 : wr.frozen? ⟨g1, a, none⟩ = false := World.ownsRow.frozenAt HO6.out a
                    have hzn2 : z < (n : Int) + 1 := by have := hza.out; omega
                    have hlow' := hzlow.out
                    have hup' := hzup.out
                    rw [hme] at hlow' hup'
                    have HIL : Hid (zs.set a id = xs.take a ++ id :: xs.drop a) := ins_list (by have := HN.out; omega) (by have := hzl.out; have := HN.out; omega) hlow' hup'
                    have HST := hideI (World.ownsRow.stored HO6.out a (.int .i64 id)).1
                    clear hlow' hup' hy2 hme
                    go_wp2
                    go_roundw
                    case rel =>
                      have hl2 : (xs.take a ++ id :: xs.drop a).length = n + 1 := by rw [← HIL.out, List.length_set]; exact hzl.out
                      refine ⟨k + 1, xs.take a ++ id :: xs.drop a, by omega, by go_num, ?_, ?_, ins_rising hris.out HLOW.out hup.out, ?_, HRNG.out, below_stored HB6.out hg1⟩
                      · show _ = k + 1
                        rw [hl2]
                        have := hxl.out
                        have := HN.out
                        omega
                      · rw [hl2, ← HIL.out, List.map_set]
                        exact HST.out
                      · show List.Perm _ _
                        rw [fst_take HD.out, ← HID.out]
                        exact ins_perm hperm.out
                    case measure => simp [intOf]; omega
            · obtain ⟨g2, rfl, hgx⟩ := HORD.out (a - 1) x hxx
              have HXX := hideI hxx
              have zq2 : 1 ≤ z := of_decide_eq_true zq1
              have zq3 : z - 1 < (n : Int) := by have := hza.out; omega
              have zq4 : (z - 1).toNat = a - 1 := by have := hza.out; omega
              have zq5 : z.toNat - 1 = a - 1 := by have := hza.out; omega
              have zq6 : IntKind.i64.wrap (z - 1) = z - 1 := IntWalk.i64_in _ (by have := hza.out; omega)
              clear hxx
              rcases hcmp with h4 | ⟨h4, h5⟩
              · go_wp2
                go_roundw
                case rel =>
                  refine ⟨z - 1, a - 1, by omega, rfl, (show z - 1 = ((a - 1 : Nat) : Int) by have := hza.out; omega), ?_, trivial⟩
                  intro j y hj hy
                  rcases Nat.lt_or_ge j a with hja | hja
                  · have hja' : j = a - 1 := by omega
                    rw [hja', HXX.out] at hy
                    injection hy with hy
                    subst hy
                    exact of_decide_eq_true h4
                  · exact hup.out j y hja hy
                case measure => simp [intOf]; omega
              · have HNO : Hid (¬ IdsOk f) := by
                  intro ho
                  refine fst_twice HD.out ?_ (by rw [HVS.out]; exact ho.2)
                  rw [← HID.out]
                  have hxi : x = id := by simpa using h5
                  rw [← hxi]
                  exact hperm.out.subset (List.mem_of_getElem? HXX.out)
                go_wp2
                go_ret2
                exact ⟨HB1.out.trans (HBE.out.mono (by omega)), .inl ⟨HNO.out, rfl⟩⟩
      · have HNO : Hid (¬ IdsOk f) := by
          refine range_no (k := k) (by rw [← HVS.out]; exact HD.out) ?_ ?_
          · rw [← HNP.out]
            rcases hno with ⟨h, _⟩ | ⟨h, _⟩ <;> exact of_decide_eq_true h
          · rw [← HNP.out, ← HID.out]
            rcases hno with ⟨_, h⟩ | ⟨_, _, h⟩
            · exact .inl (of_decide_eq_true h)
            · exact .inr (of_decide_eq_true h)
        rcases hno with ⟨h1, h2⟩ | ⟨h1, h2, h3⟩
        all_goals
          go_wp2
          go_ret2
          exact ⟨HB1.out.trans (HBE.out.mono (by omega)), .inl ⟨HNO.out, rfl⟩⟩
    · go_wp2
      go_ret2
      have hkv : k = vs.length := by omega
      have hpf : xs.Perm (vs.map (·.1)) := by have := hperm.out; rw [List.take_of_length_le (by omega)] at this; exact this
      refine ⟨HB1.out.trans (HBE.out.mono (by omega)), .inr ⟨⟨?_, ?_⟩, _, xs, rfl, ?_, hris.out, ?_⟩⟩
      · have := hrng.out
        rw [hkv] at this
        rw [← HVS.out]
        exact this
      · rw [← HVS.out]
        refine hpf.nodup_iff.1 (hris.out.imp ?_)
        intro a b hab
        omega
      · rw [← HN.out]
        exact World.ownsRow.mono HOWN.out (Nat.le_of_lt hszb)
      · rw [← HVS.out]
        exact hpf

end Go.Proofs.Ytncmnbchkabgaaa

namespace Go.Proofs.Ytncmnbchkabgaaa
open Go.RowKit

theorem addDef_eq {np : Nat} {ds d : Defs} {id t : Int} (h : addDef np ds id t = some d) : d = ds ++ [(id, t)] := by
  unfold addDef at h
  split at h
  · injection h with h
    exact h.symm
  · cases h

theorem makes_pos {op : Int} (h : makesS op ≠ 0) : 0 < makesS op := by
  have := makes_type h
  unfold isTypeB at this
  simp at this
  omega

theorem phisStep_eq {f : FuncM} : ∀ {l : List PhiM} {ds d : Defs}, phisStep f ds l = some d → d = ds ++ l.map fun p => (p.id, p.typ) := by
  intro l
  induction l with
  | nil => intro ds d h; injection h with h; simp [h]
  | cons p l ih =>
    intro ds d h
    unfold phisStep at h
    rw [Option.bind_eq_some_iff] at h
    obtain ⟨d1, h1, h2⟩ := h
    have h3 := ih h2
    unfold phiStep at h1
    split at h1
    · rw [h3, addDef_eq h1, List.map_cons, List.append_assoc]
      rfl
    · cases h1

theorem codeStep_eq {f : FuncM} : ∀ {l : List InstrM} {ds d : Defs}, codeStep f ds l = some d → d = ds ++ l.flatMap valuesInstr := by
  intro l
  induction l with
  | nil => intro ds d h; injection h with h; simp [h]
  | cons x l ih =>
    intro ds d h
    unfold codeStep at h
    rw [Option.bind_eq_some_iff] at h
    obtain ⟨d1, h1, h2⟩ := h
    have h3 := ih h2
    have h4 : d1 = ds ++ valuesInstr x := by
      unfold instrStep at h1
      unfold valuesInstr
      split at h1
      · split at h1
        · rename_i hm
          rw [if_neg (by omega)]
          split at h1
          · injection h1 with h1
            simp [h1]
          · cases h1
        · rename_i hm
          rw [if_pos (makes_pos hm)]
          exact addDef_eq h1
      · cases h1
    rw [h3, h4, List.flatMap_cons, List.append_assoc]

theorem blocksStep_eq {f : FuncM} : ∀ {l : List BlockM} {ds d : Defs}, blocksStep f ds l = some d → d = ds ++ l.flatMap valuesBlock := by
  intro l
  induction l with
  | nil => intro ds d h; injection h with h; simp [h]
  | cons b l ih =>
    intro ds d h
    unfold blocksStep at h
    rw [Option.bind_eq_some_iff] at h
    obtain ⟨d1, h1, h2⟩ := h
    have h7 := ih h2
    unfold blockStep at h1
    rw [Option.bind_eq_some_iff] at h1
    obtain ⟨d2, h3, h4⟩ := h1
    rw [Option.bind_eq_some_iff] at h4
    obtain ⟨d3, h5, h6⟩ := h4
    split at h6
    · injection h6 with h6
      subst h6
      rw [h7, codeStep_eq h5, phisStep_eq h3, List.flatMap_cons]
      simp only [valuesBlock, List.append_assoc]
    · cases h6

theorem formed_eq {f : FuncM} {ds : Defs} (h : formedM f = some ds) : ds = valuesM f := by
  unfold formedM at h
  split at h
  · exact blocksStep_eq h
  · cases h

/-- the reference's type of a value; 0: there is none -/
def typeR (vs : List (Int × Int)) (id : Int) : Int := match Defs.at vs id with | some t => t | none => 0

theorem at_take_none {vs : List (Int × Int)} {k : Nat} {id : Int} {d : Int × Int} (h : vs[k]? = some d) (hn : Defs.at (vs.take k) id = none) (hne : (d.1 == id) = false) : Defs.at (vs.take (k + 1)) id = none := by
  obtain ⟨hk, rfl⟩ := List.getElem?_eq_some_iff.1 h
  unfold Defs.at at hn ⊢
  rw [Option.map_eq_none_iff] at hn ⊢
  rw [List.take_succ_eq_append_getElem hk, List.find?_append, hn]
  simp [hne]

theorem at_here {vs : List (Int × Int)} {k : Nat} {id : Int} {d : Int × Int} (h : vs[k]? = some d) (hn : Defs.at (vs.take k) id = none) (he : (d.1 == id) = true) : Defs.at vs id = some d.2 := by
  obtain ⟨hk, hd⟩ := List.getElem?_eq_some_iff.1 h
  unfold Defs.at at hn ⊢
  rw [Option.map_eq_none_iff] at hn
  have e : vs = vs.take k ++ d :: vs.drop (k + 1) := by rw [← hd, ← List.drop_eq_getElem_cons hk, List.take_append_drop]
  rw [e, List.find?_append, hn]
  simp [he]

theorem valCells_at {vs : List (Int × Int)} : ∀ {k : Nat} {d : Int × Int}, vs[k]? = some d → (valCells vs)[k * 2]? = some (.int .i64 d.1) ∧ (valCells vs)[k * 2 + 1]? = some (.int .i64 d.2) := by
  induction vs with
  | nil => intro k d h; simp at h
  | cons a vs ih =>
    intro k d h
    cases k with
    | zero =>
      simp at h
      subst h
      exact ⟨rfl, rfl⟩
    | succ k =>
      have := ih (k := k) (d := d) (by simpa using h)
      unfold valCells at this ⊢
      rw [List.flatMap_cons]
      have e1 : (k + 1) * 2 = k * 2 + 1 + 1 := by omega
      rw [e1]
      exact this

/-- what a row of values says in memory -/
theorem RV.form {w : World} {base : Nat} {v : Value} {vs : List (Int × Int)} (h : RV w base v vs) : ∃ A c, v = .slice A vs.length c ∧ (0 < vs.length → ∃ g cs, A = some ⟨g, 0, none⟩ ∧ base ≤ g ∧ w.heap[g]? = some (.cells cs 76 (0, 0)) ∧
    ∀ k d, vs[k]? = some d → cs[k * 2]? = some (.int .i64 d.1) ∧ cs[k * 2 + 1]? = some (.int .i64 d.2)) := by
  rcases h.2 with ⟨rfl, h0⟩ | ⟨g, cap, cur, rfl, hb, hg, hnc, hm, hs, ht⟩
  · exact ⟨none, 0, by rw [h0], fun hp => absurd hp (by omega)⟩
  · refine ⟨_, _, rfl, fun _ => ⟨g, cur, rfl, hb, hg, fun k d hd => ?_⟩⟩
    obtain ⟨h1, h2⟩ := valCells_at hd
    rw [← ht, List.getElem?_take] at h1 h2
    split at h1
    · split at h2
      · exact ⟨by simpa using h1, by simpa using h2⟩
      · cases h2
    · cases h1

end Go.Proofs.Ytncmnbchkabgaaa

namespace Go.Proofs.Ytncmnbchkabgaaa
open Go.RowKit

def Found (xs : List Int) (n r : Int) : Prop := (r = -1 ∧ n ∉ xs) ∨ ∃ k : Nat, r = k ∧ xs[k]? = some n

def FindPost (xs : List Int) (n : Int) (w : World) (e : Ending) (w' : World) : Prop := ∃ r, e = .returned (.int .i64 r) ∧ Found xs n r ∧ w = w'

/-- n can only stand from a on, and before b -/
def Lies (xs : List Int) (n : Int) (a b : Nat) : Prop := ∀ j, xs[j]? = some n → a ≤ j ∧ j < b

theorem lies_up {xs : List Int} {n x : Int} {a b m : Nat} (hr : xs.Pairwise (· < ·)) (h : Lies xs n a b) (hm : xs[m]? = some x) (hx : x < n) : Lies xs n (m + 1) b := by
  intro j hj
  refine ⟨?_, (h j hj).2⟩
  obtain ⟨h1, rfl⟩ := List.getElem?_eq_some_iff.1 hm
  obtain ⟨h2, rfl⟩ := List.getElem?_eq_some_iff.1 hj
  rcases Nat.lt_trichotomy j m with hjm | rfl | hjm
  · have := List.pairwise_iff_getElem.1 hr j m h2 h1 hjm
    omega
  · omega
  · omega

theorem lies_down {xs : List Int} {n x : Int} {a b m : Nat} (hr : xs.Pairwise (· < ·)) (h : Lies xs n a b) (hm : xs[m]? = some x) (hx : n < x) : Lies xs n a m := by
  intro j hj
  refine ⟨(h j hj).1, ?_⟩
  obtain ⟨h1, rfl⟩ := List.getElem?_eq_some_iff.1 hm
  obtain ⟨h2, rfl⟩ := List.getElem?_eq_some_iff.1 hj
  rcases Nat.lt_trichotomy j m with hjm | rfl | hjm
  · omega
  · omega
  · have := List.pairwise_iff_getElem.1 hr m j h1 h2 hjm
    omega

set_option maxHeartbeats 800000 in
theorem find_any (w : World) (B : Nat) (v : Value) (xs : List Int) (n : Int) (hx : Ints w B v xs) (hr : xs.Pairwise (· < ·)) (hl : xs.length ≤ 100000) :
    Calls Try.prog 35 #[v, .int .i64 n] w (FindPost xs n w) := by
  obtain ⟨A, c, rfl, hm, hx⟩ := hx
  have Hx := hideI hx
  have HR := hideI hr
  clear hx hr
  go_enter Try.func35, Try.ntmps35
  go_wp2
  go_loopw [5, 6] (fun i o wr => ∃ a b : Nat, a ≤ b ∧ b ≤ xs.length ∧ i = .int .i64 a ∧ o = .int .i64 b ∧ Lies xs n a b ∧ wr = w) (fun i o _ => (intOf o).toNat - (intOf i).toNat)
  case atStart =>
    refine ⟨0, xs.length, Nat.zero_le _, Nat.le_refl _, rfl, rfl, ?_, rfl⟩
    intro j hj
    obtain ⟨h, _⟩ := List.getElem?_eq_some_iff.1 hj
    exact ⟨Nat.zero_le _, h⟩
  case round =>
    obtain ⟨a, b, hab, hb, rfl, rfl, hL, rfl⟩ := hrel
    have HL := hideI hL
    clear hL
    by_cases hlt : a < b
    · obtain ⟨m, hm1⟩ : ∃ m, m = (a + b) / 2 := ⟨_, rfl⟩
      have hm2 : a ≤ m ∧ m < b := by omega
      have hq : ((a : Int) + (b : Int)).tdiv 2 = (m : Int) := by rw [hm1, Int.tdiv_eq_ediv_of_nonneg (by omega)]; omega
      clear hm1
      obtain ⟨g, off, rfl, hg, hc⟩ := Hx.out m (by omega)
      obtain ⟨x, hx⟩ : ∃ x, xs[m]? = some x := ⟨_, List.getElem?_eq_getElem (by omega)⟩
      rw [hx] at hc
      simp only [Option.getD_some] at hc
      have HX := hideI hx
      clear hx
      cases he : x == n
      · cases hs : decide (x < n)
        · go_wp2
          go_roundw
          case rel => exact ⟨a, m, by omega, by omega, by go_num, by go_num, lies_down HR.out HL.out HX.out (by have h1 := of_decide_eq_false hs; have h2 : x ≠ n := (by simpa using he); omega), trivial⟩
          case measure => simp [intOf]; omega
        · go_wp2
          go_roundw
          case rel => exact ⟨m + 1, b, by omega, by omega, by go_num, by go_num, lies_up HR.out HL.out HX.out (of_decide_eq_true hs), trivial⟩
          case measure => simp [intOf]; omega
      · have hxn : x = n := by simpa using he
        have HXN := hideI hxn
        clear hxn
        go_wp2
        go_ret
        exact ⟨_, rfl, .inr ⟨m, rfl, by rw [HX.out, HXN.out]⟩, rfl⟩
    · go_wp2
      go_ret
      refine ⟨_, rfl, .inl ⟨rfl, fun hn => ?_⟩, rfl⟩
      obtain ⟨j, hj⟩ := List.getElem?_of_mem hn
      have := HL.out j hj
      omega

end Go.Proofs.Ytncmnbchkabgaaa

namespace Go.Proofs.Ytncmnbchkabgaaa
open Go.RowKit

theorem fits_eq {f : FuncM} {op n : Int} (h : isOp op = true) : fitsR f (kindS op) n = fitsB f op n := by
  unfold fitsR fitsB mostR withinB
  rcases op_cases op with h1 | h1 | h1
  · rcases h1 with rfl | rfl | rfl | rfl | rfl | rfl | rfl | rfl | rfl | rfl | rfl | rfl | rfl <;> simp [kindS, shapeS] <;> (rw [Bool.eq_iff_iff]; simp; omega)
  · rcases h1 with rfl | rfl | rfl | rfl | rfl | rfl | rfl | rfl | rfl | rfl | rfl | rfl <;> simp [kindS, shapeS] <;> (rw [Bool.eq_iff_iff]; simp; omega)
  · unfold isOp at h
    rw [shapeS_none h1] at h
    cases h

/-- all may be added, one after the other -/
def addsB (np : Nat) : Defs → List (Int × Int) → Bool
  | _, [] => true
  | ds, d :: r => defB np ds d.1 && addsB np (ds ++ [d]) r

theorem adds_app (np : Nat) : ∀ (l r ds : List (Int × Int)), addsB np ds (l ++ r) = (addsB np ds l && addsB np (ds ++ l) r) := by
  intro l
  induction l with
  | nil => intro r ds; simp [addsB]
  | cons d l ih =>
    intro r ds
    simp only [List.cons_append, addsB, ih, List.append_assoc, Bool.and_assoc]
    rfl

theorem phis_adds (f : FuncM) : ∀ (l : List PhiM) (ds : Defs), phisStep f ds l = if l.all (phiB f) && addsB f.params.length ds (l.map fun p => (p.id, p.typ)) then some (ds ++ l.map fun p => (p.id, p.typ)) else none := by
  intro l
  induction l with
  | nil => intro ds; simp [phisStep, addsB]
  | cons p l ih =>
    intro ds
    unfold phisStep phiStep addDef
    simp only [List.all_cons, List.map_cons, addsB]
    cases h1 : phiB f p
    · simp
    · cases h2 : defB f.params.length ds p.id
      · simp
      · simp only [if_pos, Option.bind_some, ih, Bool.true_and, List.append_assoc]
        rfl

theorem makes_cases (op : Int) : makesS op = 0 ∨ 0 < makesS op := by
  unfold makesS
  rcases op_cases op with h1 | h1 | h1
  · rcases h1 with rfl | rfl | rfl | rfl | rfl | rfl | rfl | rfl | rfl | rfl | rfl | rfl | rfl <;> simp [shapeS]
  · rcases h1 with rfl | rfl | rfl | rfl | rfl | rfl | rfl | rfl | rfl | rfl | rfl | rfl <;> simp [shapeS]
  · rw [shapeS_none h1]; simp

theorem instr_adds (f : FuncM) (ds : Defs) (x : InstrM) : instrStep f ds x = if instrR f x && addsB f.params.length ds (valuesInstr x) then some (ds ++ valuesInstr x) else none := by
  unfold instrStep instrR valuesInstr instrB addDef
  cases h0 : isOp x.op
  · simp
  · rw [fits_eq h0]
    cases h1 : x.args.length == (takesS x.op).length
    · simp
    · cases h2 : fitsB f x.op x.n
      · simp
      · rcases makes_cases x.op with h3 | h3
        · rw [h3]
          by_cases h4 : x.id = -1
          · simp [h4, addsB]
          · simp [h4]
        · have h4 : ¬ makesS x.op = 0 := by omega
          have h5 : (makesS x.op == 0) = false := by simpa using h4
          simp [h3, h4, h5, addsB]

theorem code_adds (f : FuncM) : ∀ (l : List InstrM) (ds : Defs), codeStep f ds l = if l.all (instrR f) && addsB f.params.length ds (l.flatMap valuesInstr) then some (ds ++ l.flatMap valuesInstr) else none := by
  intro l
  induction l with
  | nil => intro ds; simp [codeStep, addsB]
  | cons p l ih =>
    intro ds
    unfold codeStep
    rw [instr_adds]
    simp only [List.all_cons, List.flatMap_cons, adds_app]
    cases h1 : instrR f p
    · simp
    · cases h2 : addsB f.params.length ds (valuesInstr p)
      · simp
      · simp only [Bool.true_and, if_pos, Option.bind_some, ih, List.append_assoc]

theorem block_adds (f : FuncM) (ds : Defs) (q : BlockM) : blockStep f ds q = if blockR f q && addsB f.params.length ds (valuesBlock q) then some (ds ++ valuesBlock q) else none := by
  unfold blockStep blockR valuesBlock
  rw [phis_adds, adds_app]
  cases h1 : q.phis.all (phiB f)
  · simp
  · cases h2 : addsB f.params.length ds (q.phis.map fun p => (p.id, p.typ))
    · simp
    · simp only [Bool.true_and, if_pos, Option.bind_some, code_adds]
      cases h3 : q.code.all (instrR f)
      · simp
      · cases h4 : addsB f.params.length (ds ++ q.phis.map fun p => (p.id, p.typ)) (q.code.flatMap valuesInstr)
        · simp
        · cases h5 : termB f q.term <;> simp

theorem blocks_adds (f : FuncM) : ∀ (l : List BlockM) (ds : Defs), blocksStep f ds l = if l.all (blockR f) && addsB f.params.length ds (l.flatMap valuesBlock) then some (ds ++ l.flatMap valuesBlock) else none := by
  intro l
  induction l with
  | nil => intro ds; simp [blocksStep, addsB]
  | cons p l ih =>
    intro ds
    unfold blocksStep
    rw [block_adds]
    simp only [List.all_cons, List.flatMap_cons, adds_app]
    cases h1 : blockR f p
    · simp
    · cases h2 : addsB f.params.length ds (valuesBlock p)
      · simp
      · simp only [Bool.true_and, if_pos, Option.bind_some, ih, List.append_assoc]

theorem formed_adds (f : FuncM) : formedM f = if formedR f && addsB f.params.length (paramDefs 0 f.params) (f.blocks.flatMap valuesBlock) then some (valuesM f) else none := by
  unfold formedM formedR headR valuesM
  rw [blocks_adds]
  cases h1 : limitsB f
  · simp
  · cases h2 : f.params.all isTypeB
    · simp
    · cases h3 : (f.blocks.headD ⟨[], [], ⟨0, 0, [], 0⟩⟩).phis.isEmpty
      · simp
      · simp

theorem def_iff {np : Nat} {ds : Defs} {id : Int} : defB np ds id = true ↔ id ∉ ds.map (·.1) ∧ (np : Int) ≤ id ∧ id < 1048576 := by
  unfold defB withinB
  simp only [Bool.and_eq_true, Bool.not_eq_true', decide_eq_true_eq]
  rw [← at_some]
  cases (ds.at id).isSome <;> simp <;> omega

theorem adds_iff {np : Nat} : ∀ (l : List (Int × Int)) (ds : Defs), (ds.map (·.1)).Nodup → (addsB np ds l = true ↔ (∀ d ∈ l, (np : Int) ≤ d.1 ∧ d.1 < 1048576) ∧ ((ds ++ l).map (·.1)).Nodup) := by
  intro l
  induction l with
  | nil => intro ds h; simp [addsB, h]
  | cons d l ih =>
    intro ds h
    unfold addsB
    rw [Bool.and_eq_true, def_iff]
    have happ : ds ++ d :: l = (ds ++ [d]) ++ l := by simp
    constructor
    · rintro ⟨⟨h1, h2⟩, h3⟩
      have hn : ((ds ++ [d]).map (·.1)).Nodup := by
        rw [List.map_append, List.nodup_append]
        refine ⟨h, by simp, fun a ha b hb => ?_⟩
        simp at hb
        subst hb
        intro e
        subst e
        exact h1 ha
      obtain ⟨h4, h5⟩ := (ih _ hn).1 h3
      rw [happ]
      refine ⟨fun e he => ?_, h5⟩
      rcases List.mem_cons.1 he with rfl | he
      · exact h2
      · exact h4 e he
    · rintro ⟨h1, h2⟩
      rw [happ] at h2
      have hn : ((ds ++ [d]).map (·.1)).Nodup := by
        rw [List.map_append] at h2
        exact (List.nodup_append.1 h2).1
      refine ⟨⟨?_, h1 d (List.mem_cons_self ..)⟩, (ih _ hn).2 ⟨fun e he => h1 e (List.mem_cons_of_mem _ he), h2⟩⟩
      rw [List.map_append, List.nodup_append] at hn
      exact fun hm => hn.2.2 _ hm d.1 (by simp) rfl

theorem idsOk_adds {f : FuncM} : addsB f.params.length (paramDefs 0 f.params) (f.blocks.flatMap valuesBlock) = true ↔ IdsOk f := by
  rw [adds_iff _ _ (paramDefs_nodup _ _)]
  unfold IdsOk RangeTo
  have hv : valuesM f = paramDefs 0 f.params ++ f.blocks.flatMap valuesBlock := rfl
  have hpl := paramDefs_len f.params 0
  rw [← hv]
  refine and_congr ?_ Iff.rfl
  constructor
  · intro h j d hj hd hp
    rw [hv, List.getElem?_append_right (by omega)] at hd
    exact h d (List.mem_of_getElem? hd)
  · intro h d hd
    obtain ⟨i, hi⟩ := List.getElem?_of_mem hd
    have h2 : (valuesM f)[f.params.length + i]? = some d := by
      rw [hv, List.getElem?_append_right (by omega)]
      rw [hpl, Nat.add_sub_cancel_left]
      exact hi
    obtain ⟨h3, _⟩ := List.getElem?_eq_some_iff.1 h2
    exact h _ d h3 h2 (by omega)

theorem formed_no {f : FuncM} (h : formedR f = false) : formedM f = none := by rw [formed_adds, h]; rfl
theorem formed_ids_no {f : FuncM} (h : ¬ IdsOk f) : formedM f = none := by
  rw [formed_adds]
  cases ha : addsB f.params.length (paramDefs 0 f.params) (f.blocks.flatMap valuesBlock)
  · simp
  · exact absurd (idsOk_adds.1 ha) h
theorem formed_yes {f : FuncM} (h : formedR f = true) (h2 : IdsOk f) : formedM f = some (valuesM f) := by
  rw [formed_adds, h, idsOk_adds.2 h2]
  rfl

end Go.Proofs.Ytncmnbchkabgaaa

namespace Go.Proofs.Ytncmnbchkabgaaa
open Go.RowKit

theorem form_bd {f : FuncM} {ds : Defs} (h : formedM f = some ds) : limitsB f = true := by
  unfold formedM at h
  split at h
  · rename_i hc
    simp only [Bool.and_eq_true] at hc
    exact hc.1.1
  · cases h
theorem form_few {f : FuncM} {ds : Defs} (h : formedM f = some ds) : Few f.blocks := by
  have hb := limits_bd (form_bd h)
  have h1 := right_blocks (by omega) f.blocks (formed_all h).1
  unfold Few
  omega
theorem form_form {f : FuncM} {ds : Defs} (h : formedM f = some ds) : ∀ b ∈ f.blocks, ∀ x ∈ b.code, x.args.length = (takesS x.op).length := by
  intro b hb x hx
  have h1 := ((formed_all h).1 b hb).2 x hx
  unfold instrB at h1
  simp only [Bool.and_eq_true, beq_iff_eq] at h1
  exact h1.2.1
theorem form_phi {f : FuncM} {ds : Defs} (h : formedM f = some ds) : ∀ b ∈ f.blocks, ∀ p ∈ b.phis, p.vals.length = p.fr.length := by
  intro b hb x hx
  have h1 := ((formed_all h).1 b hb).1 x hx
  unfold phiB at h1
  simp only [Bool.and_eq_true, beq_iff_eq] at h1
  exact h1.2.1
theorem form_fewv {f : FuncM} (h : limitsB f = true) : FewV f := by
  have hb := limits_bd h
  exact ⟨hb.1, by unfold sizeM; omega⟩

theorem flatten_at : ∀ (rows : List (List Int)), (∀ r ∈ rows, r.length = 5) → ∀ (j i : Nat) (r : List Int), rows[j]? = some r → i < 5 → rows.flatten[j * 5 + i]? = r[i]? := by
  intro rows
  induction rows with
  | nil => intro _ j i r h; simp at h
  | cons a l ih =>
    intro hl j i r h hi
    have ha : a.length = 5 := hl a (List.mem_cons_self ..)
    cases j with
    | zero =>
      simp at h
      subst h
      rw [List.flatten_cons, List.getElem?_append_left (by omega)]
      simp
    | succ j =>
      rw [List.flatten_cons, List.getElem?_append_right (by omega)]
      have := ih (fun r hr => hl r (List.mem_cons_of_mem _ hr)) j i r (by simpa using h) hi
      rw [← this]
      congr 1
      omega

theorem RU.read {w : World} {base : Nat} {v : Value} {us : List (Int × Int)} (h : RU w base v us) :
    ∃ A c, v = .slice A us.length c ∧ ∀ (j : Nat) (u : Int × Int), us[j]? = some u → ∃ g, A = some ⟨g, 0, none⟩ ∧ g < w.heap.size ∧ w.cell? ⟨g, j * 5, none⟩ = some (.int .i64 u.1) ∧ w.cell? ⟨g, j * 5 + 1, none⟩ = some (.int .i64 u.2) := by
  obtain ⟨rows, hm, h5, h⟩ := h
  rcases Nat.eq_zero_or_pos us.length with h0 | h0
  · have hv : us = [] := List.eq_nil_of_length_eq_zero h0
    subst hv
    rcases h.2 with ⟨rfl, _⟩ | ⟨g, cap, cur, rfl, _⟩
    · exact ⟨_, _, rfl, by simp⟩
    · exact ⟨_, _, rfl, by simp⟩
  · obtain ⟨g, cap, rfl, hb, hlt⟩ := World.ownsRow.form h h0
    refine ⟨_, _, rfl, fun j u hj => ⟨g, rfl, hlt, ?_, ?_⟩⟩
    all_goals
      obtain ⟨hjl, _⟩ := List.getElem?_eq_some_iff.1 hj
      rw [← hm, List.getElem?_map, Option.map_eq_some_iff] at hj
      obtain ⟨r, hr, rfl⟩ := hj
      have hr5 := h5 r (List.mem_of_getElem? hr)
    · rw [World.ownsRow.cellAt h (j * 5) (by omega), List.getElem?_map]
      have := flatten_at rows h5 j 0 r hr (by omega)
      rw [Nat.add_zero] at this
      rw [this, List.getElem?_eq_getElem (by omega)]
      simp [List.getD_eq_getElem?_getD, List.getElem?_eq_getElem (show 0 < r.length by omega)]
    · rw [World.ownsRow.cellAt h (j * 5 + 1) (by omega), List.getElem?_map, flatten_at rows h5 j 1 r hr (by omega), List.getElem?_eq_getElem (by omega)]
      simp [List.getD_eq_getElem?_getD, List.getElem?_eq_getElem (show 1 < r.length by omega)]

theorem refIds_no (f : FuncM) (B : Nat) (pv bv : Value) (w : World) (hpv : Ints w B pv f.params) (hbv : BlocksR w B bv f.blocks) (hB : B ≤ w.heap.size) (hfew : FewV f) (hl5 : f.blocks.length ≤ 512) (hno : ¬ IdsOk f) :
    Calls Try.prog 33 #[.agg #[pv, .int .i64 f.arrays, .int .i64 f.cells, bv]] w fun e w' => e = .returned (.tuple #[.slice none 0 0, .bool false]) ∧ Below w.heap.size w w' := by
  refine (refIds_any f B pv bv w hpv hbv hB hfew hl5).mono ?_
  rintro e w' ⟨hb, ⟨_, he⟩ | ⟨h, _⟩⟩
  · exact ⟨he, hb⟩
  · exact absurd h hno

theorem refIds_yes (f : FuncM) (B : Nat) (pv bv : Value) (w : World) (hpv : Ints w B pv f.params) (hbv : BlocksR w B bv f.blocks) (hB : B ≤ w.heap.size) (hfew : FewV f) (hl5 : f.blocks.length ≤ 512) (hyes : IdsOk f) :
    Calls Try.prog 33 #[.agg #[pv, .int .i64 f.arrays, .int .i64 f.cells, bv]] w fun e w' => ∃ (v : Value) (xs : List Int), e = .returned (.tuple #[v, .bool true]) ∧ w'.ownsRow w.heap.size 3 1 v xs.length (xs.map (Value.int .i64)) ∧ xs.Pairwise (· < ·) ∧ xs.Perm ((valuesM f).map (·.1)) ∧ Below w.heap.size w w' := by
  refine (refIds_any f B pv bv w hpv hbv hB hfew hl5).mono ?_
  rintro e w' ⟨hb, ⟨h, _⟩ | ⟨_, v, xs, he, h1, h2, h3⟩⟩
  · exact absurd hyes h
  · exact ⟨v, xs, he, h1, h2, h3, hb⟩

theorem find_is (w : World) (B : Nat) (v : Value) (xs : List Int) (n : Int) (k : Nat) (hx : Ints w B v xs) (hr : xs.Pairwise (· < ·)) (hl : xs.length ≤ 100000) (hk : xs[k]? = some n) :
    Calls Try.prog 35 #[v, .int .i64 n] w fun e w' => e = .returned (.int .i64 k) ∧ w = w' := by
  refine (find_any w B v xs n hx hr hl).mono ?_
  rintro e w' ⟨r, rfl, hf, rfl⟩
  refine ⟨?_, rfl⟩
  rcases hf with ⟨_, h⟩ | ⟨j, rfl, hj⟩
  · exact absurd (List.mem_of_getElem? hk) h
  · obtain ⟨h1, e1⟩ := List.getElem?_eq_some_iff.1 hk
    obtain ⟨h2, e2⟩ := List.getElem?_eq_some_iff.1 hj
    rcases Nat.lt_trichotomy j k with h | h | h
    · have := List.pairwise_iff_getElem.1 hr j k h2 h1 h
      omega
    · rw [h]
    · have := List.pairwise_iff_getElem.1 hr k j h1 h2 h
      omega

theorem find_not (w : World) (B : Nat) (v : Value) (xs : List Int) (n : Int) (hx : Ints w B v xs) (hr : xs.Pairwise (· < ·)) (hl : xs.length ≤ 100000) (hn : n ∉ xs) :
    Calls Try.prog 35 #[v, .int .i64 n] w fun e w' => e = .returned (.int .i64 (-1)) ∧ w = w' := by
  refine (find_any w B v xs n hx hr hl).mono ?_
  rintro e w' ⟨r, rfl, hf, rfl⟩
  refine ⟨?_, rfl⟩
  rcases hf with ⟨h, _⟩ | ⟨j, rfl, hj⟩
  · rw [h]
  · exact absurd (List.mem_of_getElem? hj) hn

/-- each value's type stands where its id stands -/
def TypesTo (vs : List (Int × Int)) (xs ts : List Int) (k : Nat) : Prop := ∀ (j i : Nat) (d : Int × Int), j < k → vs[j]? = some d → xs[i]? = some d.1 → ts[i]? = some d.2

theorem types_succ {vs : List (Int × Int)} {xs ts : List Int} {k i : Nat} {d : Int × Int} (h : TypesTo vs xs ts k) (hn : (vs.map (·.1)).Nodup) (hr : xs.Pairwise (· < ·)) (hd : vs[k]? = some d) (hi : xs[i]? = some d.1) (hl : i < ts.length) : TypesTo vs xs (ts.set i d.2) (k + 1) := by
  intro j i' e hj he hi'
  rcases Nat.lt_or_ge j k with hjk | hjk
  · have hne : i ≠ i' := by
      intro h1
      subst h1
      rw [hi] at hi'
      injection hi' with h2
      have e1 : (vs.map (·.1))[j]? = some e.1 := by rw [List.getElem?_map, he]; rfl
      have e2 : (vs.map (·.1))[k]? = some d.1 := by rw [List.getElem?_map, hd]; rfl
      obtain ⟨a1, a2⟩ := List.getElem?_eq_some_iff.1 e1
      obtain ⟨b1, b2⟩ := List.getElem?_eq_some_iff.1 e2
      have := List.pairwise_iff_getElem.1 hn j k a1 b1 hjk
      rw [a2, b2] at this
      exact this h2.symm
    rw [List.getElem?_set_ne hne]
    exact h j i' e hjk he hi'
  · have hjk' : j = k := by omega
    subst hjk'
    rw [hd] at he
    injection he with he
    subst he
    have : i = i' := by
      obtain ⟨a1, a2⟩ := List.getElem?_eq_some_iff.1 hi
      obtain ⟨b1, b2⟩ := List.getElem?_eq_some_iff.1 hi'
      rcases Nat.lt_trichotomy i i' with h1 | h1 | h1
      · have := List.pairwise_iff_getElem.1 hr i i' a1 b1 h1
        omega
      · exact h1
      · have := List.pairwise_iff_getElem.1 hr i' i b1 a1 h1
        omega
    subst this
    exact List.getElem?_set_self hl

theorem at_mem {vs : List (Int × Int)} {id t : Int} (h : Defs.at vs id = some t) : (id, t) ∈ vs := by
  unfold Defs.at at h
  rw [Option.map_eq_some_iff] at h
  obtain ⟨d, hd, rfl⟩ := h
  have h1 := List.find?_some hd
  have h2 := List.mem_of_find?_eq_some hd
  have : d.1 = id := by simpa using h1
  rw [← this]
  exact h2

theorem any_take_succ {α : Type} (p : α → Bool) {l : List α} {k : Nat} {x : α} (hx : l[k]? = some x) : (l.take (k + 1)).any p = ((l.take k).any p || p x) := by
  obtain ⟨hk, rfl⟩ := List.getElem?_eq_some_iff.1 hx
  rw [List.take_succ_eq_append_getElem hk, List.any_append]
  simp

theorem unknown_at {ds : Defs} {us : List (Int × Int)} {k : Nat} {u : Int × Int} (hu : us[k]? = some u) (h : (ds.at u.1).isSome = false) : unknownB ds us = true := by
  unfold unknownB
  rw [List.any_eq_true]
  exact ⟨u, List.mem_of_getElem? hu, by rw [h]; rfl⟩

/-- the error so far -/
def errTo (ds : Defs) (us : List (Int × Int)) (k : Nat) : Int := if unfitB ds (us.take k) then 3 else 0

theorem err_keep {ds : Defs} {us : List (Int × Int)} {k : Nat} {u : Int × Int} {t : Int} (hu : us[k]? = some u) (ht : ds.at u.1 = some t) (h : (u.2 != 0 && t != u.2) = false) : errTo ds us (k + 1) = errTo ds us k := by
  unfold errTo unfitB
  rw [any_take_succ _ hu]
  simp only [ht, h, Bool.or_false]
theorem err_set {ds : Defs} {us : List (Int × Int)} {k : Nat} {u : Int × Int} {t : Int} (hu : us[k]? = some u) (ht : ds.at u.1 = some t) (h : (u.2 != 0 && t != u.2) = true) : errTo ds us (k + 1) = 3 := by
  unfold errTo unfitB
  rw [any_take_succ _ hu]
  simp only [ht, h, Bool.or_true, if_true]

theorem RV.read' {w : World} {base : Nat} {v : Value} {vs : List (Int × Int)} (h : RV w base v vs) :
    ∃ A c, v = .slice A vs.length c ∧ ∀ (j : Nat) (d : Int × Int), vs[j]? = some d → ∃ g, A = some ⟨g, 0, none⟩ ∧ base ≤ g ∧ g < w.heap.size ∧ w.cell? ⟨g, j * 2, none⟩ = some (.int .i64 d.1) ∧ w.cell? ⟨g, j * 2 + 1, none⟩ = some (.int .i64 d.2) := by
  obtain ⟨A, c, rfl, hr⟩ := RV.read h
  refine ⟨A, c, rfl, fun j d hj => ?_⟩
  obtain ⟨g, rfl, h1, h2, h3⟩ := hr j d hj
  exact ⟨g, rfl, (World.ownsRow.lt h g rfl).1, h1, h2, h3⟩

theorem own_below {w w' : World} {base n : Nat} {e : TypeId} {size : Nat} {v : Value} {xs : List Value} (h : w.ownsRow base e size v n xs) (hb : Below w.heap.size w w') : w'.ownsRow base e size v n xs :=
  World.ownsRow.kept (row := none) h ⟨hb.os, hb.tape, hb.output, hb.size, fun k hk _ => hb.block k hk⟩ (by
    cases hv : v.ownBlock with
    | none => exact .inl rfl
    | some k => exact .inr (by simp))

theorem look_eq {f : FuncM} {ds : Defs} (h : formedM f = some ds) : (lookM f).1 = if unknownB ds (usesM f) then 6 else if unfitB ds (usesM f) then 3 else 0 := by
  unfold lookM
  rw [h]
  simp only
  split
  · rfl
  · split <;> rfl

set_option maxRecDepth 100000 in
set_option maxHeartbeats 16000000 in
theorem refCheck_yes (f : FuncM) (B : Nat) (pv bv : Value) (w : World) (hpv : Ints w B pv f.params) (hbv : BlocksR w B bv f.blocks) (hB : B ≤ w.heap.size) (hfr : formedR f = true) (hio : IdsOk f) :
    Calls Try.prog 14 #[.agg #[pv, .int .i64 f.arrays, .int .i64 f.cells, bv]] w fun e w' => e = .returned (.int .i64 (lookM f).1) ∧ Below w.heap.size w w' := by
  have HFORM := hideI (formed_yes hfr hio)
  obtain ⟨l1, l2, l3, l4, l5, l6, l7, l8⟩ := limits_bd (form_bd HFORM.out)
  have HFEW := hideI (form_fewv (form_bd HFORM.out))
  obtain ⟨i0, hi, hz0, hz1, hz2⟩ := info_parts int_info
  have HPV := hideI hpv
  have HBV := hideI hbv
  have HFR := hideI hfr
  have HIO := hideI hio
  obtain ⟨A, c, rfl, hbm, _⟩ := hbv
  obtain ⟨P, pc, rfl, hpm, _⟩ := hpv
  obtain ⟨vs, hvs⟩ : ∃ vs, vs = valuesM f := ⟨_, rfl⟩
  have HVS := hideI hvs
  obtain ⟨n, hn⟩ : ∃ n, n = vs.length := ⟨_, rfl⟩
  have HN := hideI hn
  have hn5 : n < 5000 := by rw [hn, hvs]; exact values_few HFEW.out
  have hbox0 := hideI (heap_alloc_new w (.cells #[.slice P f.params.length pc, .int .i64 f.arrays, .int .i64 f.cells, .slice A f.blocks.length c] 25))
  have HB0 : Hid (Below w.heap.size w (w.alloc (.cells #[.slice P f.params.length pc, .int .i64 f.arrays, .int .i64 f.cells, .slice A f.blocks.length c] 25))) := (Below.refl _ w).alloc (Nat.le_refl _) _
  obtain ⟨us, hus⟩ : ∃ us, us = usesM f := ⟨_, rfl⟩
  have HUS2 : Hid (f.blocks.flatMap usesBlock = us) := hus.symm
  have HUS := hideI hus
  obtain ⟨U, hU⟩ : ∃ U, U = us.length := ⟨_, rfl⟩
  have hU3 : U ≤ 3000000 := by rw [hU, hus]; exact form_few HFORM.out
  have HU := hideI hU
  clear hvs hn hfr hio l8 hus hU
  go_enter Try.func14, Try.ntmps14
  go_wp2_with (first
    | (go_at_call 32; refine (refFormed_any f B _ _ _ (HPV.out.keeps ((Keeps.refl w).alloc hB _)) (HBV.out.keeps ((Keeps.refl w).alloc hB _)) (by simp; omega)).mono ?_; rw [HFR.out]; rintro e w1 ⟨rfl, hb1⟩; have HBX1 := hideI ((hb1.block _ (lt_of_heap hbox0.out)).trans hbox0.out); have hx := row_cells HBX1.out rfl; have HB1 := hideI (HB0.out.trans (hb1.mono (by simp))); have HK1 := hideI (Keeps.mono' (Keeps.of_below HB1.out) hB); have hs1 : w.heap.size < w1.heap.size := lt_of_heap HBX1.out; clear hb1)
    | (go_at_call 33; refine (refIds_yes f B _ _ _ (HPV.out.keeps HK1.out) (HBV.out.keeps HK1.out) (Nat.le_trans hB (Nat.le_of_lt hs1)) HFEW.out l7 HIO.out).mono ?_; rintro e w2 ⟨v2, xs, rfl, hown2, hris, hperm, hb2⟩; have hxl : xs.length = n := (by rw [hperm.length_eq, List.length_map, HN.out, HVS.out]); obtain ⟨XA, xc, rfl, _⟩ := own_read hown2; rw [hxl]; have HINTS := hideI (ints_own hown2 (by omega)); rw [hxl] at HINTS; clear hx; have HBX2 := hideI ((hb2.block _ (lt_of_heap HBX1.out)).trans HBX1.out); have hx := row_cells HBX2.out rfl; have HB2 := hideI (HB1.out.trans (hb2.mono (Nat.le_of_lt hs1))); have HXL := hideI hxl; have HRIS := hideI hris; have HPERM := hideI hperm; have hs2 : w.heap.size < w2.heap.size := lt_of_heap HBX2.out; clear hown2 hris hperm hb2 hxl)
    | (at_make; refine wpList_make_full _ rfl _ _ 22 rfl w2.heap.size 3 i0 (.int .i64 0) 1 Try.underlying22 hi hz0 hz1 .i64 .i64 _ _ n rfl rfl rfl rfl (by rw [hz2]; omega) (by unfold maxLen; omega) (Nat.le_refl _) ?_; intro w3 hown3 hg3; have HOWN3 := hideI hown3; have HB3 := hideI (show Below w2.heap.size w2 w3 from ⟨hg3.os, hg3.tape, hg3.output, hg3.size, fun k hk => hg3.block k hk (by simp)⟩); clear hx; have HBX3 := hideI ((HB3.out.block _ hs2).trans HBX2.out); have hx := row_cells HBX3.out rfl; have HB3w := hideI (HB2.out.trans (HB3.out.mono (Nat.le_of_lt hs2))); have HK3 := hideI (Keeps.mono' (Keeps.of_below HB3w.out) hB); have hs3 : w2.heap.size < w3.heap.size := (World.ownsRow.lt hown3 _ rfl).2; clear hown3 hg3)
    | (go_at_call 34; refine (refValues_any f B _ _ _ (HPV.out.keeps HK3.out) (HBV.out.keeps HK3.out) (by omega) HFEW.out l7).mono ?_; rintro e w4 ⟨v4, rfl, hv4, hb4⟩; rw [← HVS.out] at hv4; obtain ⟨VA, vc, rfl, hvr⟩ := RV.read' hv4; rw [← HN.out]; have HVR := hideI hvr; have HB4 := hideI hb4; clear hb4 hv4 hvr hx))
  have HOWN4 : Hid (w4.ownsRow w2.heap.size 3 1 (.slice (some ⟨w2.heap.size, 0, none⟩) n n) n ((List.replicate n (0 : Int)).map (Value.int .i64))) := by
    have h := own_below HOWN3.out HB4.out
    rw [show (Value.int IntKind.i64 0).cells = #[Value.int IntKind.i64 0] from rfl, toList_madeCells_one, Nat.mul_one] at h
    show World.ownsRow _ _ _ _ _ _ _
    rw [List.map_replicate]
    exact h
  have hs4 : w3.heap.size ≤ w4.heap.size := HB4.out.size
  have HB4w := hideI (HB3w.out.trans (HB4.out.mono (by omega)))
  have HXI4 := hideI (HINTS.out.keeps (Keeps.of_below (HB3.out.trans (HB4.out.mono (Nat.le_of_lt hs3)))))
  have HBX4 := hideI ((HB4.out.block _ (by omega)).trans HBX3.out)
  go_loopw [7] (fun u wr => ∃ (k : Nat) (ts : List Int), k ≤ n ∧ u = .int .i64 k ∧ Hid (ts.length = n) ∧ Hid (TypesTo vs xs ts k) ∧ wr.ownsRow w2.heap.size 3 1 (.slice (some ⟨w2.heap.size, 0, none⟩) n n) n (ts.map (Value.int .i64)) ∧ w4.grownBy wr (some w2.heap.size)) (fun u _ => n - (intOf u).toNat)
  case atStart => exact ⟨0, List.replicate n 0, Nat.zero_le _, rfl, (by show (List.replicate n (0 : Int)).length = n; simp), (fun j i d hj => absurd hj (by omega)), HOWN4.out, World.grownBy.refl _ _⟩
  case round =>
    obtain ⟨k, ts, hk, rfl, htl, htt, hown, hgr⟩ := hrel
    have HOWN := hideI hown
    have HGR := hideI hgr
    clear hown hgr
    have HXIr := hideI (HXI4.out.keeps (Keeps.of_grown HGR.out (Nat.le_refl _) (by omega)))
    have HBXr := hideI ((HGR.out.block w.heap.size (by omega) (by simp; omega)).trans HBX4.out)
    by_cases hlt : k < n
    · obtain ⟨d, hd⟩ : ∃ d, vs[k]? = some d := ⟨_, List.getElem?_eq_getElem (by have := HN.out; omega)⟩
      obtain ⟨g, rfl, hg1, hg2, c0, c1⟩ := HVR.out k d hd
      have hgT : w2.heap.size ≠ g := by omega
      have d0 : wr.cell? ⟨g, k * 2, none⟩ = some (.int .i64 d.1) := (World.cell?_of_block (a := ⟨g, k * 2, none⟩) (HGR.out.block g hg2 (by simp; omega))).trans c0
      have d1 : wr.cell? ⟨g, k * 2 + 1, none⟩ = some (.int .i64 d.2) := (World.cell?_of_block (a := ⟨g, k * 2 + 1, none⟩) (HGR.out.block g hg2 (by simp; omega))).trans c1
      have hmem : d.1 ∈ xs := HPERM.out.symm.subset (by rw [← HVS.out]; exact List.mem_map_of_mem (List.mem_of_getElem? hd))
      obtain ⟨i, hix⟩ := List.getElem?_of_mem hmem
      have hil : i < n := by obtain ⟨h, _⟩ := List.getElem?_eq_some_iff.1 hix; have := HXL.out; omega
      obtain ⟨y, hy⟩ : ∃ y, ts[i]? = some y := ⟨_, List.getElem?_eq_getElem (by have := htl.out; omega)⟩
      have q1 : wr.cell? ⟨w2.heap.size, i, none⟩ = some (.int .i64 y) := by rw [World.ownsRow.cellAt HOWN.out i (by omega), List.getElem?_map, hy]; rfl
      have q2 : wr.frozen? ⟨w2.heap.size, i, none⟩ = false := World.ownsRow.frozenAt HOWN.out i
      have HD := hideI hd
      have HIX := hideI hix
      have hxl5 : xs.length ≤ 100000 := by have := HXL.out; omega
      clear hd c0 c1 hmem hix hy
      go_wp2_with fail
      go_region_held3 (fun w' => w'.cell? ⟨g, k * 2, none⟩ = some (.int .i64 d.1) ∧ w'.cell? ⟨g, k * 2 + 1, none⟩ = some (.int .i64 d.2)) (first | go_keep | (simp only [World.cell?_setCell_ne, *]; done))
        (first | (go_at_call 35; refine (find_is _ w2.heap.size _ xs d.1 i (HXIr.out.keeps (Keeps.heap' (Keeps.refl _) (by rfl))) HRIS.out hxl5 HIX.out).mono ?_; rintro e w9 ⟨rfl, rfl⟩))
      have HON : Hid ((wr.setCell ⟨w2.heap.size, i, none⟩ (.int .i64 d.2)).drew.ownsRow w2.heap.size 3 1 (.slice (some ⟨w2.heap.size, 0, none⟩) n n) n ((ts.set i d.2).map (Value.int .i64))) := by
        show World.ownsRow _ _ _ _ _ _ _
        rw [List.map_set]
        exact ((World.ownsRow.stored HOWN.out i _).1).drew
      have HGN : Hid (w4.grownBy (wr.setCell ⟨w2.heap.size, i, none⟩ (.int .i64 d.2)).drew (some w2.heap.size)) :=
        (HGR.out.trans_grown (World.ownsRow.stored HOWN.out i _).2).trans_grown ⟨rfl, rfl, rfl, Nat.le_refl _, fun _ _ _ => rfl⟩
      have HTN : Hid (TypesTo vs xs (ts.set i d.2) (k + 1)) := types_succ htt.out (by rw [HVS.out]; exact HIO.out.2) HRIS.out HD.out HIX.out (by have := htl.out; omega)
      clear d0 d1 q1 q2
      go_wp2
      go_roundw
      case rel => exact ⟨k + 1, ts.set i d.2, by omega, by go_num, (by show (ts.set i d.2).length = n; rw [List.length_set]; exact htl.out), HTN.out, HON.out, HGN.out⟩
      case measure => simp [intOf]; omega
    · have hkn : k = n := by omega
      have HTT : Hid (TypesTo vs xs ts vs.length) := by have := htt.out; rw [hkn, HN.out] at this; exact this
      have hx := row_cells HBXr.out rfl
      have HBr := hideI (show Below w2.heap.size w4 wr from ⟨HGR.out.os, HGR.out.tape, HGR.out.output, HGR.out.size, fun b hb => HGR.out.block b (by omega) (by simp; omega)⟩)
      have HBw := hideI (HB4w.out.trans (HBr.out.mono (by omega)))
      have HKr := hideI (Keeps.mono' (Keeps.of_below HBw.out) hB)
      have hsr : w.heap.size < wr.heap.size := lt_of_heap HBXr.out
      clear hkn
      go_wp2_with (go_at_call 36; refine (refUses_any f.blocks B _ _ _ _ _ (HBV.out.keeps HKr.out) (by omega) (form_few HFORM.out) l7 (form_form HFORM.out) (form_phi HFORM.out)).mono ?_; rintro e w5 ⟨v5, rfl, hv5, hb5⟩; rw [HUS2.out] at hv5; obtain ⟨UA, uc, rfl, hur⟩ := RU.read hv5; rw [← HU.out]; have HUR := hideI hur; have HB5 := hideI hb5; clear hv5 hur hb5 hx)
      have HT5 := hideI (own_below HOWN.out HB5.out)
      have HX5 := hideI (HXIr.out.keeps (Keeps.of_below (HB5.out.mono (by have := HBr.out.size; omega : w2.heap.size ≤ wr.heap.size))))
      have HF5 := hideI (HBw.out.trans (HB5.out.mono (Nat.le_of_lt hsr)))
      have hxl5 : xs.length ≤ 100000 := by have := HXL.out; omega
      have HLK : Hid ((lookM f).1 = if unknownB vs us then 6 else if unfitB vs us then 3 else 0) := by show _ = _; rw [HVS.out, HUS.out]; exact look_eq HFORM.out
      obtain ⟨wq, rfl⟩ : ∃ wq : World, wq = wr := ⟨_, rfl⟩
      go_loopw [9, 10] (fun o u wr => ∃ k m : Nat, k ≤ U ∧ u = .int .i64 k ∧ o = .int .i64 (errTo vs us k) ∧ Hid (∀ (j : Nat) (u : Int × Int), j < k → us[j]? = some u → (Defs.at vs u.1).isSome = true) ∧ wr = w5.drewN m) (fun _ u _ => U - (intOf u).toNat)
      case atStart => exact ⟨0, 0, Nat.zero_le _, rfl, by simp [errTo, unfitB], (fun j u hj => absurd hj (by omega)), rfl⟩
      case round =>
        obtain ⟨k2, m, hk2, rfl, rfl, hkn, rfl⟩ := hrel
        obtain ⟨er, her⟩ : ∃ er, er = errTo vs us k2 := ⟨_, rfl⟩
        rw [← her]
        have HER := hideI her
        clear her
        by_cases hlu : k2 < U
        · obtain ⟨u, hu⟩ : ∃ u, us[k2]? = some u := ⟨_, List.getElem?_eq_getElem (by have := HU.out; omega)⟩
          obtain ⟨g5, rfl, hg5, e0, e1⟩ := HUR.out k2 u hu
          have HUU := hideI hu
          clear hu
          cases hat : Defs.at vs u.1 with
          | none =>
            have HAT := hideI hat
            have hnx : u.1 ∉ xs := by
              intro hm
              have h1 := HPERM.out.subset hm
              rw [← HVS.out, ← at_some, hat] at h1
              cases h1
            have HRES : Hid ((lookM f).1 = 6) := by
              show _ = _
              rw [HLK.out, unknown_at HUU.out (by rw [HAT.out]; rfl)]
              rfl
            clear hat
            go_wp2_with (go_at_call 35; refine (find_not _ w2.heap.size _ xs u.1 (HX5.out.keeps (Keeps.heap' (Keeps.refl _) (by rfl))) HRIS.out hxl5 hnx).mono ?_; rintro e w9 ⟨rfl, rfl⟩)
            go_ret
            exact ⟨by rw [HRES.out]; rfl, drewN_below' HF5.out⟩
          | some t =>
            have HAT := hideI hat
            have hmv : (u.1, t) ∈ vs := at_mem hat
            have hm : u.1 ∈ xs := HPERM.out.symm.subset (by rw [← HVS.out]; exact List.mem_map.2 ⟨_, hmv, rfl⟩)
            obtain ⟨i, hix⟩ := List.getElem?_of_mem hm
            obtain ⟨j, hj⟩ := List.getElem?_of_mem (at_mem hat)
            have hjl : j < vs.length := (List.getElem?_eq_some_iff.1 hj).1
            have hti : ts[i]? = some t := HTT.out j i (u.1, t) hjl hj hix
            have hil : i < n := by obtain ⟨h, _⟩ := List.getElem?_eq_some_iff.1 hix; have := HXL.out; omega
            have q1 : w5.cell? ⟨w2.heap.size, i, none⟩ = some (.int .i64 t) := by rw [World.ownsRow.cellAt HT5.out i (by omega), List.getElem?_map, hti]; rfl
            have HIX := hideI hix
            have HKN : Hid (∀ (j : Nat) (u : Int × Int), j < k2 + 1 → us[j]? = some u → (Defs.at vs u.1).isSome = true) := by
              intro j u' hj hu'
              rcases Nat.lt_or_ge j k2 with h | h
              · exact hkn.out j u' h hu'
              · have : j = k2 := by omega
                subst this
                rw [HUU.out] at hu'
                injection hu' with hu'
                rw [← hu', HAT.out]
                rfl
            clear hat hm hmv hix hj hti
            have hcmp : (u.2 != 0) = false ∨ ((u.2 != 0) = true ∧ (u.2 != t) = false) ∨ ((u.2 != 0) = true ∧ (u.2 != t) = true) := by
              cases u.2 != 0 <;> cases u.2 != t <;> simp
            rcases hcmp with h1 | ⟨h1, h2⟩ | ⟨h1, h2⟩
            · have HE : Hid (errTo vs us (k2 + 1) = er) := by show _ = _; rw [HER.out]; exact err_keep HUU.out HAT.out (by rw [h1]; rfl)
              go_wp2_with (go_at_call 35; refine (find_is _ w2.heap.size _ xs u.1 i (HX5.out.keeps (Keeps.heap' (Keeps.refl _) (by rfl))) HRIS.out hxl5 HIX.out).mono ?_; rintro e w9 ⟨rfl, rfl⟩)
              go_quiet (fail)
              go_wp2
              go_roundw
              case rel => exact ⟨k2 + 1, _, by omega, by go_num, by rw [HE.out], HKN.out, rfl⟩
              case measure => simp [intOf]; omega
            · have HE : Hid (errTo vs us (k2 + 1) = er) := by
                show _ = _
                rw [HER.out]
                refine err_keep HUU.out HAT.out ?_
                rw [h1]
                have : u.2 = t := by simpa using h2
                simp [this]
              go_wp2_with (go_at_call 35; refine (find_is _ w2.heap.size _ xs u.1 i (HX5.out.keeps (Keeps.heap' (Keeps.refl _) (by rfl))) HRIS.out hxl5 HIX.out).mono ?_; rintro e w9 ⟨rfl, rfl⟩)
              go_quiet (fail)
              go_wp2
              go_roundw
              case rel => exact ⟨k2 + 1, _, by omega, by go_num, by rw [HE.out], HKN.out, rfl⟩
              case measure => simp [intOf]; omega
            · have HE : Hid (errTo vs us (k2 + 1) = 3) := by
                show _ = _
                refine err_set HUU.out HAT.out ?_
                rw [h1]
                have h3 : u.2 ≠ t := by simpa using h2
                simp
                exact fun h => h3 h.symm
              go_wp2_with (go_at_call 35; refine (find_is _ w2.heap.size _ xs u.1 i (HX5.out.keeps (Keeps.heap' (Keeps.refl _) (by rfl))) HRIS.out hxl5 HIX.out).mono ?_; rintro e w9 ⟨rfl, rfl⟩)
              go_quiet (fail)
              go_wp2
              go_roundw
              case rel => exact ⟨k2 + 1, _, by omega, by go_num, by rw [HE.out], HKN.out, rfl⟩
              case measure => simp [intOf]; omega
        · have HRES : Hid ((lookM f).1 = er) := by
            show _ = _
            have hun : unknownB vs us = false := by
              unfold unknownB
              rw [List.any_eq_false]
              intro u hu
              obtain ⟨j, hj⟩ := List.getElem?_of_mem hu
              have := hkn.out j u (by obtain ⟨h, _⟩ := List.getElem?_eq_some_iff.1 hj; have := HU.out; omega) hj
              simp [this]
            rw [HLK.out, HER.out, hun]
            unfold errTo
            rw [List.take_of_length_le (by have := HU.out; omega)]
            rfl
          go_wp2
          go_ret
          exact ⟨by rw [HRES.out]; rfl, drewN_below' HF5.out⟩

set_option maxRecDepth 100000 in
set_option maxHeartbeats 4000000 in
theorem refCheck_any (f : FuncM) (B : Nat) (pv bv : Value) (w : World) (hpv : Ints w B pv f.params) (hbv : BlocksR w B bv f.blocks) (hB : B ≤ w.heap.size) :
    Calls Try.prog 14 #[.agg #[pv, .int .i64 f.arrays, .int .i64 f.cells, bv]] w fun e w' => e = .returned (.int .i64 (lookM f).1) ∧ Below w.heap.size w w' := by
  by_cases hio : formedR f = true ∧ IdsOk f
  · exact refCheck_yes f B pv bv w hpv hbv hB hio.1 hio.2
  have hno : formedM f = none := by
    cases hfr : formedR f
    · exact formed_no hfr
    · exact formed_ids_no (fun h => hio ⟨hfr, h⟩)
  have hl : (lookM f).1 = 2 := by unfold lookM; rw [hno]
  rw [hl]
  have HPV := hideI hpv
  have HBV := hideI hbv
  obtain ⟨A, c, rfl, hbm, _⟩ := hbv
  obtain ⟨P, pc, rfl, hpm, _⟩ := hpv
  have hbox0 := hideI (heap_alloc_new w (.cells #[.slice P f.params.length pc, .int .i64 f.arrays, .int .i64 f.cells, .slice A f.blocks.length c] 25))
  have HB0 : Hid (Below w.heap.size w (w.alloc (.cells #[.slice P f.params.length pc, .int .i64 f.arrays, .int .i64 f.cells, .slice A f.blocks.length c] 25))) := (Below.refl _ w).alloc (Nat.le_refl _) _
  have HIO := hideI hio
  clear hio hno hl
  cases hfr : formedR f
  · have HFR := hideI hfr
    clear hfr
    go_enter Try.func14, Try.ntmps14
    go_wp2_with (go_at_call 32; refine (refFormed_any f B _ _ _ (HPV.out.keeps ((Keeps.refl w).alloc hB _)) (HBV.out.keeps ((Keeps.refl w).alloc hB _)) (by simp; omega)).mono ?_; rw [HFR.out]; rintro e w1 ⟨rfl, hb1⟩; have HB1 := hideI (HB0.out.trans (hb1.mono (by simp))); clear hb1)
    go_ret
    exact ⟨rfl, HB1.out⟩
  · have HFR := hideI hfr
    have hnio : ¬ IdsOk f := fun h => HIO.out ⟨hfr, h⟩
    have hlim : limitsB f = true := by
      cases h : limitsB f
      · rw [formedR_limits h] at hfr
        cases hfr
      · rfl
    obtain ⟨l1, l2, l3, l4, l5, l6, l7, l8⟩ := limits_bd hlim
    have HFEW := hideI (form_fewv hlim)
    clear hfr hlim l8
    go_enter Try.func14, Try.ntmps14
    go_wp2_with (first
      | (go_at_call 32; refine (refFormed_any f B _ _ _ (HPV.out.keeps ((Keeps.refl w).alloc hB _)) (HBV.out.keeps ((Keeps.refl w).alloc hB _)) (by simp; omega)).mono ?_; rw [HFR.out]; rintro e w1 ⟨rfl, hb1⟩; have HBX1 := hideI ((hb1.block _ (lt_of_heap hbox0.out)).trans hbox0.out); have hx := row_cells HBX1.out rfl; have HB1 := hideI (HB0.out.trans (hb1.mono (by simp))); have HK1 := hideI (Keeps.mono' (Keeps.of_below HB1.out) hB); have hs1 : w.heap.size < w1.heap.size := lt_of_heap HBX1.out; clear hb1)
      | (go_at_call 33; refine (refIds_no f B _ _ _ (HPV.out.keeps HK1.out) (HBV.out.keeps HK1.out) (Nat.le_trans hB (Nat.le_of_lt hs1)) HFEW.out l7 hnio).mono ?_; rintro e w2 ⟨rfl, hb2⟩; have HB2 := hideI (HB1.out.trans (hb2.mono (Nat.le_of_lt hs1))); clear hb2))
    go_ret
    exact ⟨rfl, HB2.out⟩

end Go.Proofs.Ytncmnbchkabgaaa
