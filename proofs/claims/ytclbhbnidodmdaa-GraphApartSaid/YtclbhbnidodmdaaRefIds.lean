/- The reference's Ids: all values, rising; false where one stands twice, or is out of range. -/
import Derived.Test.YtclbhbnidodmdaaRefValues
import Derived.Deep.Onto
namespace Go.Proofs.Ytclbhbnidodmdaa
open Go.RowKit

/-- what is asked of the ids -/
def RangeTo (f : FuncM) (vs : List (Int × Int)) (k : Nat) : Prop := ∀ (j : Nat) (d : Int × Int), j < k → vs[j]? = some d → f.params.length ≤ j → (f.params.length : Int) ≤ d.1 ∧ d.1 < 1048576
def IdsOk (f : FuncM) : Prop := RangeTo f (valuesM f) (valuesM f).length ∧ ((valuesM f).map (·.1)).Nodup

def RefIdsPost (f : FuncM) (w : World) (e : Ending) (w' : World) : Prop :=
  Below w.heap.size w w' ∧ ((¬ IdsOk f ∧ e = .returned (.tuple #[.slice none 0 0, .bool false])) ∨
    (IdsOk f ∧ ∃ (v : Value) (xs : List Int), e = .returned (.tuple #[v, .bool true]) ∧ w'.ownsRow w.heap.size 3 1 v xs.length (xs.map (Value.int .i64)) ∧ xs.Pairwise (· < ·) ∧ xs.Perm ((valuesM f).map (·.1))))

theorem val_at (vs : List (Int × Int)) : ∀ (j : Nat) (d : Int × Int), vs[j]? = some d → (valCells vs)[j * 2]? = some (.int .i64 d.1) ∧ (valCells vs)[j * 2 + 1]? = some (.int .i64 d.2) := by
  induction vs with
  | nil => intro j d h; simp at h
  | cons a l ih =>
    intro j d h
    have hc : valCells (a :: l) = .int .i64 a.1 :: .int .i64 a.2 :: valCells l := rfl
    cases j with
    | zero => simp at h; subst h; rw [hc]; exact ⟨rfl, rfl⟩
    | succ j =>
      have := ih j d (by simpa using h)
      rw [hc, show (j + 1) * 2 = j * 2 + 1 + 1 by omega]
      simpa using this

theorem RV.read {w : World} {base : Nat} {v : Value} {vs : List (Int × Int)} (h : RV w base v vs) :
    ∃ A c, v = .slice A vs.length c ∧ ∀ (j : Nat) (d : Int × Int), vs[j]? = some d → ∃ g, A = some ⟨g, 0, none⟩ ∧ g < w.heap.size ∧ w.cell? ⟨g, j * 2, none⟩ = some (.int .i64 d.1) ∧ w.cell? ⟨g, j * 2 + 1, none⟩ = some (.int .i64 d.2) := by
  rcases Nat.eq_zero_or_pos vs.length with h0 | h0
  · have hv : vs = [] := List.eq_nil_of_length_eq_zero h0
    subst hv
    rcases h.2 with ⟨rfl, _⟩ | ⟨g, cap, cur, rfl, _⟩
    · exact ⟨_, _, rfl, by simp⟩
    · exact ⟨_, _, rfl, by simp⟩
  · obtain ⟨g, cap, rfl, hb, hlt⟩ := World.ownsRow.form h h0
    refine ⟨_, _, rfl, fun j d hj => ⟨g, rfl, hlt, ?_, ?_⟩⟩
    · obtain ⟨hjl, _⟩ := List.getElem?_eq_some_iff.1 hj
      rw [World.ownsRow.cellAt h (j * 2) (by omega)]
      exact (val_at vs j d hj).1
    · obtain ⟨hjl, _⟩ := List.getElem?_eq_some_iff.1 hj
      rw [World.ownsRow.cellAt h (j * 2 + 1) (by omega)]
      exact (val_at vs j d hj).2

/-- the call's own row of numbers, read -/
theorem own_read {w : World} {base : Nat} {v : Value} {xs : List Int} (h : w.ownsRow base 3 1 v xs.length (xs.map (Value.int .i64))) :
    ∃ A c, v = .slice A xs.length c ∧ ∀ (j : Nat) (x : Int), xs[j]? = some x → ∃ g, A = some ⟨g, 0, none⟩ ∧ w.cell? ⟨g, j, none⟩ = some (.int .i64 x) := by
  rcases Nat.eq_zero_or_pos xs.length with h0 | h0
  · have hv : xs = [] := List.eq_nil_of_length_eq_zero h0
    subst hv
    rcases h.2 with ⟨rfl, _⟩ | ⟨g, cap, cur, rfl, _⟩
    · exact ⟨_, _, rfl, by simp⟩
    · exact ⟨_, _, rfl, by simp⟩
  · obtain ⟨g, cap, rfl, hb, hlt⟩ := World.ownsRow.form h h0
    refine ⟨_, _, rfl, fun j x hj => ⟨g, rfl, ?_⟩⟩
    obtain ⟨hjl, _⟩ := List.getElem?_eq_some_iff.1 hj
    rw [World.ownsRow.cellAt h j (by omega), List.getElem?_map, hj]
    rfl

theorem ins_list {xs zs : List Int} {a : Nat} {id : Int} (ha : a ≤ xs.length) (hl : zs.length = xs.length + 1) (h1 : ∀ j, j < a → zs[j]? = xs[j]?) (h2 : ∀ j, a < j → zs[j]? = xs[j - 1]?) : zs.set a id = xs.take a ++ id :: xs.drop a := by
  apply List.ext_getElem?
  intro j
  rw [List.getElem?_set]
  rcases Nat.lt_trichotomy j a with h | h | h
  · rw [if_neg (by omega), h1 j h, List.getElem?_append_left (by simp; omega), List.getElem?_take, if_pos h]
  · subst h
    rw [if_pos rfl, if_pos (by omega), List.getElem?_append_right (by simp; omega)]
    simp [Nat.min_eq_left ha]
  · rw [if_neg (by omega), h2 j h, List.getElem?_append_right (by simp; omega)]
    have : j - (xs.take a).length = (j - 1 - a) + 1 := by simp; omega
    rw [this, List.getElem?_cons_succ, List.getElem?_drop]
    congr 1
    omega

theorem ins_rising {xs : List Int} {a : Nat} {id : Int} (hr : xs.Pairwise (· < ·)) (h1 : ∀ j x, j < a → xs[j]? = some x → x < id) (h2 : ∀ j x, a ≤ j → xs[j]? = some x → id < x) : (xs.take a ++ id :: xs.drop a).Pairwise (· < ·) := by
  have ht : ∀ x ∈ xs.take a, x < id := by
    intro x hx
    obtain ⟨i, hi⟩ := List.getElem?_of_mem hx
    rw [List.getElem?_take] at hi
    split at hi
    · exact h1 i x (by assumption) hi
    · cases hi
  have hd : ∀ x ∈ xs.drop a, id < x := by
    intro x hx
    obtain ⟨i, hi⟩ := List.getElem?_of_mem hx
    rw [List.getElem?_drop] at hi
    exact h2 _ x (by omega) hi
  rw [List.pairwise_append]
  refine ⟨hr.sublist (List.take_sublist ..), ?_, ?_⟩
  · rw [List.pairwise_cons]
    exact ⟨hd, hr.sublist (List.drop_sublist ..)⟩
  · intro x hx y hy
    have h3 := ht x hx
    rcases List.mem_cons.1 hy with rfl | hy
    · exact h3
    · have := hd y hy
      omega

theorem ins_perm {xs l : List Int} {a : Nat} {id : Int} (h : xs.Perm l) : (xs.take a ++ id :: xs.drop a).Perm (l ++ [id]) := by
  have h1 : (xs.take a ++ id :: xs.drop a).Perm (id :: (xs.take a ++ xs.drop a)) := List.perm_middle
  rw [List.take_append_drop] at h1
  exact (h1.trans (h.cons id)).trans (List.perm_append_singleton id l).symm

theorem fst_take {vs : List (Int × Int)} {k : Nat} {d : Int × Int} (h : vs[k]? = some d) : (vs.take (k + 1)).map (·.1) = (vs.take k).map (·.1) ++ [d.1] := by
  obtain ⟨hk, rfl⟩ := List.getElem?_eq_some_iff.1 h
  rw [List.take_succ_eq_append_getElem hk, List.map_append]
  rfl

theorem fst_twice {vs : List (Int × Int)} {k : Nat} {d : Int × Int} (h : vs[k]? = some d) (hm : d.1 ∈ (vs.take k).map (·.1)) : ¬ (vs.map (·.1)).Nodup := by
  intro hn
  have h2 : ((vs.take (k + 1)).map (·.1)).Nodup := hn.sublist ((List.take_sublist ..).map _)
  rw [fst_take h, List.nodup_append] at h2
  exact h2.2.2 _ hm d.1 (by simp) rfl

theorem rangeTo_succ {f : FuncM} {vs : List (Int × Int)} {k : Nat} {d : Int × Int} (h : RangeTo f vs k) (hd : vs[k]? = some d) (hr : f.params.length ≤ k → (f.params.length : Int) ≤ d.1 ∧ d.1 < 1048576) : RangeTo f vs (k + 1) := by
  intro j e hj he hp
  rcases Nat.lt_or_ge j k with hjk | hjk
  · exact h j e hjk he hp
  · have : j = k := by omega
    subst this
    rw [hd] at he
    injection he with he
    subst he
    exact hr hp

theorem range_no {f : FuncM} {k : Nat} {d : Int × Int} (hd : (valuesM f)[k]? = some d) (hp : f.params.length ≤ k) (h : d.1 < f.params.length ∨ 1048576 ≤ d.1) : ¬ IdsOk f := by
  intro ho
  obtain ⟨hk, _⟩ := List.getElem?_eq_some_iff.1 hd
  have := ho.1 k d hk hd hp
  omega

theorem values_few {f : FuncM} (h : FewV f) : (valuesM f).length < 5000 := by
  have h1 := h.1
  have h2 := h.2
  have h3 := values_len f.blocks
  unfold sizeM at h2
  unfold valuesM
  rw [List.length_append, paramDefs_len]
  omega

theorem grown_below {w w' : World} {o : Obj} {base n : Nat} {e : TypeId} {size : Nat} {v : Value} {xs : List Value} (hg : (w.alloc o).grownBy w' v.ownBlock) (ho : w.ownsRow base e size v n xs) (hb : base ≤ w.heap.size) : Below base w w' :=
  ((Below.refl base w).alloc hb o).grown hg (by simp; omega) (fun g hgg => (ho.lt g hgg).1)

theorem below_stored {B g j : Nat} {w w' : World} {u : Value} (h : Below B w w') (hg : B ≤ g) : Below B w (w'.setCell ⟨g, j, none⟩ u) := h.setCell hg u

set_option maxRecDepth 100000 in
set_option maxHeartbeats 16000000 in
theorem refIds_any (f : FuncM) (B : Nat) (pv bv : Value) (w : World) (hpv : Ints w B pv f.params) (hbv : BlocksR w B bv f.blocks) (hB : B ≤ w.heap.size) (hfew : FewV f) (hl5 : f.blocks.length ≤ 512) :
    Calls Try.prog 41 #[.agg #[pv, .int .i64 f.arrays, .int .i64 f.cells, bv]] w (RefIdsPost f w) := by
  obtain ⟨i0, hi, hz0, hz1, hz2⟩ := info_parts int_info
  have HPV := hideI hpv
  have HBV := hideI hbv
  have HFEW := hideI hfew
  have hvn := values_few hfew
  obtain ⟨A, c, rfl, hbm, _⟩ := hbv
  obtain ⟨P, pc, rfl, hpm, _⟩ := hpv
  obtain ⟨np, hnp⟩ : ∃ np, np = f.params.length := ⟨_, rfl⟩
  have hn16 : np ≤ 16 := by rw [hnp]; exact hfew.1
  have HNP := hideI hnp
  have hbox0 := hideI (heap_alloc_new w (.cells #[.slice P f.params.length pc, .int .i64 f.arrays, .int .i64 f.cells, .slice A f.blocks.length c] 25))
  have HB0 : Hid (Below w.heap.size w (w.alloc (.cells #[.slice P f.params.length pc, .int .i64 f.arrays, .int .i64 f.cells, .slice A f.blocks.length c] 25))) := (Below.refl _ w).alloc (Nat.le_refl _) _
  clear hfew hnp
  go_enter Try.func41, Try.ntmps41
  go_wp2_with (go_at_call 42; refine (refValues_any f B _ _ _ (HPV.out.keeps ((Keeps.refl w).alloc hB _)) (HBV.out.keeps ((Keeps.refl w).alloc hB _)) (by simp; omega) HFEW.out hl5).mono ?_; rintro e w1 ⟨v1, rfl, hv1, hb1⟩; obtain ⟨VA, vc, rfl, hvr⟩ := RV.read hv1; have HVR := hideI hvr; have HBX := hideI ((hb1.block _ (lt_of_heap hbox0.out)).trans hbox0.out); have HB1 := hideI (HB0.out.trans (hb1.mono (by simp))); clear hb1 hv1 hvr)
  obtain ⟨vs, hvs⟩ : ∃ vs, vs = valuesM f := ⟨_, rfl⟩
  rw [← hvs] at hvn HVR
  rw [← hvs]
  rw [← HNP.out] at HBX
  have HVS := hideI hvs
  clear hvs
  have hszb : w.heap.size < w1.heap.size := lt_of_heap HBX.out
  have hR0 : Hid ((w1.alloc (.cells #[] 3)).ownsRow w1.heap.size 3 1 (.slice (some ⟨w1.heap.size, 0, none⟩) 0 0) 0 []) := World.ownsRow_made (base := w1.heap.size) (e := 3) (size := 1) w1 #[] 0 (Nat.le_refl _) (by decide) rfl
  have hBe0 : Hid (Below w1.heap.size w1 (w1.alloc (.cells #[] 3))) := (Below.refl _ _).alloc (Nat.le_refl _) _
  go_loopw [5, 6] (fun o i wr => ∃ (k : Nat) (xs : List Int), k ≤ vs.length ∧ i = .int .i64 k ∧ Hid (xs.length = k) ∧ wr.ownsRow w1.heap.size 3 1 o xs.length (xs.map (Value.int .i64)) ∧ Hid (xs.Pairwise (· < ·)) ∧ Hid (xs.Perm ((vs.take k).map (·.1))) ∧ Hid (RangeTo f vs k) ∧ Below w1.heap.size w1 wr) (fun _ i _ => vs.length - (intOf i).toNat)
  case atStart => exact ⟨0, [], Nat.zero_le _, rfl, rfl, hR0.out, List.Pairwise.nil, List.Perm.refl _, (fun j d hj => absurd hj (by omega)), hBe0.out⟩
  case round =>
    obtain ⟨k, xs, hk, rfl, hxl, hown, hris, hperm, hrng, hbe⟩ := hrel
    have HBE := hideI hbe
    obtain ⟨OA, oc, rfl, hord⟩ := own_read hown
    have HORD := hideI hord
    have HBXr := hideI ((hbe.block _ hszb).trans HBX.out)
    have hx := row_cells HBXr.out rfl
    have hszr : w1.heap.size ≤ wr.heap.size := hbe.size
    have hnl : xs.length ≤ vs.length := by have := hxl.out; omega
    obtain ⟨n, hn⟩ : ∃ n, n = xs.length := ⟨_, rfl⟩
    rw [← hn] at hnl
    rw [← hn] at hown
    rw [← hn]
    have HOWN := hideI hown
    have HN := hideI hn
    clear hown hbe hord hn
    by_cases hlt : k < vs.length
    · obtain ⟨d, hd⟩ : ∃ d, vs[k]? = some d := ⟨_, List.getElem?_eq_getElem hlt⟩
      obtain ⟨g, rfl, hg, c0, c1⟩ := HVR.out k d hd
      have d0 := ((Keeps.of_below HBE.out) g (k * 2) hg).trans c0
      have HD := hideI hd
      obtain ⟨id, hid⟩ : ∃ id, id = d.1 := ⟨_, rfl⟩
      rw [← hid] at d0
      have HID := hideI hid
      clear hd hid c0 c1
      have hcase : (decide (np ≤ k) = false ∨ (decide (np ≤ k) = true ∧ decide (id < np) = false ∧ decide (1048576 ≤ id) = false)) ∨ ((decide (np ≤ k) = true ∧ decide (id < np) = true) ∨ (decide (np ≤ k) = true ∧ decide (id < np) = false ∧ decide (1048576 ≤ id) = true)) := by
        by_cases h1 : np ≤ k <;> by_cases h2 : id < np <;> by_cases h3 : 1048576 ≤ id <;> simp [h1, h2, h3]
      rcases hcase with hgo | hno
      · have HRNG : Hid (RangeTo f vs (k + 1)) := by
          refine rangeTo_succ hrng.out HD.out (fun hp => ?_)
          rw [← HNP.out] at hp ⊢
          rw [← HID.out]
          rcases hgo with h | ⟨h, h2, h3⟩
          · exact absurd hp (of_decide_eq_false h)
          · have := of_decide_eq_false h2
            have := of_decide_eq_false h3
            omega
        rcases hgo with h1 | ⟨h1, h2, h3⟩
        all_goals
          go_wp2
          go_loopw [8] (fun u wr' => ∃ (z : Int) (a : Nat), a ≤ n ∧ u = .int .i64 z ∧ Hid (z = a) ∧ Hid (∀ (j : Nat) (x : Int), a ≤ j → xs[j]? = some x → id < x) ∧ wr' = wr) (fun u _ => (intOf u).toNat)
          case atStart => exact ⟨n, n, Nat.le_refl _, rfl, rfl, (fun j x hj hx => by obtain ⟨h, _⟩ := List.getElem?_eq_some_iff.1 hx; have := HN.out; omega), rfl⟩
          case round =>
            obtain ⟨z, a, ha, rfl, hza, hup, rfl⟩ := hrel
            have hrest : (decide (0 < z) = false ∨ ∃ (x : Int), decide (0 < z) = true ∧ xs[a - 1]? = some x ∧ decide (id < x) = false ∧ (x == id) = false) ∨ (∃ (x : Int), decide (0 < z) = true ∧ xs[a - 1]? = some x ∧ (decide (id < x) = true ∨ (decide (id < x) = false ∧ (x == id) = true))) := by
              have hza' := hza.out
              by_cases h0 : a = 0
              · exact .inl (.inl (by simp; omega))
              · have hxx : xs[a - 1]? = some (xs[a - 1]'(by have := HN.out; omega)) := List.getElem?_eq_getElem _
                have hz0 : decide (0 < z) = true := by simp; omega
                rcases Int.lt_trichotomy id (xs[a - 1]'(by have := HN.out; omega)) with h | h | h
                · exact .inr ⟨_, hz0, hxx, .inl (by simpa using h)⟩
                · exact .inr ⟨_, hz0, hxx, .inr ⟨by simp; omega, by simp; omega⟩⟩
                · exact .inl (.inr ⟨_, hz0, hxx, by simp; omega, by simp; omega⟩)
            rcases hrest with hins | ⟨x, zq1, hxx, hcmp⟩
            · have HLOW : Hid (∀ (j : Nat) (y : Int), j < a → xs[j]? = some y → y < id) := by
                intro j y hj hy
                rcases hins with h | ⟨x, h1, h2, h3, h4⟩
                · have h' := of_decide_eq_false h
                  have := hza.out
                  omega
                · have hxid : x < id := by
                    have h5 := of_decide_eq_false h3
                    have h6 : x ≠ id := by simpa using h4
                    omega
                  obtain ⟨e1, e2⟩ := List.getElem?_eq_some_iff.1 hy
                  obtain ⟨e3, e4⟩ := List.getElem?_eq_some_iff.1 h2
                  rcases Nat.lt_or_ge j (a - 1) with hja | hja
                  · have := List.pairwise_iff_getElem.1 hris.out j (a - 1) e1 e3 hja
                    omega
                  · have : j = a - 1 := by omega
                    subst this
                    omega
              have hzn : z.toNat = a := by have := hza.out; omega
              have hz00 : 0 ≤ z := by have := hza.out; omega
              have hown := HOWN.out
              have hnm : n < 5000 := by omega
              rcases hins with h4 | ⟨x, zq1, hxx, h5, h6⟩
              rotate_left
              obtain ⟨g2, rfl, hgx⟩ := HORD.out (a - 1) x hxx
              have zq2 : 1 ≤ z := of_decide_eq_true zq1
              have zq3 : z - 1 < (n : Int) := by have := hza.out; omega
              have zq4 : (z - 1).toNat = a - 1 := by have := hza.out; omega
              have zq5 : z.toNat - 1 = a - 1 := by have := hza.out; omega
              have zq6 : IntKind.i64.wrap (z - 1) = z - 1 := IntWalk.i64_in _ (by have := hza.out; omega)
              clear hxx
              rotate_right
              all_goals
                go_wp2_with (at_builtin; refine wpList_append_lies _ rfl _ _ _ rfl w1.heap.size 3 i0 _ 1 8 Try.underlying22 hi hz0 hz1 hz2 rfl (by decide) _ _ _ rfl (hown.alloc _) ⟨wr.heap.size, 0, none⟩ 1 1 [.int .i64 0] rfl rfl (one_new _ _) (by simp [Value.oneCell']) (by decide) (by unfold maxLen; omega) (by omega) (by simp; omega) _ rfl ?_; intro g1 cap1 w4 hown1 hgrow1 hor hgl1; have HO4 := hideI hown1; have HG4 := hideI hgrow1; clear hown1 hgrow1 hor)
                have HB4 : Hid (Below w1.heap.size w1 w4) := HBE.out.trans (grown_below HG4.out HOWN.out hszr)
                have HO5 : Hid (w4.ownsRow w1.heap.size 3 1 (.slice (some ⟨g1, 0, none⟩) (n + 1) cap1) (n + 1) ((xs ++ [0]).map (Value.int .i64))) := by have := HO4.out; show World.ownsRow _ _ _ _ _ _ _; rw [List.map_append]; exact this
                have hg1 : w1.heap.size ≤ g1 := (World.ownsRow.lt HO5.out g1 rfl).1
                clear hown
                go_loopw [9] (fun u wr' => ∃ (m : Nat) (zs : List Int), a ≤ m ∧ m ≤ n ∧ u = .int .i64 m ∧ Hid (zs.length = n + 1) ∧ Hid (∀ j, j < m → zs[j]? = xs[j]?) ∧ Hid (∀ j, m < j → zs[j]? = xs[j - 1]?) ∧ wr'.ownsRow w1.heap.size 3 1 (.slice (some ⟨g1, 0, none⟩) (n + 1) cap1) (n + 1) (zs.map (Value.int .i64)) ∧ Below w1.heap.size w1 wr') (fun u _ => (intOf u).toNat)
                case atStart =>
                  refine ⟨n, xs ++ [0], ha, Nat.le_refl _, by go_num, (by show (xs ++ [0]).length = n + 1; rw [HN.out]; simp), (fun j hj => List.getElem?_append_left (by have := HN.out; omega)), ?_, HO5.out, HB4.out⟩
                  intro j hj
                  have := HN.out
                  rw [List.getElem?_eq_none (by simp; omega), List.getElem?_eq_none (by omega)]
                case round =>
                  obtain ⟨m, zs, ham, hmn, rfl, hzl, hzlow, hzup, hown6, hb6⟩ := hrel
                  have HO6 := hideI hown6
                  have HB6 := hideI hb6
                  clear hown6 hb6
                  by_cases hma : a < m
                  · obtain ⟨m', rfl⟩ : ∃ m', m = m' + 1 := ⟨m - 1, by omega⟩
                    have hzm : decide (z < (m' : Int) + 1) = true := by have := hza.out; simp; omega
                    obtain ⟨y, hy⟩ : ∃ y, zs[m']? = some y := ⟨_, List.getElem?_eq_getElem (by have := hzl.out; omega)⟩
                    have q1 : wr.cell? ⟨g1, m', none⟩ = some (.int .i64 y) := by rw [World.ownsRow.cellAt HO6.out m' (by omega), List.getElem?_map, hy]; rfl
                    obtain ⟨y2, hy2⟩ : ∃ y, zs[m' + 1]? = some y := ⟨_, List.getElem?_eq_getElem (by have := hzl.out; omega)⟩
                    have q2 : wr.cell? ⟨g1, m' + 1, none⟩ = some (.int .i64 y2) := by rw [World.ownsRow.cellAt HO6.out (m' + 1) (by omega), List.getElem?_map, hy2]; rfl
                    have q3 : wr.frozen? ⟨g1, m' + 1, none⟩ = false := World.ownsRow.frozenAt HO6.out (m' + 1)
                    have HY := hideI hy
                    clear hy hy2
                    go_wp2
                    go_roundw
                    case rel =>
                      refine ⟨m', zs.set (m' + 1) y, by omega, by omega, rfl, by have := hzl.out; show (zs.set (m' + 1) y).length = n + 1; rw [List.length_set]; exact this, ?_, ?_, ?_, below_stored HB6.out hg1⟩
                      · intro j hj
                        rw [List.getElem?_set_ne (by omega)]
                        exact hzlow.out j (by omega)
                      · intro j hj
                        by_cases hj1 : j = m' + 1
                        · subst hj1
                          rw [List.getElem?_set_self (by have := hzl.out; omega), Nat.add_sub_cancel, ← hzlow.out m' (by omega)]
                          exact HY.out.symm
                        · rw [List.getElem?_set_ne (by omega)]
                          exact hzup.out j (by omega)
                      · rw [List.map_set]
                        exact (World.ownsRow.stored HO6.out (m' + 1) _).1
                    case measure => simp [intOf]
                  · have hmz : decide (z < (m : Int)) = false := by have := hza.out; simp; omega
                    have hme : m = a := by omega
                    obtain ⟨y2, hy2⟩ : ∃ y, zs[a]? = some y := ⟨_, List.getElem?_eq_getElem (by have := hzl.out; omega)⟩
                    have q2 : wr.cell? ⟨g1, a, none⟩ = some (.int .i64 y2) := by rw [World.ownsRow.cellAt HO6.out a (by omega), List.getElem?_map, hy2]; rfl
                    have q3 : wr.frozen? ⟨g1, a, none⟩ = false := World.ownsRow.frozenAt HO6.out a
                    have hzn2 : z < (n : Int) + 1 := by have := hza.out; omega
                    have hlow' := hzlow.out
                    have hup' := hzup.out
                    rw [hme] at hlow' hup'
                    have HIL : Hid (zs.set a id = xs.take a ++ id :: xs.drop a) := ins_list (by have := HN.out; omega) (by have := hzl.out; have := HN.out; omega) hlow' hup'
                    have HST := hideI (World.ownsRow.stored HO6.out a (.int .i64 id)).1
                    clear hlow' hup' hy2 hme
                    go_wp2
                    go_roundw
                    case rel =>
                      have hl2 : (xs.take a ++ id :: xs.drop a).length = n + 1 := by rw [← HIL.out, List.length_set]; exact hzl.out
                      refine ⟨k + 1, xs.take a ++ id :: xs.drop a, by omega, by go_num, ?_, ?_, ins_rising hris.out HLOW.out hup.out, ?_, HRNG.out, below_stored HB6.out hg1⟩
                      · show _ = k + 1
                        rw [hl2]
                        have := hxl.out
                        have := HN.out
                        omega
                      · rw [hl2, ← HIL.out, List.map_set]
                        exact HST.out
                      · show List.Perm _ _
                        rw [fst_take HD.out, ← HID.out]
                        exact ins_perm hperm.out
                    case measure => simp [intOf]; omega
            · obtain ⟨g2, rfl, hgx⟩ := HORD.out (a - 1) x hxx
              have HXX := hideI hxx
              have zq2 : 1 ≤ z := of_decide_eq_true zq1
              have zq3 : z - 1 < (n : Int) := by have := hza.out; omega
              have zq4 : (z - 1).toNat = a - 1 := by have := hza.out; omega
              have zq5 : z.toNat - 1 = a - 1 := by have := hza.out; omega
              have zq6 : IntKind.i64.wrap (z - 1) = z - 1 := IntWalk.i64_in _ (by have := hza.out; omega)
              clear hxx
              rcases hcmp with h4 | ⟨h4, h5⟩
              · go_wp2
                go_roundw
                case rel =>
                  refine ⟨z - 1, a - 1, by omega, rfl, (show z - 1 = ((a - 1 : Nat) : Int) by have := hza.out; omega), ?_, trivial⟩
                  intro j y hj hy
                  rcases Nat.lt_or_ge j a with hja | hja
                  · have hja' : j = a - 1 := by omega
                    rw [hja', HXX.out] at hy
                    injection hy with hy
                    subst hy
                    exact of_decide_eq_true h4
                  · exact hup.out j y hja hy
                case measure => simp [intOf]; omega
              · have HNO : Hid (¬ IdsOk f) := by
                  intro ho
                  refine fst_twice HD.out ?_ (by rw [HVS.out]; exact ho.2)
                  rw [← HID.out]
                  have hxi : x = id := by simpa using h5
                  rw [← hxi]
                  exact hperm.out.subset (List.mem_of_getElem? HXX.out)
                go_wp2
                go_ret2
                exact ⟨HB1.out.trans (HBE.out.mono (by omega)), .inl ⟨HNO.out, rfl⟩⟩
      · have HNO : Hid (¬ IdsOk f) := by
          refine range_no (k := k) (by rw [← HVS.out]; exact HD.out) ?_ ?_
          · rw [← HNP.out]
            rcases hno with ⟨h, _⟩ | ⟨h, _⟩ <;> exact of_decide_eq_true h
          · rw [← HNP.out, ← HID.out]
            rcases hno with ⟨_, h⟩ | ⟨_, _, h⟩
            · exact .inl (of_decide_eq_true h)
            · exact .inr (of_decide_eq_true h)
        rcases hno with ⟨h1, h2⟩ | ⟨h1, h2, h3⟩
        all_goals
          go_wp2
          go_ret2
          exact ⟨HB1.out.trans (HBE.out.mono (by omega)), .inl ⟨HNO.out, rfl⟩⟩
    · go_wp2
      go_ret2
      have hkv : k = vs.length := by omega
      have hpf : xs.Perm (vs.map (·.1)) := by have := hperm.out; rw [List.take_of_length_le (by omega)] at this; exact this
      refine ⟨HB1.out.trans (HBE.out.mono (by omega)), .inr ⟨⟨?_, ?_⟩, _, xs, rfl, ?_, hris.out, ?_⟩⟩
      · have := hrng.out
        rw [hkv] at this
        rw [← HVS.out]
        exact this
      · rw [← HVS.out]
        refine hpf.nodup_iff.1 (hris.out.imp ?_)
        intro a b hab
        omega
      · rw [← HN.out]
        exact World.ownsRow.mono HOWN.out (Nat.le_of_lt hszb)
      · rw [← HVS.out]
        exact hpf

end Go.Proofs.Ytclbhbnidodmdaa
