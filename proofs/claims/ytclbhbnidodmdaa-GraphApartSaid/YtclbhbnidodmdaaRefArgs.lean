/- The reference's Args: for every op. -/
import Derived.Test.YtclbhbnidodmdaaArgs
import Derived.Deep.AppendLies
namespace Go.Proofs.Ytclbhbnidodmdaa
open Go.RowKit

theorem int_info : (Try.prog.info? 3).map (fun i => (i.zero, i.size, i.bytes)) = some (some (.int .i64 0), 1, 8) := by kernel_rfl

def tyOf (c : UInt8) : Int := if c = 73 then 1 else 2

theorem takesS_eq (op : Int) : takesS op = (shapeS op).1.map tyOf := rfl

theorem take_tyOf (s : ByteArray) (k : Nat) (h : k < s.size) : (s.data.toList.take (k + 1)).map tyOf = (s.data.toList.take k).map tyOf ++ [tyOf s[k]] := by
  rw [List.take_succ_eq_append_getElem (by simpa using h), List.map_append]
  rfl

/-- the numbers of an owned row -/
theorem ints_own {w : World} {B n : Nat} {v : Value} {xs : List Int} (h : w.ownsRow B 3 1 v n (xs.map (Value.int .i64))) (hn : xs.length ≤ 140737488351232) : Ints w w.heap.size v xs := by
  have hl : n = xs.length := by have := h.1; simp at this; omega
  subst hl
  rcases Nat.eq_zero_or_pos xs.length with h0 | h0
  · rcases h.2 with ⟨rfl, _⟩ | ⟨g, cap, cur, rfl, _⟩
    · have : xs = [] := List.eq_nil_of_length_eq_zero h0
      subst this
      exact Ints.nil _ _
    · exact ⟨_, _, rfl, hn, fun k hk => by omega⟩
  · obtain ⟨g, cap, rfl, hb, hlt⟩ := h.form h0
    refine ⟨_, _, rfl, hn, fun k hk => ⟨g, 0, rfl, hlt, ?_⟩⟩
    rw [← Go.WideShapes.add_plain]
    exact h.cells (g := g) rfl k _ (by simp [hk])

theorem one_new (w : World) (x : Value) : ∀ (j : Nat) (u : Value), [x][j]? = some u → (w.alloc (.cells #[x] 3)).cell? ((⟨w.heap.size, 0, none⟩ : Addr).add j) = some u := by
  intro j u hu
  rcases j with _ | j
  · simp at hu
    subst hu
    rw [Go.WideShapes.add_plain, cell_of_row _ _ _ _ _ _ (heap_alloc_new w _)]
    rfl
  · simp at hu

theorem below_append {B : Nat} {w wr w1 : World} {o : Obj} {r : Option Nat} (hb : Below B w wr) (hg : (wr.alloc o).grownBy w1 r) (hr : ∀ g, r = some g → B ≤ g) (hB : B ≤ w.heap.size) : Below B w w1 :=
  (hb.alloc (Nat.le_trans hB hb.size) o).grown hg (by have := hb.size; simp; omega) hr

theorem byte_eq {c : UInt8} (h : ((c.toNat : Int) == 73) = true) : c = 73 := by
  have h1 : (c.toNat : Int) = 73 := by simpa using h
  apply UInt8.toNat_inj.1
  show c.toNat = 73
  omega

theorem byte_ne {c : UInt8} (h : ¬ ((c.toNat : Int) == 73) = true) : ¬ c = 73 := by
  rintro rfl
  exact h rfl

theorem newInts_own {w : World} {B n : Nat} {v : Value} {xs : List Int} (h : w.ownsRow B 3 1 v n (xs.map (Value.int .i64))) (hn : xs.length ≤ 140737488351232) : NewInts B w v xs := by
  have hl : n = xs.length := by have := h.1; simp at this; omega
  subst hl
  rcases h.2 with ⟨rfl, h0⟩ | ⟨g, cap, cur, rfl, hb, hg, hnc, hm, hs, ht⟩
  · have : xs = [] := List.eq_nil_of_length_eq_zero h0
    subst this
    exact NewInts.nil _ _
  · refine ⟨_, _, rfl, hn, fun _ => ⟨g, cur, rfl, hb, hg, fun k hk => ?_⟩⟩
    have h1 : (cur.toList.take (xs.length * 1))[k]? = some (.int .i64 (xs[k]?.getD 0)) := by rw [ht]; simp [hk]
    rw [List.getElem?_take] at h1
    split at h1
    · simpa using h1
    · cases h1

set_option maxHeartbeats 800000 in
theorem refArgs_core (op : Int) (w : World) (s : ByteArray) (mk nn : Int) (ok : Bool) (hs : s.size ≤ 3) (hS : ∀ W : World, Calls Try.prog 69 #[.int .i64 op] W fun e w' => e = .returned (.tuple #[.string s, .int .i64 mk, .int .i64 nn, .bool ok]) ∧ W = w') :
    Calls Try.prog 70 #[.int .i64 op] w fun e w' => ∃ v, e = .returned (.tuple #[.int .i64 mk, v, .bool ok]) ∧ w'.ownsRow w.heap.size 3 1 v s.size ((s.data.toList.map tyOf).map (Value.int .i64)) ∧ Below w.heap.size w w' := by
  obtain ⟨i0, hi, hz0, hz1, hz2⟩ := info_parts int_info
  have HS := hideI hS
  clear hS
  go_enter Try.func70, Try.ntmps70
  go_wp2_with (go_at_call 69; refine (HS.out _).mono ?_; rintro e w' ⟨rfl, rfl⟩)
  go_loopw [9, 10] (fun out i wr => ∃ k : Nat, k ≤ s.size ∧ i = .int .i64 k ∧ wr.ownsRow w.heap.size 3 1 out k (((s.data.toList.take k).map tyOf).map (Value.int .i64)) ∧ Below w.heap.size w wr) (fun _ i _ => s.size - (intOf i).toNat)
  case atStart => exact ⟨0, Nat.zero_le _, rfl, World.ownsRow_made w #[] 0 (Nat.le_refl _) (by decide) rfl, (Below.refl _ _).alloc (Nat.le_refl _) _⟩
  case round =>
    obtain ⟨k, hk, rfl, hown, hb⟩ := hrel
    by_cases hlt : k < s.size
    · have HT := hideI (take_tyOf s k hlt)
      by_cases hc : ((s[k].toNat : Int) == 73) = true
      · go_wp2_with (at_builtin; refine wpList_append_own _ rfl _ _ _ rfl w.heap.size 3 i0 (.int .i64 0) 1 8 Try.underlying22 hi hz0 hz1 hz2 rfl (by decide) _ _ _ rfl (hown.alloc _) ⟨wr.heap.size, 0, none⟩ 1 1 [.int .i64 1] rfl rfl (one_new wr _) (by simp [Value.oneCell']) (by simp only [maxLen]; omega) (by omega) (Nat.le_trans hb.size (by simp)) ?_; intro v1 w1 hown1 hgrow1 _)
        have hb1 : Below w.heap.size w w1 := below_append hb hgrow1 (fun g hg => ((hown.lt) g hg).1) (Nat.le_refl _)
        clear hgrow1
        go_roundw
        case rel => exact ⟨k + 1, by omega, by go_num, by rw [HT.out]; simpa [tyOf, byte_eq hc] using hown1, hb1⟩
        case measure => simp [intOf]; omega
      · go_wp2_with (at_builtin; refine wpList_append_own _ rfl _ _ _ rfl w.heap.size 3 i0 (.int .i64 0) 1 8 Try.underlying22 hi hz0 hz1 hz2 rfl (by decide) _ _ _ rfl (hown.alloc _) ⟨wr.heap.size, 0, none⟩ 1 1 [.int .i64 2] rfl rfl (one_new wr _) (by simp [Value.oneCell']) (by simp only [maxLen]; omega) (by omega) (Nat.le_trans hb.size (by simp)) ?_; intro v1 w1 hown1 hgrow1 _)
        have hb1 : Below w.heap.size w w1 := below_append hb hgrow1 (fun g hg => ((hown.lt) g hg).1) (Nat.le_refl _)
        clear hgrow1
        go_roundw
        case rel => exact ⟨k + 1, by omega, by go_num, by rw [HT.out]; simpa [tyOf, byte_ne hc] using hown1, hb1⟩
        case measure => simp [intOf]; omega
    · go_wp2
      go_ret3
      have hk' : k = s.size := by omega
      subst hk'
      refine ⟨_, rfl, ?_, hb⟩
      rw [List.take_of_length_le (by simp)] at hown
      exact hown

theorem shapeS_short (op : Int) : (shapeS op).1.length ≤ 3 := by
  rcases op_cases op with h | h | h
  · rcases h with rfl | rfl | rfl | rfl | rfl | rfl | rfl | rfl | rfl | rfl | rfl | rfl | rfl <;> decide
  · rcases h with rfl | rfl | rfl | rfl | rfl | rfl | rfl | rfl | rfl | rfl | rfl | rfl <;> decide
  · rw [shapeS_none h]; decide

/-- the reference's Args: the table's row. -/
theorem refArgs_any (op : Int) (w : World) : Calls Try.prog 70 #[.int .i64 op] w (ArgsPost op w) := by
  refine (refArgs_core op w ⟨(shapeS op).1.toArray⟩ (makesS op) (kindS op) (isOp op) (by simpa [ByteArray.size] using shapeS_short op) (fun W => shape_any op W)).mono ?_
  rintro e w' ⟨v, rfl, hown, hb⟩
  exact ⟨v, rfl, newInts_own hown (by have := shapeS_short op; unfold takesS; rw [List.length_map]; omega), hb⟩

end Go.Proofs.Ytclbhbnidodmdaa
