/- ir.Args and the reference's Args: for every op. -/
import Derived.Test.YtclbhbnidodmdaaShape
import Derived.Test.YtclbhbnidodmdaaInts
namespace Go.Proofs.Ytclbhbnidodmdaa
open Go.RowKit

/-- the slice value v holds the numbers xs, in a block of its own from B on -/
def NewInts (B : Nat) (w : World) (v : Value) (xs : List Int) : Prop :=
  ∃ A c, v = .slice A xs.length c ∧ xs.length ≤ 140737488351232 ∧ (0 < xs.length → ∃ g cs, A = some ⟨g, 0, none⟩ ∧ B ≤ g ∧ w.heap[g]? = some (.cells cs 3 (0, 0)) ∧ ∀ k, k < xs.length → cs[k]? = some (.int .i64 (xs[k]?.getD 0)))

theorem NewInts.ints {B : Nat} {w : World} {v : Value} {xs : List Int} (h : NewInts B w v xs) : Ints w w.heap.size v xs := by
  obtain ⟨A, c, rfl, hm, h⟩ := h
  refine ⟨A, c, rfl, hm, fun k hk => ?_⟩
  obtain ⟨g, cs, rfl, _, hg, hc⟩ := h (by omega)
  exact ⟨g, 0, rfl, (Array.getElem?_eq_some_iff.1 hg).1, by rw [cell_of_row w g (0 + k) cs 3 (0, 0) hg, Nat.zero_add]; exact hc k hk⟩

def ArgsPost (op : Int) (w : World) (e : Ending) (w' : World) : Prop :=
  ∃ v, e = .returned (.tuple #[.int .i64 (makesS op), v, .bool (isOp op)]) ∧ NewInts w.heap.size w' v (takesS op) ∧ Below w.heap.size w w'

theorem ints_new (w : World) (xs : List Int) (hl : xs.length ≤ 1000) :
    NewInts w.heap.size (w.alloc (.cells (xs.map (Value.int .i64)).toArray 3)) (.slice (some ⟨w.heap.size, 0, none⟩) xs.length xs.length) xs :=
  ⟨_, _, rfl, by omega, fun _ => ⟨w.heap.size, _, rfl, Nat.le_refl _, heap_alloc_new w _, fun k hk => by simp [hk]⟩⟩

theorem NewInts.nil (B : Nat) (w : World) : NewInts B w (.slice none 0 0) [] := ⟨none, 0, rfl, by simp, fun h => by simp at h⟩

theorem args_new (op : Int) (w w' : World) (xs : List Int) (m : Int) (b : Bool) (hx : xs = takesS op) (hm : m = makesS op) (hb : b = isOp op) (n : Nat) (hn : n = xs.length) (hl : n ≤ 1000) (cs : Array Value) (hcs : cs = (xs.map (Value.int .i64)).toArray)
    (hw : w.alloc (.cells cs 3) = w') : ArgsPost op w (.returned (.tuple #[.int .i64 m, .slice (some ⟨w.heap.size, 0, none⟩) n n, .bool b])) w' := by
  subst hx hm hb hn hcs hw
  exact ⟨_, rfl, ints_new w _ hl, (Below.refl _ _).alloc (Nat.le_refl _) _⟩

theorem args_nil (op : Int) (w : World) (m : Int) (b : Bool) (hx : [] = takesS op) (hm : m = makesS op) (hb : b = isOp op) : ArgsPost op w (.returned (.tuple #[.int .i64 m, .slice none 0 0, .bool b])) w := by
  subst hm hb
  exact ⟨_, rfl, hx ▸ NewInts.nil _ _, Below.refl _ _⟩

theorem irArgs_a (op : Int) (w : World) (h : op = 1 ∨ op = 2 ∨ op = 3 ∨ op = 4 ∨ op = 5 ∨ op = 6 ∨ op = 7 ∨ op = 8 ∨ op = 9 ∨ op = 10 ∨ op = 11 ∨ op = 12 ∨ op = 13) :
    Calls Try.prog 107 #[.int .i64 op] w (ArgsPost op w) := by
  rcases h with rfl | rfl | rfl | rfl | rfl | rfl | rfl | rfl | rfl | rfl | rfl | rfl | rfl
  all_goals
    go_enter Try.func107, Try.ntmps107
    go_wp2
    go_ret3
    first
      | exact args_nil _ _ _ _ rfl rfl rfl
      | exact args_new _ _ _ _ _ _ rfl rfl rfl _ rfl (by decide) _ rfl rfl

theorem irArgs_b (op : Int) (w : World) (h : op = 14 ∨ op = 15 ∨ op = 16 ∨ op = 17 ∨ op = 18 ∨ op = 19 ∨ op = 20 ∨ op = 21 ∨ op = 22 ∨ op = 23 ∨ op = 24 ∨ op = 25) :
    Calls Try.prog 107 #[.int .i64 op] w (ArgsPost op w) := by
  rcases h with rfl | rfl | rfl | rfl | rfl | rfl | rfl | rfl | rfl | rfl | rfl | rfl
  all_goals
    go_enter Try.func107, Try.ntmps107
    go_wp2
    go_ret3
    first
      | exact args_nil _ _ _ _ rfl rfl rfl
      | exact args_new _ _ _ _ _ _ rfl rfl rfl _ rfl (by decide) _ rfl rfl

theorem irArgs_c (op : Int) (w : World) (h : op < 1 ∨ 25 < op) :
    Calls Try.prog 107 #[.int .i64 op] w (ArgsPost op w) := by
  have H := hideI (shapeS_none h)
  rcases h with h | h
  all_goals
    go_enter Try.func107, Try.ntmps107
    go_wp2
    go_ret3
    exact args_nil _ _ _ _ (by unfold takesS; rw [H.out]; rfl) (by unfold makesS; rw [H.out]) (by unfold isOp; rw [H.out])

/-- ir.Args: the table's row. -/
theorem irArgs_any (op : Int) (w : World) : Calls Try.prog 107 #[.int .i64 op] w (ArgsPost op w) := by
  rcases op_cases op with h | h | h
  · exact irArgs_a op w h
  · exact irArgs_b op w h
  · exact irArgs_c op w h

end Go.Proofs.Ytclbhbnidodmdaa
