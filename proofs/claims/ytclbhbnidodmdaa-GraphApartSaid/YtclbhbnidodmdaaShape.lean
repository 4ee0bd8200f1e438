/- The document's table of operations, as the reference package answers it: for every op. -/
import Derived.Test.YtclbhbnidodmdaaBase
import Derived.Test.YtclbhbnidodmdaaSpec
namespace Go.Proofs.Ytclbhbnidodmdaa
open Go.RowKit

def shapeV (op : Int) : Value := .tuple #[.string ⟨(shapeS op).1.toArray⟩, .int .i64 (shapeS op).2.1, .int .i64 (shapeS op).2.2.1, .bool (shapeS op).2.2.2]

theorem shape_a (op : Int) (w : World) (h : op = 1 ∨ op = 2 ∨ op = 3 ∨ op = 4 ∨ op = 5 ∨ op = 6 ∨ op = 7 ∨ op = 8 ∨ op = 9 ∨ op = 10 ∨ op = 11 ∨ op = 12 ∨ op = 13) :
    Calls Try.prog 69 #[.int .i64 op] w fun e w' => e = .returned (shapeV op) ∧ w = w' := by
  rcases h with rfl | rfl | rfl | rfl | rfl | rfl | rfl | rfl | rfl | rfl | rfl | rfl | rfl
  all_goals
    go_enter Try.func69, Try.ntmps69
    go_wp2
    refine bodyPost_ret (res4 rfl _ _ _) rfl ⟨?_, rfl⟩
    rfl

theorem shape_b (op : Int) (w : World) (h : op = 14 ∨ op = 15 ∨ op = 16 ∨ op = 17 ∨ op = 18 ∨ op = 19 ∨ op = 20 ∨ op = 21 ∨ op = 22 ∨ op = 23 ∨ op = 24 ∨ op = 25) :
    Calls Try.prog 69 #[.int .i64 op] w fun e w' => e = .returned (shapeV op) ∧ w = w' := by
  rcases h with rfl | rfl | rfl | rfl | rfl | rfl | rfl | rfl | rfl | rfl | rfl | rfl
  all_goals
    go_enter Try.func69, Try.ntmps69
    go_wp2
    refine bodyPost_ret (res4 rfl _ _ _) rfl ⟨?_, rfl⟩
    rfl

theorem shape_c (op : Int) (w : World) (h : op < 1 ∨ 25 < op) :
    Calls Try.prog 69 #[.int .i64 op] w fun e w' => e = .returned (shapeV op) ∧ w = w' := by
  have hs : shapeV op = .tuple #[.string ⟨#[]⟩, .int .i64 0, .int .i64 0, .bool false] := by unfold shapeV; rw [shapeS_none h]
  rw [hs]
  clear hs
  rcases h with h | h
  all_goals
    go_enter Try.func69, Try.ntmps69
    go_wp2
    refine bodyPost_ret (res4 rfl _ _ _) rfl ⟨?_, rfl⟩
    rfl

/-- Shape: the table's row. -/
theorem shape_any (op : Int) (w : World) :
    Calls Try.prog 69 #[.int .i64 op] w fun e w' => e = .returned (shapeV op) ∧ w = w' := by
  rcases op_cases op with h | h | h
  · exact shape_a op w h
  · exact shape_b op w h
  · exact shape_c op w h

end Go.Proofs.Ytclbhbnidodmdaa
