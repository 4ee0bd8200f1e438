/- formedTerm: a block's end is formed. -/
import Derived.Test.YtclbhbnidodmdaaInstr
namespace Go.Proofs.Ytclbhbnidodmdaa
open Go.RowKit Go.Maps

theorem says_box2 {b b' : Bool} {w w1 : World} {o o2 : Obj} (h : b = b') (hb : Below ((w.alloc o).alloc o2).heap.size ((w.alloc o).alloc o2) w1) : Says b' w (.returned (.bool b)) w1 := by
  subst h
  exact ⟨rfl, ((((Below.refl _ _).alloc (Nat.le_refl _) _).alloc (by simp) _)).trans (hb.mono (by simp; omega))⟩

theorem termB_no {f : FuncM} {t : TermM} (h : targetsB f.blocks.length t.to = false) : termB f t = false := by
  unfold termB
  rw [h]
  rfl

def endB (t : TermM) : Bool :=
  if t.op = 1 then t.to.length == 1 && (t.val == -1 && t.n == 0) else
  if t.op = 2 then t.to.length == 2 && t.n == 0 else
  if t.op = 3 then t.to.length == 0 && t.n == 0 else
  if t.op = 4 then t.to.length == 0 && (t.val == -1 && decide (0 ≤ t.n)) else false

theorem termB_yes {f : FuncM} {t : TermM} (h : targetsB f.blocks.length t.to = true) : termB f t = endB t := by
  unfold termB
  rw [h]
  rfl

theorem len_is {l : List Int} {k : Nat} : ((l.length : Int) == (k : Int)) = (l.length == k) := by
  rw [Bool.eq_iff_iff]
  simp
  omega

set_option maxHeartbeats 1000000 in
theorem term_any (f : FuncM) (t : TermM) (P A : Option Addr) (pc c : Nat) (mv tv : Value) (w : World) (htv : Ints w w.heap.size tv t.to) (h1 : 1 ≤ f.blocks.length) (h2 : f.blocks.length ≤ 512) :
    Calls Try.prog 106 #[.agg #[.slice P f.params.length pc, .int .i64 f.arrays, .int .i64 f.cells, .slice A f.blocks.length c, mv], .agg #[.int .i64 t.op, .int .i64 t.val, tv, .int .i64 t.n]] w (Says (termB f t) w) := by
  have HV := hideI htv
  obtain ⟨TA, tc, hvv, hvm, _⟩ := htv
  subst hvv
  cases c1 : targetsB f.blocks.length t.to
  · have HC := hideI c1
    go_enter Try.func106, Try.ntmps106
    go_wp2_with (go_at_call 111; refine (areTargets_any _ _ _ _ _ _ _ _ _ _ (((HV.out.alloc (Nat.le_refl _) _).alloc (by simp) _).more (by simp; omega)) h1 h2).mono ?_; rintro e w1 ⟨rfl, hb1⟩; have HB1 := hideI hb1; obtain ⟨hcl, hfl⟩ := bcell hb1; clear hb1)
    go_ret
    exact says_box2 (termB_no HC.out).symm HB1.out
  have HC := hideI c1
  rw [termB_yes c1]
  have hop : t.op = 1 ∨ t.op = 2 ∨ t.op = 3 ∨ t.op = 4 ∨ (t.op ≠ 1 ∧ t.op ≠ 2 ∧ t.op ≠ 3 ∧ t.op ≠ 4) := by omega
  obtain ⟨op, val, to, n⟩ := t
  simp only at *
  rcases hop with rfl | rfl | rfl | rfl | ⟨g1, g2, g3, g4⟩
  all_goals
    go_enter Try.func106, Try.ntmps106
    go_wp2_with (go_at_call 111; refine (areTargets_any _ _ _ _ _ _ _ _ _ _ (((HV.out.alloc (Nat.le_refl _) _).alloc (by simp) _).more (by simp; omega)) h1 h2).mono ?_; rintro e w1 ⟨rfl, hb1⟩; have HB1 := hideI hb1; obtain ⟨hcl, hfl⟩ := bcell hb1; clear hb1)
    all_goals
      go_ret
      refine says_box2 ?_ HB1.out
      rw [Bool.eq_iff_iff]
      simp [endB, *]
      try omega

end Go.Proofs.Ytclbhbnidodmdaa
