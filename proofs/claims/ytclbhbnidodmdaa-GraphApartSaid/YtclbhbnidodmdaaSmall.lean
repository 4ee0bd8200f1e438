/- The small questions of package ir: within, isType, fitsN, areTargets, areBlocksOnce. -/
import Derived.Test.YtclbhbnidodmdaaSpec
import Derived.Test.YtclbhbnidodmdaaMaps
import Derived.Test.YtclbhbnidodmdaaInts
namespace Go.Proofs.Ytclbhbnidodmdaa
open Go.RowKit

theorem within_any (n a b : Int) (w : World) :
    Calls Try.prog 102 #[.int .i64 n, .int .i64 a, .int .i64 b] w fun e w' => e = .returned (.bool (withinB n a b)) ∧ w = w' := by
  unfold withinB
  by_cases h : a ≤ n
  all_goals
    go_enter Try.func102, Try.ntmps102
    go_wp2
    go_ret
    refine ⟨?_, rfl⟩
    first | (simp [h]; done) | (simp [h]; omega)

theorem isType_any (n : Int) (w : World) :
    Calls Try.prog 103 #[.int .i64 n] w fun e w' => e = .returned (.bool (isTypeB n)) ∧ w = w' := by
  unfold isTypeB
  by_cases h : (n == 1) = true
  all_goals
    go_enter Try.func103, Try.ntmps103
    go_wp2
    go_ret
    refine ⟨?_, rfl⟩
    simp [h]

/-- a call that only looks, and answers a bool -/
def Says (b : Bool) (w : World) (e : Ending) (w' : World) : Prop := e = .returned (.bool b) ∧ Below w.heap.size w w'

theorem fitsB_eq (f : FuncM) (op n : Int) (h : op ≠ 1) (h2 : op ≠ 2) (h3 : kindS op ≠ 3) (h4 : kindS op ≠ 4) : fitsB f op n = (n == 0) := by
  unfold fitsB
  rw [if_neg h, if_neg h2, if_neg h3, if_neg h4]

theorem says_new {b b' : Bool} {w : World} {o : Obj} (h : b = b') : Says b' w (.returned (.bool b)) (w.alloc o) := by
  subst h
  exact ⟨rfl, (Below.refl _ _).alloc (Nat.le_refl _) _⟩

theorem fitsN_a (f : FuncM) (pv bv mv : Value) (op n : Int) (w : World) (ha : 0 ≤ f.arrays) (ha' : f.arrays ≤ 8) (h : op = 1 ∨ op = 2 ∨ op = 3 ∨ op = 4 ∨ op = 5 ∨ op = 6 ∨ op = 7 ∨ op = 8 ∨ op = 9 ∨ op = 10 ∨ op = 11 ∨ op = 12 ∨ op = 13) :
    Calls Try.prog 110 #[.agg #[pv, .int .i64 f.arrays, .int .i64 f.cells, bv, mv], .int .i64 op, .int .i64 n] w (Says (fitsB f op n) w) := by
  rcases h with rfl | rfl | rfl | rfl | rfl | rfl | rfl | rfl | rfl | rfl | rfl | rfl | rfl
  all_goals
    go_enter Try.func110, Try.ntmps110
    go_wp2_with (go_at_call 102; refine (within_any _ _ _ _).mono ?_; rintro e w' ⟨rfl, rfl⟩)
    go_ret
    exact says_new rfl

theorem fitsN_b (f : FuncM) (pv bv mv : Value) (op n : Int) (w : World) (ha : 0 ≤ f.arrays) (ha' : f.arrays ≤ 8) (hc : 0 ≤ f.cells) (hc' : f.cells ≤ 64) (h : op = 14 ∨ op = 15 ∨ op = 16 ∨ op = 17 ∨ op = 18 ∨ op = 19 ∨ op = 20 ∨ op = 21 ∨ op = 22 ∨ op = 23 ∨ op = 24 ∨ op = 25) :
    Calls Try.prog 110 #[.agg #[pv, .int .i64 f.arrays, .int .i64 f.cells, bv, mv], .int .i64 op, .int .i64 n] w (Says (fitsB f op n) w) := by
  rcases h with rfl | rfl | rfl | rfl | rfl | rfl | rfl | rfl | rfl | rfl | rfl | rfl
  all_goals
    go_enter Try.func110, Try.ntmps110
    go_wp2_with (go_at_call 102; refine (within_any _ _ _ _).mono ?_; rintro e w' ⟨rfl, rfl⟩)
    go_ret
    exact says_new rfl

theorem fitsN_any (f : FuncM) (pv bv mv : Value) (op n : Int) (w : World) (ha : 0 ≤ f.arrays) (ha' : f.arrays ≤ 8) (hc : 0 ≤ f.cells) (hc' : f.cells ≤ 64) (h : isOp op = true) :
    Calls Try.prog 110 #[.agg #[pv, .int .i64 f.arrays, .int .i64 f.cells, bv, mv], .int .i64 op, .int .i64 n] w (Says (fitsB f op n) w) := by
  rcases op_cases op with g | g | g
  · exact fitsN_a f pv bv mv op n w ha ha' g
  · exact fitsN_b f pv bv mv op n w ha ha' hc hc' g
  · unfold isOp at h
    rw [shapeS_none g] at h
    cases h

theorem all_take_succ {α : Type} (p : α → Bool) (l : List α) (k : Nat) (h : k < l.length) : (l.take (k + 1)).all p = ((l.take k).all p && p (l[k])) := by
  rw [List.take_succ_eq_append_getElem h, List.all_append]
  simp

theorem getD_of {l : List Int} {k : Nat} (h : k < l.length) : l[k]?.getD 0 = l[k] := by simp [h]

theorem targets_no {nb : Nat} {to : List Int} {k : Nat} (h : k < to.length) (hf : withinB to[k] 1 (nb - 1) = false) : targetsB nb to = false := by
  unfold targetsB
  rw [List.all_eq_false]
  exact ⟨to[k], List.getElem_mem h, by simp [hf]⟩

set_option maxHeartbeats 400000 in
theorem areTargets_any (pv mv av cv : Value) (A : Option Addr) (nb c : Nat) (tv : Value) (to : List Int) (w : World) (hI : Ints w w.heap.size tv to) (h1 : 1 ≤ nb) (h2 : nb ≤ 512) :
    Calls Try.prog 111 #[.agg #[pv, av, cv, .slice A nb c, mv], tv] w (Says (targetsB nb to) w) := by
  obtain ⟨T, ct, rfl, hm, hx⟩ := hI
  have Hx := hideI hx
  clear hx
  go_enter Try.func111, Try.ntmps111
  go_wp2
  go_loop [9] (fun i => ∃ k : Nat, k ≤ to.length ∧ i = .int .i64 k ∧ (to.take k).all (fun b => withinB b 1 (nb - 1)) = true) (fun i => to.length - (intOf i).toNat)
  case atStart => exact ⟨0, Nat.zero_le _, rfl, by simp⟩
  case round =>
    obtain ⟨k, hk, rfl, ht⟩ := hrel
    have HT := hideI ht
    clear ht
    by_cases hlt : k < to.length
    · obtain ⟨b, off, rfl, hb, hc⟩ := Hx.out k hlt
      cases hw : withinB to[k] 1 (nb - 1)
      · have HW := hideI hw
        go_wp2_with (go_at_call 102; refine (within_any _ _ _ _).mono ?_; rintro e w' ⟨rfl, rfl⟩)
        go_ret
        exact says_new (targets_no hlt HW.out).symm
      · have HW := hideI hw
        go_wp2_with (go_at_call 102; refine (within_any _ _ _ _).mono ?_; rintro e w' ⟨rfl, rfl⟩)
        go_round
        case rel => exact ⟨k + 1, by omega, by go_num, by rw [all_take_succ _ _ _ hlt, HT.out, HW.out]; rfl⟩
        case measure => simp [intOf]; omega
    · go_wp2
      go_ret
      have h := HT.out
      rw [List.take_of_length_le (by omega)] at h
      exact says_new h.symm

end Go.Proofs.Ytclbhbnidodmdaa
