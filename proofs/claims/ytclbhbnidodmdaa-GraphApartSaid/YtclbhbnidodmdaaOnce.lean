/- areBlocksOnce: all are blocks, none twice. -/
import Derived.Test.YtclbhbnidodmdaaSmall
import Derived.OneCell
namespace Go.Proofs.Ytclbhbnidodmdaa
open Go.RowKit

theorem zero111 : Try.zeroCells154 = Array.replicate 512 (Value.bool false) := by kernel_rfl

/-- block S says of each number below 512 whether it was seen -/
def SeenIs (w : World) (S : Nat) (seen : List Int) : Prop :=
  ∃ cs : Array Value, w.heap[S]? = some (.cells cs 154 (0, 0)) ∧ cs.size = 512 ∧ ∀ i : Nat, i < 512 → cs[i]? = some (.bool (seen.contains (i : Int)))

theorem SeenIs.cell {w : World} {S : Nat} {seen : List Int} (h : SeenIs w S seen) (m : Nat) (hm : m < 512) : w.cell? ⟨S, m, none⟩ = some (.bool (seen.contains (m : Int))) := by
  obtain ⟨cs, hc, hs, h⟩ := h
  rw [cell_of_row w S m cs 154 (0, 0) hc]
  exact h m hm

theorem SeenIs.free {w : World} {S : Nat} {seen : List Int} (h : SeenIs w S seen) (m : Nat) : w.frozen? ⟨S, m, none⟩ = false := by
  obtain ⟨cs, hc, hs, h⟩ := h
  simp [World.frozen?, hc]

theorem SeenIs.set_ {w : World} {S : Nat} {seen : List Int} (h : SeenIs w S seen) (m : Nat) (hm : m < 512) : SeenIs (w.setCell ⟨S, m, none⟩ (.bool true)) S ((m : Int) :: seen) := by
  obtain ⟨cs, hc, hs, h⟩ := h
  refine ⟨cs.setIfInBounds m (.bool true), ?_, by simp [hs], fun i hi => ?_⟩
  · simp [World.setCell, Array.getElem?_modify, hc]
  · rw [Array.getElem?_setIfInBounds]
    by_cases e : m = i
    · subst e; simp [hs, hm]
    · have e' : ((i : Int) == (m : Int)) = false := by simp; omega
      rw [if_neg e, h i hi, List.contains_cons, e', Bool.false_or]

theorem seen_new (w : World) : SeenIs (w.alloc (.cells Try.zeroCells154 154)) w.heap.size [] := by
  refine ⟨_, heap_alloc_new w _, by rw [zero111]; simp, fun i hi => ?_⟩
  rw [zero111]
  simp [hi]

/-- what is left to be asked, k behind the start -/
theorem once_step (nb : Nat) (seen : List Int) (to : List Int) (k : Nat) (h : k < to.length) (x : Int) (hx : to[k]?.getD 0 = x) :
    onceB nb seen (to.drop k) = (withinB x 0 (nb - 1) && !(seen.contains x) && onceB nb (x :: seen) (to.drop (k + 1))) := by
  rw [List.drop_eq_getElem_cons h]
  rw [getD_of h] at hx
  rw [hx]
  rfl

theorem once_no (nb : Nat) (seen to : List Int) (k : Nat) (h : k < to.length) (x : Int) (hx : to[k]?.getD 0 = x) (hf : withinB x 0 (nb - 1) = false ∨ seen.contains x = true) :
    onceB nb seen (to.drop k) = false := by
  rw [once_step nb seen to k h x hx]
  rcases hf with e | e <;> rw [e] <;> simp

theorem once_yes (nb : Nat) (seen to : List Int) (k : Nat) (h : k < to.length) (x : Int) (hx : to[k]?.getD 0 = x) (h1 : withinB x 0 (nb - 1) = true) (h2 : seen.contains x = false) :
    onceB nb seen (to.drop k) = onceB nb (x :: seen) (to.drop (k + 1)) := by
  rw [once_step nb seen to k h x hx, h1, h2]
  simp

theorem within_bd {x a b : Int} (h : withinB x a b = true) : a ≤ x ∧ x ≤ b := by
  unfold withinB at h
  simpa using h

theorem says_below {b b' : Bool} {w wr : World} {o : Obj} (h : b = b') (hb : Below (w.heap.size + 1) (w.alloc o) wr) : Says b' w (.returned (.bool b)) wr := by
  subst h
  exact ⟨rfl, ((Below.refl _ _).alloc (Nat.le_refl _) _).trans (hb.mono (by omega))⟩

set_option maxHeartbeats 400000 in
theorem once_any (pv mv av cv : Value) (A : Option Addr) (nb c : Nat) (tv : Value) (to : List Int) (w : World) (hI : Ints w w.heap.size tv to) (h1 : 1 ≤ nb) (h2 : nb ≤ 512) :
    Calls Try.prog 108 #[.agg #[pv, av, cv, .slice A nb c, mv], tv] w (Says (onceB nb [] to) w) := by
  obtain ⟨T, ct, rfl, hm, hx⟩ := hI
  have Hx := hideI hx
  clear hx
  go_enter Try.func108, Try.ntmps108
  go_wp2
  go_loopw [10] (fun i wr => ∃ (k : Nat) (seen : List Int), k ≤ to.length ∧ i = .int .i64 k ∧ onceB nb [] to = onceB nb seen (to.drop k) ∧ SeenIs wr (w.heap.size + 1) seen ∧ Below (w.heap.size + 1) (w.alloc (.cells #[pv, av, cv, .slice A nb c, mv] 116)) wr) (fun i _ => to.length - (intOf i).toNat)
  case atStart =>
    refine ⟨0, [], Nat.zero_le _, rfl, rfl, ?_, (Below.refl _ _).alloc (by simp) _⟩
    have h := seen_new (w.alloc (.cells #[pv, av, cv, .slice A nb c, mv] 116))
    simpa using h
  case round =>
    obtain ⟨k, seen, hk, rfl, ht, hS, hB⟩ := hrel
    have HT := hideI ht
    have HB := hideI hB
    have HS := hideI hS
    have hbx : wr.cell? ⟨w.heap.size, 3, none⟩ = some (.slice A nb c) := by
      rw [hB.cell (p := ⟨w.heap.size, 3, none⟩) (by simp), cell_of_row _ _ _ _ _ _ (heap_alloc_new w _)]
      rfl
    clear ht hB hS
    by_cases hlt : k < to.length
    · obtain ⟨b, off, rfl, hb, hc0⟩ := Hx.out k hlt
      have hc : wr.cell? ⟨b, off + k, none⟩ = some (.int .i64 (to[k]?.getD 0)) := by
        rw [HB.out.cell (p := ⟨b, off + k, none⟩) (by simp; omega), World.cell?_alloc_lt _ _ _ (by simpa using hb), hc0]
      obtain ⟨x, hxk⟩ : ∃ x, to[k]?.getD 0 = x := ⟨_, rfl⟩
      rw [hxk] at hc
      have HX := hideI hxk
      clear hxk hc0
      have hsz : wr.heap.size = wr.heap.size := rfl
      cases hw : withinB x 0 (nb - 1)
      · go_wp2_with (go_at_call 102; refine (within_any _ _ _ _).mono ?_; rintro e w' ⟨rfl, rfl⟩)
        go_ret
        exact says_below (by rw [HT.out]; exact (once_no nb seen to k hlt x HX.out (.inl hw)).symm) HB.out
      · obtain ⟨m, rfl⟩ : ∃ m : Nat, x = m := ⟨x.toNat, by have := within_bd hw; omega⟩
        have hm5 : m < 512 := by have := within_bd hw; omega
        have hcs := HS.out.cell m hm5
        have hfs := HS.out.free m
        cases hsn : seen.contains (m : Int)
        · rw [hsn] at hcs
          go_wp2_with (go_at_call 102; refine (within_any _ _ _ _).mono ?_; rintro e w' ⟨rfl, rfl⟩)
          go_roundw
          case rel => exact ⟨k + 1, (m : Int) :: seen, by omega, by go_num, by rw [HT.out]; exact once_yes nb seen to k hlt _ HX.out hw hsn, HS.out.set_ m hm5, HB.out.setCell (by simp) _⟩
          case measure => simp [intOf]; omega
        · rw [hsn] at hcs
          go_wp2_with (go_at_call 102; refine (within_any _ _ _ _).mono ?_; rintro e w' ⟨rfl, rfl⟩)
          go_ret
          exact says_below (by rw [HT.out]; exact (once_no nb seen to k hlt _ HX.out (.inr hsn)).symm) HB.out
    · go_wp2
      go_ret
      exact says_below (by rw [HT.out, List.drop_of_length_le (by omega)]; rfl) HB.out

end Go.Proofs.Ytclbhbnidodmdaa
