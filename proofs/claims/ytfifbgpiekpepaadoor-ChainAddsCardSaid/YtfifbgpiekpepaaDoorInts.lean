/- Lists of numbers in memory; SameInts. -/
import Derived.Test.YtfifbgpiekpepaaDoorBase
import Derived.Deep.QuietTactic
import Derived.BigQuiet
namespace Go.Proofs.YtfifbgpiekpepaaDoor
open Go.RowKit

/-- the slice value v holds the numbers xs, below block B -/
def Ints (w : World) (B : Nat) (v : Value) (xs : List Int) : Prop :=
  ∃ A c, v = .slice A xs.length c ∧ xs.length ≤ 140737488351232 ∧ ∀ k, k < xs.length → ∃ b off, A = some ⟨b, off, none⟩ ∧ b < B ∧ w.cell? ⟨b, off + k, none⟩ = some (.int .i64 (xs[k]?.getD 0))

theorem Ints.nil (w : World) (B : Nat) : Ints w B (.slice none 0 0) [] := ⟨none, 0, rfl, by simp, fun k hk => by simp at hk⟩

theorem Ints.keep {w w' : World} {B : Nat} {v : Value} {xs : List Int} (h : Ints w B v xs) (hk : Below B w w') : Ints w' B v xs := by
  obtain ⟨A, c, rfl, hm, h⟩ := h
  refine ⟨A, c, rfl, hm, fun k hlt => ?_⟩
  obtain ⟨b, off, rfl, hb, hc⟩ := h k hlt
  exact ⟨b, off, rfl, hb, (hk.cell (p := ⟨b, off + k, none⟩) hb).trans hc⟩

theorem Ints.more {w : World} {B B' : Nat} {v : Value} {xs : List Int} (h : Ints w B v xs) (hB : B ≤ B') : Ints w B' v xs := by
  obtain ⟨A, c, rfl, hm, h⟩ := h
  exact ⟨A, c, rfl, hm, fun k hlt => by obtain ⟨b, off, e, hb, hc⟩ := h k hlt; exact ⟨b, off, e, by omega, hc⟩⟩

/-- equal so far -/
def sameTo (xs ys : List Int) (k : Nat) : Bool := (xs.take k) == (ys.take k)

theorem sameTo_succ {xs ys : List Int} {k : Nat} (h1 : k < xs.length) (h2 : k < ys.length) (h : xs.take k = ys.take k) (he : xs[k]?.getD 0 = ys[k]?.getD 0) : xs.take (k + 1) = ys.take (k + 1) := by
  rw [List.take_add_one, List.take_add_one, h]
  rw [List.getElem?_eq_getElem h1, List.getElem?_eq_getElem h2] at he ⊢
  simp at he
  rw [he]

theorem ne_of_at {xs ys : List Int} {k : Nat} (he : xs[k]?.getD 0 ≠ ys[k]?.getD 0) : xs ≠ ys := fun h => he (by rw [h])

set_option maxHeartbeats 800000 in
theorem sameInts_len (w : World) (B : Nat) (v u : Value) (xs ys : List Int) (hx : Ints w B v xs) (hy : Ints w B u ys) (n : Nat) (hn : Hid (xs.length = n ∧ ys.length = n)) :
    Calls Tryd.prog 14 #[v, u] w fun e w' => e = .returned (.bool (xs == ys)) ∧ ∃ m, w' = w.drewN m := by
  obtain ⟨A, c, rfl, hm, hx⟩ := hx
  obtain ⟨A', c', rfl, hm', hy⟩ := hy
  rw [hn.out.1] at hx hm ⊢
  rw [hn.out.2] at hy hm' ⊢
  have Hx : Hid (∀ k, k < n → ∃ b off, A = some ⟨b, off, none⟩ ∧ b < B ∧ w.cell? ⟨b, off + k, none⟩ = some (.int .i64 (xs[k]?.getD 0))) := hx
  have Hy : Hid (∀ k, k < n → ∃ b off, A' = some ⟨b, off, none⟩ ∧ b < B ∧ w.cell? ⟨b, off + k, none⟩ = some (.int .i64 (ys[k]?.getD 0))) := hy
  clear hx hy hm'
  go_enter Tryd.func14, Tryd.ntmps14
  go_wp2
  go_loopw [5] (fun i wr => ∃ k m : Nat, k ≤ n ∧ i = .int .i64 k ∧ xs.take k = ys.take k ∧ wr = w.drewN m) (fun i _ => n - (intOf i).toNat)
  case atStart => exact ⟨0, 0, Nat.zero_le _, rfl, by simp, rfl⟩
  case round =>
    obtain ⟨k, m, hk, rfl, ht, rfl⟩ := hrel
    have HT : Hid (xs.take k = ys.take k) := ht
    clear ht
    by_cases hlt : k < n
    · obtain ⟨b, off, rfl, hb, hc⟩ := Hx.out k hlt
      obtain ⟨b', off', rfl, hb', hc'⟩ := Hy.out k hlt
      go_wp2
      go_quiet (fail)
      go_wp2
      · have hne : xs[k]?.getD 0 ≠ ys[k]?.getD 0 := bne_iff_ne.1 (by assumption)
        go_ret
        refine ⟨?_, m + nq, by rw [World.drewN_drewN]⟩
        have : (xs == ys) = false := beq_eq_false_iff_ne.2 (ne_of_at (k := k) hne)
        rw [this]
        rfl
      · have hq : (xs[k]?.getD 0 != ys[k]?.getD 0) = false := by assumption
        have heq : xs[k]?.getD 0 = ys[k]?.getD 0 := by simpa using hq
        go_roundw
        case rel => exact ⟨k + 1, _, by omega, by go_num, sameTo_succ (by have := hn.out.1; omega) (by have := hn.out.2; omega) HT.out heq, rfl⟩
        case measure => simp [intOf]; omega
    · go_wp2
      go_ret
      have hk' : k = n := by omega
      subst hk'
      have e : xs = ys := by
        have h := HT.out
        rw [List.take_of_length_le (by rw [hn.out.1]; exact Nat.le_refl _), List.take_of_length_le (by rw [hn.out.2]; exact Nat.le_refl _)] at h
        exact h
      refine ⟨?_, _, rfl⟩
      subst e
      simp

theorem sameInts_ne (w : World) (B : Nat) (v u : Value) (xs ys : List Int) (hx : Ints w B v xs) (hy : Ints w B u ys) (hn : (xs.length : Int) ≠ ys.length) :
    Calls Tryd.prog 14 #[v, u] w fun e w' => e = .returned (.bool (xs == ys)) ∧ ∃ m, w' = w.drewN m := by
  have hf : (xs == ys) = false := beq_eq_false_iff_ne.2 (fun h => hn (by rw [h]))
  rw [hf]
  obtain ⟨A, c, rfl, hm, hx⟩ := hx
  obtain ⟨A', c', rfl, hm', hy⟩ := hy
  clear hx hy hf
  have hb : ((xs.length : Int) == ys.length) = false := beq_eq_false_iff_ne.2 hn
  go_enter Tryd.func14, Tryd.ntmps14
  go_wp2
  go_ret
  exact ⟨rfl, 0, rfl⟩

/-- SameInts: the same numbers? -/
theorem sameInts_any (w : World) (B : Nat) (v u : Value) (xs ys : List Int) (hx : Ints w B v xs) (hy : Ints w B u ys) :
    Calls Tryd.prog 14 #[v, u] w fun e w' => e = .returned (.bool (xs == ys)) ∧ ∃ m, w' = w.drewN m := by
  by_cases h : xs.length = ys.length
  · exact sameInts_len w B v u xs ys hx hy ys.length ⟨h, rfl⟩
  · exact sameInts_ne w B v u xs ys hx hy (by omega)

end Go.Proofs.YtfifbgpiekpepaaDoor
