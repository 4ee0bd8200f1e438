/- slices.Index, slices.Contains, the reference's Has: of lists of numbers. -/
import Derived.Test.YtgmikokdiafjgaaInts
namespace Go.Proofs.Ytgmikokdiafjgaa
open Go.RowKit

def IdxIs (xs : List Int) (x r : Int) : Prop := (r = -1 ∧ x ∉ xs) ∨ ∃ k : Nat, r = k ∧ xs[k]? = some x ∧ x ∉ xs.take k

theorem IdxIs.mem {xs : List Int} {x r : Int} (h : IdxIs xs x r) : decide (x ∈ xs) = decide (0 ≤ r) := by
  rcases h with ⟨rfl, h⟩ | ⟨k, rfl, h, _⟩
  · simp [h]
  · simp [List.mem_of_getElem? h]

def IdxPost (xs : List Int) (x : Int) (w : World) (e : Ending) (w' : World) : Prop := ∃ r, e = .returned (.int .i64 r) ∧ IdxIs xs x r ∧ w = w'

theorem not_mem_take_succ {xs : List Int} {k : Nat} {x y : Int} (h : x ∉ xs.take k) (hy : xs[k]? = some y) (hne : y ≠ x) : x ∉ xs.take (k + 1) := by
  rw [List.take_add_one, hy]
  simp only [Option.toList_some, List.mem_append, List.mem_singleton, not_or]
  exact ⟨h, fun e => hne e.symm⟩

set_option maxRecDepth 100000 in
set_option maxHeartbeats 1000000 in
theorem index_any (xs : List Int) (B : Nat) (v : Value) (x : Int) (w : World) (hx : Ints w B v xs) :
    Calls Try.prog 62 #[v, .int .i64 x] w (IdxPost xs x w) := by
  obtain ⟨A, c, rfl, hm, hcell⟩ := hx
  have HC := hideI hcell
  clear hcell
  go_enter Try.func62, Try.ntmps62
  go_wp2
  go_loop [8] (fun u => ∃ k : Nat, k ≤ xs.length ∧ u = .int .i64 k ∧ Hid (x ∉ xs.take k)) (fun u => xs.length - (intOf u).toNat)
  case atStart => exact ⟨0, Nat.zero_le _, rfl, by exact hideI (by simp)⟩
  case round =>
    obtain ⟨k, hk, rfl, HN⟩ := hrel
    by_cases hlt : k < xs.length
    · obtain ⟨b, off, rfl, hb, hcell⟩ := HC.out k hlt
      obtain ⟨y, hy⟩ : ∃ y, xs[k]? = some y := ⟨_, List.getElem?_eq_getElem hlt⟩
      rw [hy] at hcell
      simp only [Option.getD_some] at hcell
      have HY := hideI hy
      clear hy
      cases he : x == y
      · have HE := hideI he
        go_wp2
        go_round
        case rel => exact ⟨k + 1, by omega, by go_num, hideI (not_mem_take_succ HN.out HY.out (by have := HE.out; simp at this; exact fun e => this e.symm))⟩
        case measure => simp [intOf]; omega
      · have HE := hideI he
        go_wp2
        go_ret
        exact ⟨k, rfl, .inr ⟨k, rfl, by have := HE.out; simp at this; rw [this]; exact HY.out, HN.out⟩, rfl⟩
    · have HE : Hid (xs.take k = xs) := List.take_of_length_le (by omega)
      rw [HE.out] at HN
      go_wp2
      go_ret
      exact ⟨-1, rfl, .inl ⟨rfl, HN.out⟩, rfl⟩

set_option maxHeartbeats 1000000 in
theorem contains_any (xs : List Int) (B : Nat) (v : Value) (x : Int) (w : World) (hx : Ints w B v xs) :
    Calls Try.prog 50 #[v, .int .i64 x] w fun e w' => e = .returned (.bool (decide (x ∈ xs))) ∧ w = w' := by
  have HX := hideI hx
  obtain ⟨A, c, rfl, hm, _⟩ := hx
  go_enter Try.func50, Try.ntmps50
  go_wp2_with (go_at_call 62; go_must (refine (index_any xs B _ x _ HX.out).mono ?_); rintro e w2 ⟨r, rfl, hr, rfl⟩; have HR := hideI hr; clear hr)
  go_ret
  exact ⟨by rw [HR.out.mem]; rfl, rfl⟩

set_option maxRecDepth 100000 in
set_option maxHeartbeats 1000000 in
theorem has_any (xs : List Int) (B : Nat) (v : Value) (x : Int) (w : World) (hx : Ints w B v xs) :
    Calls Try.prog 33 #[v, .int .i64 x] w fun e w' => e = .returned (.bool (decide (x ∈ xs))) ∧ w = w' := by
  obtain ⟨A, c, rfl, hm, hcell⟩ := hx
  have HC := hideI hcell
  clear hcell
  go_enter Try.func33, Try.ntmps33
  go_wp2
  go_loop [5] (fun u => ∃ k : Nat, k ≤ xs.length ∧ u = .int .i64 k ∧ Hid (x ∉ xs.take k)) (fun u => xs.length - (intOf u).toNat)
  case atStart => exact ⟨0, Nat.zero_le _, rfl, by exact hideI (by simp)⟩
  case round =>
    obtain ⟨k, hk, rfl, HN⟩ := hrel
    by_cases hlt : k < xs.length
    · obtain ⟨b, off, rfl, hb, hcell⟩ := HC.out k hlt
      obtain ⟨y, hy⟩ : ∃ y, xs[k]? = some y := ⟨_, List.getElem?_eq_getElem hlt⟩
      rw [hy] at hcell
      simp only [Option.getD_some] at hcell
      have HY := hideI hy
      clear hy
      cases he : y == x
      · have HE := hideI he
        go_wp2
        go_round
        case rel => exact ⟨k + 1, by omega, by go_num, hideI (not_mem_take_succ HN.out HY.out (by have := HE.out; simpa using this))⟩
        case measure => simp [intOf]; omega
      · have HE := hideI he
        go_wp2
        go_ret
        exact ⟨by have h1 := HE.out; simp at h1; have h2 := List.mem_of_getElem? HY.out; rw [h1] at h2; simp [h2], rfl⟩
    · have HE : Hid (xs.take k = xs) := List.take_of_length_le (by omega)
      rw [HE.out] at HN
      go_wp2
      go_ret
      exact ⟨by have := HN.out; simp [this], rfl⟩

end Go.Proofs.Ytgmikokdiafjgaa
