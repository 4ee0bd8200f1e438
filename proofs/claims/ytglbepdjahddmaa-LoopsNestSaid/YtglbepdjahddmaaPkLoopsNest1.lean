/- What LoopsNest rests on, part 1: LHas. -/
import Derived.Test.YtglbepdjahddmaaPkL913
import Derived.Deep.QuietTactic

namespace Go.Proofs.Ytglbepdjahddmaa
open Go.RowKit

theorem has_at {w : World} {B : Nat} {v : Value} {l : List Nat} {p : Nat} {r : Bool} (hi : Ints w B v (l.map fun (x : Nat) => (x : Int))) (hr : decide (p ∈ l) = r) (a : Nat) :
    Calls Try.prog 12 #[v, .int .i64 (p : Int)] (w.drewN a) fun e w' => e = .returned (.bool r) ∧ w' = w.drewN a := by
  have hi2 : Ints (w.drewN a) B v (l.map fun (x : Nat) => (x : Int)) := hi
  have h1 := has_any _ B v (p : Int) (w.drewN a) hi2
  have e : decide ((p : Int) ∈ l.map fun (x : Nat) => (x : Int)) = r := by rw [← hr]; simp only [mem_nat]
  rw [e] at h1
  exact h1.mono fun _ _ ⟨a, b⟩ => ⟨a, b.symm⟩

theorem has_atI {w : World} {B : Nat} {v : Value} {l : List Int} {p : Int} {r : Bool} (hi : Ints w B v l) (hr : decide (p ∈ l) = r) (a : Nat) :
    Calls Try.prog 12 #[v, .int .i64 p] (w.drewN a) fun e w' => e = .returned (.bool r) ∧ w' = w.drewN a := by
  have hi2 : Ints (w.drewN a) B v l := hi
  have h1 := has_any _ B v p (w.drewN a) hi2
  rw [hr] at h1
  exact h1.mono fun _ _ ⟨a, b⟩ => ⟨a, b.symm⟩

end Go.Proofs.Ytglbepdjahddmaa
