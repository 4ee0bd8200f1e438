/- The map of what has been defined. -/
import Derived.Test.YtclbhbnidodmdaaSpec
import Derived.Test.YtclbhbnidodmdaaBase
import Derived.Maps.Own
import Derived.Maps.OwnOps
import Derived.Maps.OwnSet
import Derived.Maps.Views
namespace Go.Proofs.Ytclbhbnidodmdaa
open Go.RowKit Go.Maps

theorem lawInt : Keyed Try.prog 3 := int_keyed Try.underlying3
theorem zeroInt (w : World) : (zeroValue 3).run Try.prog w = .ok (.int .i64 0) w := by kernel_rfl

/-- an int of Go's -/
def I64 (x : Int) : Prop := (Lit.int .i64 x).wf = true

/-- block M is a map that holds just ds -/
def MapIs (w : World) (M : Nat) (ds : Defs) : Prop :=
  ∃ D : DataW Unit, w.ownsMap Try.prog 3 (plainElem Try.prog 3) M ds.length D ∧ IsMap D ∧ (∀ d ∈ ds, I64 d.1 ∧ I64 d.2) ∧ ∀ id z, D.atKey (.int .i64 id) z = match ds.at id with | some t => .lit (.int .i64 t) | none => z

theorem Defs.at_snoc (ds : Defs) (id typ k : Int) : Defs.at (ds ++ [(id, typ)]) k = match ds.at k with | some t => some t | none => if k = id then some typ else none := by
  unfold Defs.at
  rw [List.find?_append]
  cases h : List.find? (fun d => d.1 == k) ds with
  | some d => simp
  | none =>
    by_cases hk : k = id
    · subst hk; simp
    · simp [hk, show (id == k) = false from by simpa using fun e => hk e.symm]

theorem MapIs.lt {w : World} {M : Nat} {ds : Defs} (h : MapIs w M ds) : M < w.heap.size := by
  obtain ⟨D, h, _⟩ := h
  exact h.lt

theorem MapIs.kept {w w' : World} {M : Nat} {ds : Defs} {row : Option Nat} (h : MapIs w M ds) (hg : w.grownBy w' row) (hne : some M ≠ row) : MapIs w' M ds := by
  obtain ⟨D, h, r⟩ := h
  exact ⟨D, h.kept hg hne, r⟩

theorem MapIs.has {ds : Defs} {D : DataW Unit} (h : ∀ id z, D.atKey (.int .i64 id) z = match ds.at id with | some t => .lit (.int .i64 t) | none => z) (id : Int) :
    Go.Maps.has D (.int .i64 id) = (ds.at id).isSome := by
  cases hd : ds.at id with
  | none => exact has_false_of_atKey (fun z => by rw [h, hd])
  | some t => exact has_true_of_atKey (y := .lit (.int .i64 t)) (fun z => by rw [h, hd])

theorem MapIs.new (w : World) : MapIs (w.alloc (.map #[] 0)) w.heap.size [] :=
  ⟨.map [], World.ownsMap_made _ _ _ _, ⟨[], rfl⟩, by simp, fun id z => rfl⟩

end Go.Proofs.Ytclbhbnidodmdaa
