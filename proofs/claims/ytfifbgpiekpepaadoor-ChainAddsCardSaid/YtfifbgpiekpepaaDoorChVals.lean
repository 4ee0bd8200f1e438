/- The values so far, and the chain that they make: plain facts. -/
import Derived.Test.YtfifbgpiekpepaaDoorFitW
namespace Go.Proofs.YtfifbgpiekpepaaDoor.Chn
open Go.RowKit

/-- the values so far -/
structure ValsTo (vs : List Int) (f : Nat → Int) (n : Nat) : Prop where
  len : vs.length = n
  at_ : ∀ j, j < n → vs[j]? = some (wrp (f j))

theorem ValsTo.push {vs : List Int} {f : Nat → Int} {n : Nat} {x : Int} (h : ValsTo vs f n) (hx : x = wrp (f n)) : ValsTo (vs ++ [x]) f (n + 1) := by
  refine ⟨by simp [h.len], fun j hj => ?_⟩
  by_cases e : j = n
  · subst e
    rw [List.getElem?_append_right (by rw [h.len]; omega), h.len, Nat.sub_self, hx]
    rfl
  · rw [List.getElem?_append_left (by rw [h.len]; omega)]
    exact h.at_ j (by omega)

theorem ValsTo.in_ {vs : List Int} {f : Nat → Int} {n : Nat} (h : ValsTo vs f n) : ∀ x ∈ vs, In64 x := fun x hx => by
  obtain ⟨j, hj⟩ := List.mem_iff_getElem?.1 hx
  have h1 := h.at_ j (by have := (List.getElem?_eq_some_iff.1 hj).1; rw [h.len] at this; exact this)
  rw [hj] at h1
  injection h1 with h1
  rw [h1]
  exact wrp_in _

theorem ValsTo.fit {vs c : List Int} {f : Nat → Int} {n : Nat} (h : ValsTo vs f n) (he : ∀ k, Eq64 (f k) (vl c k)) (hc : c.length ≤ n) : trimM (fitW vs.length vs) = trimM (heldL c) :=
  fitW_of h.in_ (fun k hk => by
    rw [List.getD_eq_getElem?_getD, h.at_ k (by rw [h.len] at hk; exact hk)]
    exact (wrp_eq _).trans (he k)) (by rw [h.len]; exact hc)

end Go.Proofs.YtfifbgpiekpepaaDoor.Chn
