/- The chain of values by differences, each held in 64 bits, as plain data. -/
import Derived.Test.YtfifbgpiekpepaaDoorRRow
namespace Go.Proofs.YtfifbgpiekpepaaDoor.Chn
open Go.RowKit

/-- differences, held in 64 bits -/
def dW (r : List Int) : List Int := (List.range (r.length - 1)).map fun j => wrp (r.getD (j + 1) 0 - r.getD j 0)
theorem dW_len (r : List Int) : (dW r).length = r.length - 1 := by simp [dW]
theorem dW_at {r : List Int} {k : Nat} (h : k < r.length - 1) : (dW r).getD k 0 = wrp (r.getD (k + 1) 0 - r.getD k 0) := by
  simp [dW, List.getD_eq_getElem?_getD, h]

/-- the chain of n values -/
def fitW : Nat → List Int → List Int
  | 0, _ => []
  | n + 1, r => r.headD 0 :: fitW n (dW r)

theorem fitW_len : ∀ (n : Nat) (r : List Int), (fitW n r).length = n
  | 0, _ => rfl
  | n + 1, r => by rw [fitW, List.length_cons, fitW_len n]

theorem dW_eq {v : Int} {r b : List Int} (h : EqL (v :: r) b) : EqL (diffs v r) (dW b) := by
  have hl : b.length = r.length + 1 := by have := h.1; simpa using this.symm
  refine ⟨by rw [diffs_len, dW_len]; omega, fun k => ?_⟩
  rcases Nat.lt_or_ge k r.length with hk | hk
  · rw [diffs_at r v k hk, dW_at (by omega)]
    refine Eq64.trans ?_ (wrp_eq _).symm
    have h1 := h.2 (k + 1)
    rw [List.getD_cons_succ] at h1
    exact h1.sub (h.2 k)
  · rw [getD_over (m := k) (by rw [diffs_len]; exact hk) (Nat.le_refl k), getD_over (m := k) (by rw [dW_len]; omega) (Nat.le_refl k)]
    exact Eq64.rfl' _

theorem fitW_eq : ∀ (m : Nat) (a b : List Int), a.length = m → EqL a b → EqL (fitM a) (fitW m b)
  | 0, a, b, ha, _ => by
    rw [List.length_eq_zero_iff.1 ha, fitM_nil]
    exact EqL.rfl' _
  | m + 1, a, b, ha, h => by
    cases a with
    | nil => cases ha
    | cons v r =>
      rw [fitM_cons, fitW]
      refine EqL.cons ?_ (fitW_eq m _ _ (by rw [diffs_len]; simpa using ha) (dW_eq h))
      have h0 := h.2 0
      cases b with
      | nil => cases h.1
      | cons y b => simpa using h0

theorem fitW_in : ∀ (m : Nat) (b : List Int), (∀ x ∈ b, In64 x) → ∀ x ∈ fitW m b, In64 x
  | 0, _, _, x, hx => by cases hx
  | m + 1, b, h, x, hx => by
    rw [fitW] at hx
    rcases List.mem_cons.1 hx with rfl | hx
    · have := getD_in h 0
      cases b with
      | nil => exact ⟨by simp, by simp⟩
      | cons y b => simpa using this
    · refine fitW_in m (dW b) (fun z hz => ?_) x hx
      obtain ⟨j, _, rfl⟩ := List.mem_map.1 hz
      exact wrp_in _

/-- the chain of values that are a chain's modulo 2^64 -/
theorem fitW_held {vs c : List Int} (hi : ∀ x ∈ vs, In64 x) (he : ∀ n, n < vs.length → Eq64 (vs.getD n 0) (vl c n)) (hc : c.length ≤ vs.length) (ic : ∀ x ∈ c, In64 x) : trimM (fitW vs.length vs) = trimM c :=
  fit_held rfl he ⟨fitW_eq _ _ _ rfl (EqL.rfl' _), fitW_in _ _ hi⟩ hc ic

/-- a chain's numbers, each held in 64 bits -/
def heldL (c : List Int) : List Int := c.map wrp
theorem heldL_eq (c : List Int) : EqL c (heldL c) := by
  refine ⟨by simp [heldL], fun k => ?_⟩
  unfold heldL
  rw [List.getD_eq_getElem?_getD, List.getD_eq_getElem?_getD, List.getElem?_map]
  cases c[k]? with
  | none => exact Eq64.rfl' _
  | some x => exact (wrp_eq x).symm
theorem heldL_in (c : List Int) : ∀ x ∈ heldL c, In64 x := fun x hx => by
  obtain ⟨y, _, rfl⟩ := List.mem_map.1 hx
  exact wrp_in y

/-- the chain of the values of any exact chain -/
theorem fitW_of {vs c : List Int} (hi : ∀ x ∈ vs, In64 x) (he : ∀ n, n < vs.length → Eq64 (vs.getD n 0) (vl c n)) (hc : c.length ≤ vs.length) : trimM (fitW vs.length vs) = trimM (heldL c) :=
  fitW_held hi (fun n hn => (he n hn).trans (vl_eq n _ _ (heldL_eq c))) (by rw [heldL, List.length_map]; exact hc) (heldL_in c)

end Go.Proofs.YtfifbgpiekpepaaDoor.Chn
