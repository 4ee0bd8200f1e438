/- Where dominance ends, as plain data: the lists as they are filled, block by block. -/
import Derived.Test.YtclbhbnidodmdaaDOver
namespace Go.Proofs.Ytclbhbnidodmdaa

/-- a dominates one that goes to b, but not b, or is b -/
def FrontP (bs : List BlockM) (o : List Nat) (a b : Nat) : Prop := (∃ p, b ∈ succM bs p ∧ OverP bs o a p) ∧ (a = b ∨ ¬ OverP bs o a b)

/-- from p up to what stands above b -/
def Seg (par : Nat → Option Nat) (b p a : Nat) : Prop := Anc par a p ∧ ∀ d, par b = some d → ¬ Anc par a d

theorem front_seg {bs : List BlockM} {o : List Nat} {pl : Nat → Nat} {par : Nat → Option Nat} (hO : Ord (succM bs) o pl) (hD : Done (succM bs) o pl par) (a b : Nat) :
    FrontP bs o a b ↔ ∃ p, p ∈ o ∧ b ∈ succM bs p ∧ Seg par b p a := by
  have key : b ∈ o → ((a = b ∨ ¬ OverP bs o a b) ↔ ∀ d, par b = some d → ¬ Anc par a d) := by
    intro hb
    rw [over_anc hO hD hb]
    constructor
    · intro h d hd ha
      have hu := hD.tree.up b d hd
      rcases h with rfl | h
      · have := hD.tree.anc_le ha; omega
      · exact h (.up hd ha)
    · intro h
      by_cases e : a = b
      · exact .inl e
      · refine .inr fun ha => ?_
        cases ha with
        | refl => exact e rfl
        | up hd k => exact h _ hd k
  constructor
  · rintro ⟨⟨p, hs, hp⟩, h2⟩
    have hpo := hp.2.1
    exact ⟨p, hpo, hs, (over_anc hO hD hpo).1 hp, (key (hO.next p hpo b hs)).1 h2⟩
  · rintro ⟨p, hpo, hs, h1, h2⟩
    exact ⟨⟨p, hs, (over_anc hO hD hpo).2 h1⟩, (key (hO.next p hpo b hs)).2 h2⟩

/-- the list of a, when all blocks ahead of b are done, and b for those in P -/
def frontRow (F : Nat → Nat → Bool) (b : Nat) (P : Nat → Bool) (a : Nat) : List Nat := (List.range b).filter (fun c => F a c) ++ if P a then [b] else []
def frontRows (n : Nat) (F : Nat → Nat → Bool) (b : Nat) (P : Nat → Bool) : List (List Nat) := (List.range n).map (frontRow F b P)

section
variable {F : Nat → Nat → Bool} {n b a : Nat} {P P' : Nat → Bool}

theorem frontRows_at (h : a < n) : (frontRows n F b P)[a]? = some (frontRow F b P a) := by
  unfold frontRows
  rw [List.getElem?_map, List.getElem?_eq_getElem (by simpa using h)]
  simp

theorem frontRows_len : (frontRows n F b P).length = n := by simp [frontRows]

theorem frontRow_len : (frontRow F b P a).length ≤ b + 1 := by
  unfold frontRow
  have h := List.length_filter_le (fun c => F a c) (List.range b)
  rw [List.length_range] at h
  rw [List.length_append]
  split <;> simp <;> omega

theorem frontRows_zero : frontRows n F 0 (fun _ => false) = (List.range n).map fun _ => [] := by
  unfold frontRows frontRow
  simp

theorem frontRows_congr (h : ∀ a, a < n → P a = P' a) : frontRows n F b P = frontRows n F b P' := by
  unfold frontRows
  apply List.map_congr_left
  intro a ha
  unfold frontRow
  rw [h a (by simpa using ha)]

theorem frontRows_next (h : ∀ a, a < n → P a = F a b) : frontRows n F b P = frontRows n F (b + 1) (fun _ => false) := by
  unfold frontRows
  apply List.map_congr_left
  intro a ha
  unfold frontRow
  rw [h a (by simpa using ha), List.range_succ, List.filter_append]
  cases hf : F a b <;> simp [hf]

/-- one more in P -/
def andAlso (P : Nat → Bool) (a : Nat) : Nat → Bool := fun c => c == a || P c

theorem frontRows_skip (h : P a = true) : frontRows n F b (andAlso P a) = frontRows n F b P := by
  apply frontRows_congr
  intro c _
  unfold andAlso
  by_cases e : c = a
  · subst e; rw [h]; simp
  · simp [e]

theorem frontRows_push (h : P a = false) (ha : a < n) : (frontRows n F b P).set a (frontRow F b P a ++ [b]) = frontRows n F b (andAlso P a) := by
  apply List.ext_getElem?
  intro c
  by_cases hc : c < n
  · rw [frontRows_at hc]
    by_cases e : a = c
    · subst e
      rw [List.getElem?_set_self (by rw [frontRows_len]; exact ha)]
      unfold frontRow andAlso
      simp [h]
    · rw [List.getElem?_set_ne e, frontRows_at hc]
      unfold frontRow andAlso
      have : (c == a) = false := by simpa using fun h2 => e h2.symm
      rw [this, Bool.false_or]
  · rw [List.getElem?_eq_none (by rw [List.length_set, frontRows_len]; omega), List.getElem?_eq_none (by rw [frontRows_len]; omega)]

/-- is b the last one of the list? -/
theorem frontRow_yes (h : P a = true) : ∃ l, frontRow F b P a = l ++ [b] := ⟨_, by unfold frontRow; rw [if_pos h]⟩
theorem frontRow_no (h : P a = false) : ∀ x ∈ frontRow F b P a, x ≠ b := by
  intro x hx
  unfold frontRow at hx
  rw [h] at hx
  simp at hx
  omega

theorem frontRow_lt {c : Nat} (h : c ∈ frontRow F b P a) : c ≤ b := by
  unfold frontRow at h
  rcases List.mem_append.1 h with h | h
  · have := (List.mem_filter.1 h).1
    simp at this
    omega
  · split at h <;> simp at h
    omega
end

/-- the way up from p, as far as cur: P has what was there, and what was gone through -/
structure Climb (bs : List BlockM) (o : List Nat) (par : Nat → Option Nat) (b p : Nat) (P0 P : Nat → Bool) (cur : Option Nat) : Prop where
  here : ∀ a, cur = some a → Anc par a p ∧ ∀ d, par b = some d → Anc par d a
  gone : cur = none → par b = none
  has : ∀ a, P a = true ↔ P0 a = true ∨ (Anc par a p ∧ ∀ c, cur = some c → ¬ Anc par a c)

section
variable {bs : List BlockM} {o : List Nat} {pl : Nat → Nat} {par : Nat → Option Nat} {b p : Nat} {P0 P : Nat → Bool} {cur : Option Nat}

theorem Climb.start (hO : Ord (succM bs) o pl) (hD : Done (succM bs) o pl par) (hp : p ∈ o) (hs : b ∈ succM bs p) : Climb bs o par b p P0 P0 (some p) := by
  have hb := hO.next p hp b hs
  refine ⟨fun a e => ?_, (fun e => by cases e), fun a => ⟨.inl, ?_⟩⟩
  · cases e
    refine ⟨.refl, fun d hd => ?_⟩
    rcases hD.fixed b hb p (hD.grown p hp) hs d (.up hd .refl) with h | h
    · have := (hD.tree.up b d hd).2.2.1
      subst h; omega
    · exact h
  · rintro (h | ⟨h1, h2⟩)
    · exact h
    · exact absurd h1 (h2 p rfl)

theorem Climb.step (hD : Done (succM bs) o pl par) {a : Nat} (h : Climb bs o par b p P0 P (some a)) (hne : par b ≠ some a) : Climb bs o par b p P0 (andAlso P a) (par a) := by
  obtain ⟨h1, h2⟩ := h.here a rfl
  refine ⟨fun a2 e => ⟨(Anc.up e .refl : Anc par a2 a).trans h1, fun d hd => ?_⟩, fun e => ?_, fun c => ?_⟩
  · rcases (h2 d hd).step e with h3 | h3
    · subst h3; exact absurd hd hne
    · exact h3
  · cases hd : par b with
    | none => rfl
    | some d =>
      have h3 := h2 d hd
      cases h3 with
      | refl => exact absurd hd hne
      | up e2 _ => rw [e] at e2; cases e2
  · unfold andAlso
    rw [Bool.or_eq_true, h.has c]
    constructor
    · rintro (h3 | h3 | ⟨h3, h4⟩)
      · have : c = a := by simpa using h3
        subst this
        refine .inr ⟨h1, fun c2 e ha => ?_⟩
        have := (hD.tree.up c c2 e).2.2.1
        have := hD.tree.anc_le ha
        omega
      · exact .inl h3
      · exact .inr ⟨h3, fun c2 e ha => h4 a rfl (.up e ha)⟩
    · rintro (h3 | ⟨h3, h4⟩)
      · exact .inr (.inl h3)
      · by_cases e : c = a
        · left; simp [e]
        · refine .inr (.inr ⟨h3, fun c2 e2 ha => ?_⟩)
          cases e2
          cases ha with
          | refl => exact e rfl
          | up e3 k => exact h4 _ e3 k

theorem Climb.stop (h : Climb bs o par b p P0 P cur) (he : cur = par b) (a : Nat) : P a = true ↔ P0 a = true ∨ Seg par b p a := by
  rw [h.has a, he]
  exact Iff.rfl

theorem Climb.not_none (h : Climb bs o par b p P0 P none) : par b = none := h.gone rfl
end

end Go.Proofs.Ytclbhbnidodmdaa
