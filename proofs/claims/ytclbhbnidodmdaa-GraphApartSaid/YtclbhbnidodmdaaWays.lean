/- The ways through a function, as plain data: a visit in depth, and what is done then. No word of the program here. -/
import Derived.Test.YtclbhbnidodmdaaSpec
namespace Go.Proofs.Ytclbhbnidodmdaa

/-- where a block goes to -/
def succM (bs : List BlockM) (b : Nat) : List Nat := match bs[b]? with | some q => q.term.to.map Int.toNat | none => []

/-- visits of a list of blocks: what was begun and done ahead, and behind -/
inductive Visit (succ : Nat → List Nat) : List Nat → List Nat × List Nat → List Nat × List Nat → Prop
  | nil (s : List Nat × List Nat) : Visit succ [] s s
  | skip {t : Nat} {r bg dn : List Nat} {s : List Nat × List Nat} (h : t ∈ bg) (k : Visit succ r (bg, dn) s) : Visit succ (t :: r) (bg, dn) s
  | go {t : Nat} {r bg dn bg1 dn1 : List Nat} {s : List Nat × List Nat} (h : t ∉ bg) (k : Visit succ (succ t) (t :: bg, dn) (bg1, dn1)) (l : Visit succ r (bg1, dn1 ++ [t]) s) : Visit succ (t :: r) (bg, dn) s

theorem Visit.append {succ : Nat → List Nat} {l1 l2 : List Nat} {s s1 s2 : List Nat × List Nat} (h : Visit succ l1 s s1) (k : Visit succ l2 s1 s2) : Visit succ (l1 ++ l2) s s2 := by
  induction h with
  | nil => exact k
  | skip h _ ih => exact .skip h (ih k)
  | go h k1 _ _ ih => exact .go h k1 (ih k)

theorem Visit.det {succ : Nat → List Nat} {l : List Nat} {s s1 s2 : List Nat × List Nat} (h : Visit succ l s s1) (k : Visit succ l s s2) : s1 = s2 := by
  induction h generalizing s2 with
  | nil => cases k; rfl
  | skip h _ ih =>
    cases k with
    | skip _ k => exact ih k
    | go h2 _ _ => exact absurd h h2
  | go h _ _ ih1 ih2 =>
    cases k with
    | skip h2 _ => exact absurd h2 h
    | go _ k1 k2 =>
      cases ih1 k1
      exact ih2 k2

/-- what a visit does: the new ones, in the order in which they were done -/
structure Did (succ : Nat → List Nat) (work bg dn bg' dn' new : List Nat) : Prop where
  done : dn' = dn ++ new
  nodup : new.Nodup
  fresh : ∀ x ∈ new, x ∉ bg
  begun : ∀ x, x ∈ bg' ↔ x ∈ bg ∨ x ∈ new
  len : bg'.length = bg.length + new.length
  all : ∀ x ∈ work, x ∈ bg'
  next : ∀ x ∈ new, ∀ y ∈ succ x, y ∈ bg'
  from_ : ∀ (i : Nat) x, new[i]? = some x → x ∈ work ∨ ∃ j y, i < j ∧ new[j]? = some y ∧ x ∈ succ y
  keepsNodup : bg.Nodup → bg'.Nodup

theorem Visit.did {succ : Nat → List Nat} {l : List Nat} {s s' : List Nat × List Nat} (h : Visit succ l s s') : ∃ new, Did succ l s.1 s.2 s'.1 s'.2 new := by
  induction h with
  | nil s => exact ⟨[], by simp, by simp, by simp, by simp, by simp, by simp, by simp, by simp, id⟩
  | @skip t r bg dn s h _ ih =>
    obtain ⟨new, d⟩ := ih
    refine ⟨new, d.done, d.nodup, d.fresh, d.begun, d.len, ?_, d.next, fun i x hx => ?_, d.keepsNodup⟩
    · intro x hx
      rcases List.mem_cons.1 hx with rfl | hx
      · exact (d.begun _).2 (.inl h)
      · exact d.all x hx
    · rcases d.from_ i x hx with h1 | h1
      · exact .inl (List.mem_cons_of_mem _ h1)
      · exact .inr h1
  | @go t r bg dn bg1 dn1 s h _ _ ih1 ih2 =>
    obtain ⟨n1, d1⟩ := ih1
    obtain ⟨n2, d2⟩ := ih2
    have hb1 : ∀ x, x ∈ bg1 ↔ (x = t ∨ x ∈ bg) ∨ x ∈ n1 := fun x => by have := d1.begun x; simpa using this
    have hf1 : ∀ x ∈ n1, x ≠ t ∧ x ∉ bg := fun x hx => by have := d1.fresh x hx; simpa using this
    have hf2 : ∀ x ∈ n2, x ≠ t ∧ x ∉ bg ∧ x ∉ n1 := fun x hx => by
      have := d2.fresh x hx
      rw [show ((bg1, dn1 ++ [t]) : List Nat × List Nat).1 = bg1 from rfl, hb1] at this
      exact ⟨fun e => this (.inl (.inl e)), fun e => this (.inl (.inr e)), fun e => this (.inr e)⟩
    refine ⟨n1 ++ t :: n2, ?_, ?_, ?_, ?_, ?_, ?_, ?_, ?_, fun hn => d2.keepsNodup (d1.keepsNodup (List.nodup_cons.2 ⟨h, hn⟩))⟩
    · rw [d2.done]
      have := d1.done
      simp only at this
      rw [this]
      simp
    · rw [List.nodup_append]
      refine ⟨d1.nodup, List.nodup_cons.2 ⟨fun hm => (hf2 t hm).1 rfl, d2.nodup⟩, fun a ha b hb e => ?_⟩
      subst e
      rcases List.mem_cons.1 hb with rfl | hb
      · exact (hf1 _ ha).1 rfl
      · exact (hf2 _ hb).2.2 ha
    · intro x hx
      rcases List.mem_append.1 hx with hx | hx
      · exact (hf1 x hx).2
      · rcases List.mem_cons.1 hx with rfl | hx
        · exact h
        · exact (hf2 x hx).2.1
    · intro x
      rw [d2.begun, show ((bg1, dn1 ++ [t]) : List Nat × List Nat).1 = bg1 from rfl, hb1]
      simp only [List.mem_append, List.mem_cons]
      constructor
      · rintro (((h1 | h1) | h1) | h1) <;> simp [h1]
      · rintro (h1 | h1 | h1 | h1) <;> simp [h1]
    · have e1 := d1.len
      have e2 := d2.len
      simp at e1 e2 ⊢
      omega
    · intro x hx
      rcases List.mem_cons.1 hx with rfl | hx
      · exact (d2.begun _).2 (.inl ((hb1 _).2 (.inl (.inl rfl))))
      · exact d2.all x hx
    · intro x hx y hy
      rcases List.mem_append.1 hx with hx | hx
      · exact (d2.begun _).2 (.inl (d1.next x hx y hy))
      · rcases List.mem_cons.1 hx with rfl | hx
        · exact (d2.begun _).2 (.inl (d1.all y hy))
        · exact d2.next x hx y hy
    · intro i x hx
      by_cases h1 : i < n1.length
      · rw [List.getElem?_append_left h1] at hx
        rcases d1.from_ i x hx with hw | ⟨j, y, hj, hy, hs⟩
        · exact .inr ⟨n1.length, t, h1, by simp, hw⟩
        · have hj1 : j < n1.length := (List.getElem?_eq_some_iff.1 hy).1
          exact .inr ⟨j, y, hj, by rw [List.getElem?_append_left hj1]; exact hy, hs⟩
      · rw [List.getElem?_append_right (by omega)] at hx
        obtain ⟨m, hm⟩ : ∃ m, i - n1.length = m := ⟨_, rfl⟩
        rw [hm] at hx
        cases m with
        | zero =>
          simp at hx
          subst hx
          exact .inl (List.mem_cons_self ..)
        | succ m =>
          simp at hx
          rcases d2.from_ m x hx with hw | ⟨j, y, hj, hy, hs⟩
          · exact .inl (List.mem_cons_of_mem _ hw)
          · refine .inr ⟨n1.length + 1 + j, y, by omega, ?_, hs⟩
            rw [List.getElem?_append_right (by omega), show n1.length + 1 + j - n1.length = j + 1 by omega]
            simpa using hy

/-- a list without doubles, all below n, and one below n that is not in it: shorter than n -/
theorem below_len : ∀ (n : Nat) (l : List Nat), l.Nodup → (∀ x ∈ l, x < n) → l.length ≤ n := by
  intro n
  induction n with
  | zero => intro l _ h; cases l with | nil => simp | cons a l => exact absurd (h a (List.mem_cons_self ..)) (by omega)
  | succ n ih =>
    intro l hn h
    have h1 := ih (l.erase n) (hn.erase n) (fun x hx => by
      have h2 := (List.Nodup.mem_erase_iff hn).1 hx
      have := h x h2.2
      omega)
    by_cases hm : n ∈ l
    · rw [List.length_erase_of_mem hm] at h1; omega
    · rw [List.erase_of_not_mem hm] at h1; omega

theorem fresh_len {n b : Nat} {l : List Nat} (hn : l.Nodup) (h : ∀ x ∈ l, x < n) (hb : b < n) (hf : b ∉ l) : l.length < n := by
  have := below_len n (b :: l) (List.nodup_cons.2 ⟨hf, hn⟩) (fun x hx => by rcases List.mem_cons.1 hx with rfl | hx; exact hb; exact h x hx)
  simp at this
  omega

theorem nodup_rev {α : Type} {l : List α} (h : l.Nodup) : l.reverse.Nodup := List.pairwise_reverse.2 (h.imp fun h e => h e.symm)

/-- the order of a function: a visit of block 0, the last one done first -/
def OrderIs (bs : List BlockM) (o : List Nat) : Prop := ∃ bg dn, Visit (succM bs) (succM bs 0) ([0], []) (bg, dn) ∧ o = (dn ++ [0]).reverse

theorem OrderIs.one {bs : List BlockM} {o o' : List Nat} (h : OrderIs bs o) (k : OrderIs bs o') : o = o' := by
  obtain ⟨bg, dn, v, rfl⟩ := h
  obtain ⟨bg', dn', v', rfl⟩ := k
  cases v.det v'
  rfl

/-- what an order is like -/
theorem OrderIs.facts {bs : List BlockM} {o : List Nat} (h : OrderIs bs o) :
    o[0]? = some 0 ∧ o.Nodup ∧ (∀ x ∈ o, ∀ y ∈ succM bs x, y ∈ o) ∧ ∀ (i : Nat) x, 0 < i → o[i]? = some x → ∃ j y, j < i ∧ o[j]? = some y ∧ x ∈ succM bs y := by
  obtain ⟨bg, dn, v, rfl⟩ := h
  have v2 : Visit (succM bs) [0] ([], []) (bg, dn ++ [0]) := .go (by simp) v (.nil _)
  obtain ⟨new, d⟩ := v2.did
  have hd : dn ++ [0] = new := by simpa using d.done
  rw [hd]
  have h0 : new.reverse[0]? = some 0 := by rw [← hd]; simp
  refine ⟨h0, nodup_rev d.nodup, fun x hx y hy => ?_, fun i x hi hx => ?_⟩
  · have hx' : x ∈ new := List.mem_reverse.1 hx
    have := (d.begun y).1 (d.next x hx' y hy)
    simpa using this
  · have hlt : i < new.length := by have := (List.getElem?_eq_some_iff.1 hx).1; simpa using this
    have hx1 : new[new.length - 1 - i]? = some x := by rw [← hx, List.getElem?_reverse hlt]
    rcases d.from_ _ x hx1 with hw | ⟨j, y, hj, hy, hs⟩
    · have e : x = 0 := by simpa using hw
      subst e
      exfalso
      have hn := nodup_rev d.nodup
      have := (List.getElem?_inj (by have := hlt; simp; omega) hn).1 (h0.trans hx.symm)
      omega
    · have hjl : j < new.length := (List.getElem?_eq_some_iff.1 hy).1
      refine ⟨new.length - 1 - j, y, by omega, ?_, hs⟩
      rw [List.getElem?_reverse (by omega), show new.length - 1 - (new.length - 1 - j) = j by omega]
      exact hy

end Go.Proofs.Ytclbhbnidodmdaa
