/- A further block that nothing goes to, with a value that nobody uses: plain facts. -/
import Derived.Test.YtnfcgafkkjakiaaIds
namespace Go.Proofs.Ytnfcgafkkjakiaa

def newBlock (k n : Int) : BlockM := ⟨[], [⟨1, k, [], n⟩], ⟨4, -1, [], 0⟩⟩
def moreM (f : FuncM) (k n : Int) : FuncM := { f with blocks := f.blocks ++ [newBlock k n] }

variable {f : FuncM} {k n : Int}

theorem within_more {b : Int} {a nb : Nat} (h : withinB b a (nb - 1) = true) : withinB b a ((nb + 1 : Nat) - 1) = true := by
  have := within_bd h
  unfold withinB
  simp
  omega

theorem once_more {nb : Nat} : ∀ (l seen : List Int), onceB nb seen l = true → onceB (nb + 1) seen l = true := by
  intro l
  induction l with
  | nil => intro seen _; rfl
  | cons b l ih =>
    intro seen h
    unfold onceB at h ⊢
    simp only [Bool.and_eq_true] at h ⊢
    exact ⟨⟨within_more h.1.1, h.1.2⟩, ih _ h.2⟩

theorem targets_more {nb : Nat} {l : List Int} (h : targetsB nb l = true) : targetsB (nb + 1) l = true := by
  unfold targetsB at h ⊢
  rw [List.all_eq_true] at h ⊢
  exact fun x hx => within_more (a := 1) (h x hx)

theorem more_len : (moreM f k n).blocks.length = f.blocks.length + 1 := by simp [moreM]

theorem phiB_more {p : PhiM} (h : phiB f p = true) : phiB (moreM f k n) p = true := by
  unfold phiB at h ⊢
  simp only [Bool.and_eq_true] at h ⊢
  exact ⟨h.1, h.2.1, by rw [more_len]; exact once_more _ _ h.2.2⟩

theorem fitsB_more (op m : Int) : fitsB (moreM f k n) op m = fitsB f op m := rfl
theorem instrB_more (x : InstrM) : instrB (moreM f k n) x = instrB f x := rfl

theorem termB_more {t : TermM} (h : termB f t = true) : termB (moreM f k n) t = true := by
  have h1 : targetsB f.blocks.length t.to = true := by
    cases hh : targetsB f.blocks.length t.to
    · rw [termB_no hh] at h; cases h
    · rfl
  rw [termB_yes h1] at h
  rw [termB_yes (by rw [more_len]; exact targets_more h1)]
  exact h

theorem phiStep_more {ds d : Defs} {p : PhiM} (h : phiStep f ds p = some d) : phiStep (moreM f k n) ds p = some d := by
  cases hp : phiB f p
  · rw [phiStep_no hp] at h; cases h
  · rw [phiStep_ok hp] at h
    rw [phiStep_ok (phiB_more hp)]
    exact h

theorem phisStep_more : ∀ {l : List PhiM} {ds d : Defs}, phisStep f ds l = some d → phisStep (moreM f k n) ds l = some d := by
  intro l
  induction l with
  | nil => intro ds d h; exact h
  | cons p l ih =>
    intro ds d h
    unfold phisStep at h ⊢
    rw [Option.bind_eq_some_iff] at h ⊢
    obtain ⟨d1, h1, h2⟩ := h
    exact ⟨d1, phiStep_more h1, ih h2⟩

theorem codeStep_more : ∀ {l : List InstrM} {ds d : Defs}, codeStep f ds l = some d → codeStep (moreM f k n) ds l = some d := by
  intro l
  induction l with
  | nil => intro ds d h; exact h
  | cons p l ih =>
    intro ds d h
    unfold codeStep at h ⊢
    rw [Option.bind_eq_some_iff] at h ⊢
    obtain ⟨d1, h1, h2⟩ := h
    exact ⟨d1, h1, ih h2⟩

theorem blocksStep_more : ∀ {l : List BlockM} {ds d : Defs}, blocksStep f ds l = some d → blocksStep (moreM f k n) ds l = some d := by
  intro l
  induction l with
  | nil => intro ds d h; exact h
  | cons p l ih =>
    intro ds d h
    unfold blocksStep at h ⊢
    rw [Option.bind_eq_some_iff] at h ⊢
    obtain ⟨d1, h1, h2⟩ := h
    refine ⟨d1, ?_, ih h2⟩
    unfold blockStep at h1 ⊢
    rw [Option.bind_eq_some_iff] at h1 ⊢
    obtain ⟨d2, h3, h4⟩ := h1
    refine ⟨d2, phisStep_more h3, ?_⟩
    rw [Option.bind_eq_some_iff] at h4 ⊢
    obtain ⟨d3, h5, h6⟩ := h4
    refine ⟨d3, codeStep_more h5, ?_⟩
    split at h6
    · rename_i ht
      rw [if_pos (termB_more ht)]
      exact h6
    · cases h6

theorem blocksStep_append : ∀ (l r : List BlockM) (ds : Defs), blocksStep f ds (l ++ r) = (blocksStep f ds l).bind fun d => blocksStep f d r := by
  intro l
  induction l with
  | nil => intro r ds; rfl
  | cons p l ih =>
    intro r ds
    show (blockStep f ds p).bind _ = ((blockStep f ds p).bind _).bind _
    rw [Option.bind_assoc]
    congr 1
    funext d
    exact ih r d

theorem newStep {g : FuncM} {ds : Defs} (h1 : ds.at k = none) (h2 : withinB k g.params.length 1048575 = true) : blocksStep g ds [newBlock k n] = some (ds ++ [(k, 1)]) := by
  have ha : instrStep g ds ⟨1, k, [], n⟩ = some (ds ++ [(k, 1)]) := by
    rw [instrStep_ok (x := ⟨1, k, [], n⟩) rfl (show makesS 1 ≠ 0 by decide)]
    exact addDef_ok h1 h2
  have hc : codeStep g ds [⟨1, k, [], n⟩] = some (ds ++ [(k, 1)]) := by
    unfold codeStep
    rw [ha]
    rfl
  have ht : termB g ⟨4, -1, [], 0⟩ = true := rfl
  unfold blocksStep blockStep newBlock
  simp only [phisStep, Option.bind_some, hc, ht, if_pos]
  rfl

theorem formed_more {ds : Defs} (h : formedM f = some ds) (hs : sizeM f ≤ 4000) (hb : f.blocks.length ≤ 500) (h1 : ds.at k = none) (h2 : withinB k f.params.length 1048575 = true) : formedM (moreM f k n) = some (ds ++ [(k, 1)]) := by
  unfold formedM at h
  split at h
  · rename_i hc
    simp only [Bool.and_eq_true] at hc
    have hl := limits_bd hc.1.1
    have hlim : limitsB (moreM f k n) = true := by
      unfold limitsB withinB
      have e : sizeM (moreM f k n) = sizeM f + 2 := by
        unfold sizeM moreM
        rw [List.map_append, List.sum_append]
        rfl
      rw [e, more_len]
      show (decide (f.params.length ≤ 16) && ((decide (0 ≤ f.arrays) && decide (f.arrays ≤ 8)) && ((decide (0 ≤ f.cells) && decide (f.cells ≤ 64)) && _))) = true
      simp only [Bool.and_eq_true, decide_eq_true_eq]
      omega
    have hhd : ((moreM f k n).blocks.headD ⟨[], [], ⟨0, 0, [], 0⟩⟩).phis.isEmpty = true := by
      have h3 := hc.2
      unfold moreM
      cases hbl : f.blocks with
      | nil => have := hl.2.2.2.2.2.1; rw [hbl] at this; simp at this
      | cons a l => rw [hbl] at h3; exact h3
    unfold formedM
    rw [if_pos (by rw [hlim, show (moreM f k n).params.all isTypeB = true from hc.1.2, hhd]; rfl)]
    show blocksStep (moreM f k n) (paramDefs 0 f.params) (f.blocks ++ [newBlock k n]) = _
    rw [blocksStep_append, blocksStep_more h]
    exact newStep h1 h2
  · cases h

theorem uses_more : usesM (moreM f k n) = usesM f := by
  unfold usesM moreM
  rw [List.flatMap_append]
  simp [newBlock, usesBlock, usesInstr, usesTerm, takesS, shapeS]

theorem err_more {ds : Defs} (h1 : ds.at k = none) (us : List (Int × Int)) (h : usesErr ds us = 0) : usesErr (ds ++ [(k, 1)]) us = 0 := by
  have hu : unknownB ds us = false := by
    unfold usesErr at h
    cases hh : unknownB ds us
    · rfl
    · rw [hh] at h; simp at h
  have hf : unfitB ds us = false := by
    unfold usesErr at h
    rw [hu] at h
    cases hh : unfitB ds us
    · rfl
    · rw [hh] at h; simp at h
  have hat : ∀ u ∈ us, (ds ++ [(k, 1)] : Defs).at u.1 = ds.at u.1 := by
    intro u hm
    rw [Defs.at_snoc]
    cases hd : ds.at u.1 with
    | some t => rfl
    | none =>
      unfold unknownB at hu
      rw [List.any_eq_false] at hu
      have := hu u hm
      rw [hd] at this
      simp at this
  have hu2 : unknownB (ds ++ [(k, 1)]) us = false := by
    unfold unknownB at hu ⊢
    rw [List.any_eq_false] at hu ⊢
    intro u hm
    rw [hat u hm]
    exact hu u hm
  have hf2 : unfitB (ds ++ [(k, 1)]) us = false := by
    unfold unfitB at hf ⊢
    rw [List.any_eq_false] at hf ⊢
    intro u hm
    rw [hat u hm]
    exact hf u hm
  unfold usesErr
  rw [hu2, hf2]
  rfl

theorem look_more (h : (lookM f).1 = 0) (hs : sizeM f ≤ 4000) (hb : f.blocks.length ≤ 500) (h1 : (lookM f).2.at k = none) (h2 : withinB k f.params.length 1048575 = true) : lookM (moreM f k n) = (0, (lookM f).2 ++ [(k, 1)]) := by
  have hf := look_formed h
  have he : usesErr (lookM f).2 (usesM f) = 0 := by
    have h3 := look_some hf
    by_cases hu : usesErr (lookM f).2 (usesM f) = 0
    · exact hu
    · rw [if_neg hu] at h3
      rw [h3] at h
      exact absurd h hu
  rw [look_some (formed_more hf hs hb h1 h2), uses_more, if_pos (err_more h1 _ he)]

theorem count_none {ds : Defs} {us : List (Int × Int)} (h : usesErr ds us = 0) (h1 : ds.at k = none) : cntU k us = 0 := by
  unfold cntU
  rw [List.countP_eq_zero.2]
  · rfl
  · intro u hm
    have hu : unknownB ds us = false := by
      unfold usesErr at h
      cases hh : unknownB ds us
      · rfl
      · rw [hh] at h; simp at h
    unfold unknownB at hu
    rw [List.any_eq_false] at hu
    have := hu u hm
    intro e
    have e' : u.1 = k := by simpa using e
    rw [e', h1] at this
    simp at this

theorem size_more : sizeM (moreM f k n) = sizeM f + 2 := by
  unfold sizeM moreM
  rw [List.map_append, List.sum_append]
  rfl

end Go.Proofs.Ytnfcgafkkjakiaa
