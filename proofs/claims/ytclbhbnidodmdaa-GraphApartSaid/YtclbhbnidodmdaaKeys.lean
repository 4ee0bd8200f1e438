/- Plain facts of the values of a function. -/
import Derived.Test.YtclbhbnidodmdaaCountM
import Derived.Test.YtclbhbnidodmdaaRefArgs
namespace Go.Proofs.Ytclbhbnidodmdaa
open Go.RowKit Go.Maps

theorem at_some {ds : Defs} {k : Int} : (ds.at k).isSome = true ↔ k ∈ ds.map (·.1) := by
  unfold Defs.at
  rw [Option.isSome_map, List.find?_isSome]
  simp only [List.mem_map, beq_iff_eq]

theorem nodup_snoc {ds : Defs} {id t : Int} (h : (ds.map (·.1)).Nodup) (hn : ds.at id = none) : ((ds ++ [(id, t)]).map (·.1)).Nodup := by
  rw [List.map_append, List.nodup_append]
  refine ⟨h, by simp, ?_⟩
  intro a ha b hb e
  simp at hb
  subst hb e
  have := at_some.2 ha
  rw [hn] at this
  cases this

theorem addDef_nodup {np : Nat} {ds d : Defs} {id t : Int} (h : (ds.map (·.1)).Nodup) (ha : addDef np ds id t = some d) : (d.map (·.1)).Nodup := by
  unfold addDef defB at ha
  split at ha
  · rename_i hc
    injection ha with ha
    subst ha
    simp only [Bool.and_eq_true, Bool.not_eq_true', Option.isSome_eq_false_iff, Option.isNone_iff_eq_none] at hc
    exact nodup_snoc h hc.1
  · cases ha

theorem phisStep_nodup {f : FuncM} : ∀ {l : List PhiM} {ds d : Defs}, (ds.map (·.1)).Nodup → phisStep f ds l = some d → (d.map (·.1)).Nodup := by
  intro l
  induction l with
  | nil => intro ds d hn h; injection h with h; subst h; exact hn
  | cons p l ih =>
    intro ds d hn h
    unfold phisStep at h
    rw [Option.bind_eq_some_iff] at h
    obtain ⟨d1, h1, h2⟩ := h
    refine ih ?_ h2
    unfold phiStep at h1
    split at h1
    · exact addDef_nodup hn h1
    · cases h1

theorem codeStep_nodup {f : FuncM} : ∀ {l : List InstrM} {ds d : Defs}, (ds.map (·.1)).Nodup → codeStep f ds l = some d → (d.map (·.1)).Nodup := by
  intro l
  induction l with
  | nil => intro ds d hn h; injection h with h; subst h; exact hn
  | cons p l ih =>
    intro ds d hn h
    unfold codeStep at h
    rw [Option.bind_eq_some_iff] at h
    obtain ⟨d1, h1, h2⟩ := h
    refine ih ?_ h2
    unfold instrStep at h1
    split at h1
    · split at h1
      · split at h1
        · injection h1 with h1; subst h1; exact hn
        · cases h1
      · exact addDef_nodup hn h1
    · cases h1

theorem blocksStep_nodup {f : FuncM} : ∀ {l : List BlockM} {ds d : Defs}, (ds.map (·.1)).Nodup → blocksStep f ds l = some d → (d.map (·.1)).Nodup := by
  intro l
  induction l with
  | nil => intro ds d hn h; injection h with h; subst h; exact hn
  | cons p l ih =>
    intro ds d hn h
    unfold blocksStep at h
    rw [Option.bind_eq_some_iff] at h
    obtain ⟨d1, h1, h2⟩ := h
    refine ih ?_ h2
    unfold blockStep at h1
    rw [Option.bind_eq_some_iff] at h1
    obtain ⟨d2, h3, h4⟩ := h1
    rw [Option.bind_eq_some_iff] at h4
    obtain ⟨d3, h5, h6⟩ := h4
    split at h6
    · injection h6 with h6
      subst h6
      exact codeStep_nodup (phisStep_nodup hn h3) h5
    · cases h6

theorem paramDefs_ge (l : List Int) : ∀ j, ∀ d ∈ paramDefs j l, (j : Int) ≤ d.1 := by
  induction l with
  | nil => intro j d h; cases h
  | cons a l ih =>
    intro j d h
    rcases List.mem_cons.1 h with rfl | h
    · exact Int.le_refl _
    · have := ih (j + 1) d h
      omega

theorem paramDefs_nodup (l : List Int) : ∀ j, ((paramDefs j l).map (·.1)).Nodup := by
  induction l with
  | nil => intro j; exact List.nodup_nil
  | cons a l ih =>
    intro j
    show (((j : Int), a).1 :: (paramDefs (j + 1) l).map (·.1)).Nodup
    rw [List.nodup_cons]
    refine ⟨fun h => ?_, ih (j + 1)⟩
    obtain ⟨d, hd, he⟩ := List.mem_map.1 h
    have := paramDefs_ge l (j + 1) d hd
    simp only at he
    omega

theorem formed_nodup {f : FuncM} {ds : Defs} (h : formedM f = some ds) : (ds.map (·.1)).Nodup := by
  unfold formedM at h
  split at h
  · exact blocksStep_nodup (paramDefs_nodup _ _) h
  · cases h

/-- all values, rising -/
def idsS (f : FuncM) : List Int := ((lookM f).2.map (·.1)).mergeSort fun x y => decide (x ≤ y)

def idsOut (f : FuncM) : List Int := if (lookM f).1 = 0 then idsS f else []

theorem idsS_len (f : FuncM) : (idsS f).length = (lookM f).2.length := by
  unfold idsS
  rw [List.length_mergeSort, List.length_map]

theorem blocksStep_len {f : FuncM} : ∀ {l : List BlockM} {ds d : Defs}, blocksStep f ds l = some d → d.length ≤ ds.length + (l.map sizeB).sum := by
  intro l
  induction l with
  | nil => intro ds d h; injection h with h; subst h; simp
  | cons p l ih =>
    intro ds d h
    unfold blocksStep at h
    rw [Option.bind_eq_some_iff] at h
    obtain ⟨d1, h1, h2⟩ := h
    have := ih h2
    have := blockStep_len h1
    simp only [List.map_cons, List.sum_cons]
    unfold sizeB
    unfold sizeB at *
    omega

theorem look_len {f : FuncM} (h : (lookM f).1 = 0) : (lookM f).2.length ≤ 4112 := by
  have hf := look_formed h
  unfold formedM at hf
  split at hf
  · rename_i hl
    simp only [Bool.and_eq_true] at hl
    have h1 := limits_bd hl.1.1
    have h2 := blocksStep_len hf
    rw [paramDefs_len] at h2
    omega
  · cases hf

end Go.Proofs.Ytclbhbnidodmdaa
