/- A formed function's values are those of the reference's list. -/
import Derived.Test.YtclbhbnidodmdaaRefValues
namespace Go.Proofs.Ytclbhbnidodmdaa
open Go.RowKit

theorem addDef_eq {np : Nat} {ds d : Defs} {id t : Int} (h : addDef np ds id t = some d) : d = ds ++ [(id, t)] := by
  unfold addDef at h
  split at h
  · injection h with h
    exact h.symm
  · cases h

theorem makes_pos {op : Int} (h : makesS op ≠ 0) : 0 < makesS op := by
  have := makes_type h
  unfold isTypeB at this
  simp at this
  omega

theorem phisStep_eq {f : FuncM} : ∀ {l : List PhiM} {ds d : Defs}, phisStep f ds l = some d → d = ds ++ l.map fun p => (p.id, p.typ) := by
  intro l
  induction l with
  | nil => intro ds d h; injection h with h; simp [h]
  | cons p l ih =>
    intro ds d h
    unfold phisStep at h
    rw [Option.bind_eq_some_iff] at h
    obtain ⟨d1, h1, h2⟩ := h
    have h3 := ih h2
    unfold phiStep at h1
    split at h1
    · rw [h3, addDef_eq h1, List.map_cons, List.append_assoc]
      rfl
    · cases h1

theorem codeStep_eq {f : FuncM} : ∀ {l : List InstrM} {ds d : Defs}, codeStep f ds l = some d → d = ds ++ l.flatMap valuesInstr := by
  intro l
  induction l with
  | nil => intro ds d h; injection h with h; simp [h]
  | cons x l ih =>
    intro ds d h
    unfold codeStep at h
    rw [Option.bind_eq_some_iff] at h
    obtain ⟨d1, h1, h2⟩ := h
    have h3 := ih h2
    have h4 : d1 = ds ++ valuesInstr x := by
      unfold instrStep at h1
      unfold valuesInstr
      split at h1
      · split at h1
        · rename_i hm
          rw [if_neg (by omega)]
          split at h1
          · injection h1 with h1
            simp [h1]
          · cases h1
        · rename_i hm
          rw [if_pos (makes_pos hm)]
          exact addDef_eq h1
      · cases h1
    rw [h3, h4, List.flatMap_cons, List.append_assoc]

theorem blocksStep_eq {f : FuncM} : ∀ {l : List BlockM} {ds d : Defs}, blocksStep f ds l = some d → d = ds ++ l.flatMap valuesBlock := by
  intro l
  induction l with
  | nil => intro ds d h; injection h with h; simp [h]
  | cons b l ih =>
    intro ds d h
    unfold blocksStep at h
    rw [Option.bind_eq_some_iff] at h
    obtain ⟨d1, h1, h2⟩ := h
    have h7 := ih h2
    unfold blockStep at h1
    rw [Option.bind_eq_some_iff] at h1
    obtain ⟨d2, h3, h4⟩ := h1
    rw [Option.bind_eq_some_iff] at h4
    obtain ⟨d3, h5, h6⟩ := h4
    split at h6
    · injection h6 with h6
      subst h6
      rw [h7, codeStep_eq h5, phisStep_eq h3, List.flatMap_cons]
      simp only [valuesBlock, List.append_assoc]
    · cases h6

theorem formed_eq {f : FuncM} {ds : Defs} (h : formedM f = some ds) : ds = valuesM f := by
  unfold formedM at h
  split at h
  · exact blocksStep_eq h
  · cases h

/-- the reference's type of a value; 0: there is none -/
def typeR (vs : List (Int × Int)) (id : Int) : Int := match Defs.at vs id with | some t => t | none => 0

theorem at_take_none {vs : List (Int × Int)} {k : Nat} {id : Int} {d : Int × Int} (h : vs[k]? = some d) (hn : Defs.at (vs.take k) id = none) (hne : (d.1 == id) = false) : Defs.at (vs.take (k + 1)) id = none := by
  obtain ⟨hk, rfl⟩ := List.getElem?_eq_some_iff.1 h
  unfold Defs.at at hn ⊢
  rw [Option.map_eq_none_iff] at hn ⊢
  rw [List.take_succ_eq_append_getElem hk, List.find?_append, hn]
  simp [hne]

theorem at_here {vs : List (Int × Int)} {k : Nat} {id : Int} {d : Int × Int} (h : vs[k]? = some d) (hn : Defs.at (vs.take k) id = none) (he : (d.1 == id) = true) : Defs.at vs id = some d.2 := by
  obtain ⟨hk, hd⟩ := List.getElem?_eq_some_iff.1 h
  unfold Defs.at at hn ⊢
  rw [Option.map_eq_none_iff] at hn
  have e : vs = vs.take k ++ d :: vs.drop (k + 1) := by rw [← hd, ← List.drop_eq_getElem_cons hk, List.take_append_drop]
  rw [e, List.find?_append, hn]
  simp [List.find?_cons, he]

theorem valCells_at {vs : List (Int × Int)} : ∀ {k : Nat} {d : Int × Int}, vs[k]? = some d → (valCells vs)[k * 2]? = some (.int .i64 d.1) ∧ (valCells vs)[k * 2 + 1]? = some (.int .i64 d.2) := by
  induction vs with
  | nil => intro k d h; simp at h
  | cons a vs ih =>
    intro k d h
    cases k with
    | zero =>
      simp at h
      subst h
      exact ⟨rfl, rfl⟩
    | succ k =>
      have := ih (k := k) (d := d) (by simpa using h)
      unfold valCells at this ⊢
      rw [List.flatMap_cons]
      have e1 : (k + 1) * 2 = k * 2 + 1 + 1 := by omega
      rw [e1]
      exact this

/-- what a row of values says in memory -/
theorem RV.form {w : World} {base : Nat} {v : Value} {vs : List (Int × Int)} (h : RV w base v vs) : ∃ A c, v = .slice A vs.length c ∧ (0 < vs.length → ∃ g cs, A = some ⟨g, 0, none⟩ ∧ base ≤ g ∧ w.heap[g]? = some (.cells cs 74 (0, 0)) ∧
    ∀ k d, vs[k]? = some d → cs[k * 2]? = some (.int .i64 d.1) ∧ cs[k * 2 + 1]? = some (.int .i64 d.2)) := by
  rcases h.2 with ⟨rfl, h0⟩ | ⟨g, cap, cur, rfl, hb, hg, hnc, hm, hs, ht⟩
  · exact ⟨none, 0, by rw [h0], fun hp => absurd hp (by omega)⟩
  · refine ⟨_, _, rfl, fun _ => ⟨g, cur, rfl, hb, hg, fun k d hd => ?_⟩⟩
    obtain ⟨h1, h2⟩ := valCells_at hd
    rw [← ht, List.getElem?_take] at h1 h2
    split at h1
    · split at h2
      · exact ⟨by simpa using h1, by simpa using h2⟩
      · cases h2
    · cases h1

end Go.Proofs.Ytclbhbnidodmdaa
