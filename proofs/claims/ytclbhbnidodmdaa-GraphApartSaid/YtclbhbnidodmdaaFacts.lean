/- Plain facts of formed functions: their values are numbers from 0 on, the parameters among them; how many uses there are. -/
import Derived.Test.YtclbhbnidodmdaaKeys
import Derived.Test.YtclbhbnidodmdaaOpen
namespace Go.Proofs.Ytclbhbnidodmdaa
open Go.RowKit

/-- what a step keeps: old values stay, new ones are not below 0 -/
def Grows (ds d : Defs) : Prop := (∀ x ∈ ds, x ∈ d) ∧ ∀ x ∈ d, x ∈ ds ∨ (0 ≤ x.1 ∧ x.1 ≤ 1048575)

theorem Grows.refl (ds : Defs) : Grows ds ds := ⟨fun _ h => h, fun _ h => .inl h⟩
theorem Grows.trans {a b c : Defs} (h : Grows a b) (k : Grows b c) : Grows a c :=
  ⟨fun x hx => k.1 x (h.1 x hx), fun x hx => by rcases k.2 x hx with h1 | h1; exact h.2 x h1; exact .inr h1⟩

theorem addDef_grows {np : Nat} {ds d : Defs} {id t : Int} (h : addDef np ds id t = some d) : Grows ds d := by
  unfold addDef defB at h
  split at h
  · rename_i hc
    injection h with h
    subst h
    simp only [Bool.and_eq_true] at hc
    have := within_bd hc.2
    refine ⟨fun x hx => List.mem_append_left _ hx, fun x hx => ?_⟩
    rcases List.mem_append.1 hx with hx | hx
    · exact .inl hx
    · simp at hx
      subst hx
      exact .inr (by show 0 ≤ id ∧ id ≤ 1048575; omega)
  · cases h

theorem phisStep_grows {f : FuncM} : ∀ {l : List PhiM} {ds d : Defs}, phisStep f ds l = some d → Grows ds d := by
  intro l
  induction l with
  | nil => intro ds d h; injection h with h; subst h; exact Grows.refl _
  | cons p l ih =>
    intro ds d h
    unfold phisStep at h
    rw [Option.bind_eq_some_iff] at h
    obtain ⟨d1, h1, h2⟩ := h
    refine Grows.trans ?_ (ih h2)
    unfold phiStep at h1
    split at h1
    · exact addDef_grows h1
    · cases h1

theorem codeStep_grows {f : FuncM} : ∀ {l : List InstrM} {ds d : Defs}, codeStep f ds l = some d → Grows ds d := by
  intro l
  induction l with
  | nil => intro ds d h; injection h with h; subst h; exact Grows.refl _
  | cons p l ih =>
    intro ds d h
    unfold codeStep at h
    rw [Option.bind_eq_some_iff] at h
    obtain ⟨d1, h1, h2⟩ := h
    refine Grows.trans ?_ (ih h2)
    unfold instrStep at h1
    split at h1
    · split at h1
      · split at h1
        · injection h1 with h1; subst h1; exact Grows.refl _
        · cases h1
      · exact addDef_grows h1
    · cases h1

theorem blocksStep_grows {f : FuncM} : ∀ {l : List BlockM} {ds d : Defs}, blocksStep f ds l = some d → Grows ds d := by
  intro l
  induction l with
  | nil => intro ds d h; injection h with h; subst h; exact Grows.refl _
  | cons p l ih =>
    intro ds d h
    unfold blocksStep at h
    rw [Option.bind_eq_some_iff] at h
    obtain ⟨d1, h1, h2⟩ := h
    refine Grows.trans ?_ (ih h2)
    unfold blockStep at h1
    rw [Option.bind_eq_some_iff] at h1
    obtain ⟨d2, h3, h4⟩ := h1
    rw [Option.bind_eq_some_iff] at h4
    obtain ⟨d3, h5, h6⟩ := h4
    split at h6
    · injection h6 with h6
      subst h6
      exact (phisStep_grows h3).trans (codeStep_grows h5)
    · cases h6

theorem paramDefs_mem (l : List Int) : ∀ (j k : Nat), j ≤ k → k < j + l.length → ∃ d ∈ paramDefs j l, d.1 = (k : Int) := by
  induction l with
  | nil => intro j k h1 h2; simp at h2; omega
  | cons a l ih =>
    intro j k h1 h2
    by_cases e : j = k
    · subst e
      exact ⟨_, List.mem_cons_self .., rfl⟩
    · simp only [List.length_cons] at h2
      obtain ⟨d, hd, he⟩ := ih (j + 1) k (by omega) (by omega)
      exact ⟨d, List.mem_cons_of_mem _ hd, he⟩

theorem paramDefs_lt (l : List Int) : ∀ j, ∀ d ∈ paramDefs j l, d.1 < (j + l.length : Nat) := by
  induction l with
  | nil => intro j d h; cases h
  | cons a l ih =>
    intro j d h
    simp only [List.length_cons]
    rcases List.mem_cons.1 h with rfl | h
    · show (j : Int) < _
      omega
    · have := ih (j + 1) d h
      omega

theorem formed_keys {f : FuncM} {ds : Defs} (h : formedM f = some ds) : (∀ x ∈ ds, 0 ≤ x.1 ∧ x.1 ≤ 1048575) ∧ ∀ k : Nat, k < f.params.length → (k : Int) ∈ ds.map (·.1) := by
  unfold formedM at h
  split at h
  · rename_i hc
    simp only [Bool.and_eq_true] at hc
    have hl := (limits_bd hc.1.1).1
    have hg := blocksStep_grows h
    refine ⟨fun x hx => ?_, fun k hk => ?_⟩
    · rcases hg.2 x hx with h1 | h1
      · have h2 := paramDefs_ge _ _ x h1
        have h3 := paramDefs_lt _ _ x h1
        omega
      · exact h1
    · obtain ⟨d, hd, he⟩ := paramDefs_mem f.params 0 k (by omega) (by omega)
      exact List.mem_map.2 ⟨d, hg.1 d hd, he⟩
  · cases h

/-- the number behind all values -/
def nextId (f : FuncM) : Int := match (idsS f).getLast? with | some x => x + 1 | none => f.params.length

theorem idsS_mem {f : FuncM} {x : Int} : x ∈ idsS f ↔ x ∈ (lookM f).2.map (·.1) := by
  unfold idsS
  exact (List.mergeSort_perm _ _).mem_iff

theorem idsS_sorted (f : FuncM) : (idsS f).Pairwise (· ≤ ·) := by
  have h := List.pairwise_mergeSort (le := fun x y : Int => decide (x ≤ y)) (fun a b c h1 h2 => by simp only [decide_eq_true_eq] at *; omega) (fun a b => by simp only [Bool.or_eq_true, decide_eq_true_eq]; omega) ((lookM f).2.map (·.1))
  exact h.imp (fun h => by simpa using h)

theorem last_max {l : List Int} (h : l.Pairwise (· ≤ ·)) {x : Int} (hx : l.getLast? = some x) : ∀ y ∈ l, y ≤ x := by
  intro y hy
  obtain ⟨r, rfl⟩ : ∃ r, l = r ++ [x] := by
    cases hl : l.reverse with
    | nil => have : l = [] := by simpa using hl
             subst this; cases hx
    | cons a r =>
      have hle : l = r.reverse ++ [a] := by rw [← List.reverse_reverse l, hl, List.reverse_cons]
      rw [hle, List.getLast?_append] at hx
      simp at hx
      subst hx
      exact ⟨_, hle⟩
  rw [List.pairwise_append] at h
  rcases List.mem_append.1 hy with hy | hy
  · exact h.2.2 y hy x (by simp)
  · simp at hy
    omega

theorem next_new {f : FuncM} (h : (lookM f).1 = 0) : (lookM f).2.at (nextId f) = none ∧ (f.params.length : Int) ≤ nextId f := by
  have hk := formed_keys (look_formed h)
  have hnot : nextId f ∉ (lookM f).2.map (·.1) := by
    intro hm
    rw [← idsS_mem] at hm
    unfold nextId at hm
    cases hl : (idsS f).getLast? with
    | none =>
      have : idsS f = [] := List.getLast?_eq_none_iff.1 hl
      rw [this] at hm
      cases hm
    | some x =>
      rw [hl] at hm
      have := last_max (idsS_sorted f) hl _ hm
      simp only at this
      omega
  refine ⟨?_, ?_⟩
  · cases hd : (lookM f).2.at (nextId f) with
    | none => rfl
    | some t => exact absurd (at_some.1 (by rw [hd]; rfl)) hnot
  · unfold nextId
    cases hl : (idsS f).getLast? with
    | none => exact Int.le_refl _
    | some x =>
      simp only
      rcases Nat.eq_zero_or_pos f.params.length with h0 | h0
      · have hx : x ∈ idsS f := List.mem_of_getLast? hl
        rw [idsS_mem] at hx
        obtain ⟨d, hd, rfl⟩ := List.mem_map.1 hx
        have := hk.1 d hd
        omega
      · have h1 := hk.2 (f.params.length - 1) (by omega)
        rw [← idsS_mem] at h1
        have := last_max (idsS_sorted f) hl _ h1
        omega

theorem last_bd {f : FuncM} {x : Int} (h : (lookM f).1 = 0) (hl : (idsS f).getLast? = some x) : 0 ≤ x ∧ x ≤ 1048575 := by
  have hx : x ∈ idsS f := List.mem_of_getLast? hl
  rw [idsS_mem] at hx
  obtain ⟨d, hd, rfl⟩ := List.mem_map.1 hx
  exact (formed_keys (look_formed h)).1 d hd

theorem uses_i64 {f : FuncM} (h : ∀ q ∈ f.blocks, BlockOk q) : ∀ u ∈ usesM f, I64 u.1 := by
  intro u hu
  obtain ⟨q, hq, hu⟩ := List.mem_flatMap.1 hu
  obtain ⟨h1, h2, h3⟩ := h q hq
  rcases List.mem_append.1 hu with hu | hu
  · obtain ⟨p, hp, hu⟩ := List.mem_flatMap.1 hu
    obtain ⟨v, hv, rfl⟩ := List.mem_map.1 hu
    exact (h1 p hp).2 v hv
  · rcases List.mem_append.1 hu with hu | hu
    · obtain ⟨x, hx, hu⟩ := List.mem_flatMap.1 hu
      exact h2 x hx _ (List.of_mem_zip hu).1
    · unfold usesTerm at hu
      split at hu
      · simp at hu; subst hu; exact h3
      · split at hu
        · simp at hu; subst hu; exact h3
        · cases hu

theorem flat_len {α β : Type} (g : α → List β) (M : Nat) : ∀ l : List α, (∀ a ∈ l, (g a).length ≤ M) → (l.flatMap g).length ≤ l.length * M := by
  intro l
  induction l with
  | nil => intro _; simp
  | cons a l ih =>
    intro h
    rw [List.flatMap_cons, List.length_append, List.length_cons, Nat.add_mul]
    have h1 := h a (List.mem_cons_self ..)
    have h2 := ih (fun b hb => h b (List.mem_cons_of_mem _ hb))
    omega

theorem usesBlock_len {q : BlockM} (h : BlockOk q) : (usesBlock q).length ≤ sizeB q * 140737488351232 := by
  unfold usesBlock sizeB
  rw [List.length_append, List.length_append]
  have h1 := flat_len usesPhi 140737488351232 q.phis (fun p hp => by unfold usesPhi; rw [List.length_map]; exact (h.1 p hp).1)
  have h2 := flat_len usesInstr 140737488351232 q.code (fun x _ => by
    unfold usesInstr
    rw [List.length_zip]
    have := shapeS_short x.op
    unfold takesS
    rw [List.length_map]
    omega)
  have h3 : (usesTerm q.term).length ≤ 1 := by
    unfold usesTerm
    split
    · simp
    · split <;> simp
  rw [Nat.add_mul, Nat.add_mul]
  omega

theorem uses_len_le : ∀ l : List BlockM, (∀ q ∈ l, BlockOk q) → (l.flatMap usesBlock).length ≤ (l.map sizeB).sum * 140737488351232 := by
  intro l
  induction l with
  | nil => intro _; simp
  | cons q l ih =>
    intro h
    rw [List.flatMap_cons, List.length_append, List.map_cons, List.sum_cons, Nat.add_mul]
    have h1 := usesBlock_len (h q (List.mem_cons_self ..))
    have h2 := ih (fun b hb => h b (List.mem_cons_of_mem _ hb))
    omega

theorem look_size {f : FuncM} (h : (lookM f).1 = 0) : sizeM f ≤ 4096 := by
  have hf := look_formed h
  unfold formedM at hf
  split at hf
  · rename_i hl
    simp only [Bool.and_eq_true] at hl
    exact (limits_bd hl.1.1).2.2.2.2.2.2.2
  · cases hf

theorem uses_len {f : FuncM} (h : ∀ q ∈ f.blocks, BlockOk q) (h0 : (lookM f).1 = 0) : (usesM f).length < 4611686018427387904 := by
  have h1 := uses_len_le f.blocks h
  have h2 := look_size h0
  unfold sizeM at h2
  unfold usesM
  omega

end Go.Proofs.Ytclbhbnidodmdaa
