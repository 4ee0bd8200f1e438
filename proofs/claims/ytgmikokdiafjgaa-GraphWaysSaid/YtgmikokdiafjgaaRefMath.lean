/- The reference's formed and Ids together say what the program's check says: plain mathematics. -/
import Derived.Test.YtgmikokdiafjgaaRefFormed
import Derived.Test.YtgmikokdiafjgaaRefIds
import Derived.Test.YtgmikokdiafjgaaTypesM
namespace Go.Proofs.Ytgmikokdiafjgaa
open Go.RowKit

theorem fits_eq {f : FuncM} {op n : Int} (h : isOp op = true) : fitsR f (kindS op) n = fitsB f op n := by
  unfold fitsR fitsB mostR withinB
  rcases op_cases op with h1 | h1 | h1
  · rcases h1 with rfl | rfl | rfl | rfl | rfl | rfl | rfl | rfl | rfl | rfl | rfl | rfl | rfl <;> simp [kindS, shapeS] <;> (rw [Bool.eq_iff_iff]; simp; omega)
  · rcases h1 with rfl | rfl | rfl | rfl | rfl | rfl | rfl | rfl | rfl | rfl | rfl | rfl <;> simp [kindS, shapeS] <;> (rw [Bool.eq_iff_iff]; simp; omega)
  · unfold isOp at h
    rw [shapeS_none h1] at h
    cases h

/-- all may be added, one after the other -/
def addsB (np : Nat) : Defs → List (Int × Int) → Bool
  | _, [] => true
  | ds, d :: r => defB np ds d.1 && addsB np (ds ++ [d]) r

theorem adds_app (np : Nat) : ∀ (l r ds : List (Int × Int)), addsB np ds (l ++ r) = (addsB np ds l && addsB np (ds ++ l) r) := by
  intro l
  induction l with
  | nil => intro r ds; simp [addsB]
  | cons d l ih =>
    intro r ds
    simp only [List.cons_append, addsB, ih, List.append_assoc, Bool.and_assoc]
    rfl

theorem phis_adds (f : FuncM) : ∀ (l : List PhiM) (ds : Defs), phisStep f ds l = if l.all (phiB f) && addsB f.params.length ds (l.map fun p => (p.id, p.typ)) then some (ds ++ l.map fun p => (p.id, p.typ)) else none := by
  intro l
  induction l with
  | nil => intro ds; simp [phisStep, addsB]
  | cons p l ih =>
    intro ds
    unfold phisStep phiStep addDef
    simp only [List.all_cons, List.map_cons, addsB]
    cases h1 : phiB f p
    · simp
    · cases h2 : defB f.params.length ds p.id
      · simp
      · simp only [if_pos, Option.bind_some, ih, Bool.true_and, List.append_assoc]
        rfl

theorem makes_cases (op : Int) : makesS op = 0 ∨ 0 < makesS op := by
  unfold makesS
  rcases op_cases op with h1 | h1 | h1
  · rcases h1 with rfl | rfl | rfl | rfl | rfl | rfl | rfl | rfl | rfl | rfl | rfl | rfl | rfl <;> simp [shapeS]
  · rcases h1 with rfl | rfl | rfl | rfl | rfl | rfl | rfl | rfl | rfl | rfl | rfl | rfl <;> simp [shapeS]
  · rw [shapeS_none h1]; simp

theorem instr_adds (f : FuncM) (ds : Defs) (x : InstrM) : instrStep f ds x = if instrR f x && addsB f.params.length ds (valuesInstr x) then some (ds ++ valuesInstr x) else none := by
  unfold instrStep instrR valuesInstr instrB addDef
  cases h0 : isOp x.op
  · simp
  · rw [fits_eq h0]
    cases h1 : x.args.length == (takesS x.op).length
    · simp
    · cases h2 : fitsB f x.op x.n
      · simp
      · rcases makes_cases x.op with h3 | h3
        · rw [h3]
          by_cases h4 : x.id = -1
          · simp [h4, addsB]
          · simp [h4]
        · have h4 : ¬ makesS x.op = 0 := by omega
          have h5 : (makesS x.op == 0) = false := by simpa using h4
          simp [h3, h4, h5, addsB]

theorem code_adds (f : FuncM) : ∀ (l : List InstrM) (ds : Defs), codeStep f ds l = if l.all (instrR f) && addsB f.params.length ds (l.flatMap valuesInstr) then some (ds ++ l.flatMap valuesInstr) else none := by
  intro l
  induction l with
  | nil => intro ds; simp [codeStep, addsB]
  | cons p l ih =>
    intro ds
    unfold codeStep
    rw [instr_adds]
    simp only [List.all_cons, List.flatMap_cons, adds_app]
    cases h1 : instrR f p
    · simp
    · cases h2 : addsB f.params.length ds (valuesInstr p)
      · simp
      · simp only [Bool.true_and, if_pos, Option.bind_some, ih, List.append_assoc]

theorem block_adds (f : FuncM) (ds : Defs) (q : BlockM) : blockStep f ds q = if blockR f q && addsB f.params.length ds (valuesBlock q) then some (ds ++ valuesBlock q) else none := by
  unfold blockStep blockR valuesBlock
  rw [phis_adds, adds_app]
  cases h1 : q.phis.all (phiB f)
  · simp
  · cases h2 : addsB f.params.length ds (q.phis.map fun p => (p.id, p.typ))
    · simp
    · simp only [Bool.true_and, if_pos, Option.bind_some, code_adds]
      cases h3 : q.code.all (instrR f)
      · simp
      · cases h4 : addsB f.params.length (ds ++ q.phis.map fun p => (p.id, p.typ)) (q.code.flatMap valuesInstr)
        · simp
        · cases h5 : termB f q.term <;> simp

theorem blocks_adds (f : FuncM) : ∀ (l : List BlockM) (ds : Defs), blocksStep f ds l = if l.all (blockR f) && addsB f.params.length ds (l.flatMap valuesBlock) then some (ds ++ l.flatMap valuesBlock) else none := by
  intro l
  induction l with
  | nil => intro ds; simp [blocksStep, addsB]
  | cons p l ih =>
    intro ds
    unfold blocksStep
    rw [block_adds]
    simp only [List.all_cons, List.flatMap_cons, adds_app]
    cases h1 : blockR f p
    · simp
    · cases h2 : addsB f.params.length ds (valuesBlock p)
      · simp
      · simp only [Bool.true_and, if_pos, Option.bind_some, ih, List.append_assoc]

theorem formed_adds (f : FuncM) : formedM f = if formedR f && addsB f.params.length (paramDefs 0 f.params) (f.blocks.flatMap valuesBlock) then some (valuesM f) else none := by
  unfold formedM formedR headR valuesM
  rw [blocks_adds]
  cases h1 : limitsB f
  · simp
  · cases h2 : f.params.all isTypeB
    · simp
    · cases h3 : (f.blocks.headD ⟨[], [], ⟨0, 0, [], 0⟩⟩).phis.isEmpty
      · simp
      · simp

theorem def_iff {np : Nat} {ds : Defs} {id : Int} : defB np ds id = true ↔ id ∉ ds.map (·.1) ∧ (np : Int) ≤ id ∧ id < 1048576 := by
  unfold defB withinB
  simp only [Bool.and_eq_true, Bool.not_eq_true', decide_eq_true_eq]
  rw [← at_some]
  cases (ds.at id).isSome <;> simp <;> omega

theorem adds_iff {np : Nat} : ∀ (l : List (Int × Int)) (ds : Defs), (ds.map (·.1)).Nodup → (addsB np ds l = true ↔ (∀ d ∈ l, (np : Int) ≤ d.1 ∧ d.1 < 1048576) ∧ ((ds ++ l).map (·.1)).Nodup) := by
  intro l
  induction l with
  | nil => intro ds h; simp [addsB, h]
  | cons d l ih =>
    intro ds h
    unfold addsB
    rw [Bool.and_eq_true, def_iff]
    have happ : ds ++ d :: l = (ds ++ [d]) ++ l := by simp
    constructor
    · rintro ⟨⟨h1, h2⟩, h3⟩
      have hn : ((ds ++ [d]).map (·.1)).Nodup := by
        rw [List.map_append, List.nodup_append]
        refine ⟨h, by simp, fun a ha b hb => ?_⟩
        simp at hb
        subst hb
        intro e
        subst e
        exact h1 ha
      obtain ⟨h4, h5⟩ := (ih _ hn).1 h3
      rw [happ]
      refine ⟨fun e he => ?_, h5⟩
      rcases List.mem_cons.1 he with rfl | he
      · exact h2
      · exact h4 e he
    · rintro ⟨h1, h2⟩
      rw [happ] at h2
      have hn : ((ds ++ [d]).map (·.1)).Nodup := by
        rw [List.map_append] at h2
        exact (List.nodup_append.1 h2).1
      refine ⟨⟨?_, h1 d (List.mem_cons_self ..)⟩, (ih _ hn).2 ⟨fun e he => h1 e (List.mem_cons_of_mem _ he), h2⟩⟩
      rw [List.map_append, List.nodup_append] at hn
      exact fun hm => hn.2.2 _ hm d.1 (by simp) rfl

theorem idsOk_adds {f : FuncM} : addsB f.params.length (paramDefs 0 f.params) (f.blocks.flatMap valuesBlock) = true ↔ IdsOk f := by
  rw [adds_iff _ _ (paramDefs_nodup _ _)]
  unfold IdsOk RangeTo
  have hv : valuesM f = paramDefs 0 f.params ++ f.blocks.flatMap valuesBlock := rfl
  have hpl := paramDefs_len f.params 0
  rw [← hv]
  refine and_congr ?_ Iff.rfl
  constructor
  · intro h j d hj hd hp
    rw [hv, List.getElem?_append_right (by omega)] at hd
    exact h d (List.mem_of_getElem? hd)
  · intro h d hd
    obtain ⟨i, hi⟩ := List.getElem?_of_mem hd
    have h2 : (valuesM f)[f.params.length + i]? = some d := by
      rw [hv, List.getElem?_append_right (by omega)]
      rw [hpl, Nat.add_sub_cancel_left]
      exact hi
    obtain ⟨h3, _⟩ := List.getElem?_eq_some_iff.1 h2
    exact h _ d h3 h2 (by omega)

theorem formed_no {f : FuncM} (h : formedR f = false) : formedM f = none := by rw [formed_adds, h]; rfl
theorem formed_ids_no {f : FuncM} (h : ¬ IdsOk f) : formedM f = none := by
  rw [formed_adds]
  cases ha : addsB f.params.length (paramDefs 0 f.params) (f.blocks.flatMap valuesBlock)
  · simp
  · exact absurd (idsOk_adds.1 ha) h
theorem formed_yes {f : FuncM} (h : formedR f = true) (h2 : IdsOk f) : formedM f = some (valuesM f) := by
  rw [formed_adds, h, idsOk_adds.2 h2]
  rfl

end Go.Proofs.Ytgmikokdiafjgaa
