/- Plain facts for IrUsed: the parts of a formed function are right each; types are 1 or 2; the uses are few; the uses of all values are all uses. -/
import Derived.Test.YtclbhbnidodmdaaRefUses
namespace Go.Proofs.Ytclbhbnidodmdaa
open Go.RowKit

theorem makes_type {op : Int} (h : makesS op ≠ 0) : isTypeB (makesS op) = true := by
  unfold makesS at h ⊢
  rcases op_cases op with h1 | h1 | h1
  · rcases h1 with rfl | rfl | rfl | rfl | rfl | rfl | rfl | rfl | rfl | rfl | rfl | rfl | rfl <;> first | decide | exact absurd rfl h
  · rcases h1 with rfl | rfl | rfl | rfl | rfl | rfl | rfl | rfl | rfl | rfl | rfl | rfl <;> first | decide | exact absurd rfl h
  · rw [shapeS_none h1] at h; exact absurd rfl h

def Typed (ds d : Defs) : Prop := ∀ x ∈ d, x ∈ ds ∨ isTypeB x.2 = true
theorem Typed.refl (ds : Defs) : Typed ds ds := fun _ h => .inl h
theorem Typed.trans {a b c : Defs} (h : Typed a b) (k : Typed b c) : Typed a c := fun x hx => by
  rcases k x hx with h1 | h1
  · exact h x h1
  · exact .inr h1

theorem addDef_typed {np : Nat} {ds d : Defs} {id t : Int} (ht : isTypeB t = true) (h : addDef np ds id t = some d) : Typed ds d := by
  unfold addDef at h
  split at h
  · injection h with h
    subst h
    intro x hx
    rcases List.mem_append.1 hx with hx | hx
    · exact .inl hx
    · simp at hx
      subst hx
      exact .inr ht
  · cases h

theorem phisStep_all {f : FuncM} : ∀ {l : List PhiM} {ds d : Defs}, phisStep f ds l = some d → (∀ p ∈ l, phiB f p = true) ∧ Typed ds d := by
  intro l
  induction l with
  | nil => intro ds d h; injection h with h; subst h; exact ⟨(fun _ h => by cases h), Typed.refl _⟩
  | cons p l ih =>
    intro ds d h
    unfold phisStep at h
    rw [Option.bind_eq_some_iff] at h
    obtain ⟨d1, h1, h2⟩ := h
    obtain ⟨i1, i2⟩ := ih h2
    unfold phiStep at h1
    split at h1
    · rename_i hp
      have ht : isTypeB p.typ = true := by unfold phiB at hp; simp only [Bool.and_eq_true] at hp; exact hp.1
      refine ⟨fun x hx => ?_, (addDef_typed ht h1).trans i2⟩
      rcases List.mem_cons.1 hx with rfl | hx
      · exact hp
      · exact i1 x hx
    · cases h1

theorem codeStep_all {f : FuncM} : ∀ {l : List InstrM} {ds d : Defs}, codeStep f ds l = some d → (∀ x ∈ l, instrB f x = true) ∧ Typed ds d := by
  intro l
  induction l with
  | nil => intro ds d h; injection h with h; subst h; exact ⟨(fun _ h => by cases h), Typed.refl _⟩
  | cons p l ih =>
    intro ds d h
    unfold codeStep at h
    rw [Option.bind_eq_some_iff] at h
    obtain ⟨d1, h1, h2⟩ := h
    obtain ⟨i1, i2⟩ := ih h2
    unfold instrStep at h1
    split at h1
    · rename_i hp
      have hd : Typed ds d1 := by
        split at h1
        · split at h1
          · injection h1 with h1; subst h1; exact Typed.refl _
          · cases h1
        · rename_i hm
          exact addDef_typed (makes_type hm) h1
      refine ⟨fun x hx => ?_, hd.trans i2⟩
      rcases List.mem_cons.1 hx with rfl | hx
      · exact hp
      · exact i1 x hx
    · cases h1

def Right (f : FuncM) (b : BlockM) : Prop := (∀ p ∈ b.phis, phiB f p = true) ∧ ∀ x ∈ b.code, instrB f x = true

theorem blocksStep_all {f : FuncM} : ∀ {l : List BlockM} {ds d : Defs}, blocksStep f ds l = some d → (∀ b ∈ l, Right f b) ∧ Typed ds d := by
  intro l
  induction l with
  | nil => intro ds d h; injection h with h; subst h; exact ⟨(fun _ h => by cases h), Typed.refl _⟩
  | cons b l ih =>
    intro ds d h
    unfold blocksStep at h
    rw [Option.bind_eq_some_iff] at h
    obtain ⟨d1, h1, h2⟩ := h
    obtain ⟨i1, i2⟩ := ih h2
    unfold blockStep at h1
    rw [Option.bind_eq_some_iff] at h1
    obtain ⟨d2, h3, h4⟩ := h1
    rw [Option.bind_eq_some_iff] at h4
    obtain ⟨d3, h5, h6⟩ := h4
    obtain ⟨p1, p2⟩ := phisStep_all h3
    obtain ⟨c1, c2⟩ := codeStep_all h5
    split at h6
    · injection h6 with h6
      subst h6
      refine ⟨fun x hx => ?_, (p2.trans c2).trans i2⟩
      rcases List.mem_cons.1 hx with rfl | hx
      · exact ⟨p1, c1⟩
      · exact i1 x hx
    · cases h6

theorem paramDefs_typ (l : List Int) : ∀ j, ∀ d ∈ paramDefs j l, d.2 ∈ l := by
  induction l with
  | nil => intro j d h; cases h
  | cons t l ih =>
    intro j d h
    rcases List.mem_cons.1 h with rfl | h
    · exact List.mem_cons_self ..
    · exact List.mem_cons_of_mem _ (ih _ d h)

theorem formed_all {f : FuncM} {ds : Defs} (h : formedM f = some ds) : (∀ b ∈ f.blocks, Right f b) ∧ ∀ x ∈ ds, isTypeB x.2 = true := by
  unfold formedM at h
  split at h
  · rename_i hc
    simp only [Bool.and_eq_true] at hc
    obtain ⟨h1, h2⟩ := blocksStep_all h
    refine ⟨h1, fun x hx => ?_⟩
    rcases h2 x hx with h3 | h3
    · exact List.all_eq_true.1 hc.1.2 _ (paramDefs_typ _ _ x h3)
    · exact h3
  · cases h

theorem right_block {f : FuncM} {q : BlockM} (hb : f.blocks.length ≤ 512) (h : Right f q) : (usesBlock q).length ≤ sizeB q * 512 := by
  unfold usesBlock sizeB
  rw [List.length_append, List.length_append]
  have h1 := flat_len usesPhi 512 q.phis (fun p hp => by
    have h2 := h.1 p hp
    unfold phiB at h2
    simp only [Bool.and_eq_true, beq_iff_eq] at h2
    unfold usesPhi
    rw [List.length_map, h2.2.1]
    exact Nat.le_trans (once_len h2.2.2) hb)
  have h2 := flat_len usesInstr 512 q.code (fun x _ => by
    unfold usesInstr
    rw [List.length_zip]
    have := shapeS_short x.op
    unfold takesS
    rw [List.length_map]
    omega)
  have h3 : (usesTerm q.term).length ≤ 1 := by
    unfold usesTerm
    split
    · simp
    · split <;> simp
  rw [Nat.add_mul, Nat.add_mul]
  omega

theorem right_blocks {f : FuncM} (hb : f.blocks.length ≤ 512) : ∀ l : List BlockM, (∀ q ∈ l, Right f q) → (l.flatMap usesBlock).length ≤ (l.map sizeB).sum * 512 := by
  intro l
  induction l with
  | nil => intro _; simp
  | cons q l ih =>
    intro h
    rw [List.flatMap_cons, List.length_append, List.map_cons, List.sum_cons, Nat.add_mul]
    have h1 := right_block hb (h q (List.mem_cons_self ..))
    have h2 := ih (fun b hb => h b (List.mem_cons_of_mem _ hb))
    omega

theorem look_few {f : FuncM} (h : (lookM f).1 = 0) : Few f.blocks := by
  have h1 := right_blocks (look_bd h) f.blocks (formed_all (look_formed h)).1
  have h2 := look_size h
  unfold sizeM at h2
  unfold Few
  omega

theorem look_form {f : FuncM} (h : (lookM f).1 = 0) : ∀ b ∈ f.blocks, ∀ x ∈ b.code, x.args.length = (takesS x.op).length := by
  intro b hb x hx
  have h1 := ((formed_all (look_formed h)).1 b hb).2 x hx
  unfold instrB at h1
  simp only [Bool.and_eq_true, beq_iff_eq] at h1
  exact h1.2.1

theorem look_phi {f : FuncM} (h : (lookM f).1 = 0) : ∀ b ∈ f.blocks, ∀ p ∈ b.phis, p.vals.length = p.fr.length := by
  intro b hb x hx
  have h1 := ((formed_all (look_formed h)).1 b hb).1 x hx
  unfold phiB at h1
  simp only [Bool.and_eq_true, beq_iff_eq] at h1
  exact h1.2.1

theorem look_type {f : FuncM} (h : (lookM f).1 = 0) {id : Int} (hi : id ∈ idsS f) : ∃ t, (lookM f).2.at id = some t ∧ (t = 1 ∨ t = 2) := by
  rw [idsS_mem] at hi
  obtain ⟨t, ht⟩ := Option.isSome_iff_exists.1 (at_some.2 hi)
  refine ⟨t, ht, ?_⟩
  unfold Defs.at at ht
  rw [Option.map_eq_some_iff] at ht
  obtain ⟨d, hd, rfl⟩ := ht
  have := (formed_all (look_formed h)).2 d (List.mem_of_find?_eq_some hd)
  unfold isTypeB at this
  simpa using this

theorem idsS_nodup {f : FuncM} (h : (lookM f).1 = 0) : (idsS f).Nodup := by
  unfold idsS
  exact (List.mergeSort_perm _ _).nodup_iff.2 (formed_nodup (look_formed h))

theorem idsS_less {f : FuncM} (h : (lookM f).1 = 0) {k : Nat} {a b : Int} (ha : (idsS f)[k]? = some a) (hb : (idsS f)[k + 1]? = some b) : a < b := by
  obtain ⟨h1, rfl⟩ := List.getElem?_eq_some_iff.1 ha
  obtain ⟨h2, rfl⟩ := List.getElem?_eq_some_iff.1 hb
  have h3 := List.pairwise_iff_getElem.1 (idsS_sorted f) k (k + 1) h1 h2 (by omega)
  have h4 := List.pairwise_iff_getElem.1 (idsS_nodup h) k (k + 1) h1 h2 (by omega)
  omega

theorem idsS_bd {f : FuncM} (h : (lookM f).1 = 0) {x : Int} (hx : x ∈ idsS f) : 0 ≤ x ∧ x ≤ 1048575 := by
  rw [idsS_mem] at hx
  obtain ⟨d, hd, rfl⟩ := List.mem_map.1 hx
  exact (formed_keys (look_formed h)).1 d hd

theorem sub_len : ∀ l r : List Int, l.Nodup → (∀ x ∈ l, x ∈ r) → l.length ≤ r.length := by
  intro l
  induction l with
  | nil => intro r _ _; simp
  | cons a l ih =>
    intro r hn hs
    rw [List.nodup_cons] at hn
    have ha := hs a (List.mem_cons_self ..)
    have h1 := ih (r.erase a) hn.2 (fun x hx => (List.mem_erase_of_ne (fun e => hn.1 (by rw [← e]; exact hx))).2 (hs x (List.mem_cons_of_mem _ hx)))
    rw [List.length_erase_of_mem ha] at h1
    have h2 := List.length_pos_of_mem ha
    rw [List.length_cons]
    omega

theorem idsS_params {f : FuncM} (h : (lookM f).1 = 0) : f.params.length ≤ (idsS f).length := by
  have h1 := (formed_keys (look_formed h)).2
  have h2 : ((List.range f.params.length).map fun k : Nat => (k : Int)) ⊆ idsS f := by
    intro x hx
    obtain ⟨k, hk, rfl⟩ := List.mem_map.1 hx
    rw [idsS_mem]
    exact h1 k (List.mem_range.1 hk)
  have h3 : ((List.range f.params.length).map fun k : Nat => (k : Int)).Nodup := by
    rw [List.Nodup, List.pairwise_map]
    exact List.nodup_range.imp (fun h e => h (by omega))
  have h4 := sub_len _ _ h3 (fun x hx => h2 hx)
  simpa using h4

/-- the uses of the values of l, summed -/
def sumU (l : List Int) (us : List (Int × Int)) : Int := (l.map fun id => cntU id us).sum

theorem cnt_cons (id : Int) (u : Int × Int) (us : List (Int × Int)) : cntU id (u :: us) = cntU id us + if u.1 = id then 1 else 0 := by
  unfold cntU
  rw [List.countP_cons]
  by_cases h : u.1 = id <;> simp [h]

theorem sum_cons (u : Int × Int) (us : List (Int × Int)) : ∀ l : List Int, l.Nodup → sumU l (u :: us) = sumU l us + if u.1 ∈ l then 1 else 0 := by
  intro l
  induction l with
  | nil => intro _; simp [sumU]
  | cons a l ih =>
    intro h
    rw [List.nodup_cons] at h
    have h1 := ih h.2
    unfold sumU at h1 ⊢
    rw [List.map_cons, List.map_cons, List.sum_cons, List.sum_cons, h1, cnt_cons]
    by_cases e : u.1 = a
    · have : u.1 ∉ l := by rw [e]; exact h.1
      rw [if_pos e, if_neg this, if_pos (by rw [e]; exact List.mem_cons_self ..)]
      omega
    · by_cases e2 : u.1 ∈ l
      · rw [if_neg e, if_pos e2, if_pos (List.mem_cons_of_mem _ e2)]
        omega
      · rw [if_neg e, if_neg e2, if_neg (by rw [List.mem_cons]; exact fun h => by rcases h with h | h; exact e h; exact e2 h)]
        omega

theorem sum_le (l : List Int) (h : l.Nodup) : ∀ us : List (Int × Int), 0 ≤ sumU l us ∧ sumU l us ≤ us.length := by
  intro us
  induction us with
  | nil =>
    have : sumU l [] = 0 := by
      unfold sumU
      clear h
      induction l with
      | nil => rfl
      | cons a l ih => rw [List.map_cons, List.sum_cons, ih]; rfl
    rw [this]
    simp
  | cons u us ih =>
    rw [sum_cons u us l h, List.length_cons]
    split <;> omega

theorem sum_all (l : List Int) (h : l.Nodup) : ∀ us : List (Int × Int), (∀ u ∈ us, u.1 ∈ l) → sumU l us = us.length := by
  intro us
  induction us with
  | nil => intro _; have := sum_le l h []; simp at this ⊢; omega
  | cons u us ih =>
    intro hu
    rw [sum_cons u us l h, List.length_cons, ih (fun x hx => hu x (List.mem_cons_of_mem _ hx)), if_pos (hu u (List.mem_cons_self ..))]
    omega

theorem sum_take {l : List Int} {k : Nat} {id : Int} (us : List (Int × Int)) (h : l[k]? = some id) : sumU (l.take (k + 1)) us = sumU (l.take k) us + cntU id us := by
  obtain ⟨hk, rfl⟩ := List.getElem?_eq_some_iff.1 h
  unfold sumU
  rw [List.take_succ_eq_append_getElem hk, List.map_append, List.sum_append]
  simp

theorem look_sum {f : FuncM} (h : (lookM f).1 = 0) : sumU (idsS f) (usesM f) = (usesM f).length := by
  refine sum_all _ (idsS_nodup h) _ fun u hu => ?_
  rw [idsS_mem, ← at_some]
  have hun : unknownB (lookM f).2 (usesM f) = false := by
    cases hf : formedM f with
    | none => rw [look_none hf] at h; cases h
    | some ds =>
      unfold lookM at h ⊢
      rw [hf] at h ⊢
      simp only at h ⊢
      cases hx : unknownB ds (usesM f)
      · rw [hx] at h
        simp only [Bool.false_eq_true, if_false] at h ⊢
        split at h
        · cases h
        · rename_i hy
          rw [if_neg hy]
          exact hx
      · rw [hx] at h
        simp at h
  unfold unknownB at hun
  rw [List.any_eq_false] at hun
  have := hun u hu
  simpa [Option.isSome_iff_ne_none] using this

theorem cnt_nonneg (id : Int) (us : List (Int × Int)) : 0 ≤ cntU id us := by unfold cntU; omega

end Go.Proofs.Ytclbhbnidodmdaa
