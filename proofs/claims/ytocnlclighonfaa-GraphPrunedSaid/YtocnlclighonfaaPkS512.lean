/- What S5 rests on, part 12: SCheckM, AwakeM, AwakeN, SDefOf, RefDef, RefUses5. -/
import Derived.Test.YtocnlclighonfaaPkS511

namespace Go.Proofs.Ytocnlclighonfaa
open Go.RowKit Go.Maps

theorem look_right {f : FuncM} (h : (lookM f).1 = 0) : formedR f = true := by
  cases hr : formedR f
  · have := formed_no hr
    rw [look_formed h] at this
    cases this
  · rfl

theorem right_blockR {f : FuncM} (h : (lookM f).1 = 0) {q : BlockM} (hq : q ∈ f.blocks) : blockR f q = true := by
  have hr := look_right h
  unfold formedR at hr
  simp only [Bool.and_eq_true, List.all_eq_true] at hr
  exact hr.2.2.2 q hq

theorem look_id {f : FuncM} (h : (lookM f).1 = 0) {q : BlockM} (hq : q ∈ f.blocks) {x : InstrM} (hx : x ∈ q.code) : makesS x.op = 0 → x.id = -1 := by
  have hb := right_blockR h hq
  unfold blockR at hb
  simp only [Bool.and_eq_true, List.all_eq_true] at hb
  have hi := hb.2.1 x hx
  unfold instrR at hi
  simp only [Bool.and_eq_true, Bool.not_eq_true', Bool.and_eq_false_iff, beq_eq_false_iff_ne, bne_eq_false_iff_eq] at hi
  intro hm
  rcases hi.2.2.1 with h1 | h1
  · exact absurd hm h1
  · exact h1

theorem look_used {f : FuncM} (h : (lookM f).1 = 0) (u : Int × Int) (hu : u ∈ usesM f) : u.1 ∈ (valuesM f).map (·.1) := by
  rw [← at_some]
  have he := look_eq (look_formed h)
  rw [h, formed_eq (look_formed h)] at he
  cases hx : unknownB (valuesM f) (usesM f)
  · unfold unknownB at hx
    rw [List.any_eq_false] at hx
    have := hx u hu
    simpa [Option.isSome_iff_ne_none] using this
  · rw [hx] at he
    simp at he

theorem vals_instr {f : FuncM} (h : (lookM f).1 = 0) {q : BlockM} (hq : q ∈ f.blocks) {x : InstrM} (hx : x ∈ q.code) (b i : Nat) : (placedInstr b i x).map (·.1) = (valuesInstr x).map (·.1) := by
  unfold placedInstr valuesInstr
  rcases makes_cases x.op with hm | hm
  · have := look_id h hq hx hm
    rw [if_neg (by omega), if_neg (by omega)]
    rfl
  · have hk := (formed_keys (look_formed h)).1
    have hv := formed_eq (look_formed h)
    have hmem : (x.id, makesS x.op) ∈ (lookM f).2 := by
      rw [hv]
      unfold valuesM valuesBlock
      refine List.mem_append.2 (.inr (List.mem_flatMap.2 ⟨q, hq, List.mem_append.2 (.inr (List.mem_flatMap.2 ⟨x, hx, ?_⟩))⟩))
      unfold valuesInstr
      rw [if_pos hm]
      exact List.mem_singleton.2 rfl
    have h0 := (hk _ hmem).1
    rw [if_pos h0, if_pos hm]
    rfl

theorem vals_code {f : FuncM} (h : (lookM f).1 = 0) {q : BlockM} (hq : q ∈ f.blocks) (b : Nat) : ∀ i, i ≤ q.code.length → (placedCode b q.code i).map (·.1) = ((q.code.take i).flatMap valuesInstr).map (·.1) := by
  intro i
  induction i with
  | zero => intro _; rfl
  | succ i ih =>
    intro hi
    have hx : q.code[i]? = some q.code[i] := List.getElem?_eq_getElem (by omega)
    rw [placedCode, hx, List.map_append, ih (by omega), List.take_succ_eq_append_getElem (by omega), List.flatMap_append, List.map_append, vals_instr h hq (List.getElem_mem ..)]
    simp

theorem vals_block {f : FuncM} (h : (lookM f).1 = 0) {q : BlockM} (hq : q ∈ f.blocks) (b : Nat) : (placedBlock b q).map (·.1) = (valuesBlock q).map (·.1) := by
  unfold placedBlock valuesBlock
  rw [List.map_append, List.map_append, vals_code h hq b _ (Nat.le_refl _), List.take_length]
  congr 1
  unfold placedPhis
  rw [List.map_map, List.map_map]
  rfl

theorem vals_blocks {f : FuncM} (h : (lookM f).1 = 0) : ∀ b, b ≤ f.blocks.length → (placedBlocks f.blocks b).map (·.1) = ((f.blocks.take b).flatMap valuesBlock).map (·.1) := by
  intro b
  induction b with
  | zero => intro _; rfl
  | succ b ih =>
    intro hb
    have hx : f.blocks[b]? = some f.blocks[b] := List.getElem?_eq_getElem (by omega)
    rw [placedBlocks, hx, List.map_append, ih (by omega), List.take_succ_eq_append_getElem (by omega), List.flatMap_append, List.map_append, vals_block h (List.getElem_mem ..)]
    simp

theorem vals_params (l : List Int) : (placedParams l.length).map (·.1) = (paramDefs 0 l).map (·.1) := by
  have h1 : ∀ n, (placedParams n).map (·.1) = (List.range n).map fun (k : Nat) => (k : Int) := by
    intro n
    induction n with
    | zero => rfl
    | succ n ih => rw [placedParams, List.map_append, ih, List.range_succ, List.map_append]; rfl
  have h2 : ∀ (l : List Int) (j : Nat), (paramDefs j l).map (·.1) = (List.range l.length).map fun (k : Nat) => ((j + k : Nat) : Int) := by
    intro l
    induction l with
    | nil => intro j; rfl
    | cons a l ih =>
      intro j
      rw [paramDefs, List.map_cons, ih, List.length_cons, List.range_succ_eq_map, List.map_cons, List.map_map]
      congr 1
      apply List.map_congr_left
      intro k _
      simp only [Function.comp]
      omega
  rw [h1, h2]
  apply List.map_congr_left
  intro k _
  simp

theorem placed_ids {f : FuncM} (h : (lookM f).1 = 0) : (placedM f).map (·.1) = (valuesM f).map (·.1) := by
  unfold placedM valuesM
  rw [List.map_append, List.map_append, vals_params, vals_blocks h _ (Nat.le_refl _), List.take_length]

theorem placed_nodup {f : FuncM} (h : (lookM f).1 = 0) : ((placedM f).map (·.1)).Nodup := by
  rw [placed_ids h]
  have := formed_nodup (look_formed h)
  rwa [formed_eq (look_formed h)] at this

/-- the blocks and places of what is placed -/
theorem placedCode_mem {b : Nat} {xs : List InstrM} {d : Int × (Nat × Int)} : ∀ i, d ∈ placedCode b xs i → d.2.1 = b ∧ ∃ (j : Nat) (x : InstrM), xs[j]? = some x ∧ j < i ∧ d.1 = x.id ∧ d.2.2 = (j : Int) ∧ 0 ≤ x.id := by
  intro i
  induction i with
  | zero => intro h; cases h
  | succ i ih =>
    intro h
    rw [placedCode] at h
    rcases List.mem_append.1 h with h | h
    · obtain ⟨h1, j, x, h2, h3, h4⟩ := ih h
      exact ⟨h1, j, x, h2, by omega, h4⟩
    · cases hx : xs[i]? with
      | none => rw [hx] at h; cases h
      | some x =>
        rw [hx] at h
        simp only [placedInstr] at h
        split at h
        · rename_i h0
          rw [List.mem_singleton] at h
          subst h
          exact ⟨rfl, i, x, hx, by omega, rfl, rfl, h0⟩
        · cases h

/-- where a value is made -/
inductive MadeAt (f : FuncM) (id : Int) : Nat → Int → Prop
  | param (h0 : 0 ≤ id) (h : id < f.params.length) : MadeAt f id 0 (-1)
  | phi {b : Nat} {q : BlockM} {p : PhiM} (hq : f.blocks[b]? = some q) (hp : p ∈ q.phis) (h : p.id = id) : MadeAt f id b (-1)
  | instr {b i : Nat} {q : BlockM} {x : InstrM} (hq : f.blocks[b]? = some q) (hx : q.code[i]? = some x) (h : x.id = id) (h0 : 0 ≤ id) : MadeAt f id b (i : Int)

theorem placedBlocks_mem {f : FuncM} {d : Int × (Nat × Int)} : ∀ n, d ∈ placedBlocks f.blocks n → MadeAt f d.1 d.2.1 d.2.2 := by
  intro n
  induction n with
  | zero => intro h; cases h
  | succ n ih =>
    intro h
    rw [placedBlocks] at h
    rcases List.mem_append.1 h with h | h
    · exact ih h
    · cases hq : f.blocks[n]? with
      | none => rw [hq] at h; cases h
      | some q =>
        rw [hq] at h
        simp only [placedBlock] at h
        rcases List.mem_append.1 h with h | h
        · unfold placedPhis at h
          obtain ⟨p, hp, rfl⟩ := List.mem_map.1 h
          exact .phi hq hp rfl
        · obtain ⟨h1, j, x, hx, _, h2, h3, h4⟩ := placedCode_mem _ h
          rw [h1, h3]
          exact .instr hq hx h2.symm (by rw [h2]; exact h4)

theorem placedM_mem {f : FuncM} {id : Int} {b : Nat} {a : Int} (h : (id, (b, a)) ∈ placedM f) : MadeAt f id b a := by
  unfold placedM at h
  rcases List.mem_append.1 h with h | h
  · have hp : ∀ n, (id, (b, a)) ∈ placedParams n → b = 0 ∧ a = -1 ∧ 0 ≤ id ∧ id < n := by
      intro n
      induction n with
      | zero => intro h; cases h
      | succ n ih =>
        intro h
        rw [placedParams] at h
        rcases List.mem_append.1 h with h | h
        · have := ih h; omega
        · rw [List.mem_singleton] at h
          injection h with h1 h2
          injection h2 with h2 h3
          omega
    obtain ⟨rfl, rfl, h0, h1⟩ := hp _ h
    exact .param h0 h1
  · exact placedBlocks_mem _ h

theorem last_made {f : FuncM} {id : Int} {m : Nat × Int} (h : (placedM f).last id = some m) : MadeAt f id m.1 m.2 := by
  unfold Placed.last at h
  rw [Option.map_eq_some_iff] at h
  obtain ⟨d, hd, rfl⟩ := h
  have h1 := List.mem_reverse.1 (List.mem_of_find?_eq_some hd)
  have h2 : d.1 = id := by simpa using List.find?_some hd
  obtain ⟨x, y, z⟩ := d
  simp only at h2
  subst h2
  exact placedM_mem h1

theorem made_lt {f : FuncM} (h0 : 0 < f.blocks.length) {id : Int} {b : Nat} {a : Int} (h : MadeAt f id b a) : b < f.blocks.length := by
  cases h with
  | param => exact h0
  | phi hq => exact (List.getElem?_eq_some_iff.1 hq).1
  | instr hq => exact (List.getElem?_eq_some_iff.1 hq).1

theorem known_of {f : FuncM} (h : (lookM f).1 = 0) (hid : ∀ u ∈ usesM f, I64 u.1) {u : Int × Int} (hu : u ∈ usesM f) : Known f u.1 := by
  have hn := (look_some_block h).1
  have hm : u.1 ∈ (placedM f).map (·.1) := by
    rw [placed_ids h]
    exact look_used h u hu
  refine ⟨hid u hu, ?_⟩
  obtain ⟨d, hd, he⟩ := List.mem_map.1 hm
  obtain ⟨x, y, z⟩ := d
  simp only at he
  subst he
  have hl : (placedM f).last u.1 = some (y, z) := by
    rw [Placed.last_first (placed_nodup h)]
    exact Placed.first_mem (placed_nodup h) hd
  exact ⟨y, z, hl, made_lt hn (last_made hl)⟩

theorem uses_known {f : FuncM} (h : (lookM f).1 = 0) (hid : ∀ u ∈ usesM f, I64 u.1) : UsesKnown f := by
  have hall := (formed_all (look_formed h)).1
  refine ⟨fun b q p i id hq hp hi => ?_, fun b q x id hq hx hi => ?_, fun b q hq ht => ?_⟩
  · have hmq := List.mem_of_getElem? hq
    have hl := look_phi h q hmq p hp
    have hil := (List.getElem?_eq_some_iff.1 hi).1
    obtain ⟨k, hk⟩ : ∃ k, p.fr[i]? = some k := ⟨_, List.getElem?_eq_getElem (by omega)⟩
    have hon := (hall q hmq).1 p hp
    unfold phiB at hon
    simp only [Bool.and_eq_true] at hon
    have hr := (once_nodup _ _ hon.2.2).2.1 k (List.mem_of_getElem? hk)
    obtain ⟨kn, rfl⟩ : ∃ kn : Nat, k = (kn : Int) := ⟨k.toNat, by omega⟩
    obtain ⟨j, hj⟩ := List.getElem?_of_mem hp
    exact ⟨kn, f.blocks[kn]'(by omega), hk, List.getElem?_eq_getElem _, known_of h hid (each3.mem_phi hq hj hi)⟩
  · obtain ⟨j, hj⟩ := List.getElem?_of_mem hx
    obtain ⟨m, hm⟩ := List.getElem?_of_mem hi
    have hf := look_form h q (List.mem_of_getElem? hq) x hx
    have hml := (List.getElem?_eq_some_iff.1 hm).1
    obtain ⟨t, ht⟩ : ∃ t, (takesS x.op)[m]? = some t := ⟨_, List.getElem?_eq_getElem (by omega)⟩
    exact known_of h hid (each3.mem_instr hq hj hm ht)
  · rcases ht with ht | ht
    · exact known_of h hid (each3.mem_term (u := (q.term.val, 2)) hq (by unfold usesTerm; rw [if_pos ht]; exact List.mem_singleton.2 rfl))
    · exact known_of h hid (each3.mem_term (u := (q.term.val, 0)) hq (by unfold usesTerm; rw [if_neg (by omega), if_pos ht]; exact List.mem_singleton.2 rfl))

/-- what is made at m comes ahead of a place -/
def aheadP (bs : List BlockM) (o : List Nat) (m : Nat × Int) (ub : Nat) (ua : Int) : Prop := (m.1 = ub ∧ m.2 < ua) ∨ (m.1 ≠ ub ∧ OverP bs o m.1 ub)

def okP (f : FuncM) (o : List Nat) (id : Int) (ub : Nat) (ua : Int) : Prop := ∀ m, (placedM f).last id = some m → aheadP f.blocks o m ub ua

structure UsesP (f : FuncM) (o : List Nat) (b : Nat) (q : BlockM) : Prop where
  phi : ∀ p ∈ q.phis, ∀ (i : Nat) (id : Int) (fr : Nat) (q' : BlockM), p.vals[i]? = some id → p.fr[i]? = some (fr : Int) → f.blocks[fr]? = some q' → okP f o id fr q'.code.length
  arg : ∀ (i : Nat) (x : InstrM), q.code[i]? = some x → ∀ id ∈ x.args, okP f o id b i
  term : q.term.op = 2 ∨ q.term.op = 3 → okP f o q.term.val b q.code.length

def usesPR (f : FuncM) (o : List Nat) (b : Nat) : Prop := ∀ q, f.blocks[b]? = some q → UsesP f o b q

/-- what Check of strict form answers -/
def CheckIs (f : FuncM) (r : Int × Int) : Prop :=
  ((lookM f).1 ≠ 0 ∧ r = (0, (lookM f).1)) ∨ ((lookM f).1 = 0 ∧ ∃ o, OrderIs f.blocks o ∧ FaultIs f.blocks.length (· ∈ o) (phisR f) (usesPR f o) r)

theorem CheckIs.one {f : FuncM} {r s : Int × Int} (h : CheckIs f r) (k : CheckIs f s) : r = s := by
  rcases h with ⟨h1, rfl⟩ | ⟨h1, o, ho, hf⟩
  · rcases k with ⟨_, rfl⟩ | ⟨k1, _⟩
    · rfl
    · exact absurd k1 h1
  · rcases k with ⟨k1, _⟩ | ⟨_, o', ho', kf⟩
    · exact absurd h1 k1
    · have := ho.one ho'
      subst this
      exact hf.one (fun _ _ => Iff.rfl) (fun _ _ => Iff.rfl) (fun _ _ _ => Iff.rfl) kf

theorem okAt_iff {f : FuncM} {o : List Nat} {pl : Nat → Nat} {par : Nat → Option Nat} {F L : Nat → Int} (hn : 0 < f.blocks.length) (hO : Ord (succM f.blocks) o pl) (hD : Done (succM f.blocks) o pl par) (hN : Numbered o par F L) (hall : ∀ b, b < f.blocks.length → b ∈ o)
    {id : Int} {ub : Nat} {ua : Int} (hub : ub < f.blocks.length) : okAt f F L id ub ua ↔ okP f o id ub ua := by
  unfold okAt okP
  refine forall_congr' fun m => forall_congr' fun hm => ?_
  have hml := made_lt hn (last_made hm)
  have hd : domB F L m.1 ub = true ↔ OverP f.blocks o m.1 ub := by
    unfold domB
    rw [over_anc hO hD (hall ub hub), Bool.and_eq_true, decide_eq_true_iff, decide_eq_true_iff]
    exact hN.over m.1 (hall _ hml) ub (hall ub hub)
  unfold aheadB aheadP
  by_cases h : m.1 = ub
  · rw [if_pos h, decide_eq_true_iff]
    exact ⟨fun k => .inl ⟨h, k⟩, fun k => k.elim (fun k => k.2) (fun k => absurd h k.1)⟩
  · rw [if_neg h, hd]
    exact ⟨fun k => .inr ⟨h, k⟩, fun k => k.elim (fun k => absurd k.1 h) (fun k => k.2)⟩

theorem usesR_iff {f : FuncM} {o : List Nat} {pl : Nat → Nat} {par : Nat → Option Nat} {F L : Nat → Int} (hn : 0 < f.blocks.length) (hO : Ord (succM f.blocks) o pl) (hD : Done (succM f.blocks) o pl par) (hN : Numbered o par F L) (hall : ∀ b, b < f.blocks.length → b ∈ o)
    {b : Nat} (hb : b < f.blocks.length) : usesR f F L b ↔ usesPR f o b := by
  refine forall_congr' fun q => forall_congr' fun hq => ?_
  have H := @okAt_iff f o pl par F L hn hO hD hN hall
  constructor
  · rintro ⟨h1, h2, h3⟩
    exact ⟨fun p hp i id fr q' a b c => (H (List.getElem?_eq_some_iff.1 c).1).1 (h1 p hp i id fr q' a b c), fun i x a id c => (H hb).1 (h2 i x a id c), fun a => (H hb).1 (h3 a)⟩
  · rintro ⟨h1, h2, h3⟩
    exact ⟨fun p hp i id fr q' a b c => (H (List.getElem?_eq_some_iff.1 c).1).2 (h1 p hp i id fr q' a b c), fun i x a id c => (H hb).2 (h2 i x a id c), fun a => (H hb).2 (h3 a)⟩

theorem FaultIs.change {n : Nat} {R0 R1 R2 S2 : Nat → Prop} (h2 : (∀ b, b < n → R0 b) → ∀ b, b < n → (R2 b ↔ S2 b)) {r : Int × Int} (h : FaultIs n R0 R1 R2 r) : FaultIs n R0 R1 S2 r := by
  rcases h with h | h | ⟨a0, a1, b, ⟨hb, hn, hl⟩, rfl⟩ | ⟨a0, a1, a2, rfl⟩
  · exact .inl h
  · exact .inr (.inl h)
  · exact .inr (.inr (.inl ⟨a0, a1, b, ⟨hb, fun h => hn ((h2 a0 b hb).2 h), fun a ha => (h2 a0 a (by omega)).1 (hl a ha)⟩, rfl⟩))
  · exact .inr (.inr (.inr ⟨a0, a1, fun b hb => (h2 a0 b hb).1 (a2 b hb), rfl⟩))

def CheckPost (f : FuncM) (w : World) (e : Ending) (w' : World) : Prop := ∃ x y : Int, e = .returned (.tuple #[.int .i64 x, .int .i64 y]) ∧ CheckIs f (x, y) ∧ Below w.heap.size w w'

set_option maxRecDepth 100000 in
set_option maxHeartbeats 2000000 in
theorem sCheck_any (f : FuncM) (B : Nat) (pv bv : Value) (w : World) (hpv : Ints w B pv f.params) (hbv : BlocksR w B bv f.blocks) (hB : B ≤ w.heap.size) (hid : ∀ u ∈ usesM f, I64 u.1) :
    Calls Try.prog 28 #[.agg #[pv, .int .i64 f.arrays, .int .i64 f.cells, bv]] w (CheckPost f w) := by
  have HP := hideI hpv
  have HBL := hideI hbv
  have HID := hideI hid
  obtain ⟨P, pc, rfl, _⟩ := hpv
  obtain ⟨A, c, rfl, hbm, _⟩ := hbv
  have HB0 : Hid (Below w.heap.size w (w.alloc (.cells #[.slice P f.params.length pc, .int .i64 f.arrays, .int .i64 f.cells, .slice A f.blocks.length c] 25))) := (Below.refl _ w).alloc (Nat.le_refl _) _
  have HF := hideI (functionOf_any f B _ _ (w.alloc (.cells #[.slice P f.params.length pc, .int .i64 f.arrays, .int .i64 f.cells, .slice A f.blocks.length c] 25)) (HP.out.keeps (Keeps.of_below (HB0.out.mono hB))) (HBL.out.keeps (Keeps.of_below (HB0.out.mono hB))) (by simp; omega) HID.out)
  clear hid
  by_cases h0 : (lookM f).1 = 0
  · have H0 := hideI h0
    have hnb := look_some_block h0
    have hn5 := hnb.2
    have hn0 := hnb.1
    clear h0 hnb
    go_enter Try.func28, Try.ntmps28
    go_wp2_with (first
      | (go_at_call 53; go_must (refine HF.out.mono ?_); rintro e w1 (⟨hbad, _⟩ | ⟨_, o, pl, par, capo, gF, gL, gp, M, F, L, rfl, hfs, hdone, hnum, hsf, hb1⟩); (exact absurd H0.out hbad); have HFS := hideI hfs; have HDONE := hideI hdone; have HNUM := hideI hnum; have HSF := hideI hsf; have HB1 := hideI (HB0.out.trans (hb1.mono (by simp))); clear hfs hdone hnum hsf hb1)
      | (go_at_call 54; go_must (refine (fault_any f o par w1.heap.size (.slice P f.params.length pc) (.slice A f.blocks.length c) gF gL gp M F L _ (HSF.out.kept ((Below.refl _ _).alloc (Nat.le_refl _) _)) (by simp) hn5 (uses_known H0.out HID.out) HNUM.out P _ _ rfl).mono ?_); rintro e w2 ⟨x, y, rfl, hfi, hb2⟩; have HFI := hideI hfi; have HB2 := hideI ((HB1.out.alloc HB1.out.size _).trans (hb2.mono (by have := HB1.out.size; simp; omega))); clear hfi hb2))
    go_ret2
    exact ⟨x, y, rfl, .inr ⟨H0.out, o, HFS.out.order, HFI.out.change (fun hall b hb => usesR_iff hn0 HFS.out.ord HDONE.out HNUM.out hall hb)⟩, HB2.out⟩
  · have H0 := hideI h0
    have hb : ((lookM f).1 != 0) = true := by simpa using h0
    clear h0
    go_enter Try.func28, Try.ntmps28
    go_wp2_with (go_at_call 53; go_must (refine HF.out.mono ?_); rintro e w1 (⟨_, rfl, hb1⟩ | ⟨hbad, _⟩); rotate_left; (exact absurd hbad H0.out); have HB1 := hideI (HB0.out.trans (hb1.mono (by simp))); clear hb1)
    go_ret2
    exact ⟨_, _, rfl, .inl ⟨H0.out, rfl⟩, HB1.out.alloc HB1.out.size _⟩

end Go.Proofs.Ytocnlclighonfaa

namespace Go.Proofs.Ytocnlclighonfaa
open Go.RowKit Go.Maps

def awakeF : FuncM := ⟨[], 0, 0, [⟨[], [⟨1, 0, [], 5⟩], ⟨3, 0, [], 0⟩⟩]⟩

theorem awake_look : lookM awakeF = (0, [(0, 1)]) := by decide
theorem awake_size : sizeM awakeF = 2 := by decide

theorem awake_reads (w W : World) (h0 : W.heap[w.heap.size]? = some (.cells #[.int .i64 1, .int .i64 0, .slice none 0 0, .int .i64 5] 81 (0, 0)))
    (h1 : W.heap[w.heap.size + 1]? = some (.cells #[.slice none 0 0, .slice (some ⟨w.heap.size, 0, none⟩) 1 1, .int .i64 3, .int .i64 0, .slice none 0 0, .int .i64 0] 54 (0, 0))) :
    BlocksR W (w.heap.size + 2) (.slice (some ⟨w.heap.size + 1, 0, none⟩) 1 1) awakeF.blocks := by
  have c0 := row_cells h0 (rfl : W.heap[w.heap.size]? = W.heap[w.heap.size]?)
  have c1 := row_cells h1 (rfl : W.heap[w.heap.size + 1]? = W.heap[w.heap.size + 1]?)
  refine ⟨_, _, rfl, by decide, fun k q hk => ?_⟩
  have hq : k = 0 ∧ q = ⟨[], [⟨1, 0, [], 5⟩], ⟨3, 0, [], 0⟩⟩ := by
    rcases k with _ | k
    · simp [awakeF] at hk
      exact ⟨rfl, hk.symm⟩
    · simp [awakeF] at hk
  obtain ⟨rfl, rfl⟩ := hq
  refine ⟨_, 0, _, _, _, rfl, by omega, c1 _, c1 _, c1 _, c1 _, c1 _, c1 _, ⟨none, 0, rfl, by decide, fun k p hp => by simp at hp⟩, ⟨_, _, rfl, by decide, fun k x hx => ?_⟩, Ints.nil _ _, by unfold I64; decide, by unfold I64; decide, by unfold I64; decide⟩
  have hx' : k = 0 ∧ x = ⟨1, 0, [], 5⟩ := by
    rcases k with _ | k
    · simp at hx
      exact ⟨rfl, hx.symm⟩
    · simp at hx
  obtain ⟨rfl, rfl⟩ := hx'
  exact ⟨_, 0, _, rfl, by omega, c0 _, c0 _, c0 _, c0 _, Ints.nil _ _, by unfold I64; decide, by unfold I64; decide, by unfold I64; decide⟩

end Go.Proofs.Ytocnlclighonfaa

namespace Go.Proofs.Ytocnlclighonfaa
open Go.RowKit Go.Maps

theorem awake_order {o : List Nat} (h : OrderIs awakeF.blocks o) : o = [0] := by
  refine h.one ⟨[0], [], ?_, rfl⟩
  have : succM awakeF.blocks 0 = [] := rfl
  rw [this]
  exact .nil _

theorem awake_uses : ∀ u ∈ usesM awakeF, I64 u.1 := by
  intro u hu
  simp [usesM, awakeF, usesBlock, usesInstr, usesTerm, takesS, shapeS] at hu
  subst hu
  unfold I64
  decide

/-- the simplest function, made anew -/
def awakeMade (w : World) : World := (w.alloc (.cells #[.int .i64 1, .int .i64 0, .slice none 0 0, .int .i64 5] 81)).alloc (.cells #[.slice none 0 0, .slice (some ⟨w.heap.size, 0, none⟩) 1 1, .int .i64 3, .int .i64 0, .slice none 0 0, .int .i64 0] 54)

theorem awakeMade_facts (w : World) : BlocksR (awakeMade w) (w.heap.size + 2) (.slice (some ⟨w.heap.size + 1, 0, none⟩) 1 1) awakeF.blocks ∧ (awakeMade w).heap.size = w.heap.size + 2 ∧ Below w.heap.size w (awakeMade w) := by
  have hsz : (awakeMade w).heap.size = w.heap.size + 2 := by unfold awakeMade; simp
  have hBl : Below w.heap.size w (awakeMade w) := by unfold awakeMade; exact (((Below.refl _ w).alloc (Nat.le_refl _) _).alloc (by simp) _)
  have h0 : (awakeMade w).heap[w.heap.size]? = some (.cells #[.int .i64 1, .int .i64 0, .slice none 0 0, .int .i64 5] 81 (0, 0)) := by
    unfold awakeMade
    rw [Below.heap_alloc _ _ _ (by simp)]
    exact heap_alloc_new w _
  have h1 : (awakeMade w).heap[w.heap.size + 1]? = some (.cells #[.slice none 0 0, .slice (some ⟨w.heap.size, 0, none⟩) 1 1, .int .i64 3, .int .i64 0, .slice none 0 0, .int .i64 0] 54 (0, 0)) := by
    unfold awakeMade
    have := heap_alloc_new (w.alloc (.cells #[.int .i64 1, .int .i64 0, .slice none 0 0, .int .i64 5] 81)) (.cells #[.slice none 0 0, .slice (some ⟨w.heap.size, 0, none⟩) 1 1, .int .i64 3, .int .i64 0, .slice none 0 0, .int .i64 0] 54)
    simpa using this
  exact ⟨awake_reads w _ h0 h1, hsz, hBl⟩

theorem awake_orderIs : OrderIs awakeF.blocks [0] := by
  refine ⟨[0], [], ?_, rfl⟩
  have : succM awakeF.blocks 0 = [] := rfl
  rw [this]
  exact .nil _

end Go.Proofs.Ytocnlclighonfaa

namespace Go.Proofs.Ytocnlclighonfaa
open Go.RowKit Go.Maps

def DefOfPost (f : FuncM) (id : Int) (w : World) (e : Ending) (w' : World) : Prop :=
  (((lookM f).1 ≠ 0 ∧ e = .returned (.tuple #[.int .i64 0, .int .i64 0, .int .i64 (lookM f).1])) ∨
   ((lookM f).1 = 0 ∧ (placedM f).last id = none ∧ e = .returned (.tuple #[.int .i64 0, .int .i64 0, .int .i64 9])) ∨
   ((lookM f).1 = 0 ∧ ∃ (b : Nat) (a : Int), (placedM f).last id = some (b, a) ∧ e = .returned (.tuple #[.int .i64 b, .int .i64 a, .int .i64 0]))) ∧ Below w.heap.size w w'

/-- 'v, ok := m[k]' in a map of places -/
theorem wpList_lookup_places_ok {P : Program} (w : World) {ops : Array Oper} {rest : List Oper} {o : Oper} {a : Act} {Q : Exit → Act → World → Prop}
    (hg : o.guard = none) (m x : Operand) (t : TypeId) (hop : o.op = Op.lookup t m x true)
    (k e : TypeId) (K : Keyed P k) (ht : P.underlying t = some (.map k e)) (hz : (zeroValue e).run P w = .ok (.agg #[.int .i64 0, .int .i64 0]) w) (b n : Nat) (D : DataW Unit)
    (hm : a.eval m = .map (some b)) (hown : w.ownsMap P k placeElem b n D) (key : Value) (kl : Lit) (hx : a.eval x = key) (hkey : keyOf P k key = some kl) (op : Option (Nat × Int))
    (hat : ∀ z, D.atKey kl z = placeOr op z) (hhas : Go.Maps.has D kl = op.isSome)
    (hK : wpList P ops Q rest (a.put o.dst (.tuple #[.agg #[.int .i64 ((op.getD (0, 0)).1 : Int), .int .i64 (op.getD (0, 0)).2], .bool op.isSome])) w) :
    wpList P ops Q (o :: rest) a w :=
  wpList_lookup_own_ok w hg m x t hop k e K ht placeElem hz _ [] (placeElem_mk 0 0) b n D hm hown key kl hx hkey (fun v ps hv => by
    rw [hat] at hv
    rw [hhas]
    have : v = .agg #[.int .i64 ((op.getD (0, 0)).1 : Int), .int .i64 (op.getD (0, 0)).2] := by
      cases op with
      | none => exact placeElem_inv hv
      | some m => exact placeElem_inv hv
    rw [this]
    exact hK)

set_option maxRecDepth 100000 in
set_option maxHeartbeats 2000000 in
theorem defOf_any (f : FuncM) (B : Nat) (pv bv : Value) (id : Int) (w : World) (hpv : Ints w B pv f.params) (hbv : BlocksR w B bv f.blocks) (hB : B ≤ w.heap.size) (hid : ∀ u ∈ usesM f, I64 u.1) (hi : I64 id) :
    Calls Try.prog 31 #[.agg #[pv, .int .i64 f.arrays, .int .i64 f.cells, bv], .int .i64 id] w (DefOfPost f id w) := by
  have HP := hideI hpv
  have HBL := hideI hbv
  have HI := hideI hi
  obtain ⟨P, pc, rfl, _⟩ := hpv
  obtain ⟨A, c, rfl, hbm, _⟩ := hbv
  obtain ⟨W0, hW0⟩ : ∃ W0 : World, W0 = w.alloc (.cells #[.slice P f.params.length pc, .int .i64 f.arrays, .int .i64 f.cells, .slice A f.blocks.length c] 25) := ⟨_, rfl⟩
  have HB0 : Hid (Below w.heap.size w W0) := by rw [hW0]; exact hideI ((Below.refl _ w).alloc (Nat.le_refl _) _)
  have HX0 : Hid (W0.heap[w.heap.size]? = some (.cells #[.slice P f.params.length pc, .int .i64 f.arrays, .int .i64 f.cells, .slice A f.blocks.length c] 25 (0, 0))) := by rw [hW0]; exact hideI (heap_alloc_new w _)
  have HPW : Hid (∀ W, Below W0.heap.size W0 W → Ints W B (.slice P f.params.length pc) f.params ∧ BlocksR W B (.slice A f.blocks.length c) f.blocks ∧ Below w.heap.size w W ∧ B ≤ W.heap.size) := hideI (fun W hW => by
    have h1 : Below w.heap.size w W := HB0.out.trans (hW.mono HB0.out.size)
    exact ⟨HP.out.keeps (Keeps.of_below (h1.mono hB)), HBL.out.keeps (Keeps.of_below (h1.mono hB)), h1, Nat.le_trans hB h1.size⟩)
  have HC := hideI (check_any f B _ _ W0 (HPW.out _ (Below.refl _ _)).1 (HPW.out _ (Below.refl _ _)).2.1 (HPW.out _ (Below.refl _ _)).2.2.2 hid)
  have HW0 := hideI hW0
  have hx0 := row_cells HX0.out rfl
  have r0 := hx0 0
  have r1 := hx0 1
  have r2 := hx0 2
  have r3 := hx0 3
  clear hW0 hx0 hid hi
  by_cases h0 : (lookM f).1 = 0
  · have H0 := hideI h0
    have hnb := look_some_block h0
    have hn5 := hnb.2
    rw [h0] at HC
    have HPL : Hid (∀ W, Below W0.heap.size W0 W → Calls Try.prog 57 #[.agg #[.slice P f.params.length pc, .int .i64 f.arrays, .int .i64 f.cells, .slice A f.blocks.length c]] W fun e w' => ∃ M, e = .returned (.map (some M)) ∧ W.heap.size ≤ M ∧ PlacesAt w' M (placedM f) ∧ Below W.heap.size W w') := hideI (fun W hW => by
      have h1 := HPW.out W hW
      exact places_any f B _ _ W h1.1 h1.2.1 h1.2.2.2 (look_fewv h0) hn5)
    clear h0 hnb
    cases hl : (placedM f).last id with
    | none =>
      have HL := hideI hl
      clear hl
      go_enter Try.func31, Try.ntmps31
      go_upto_region 1 with fail
      rw [← HW0.out]
      go_wp2_with (first
        | (go_at_call 38; go_must (refine HC.out.mono ?_); rintro e w1 ⟨rfl, hb1⟩; have HB1 := hideI hb1; clear hb1 r0 r1 r2 r3; have hx0 := row_cells HX0.out (HB1.out.block _ (lt_of_heap HX0.out)); have r0 := hx0 0; have r1 := hx0 1; have r2 := hx0 2; have r3 := hx0 3; clear hx0)
        | (go_at_call 57; go_must (refine (HPL.out _ HB1.out).mono ?_); rintro e w2 ⟨M, rfl, _, hpl, hb2⟩; obtain ⟨D, hown, hD, hat⟩ := hpl; have hhas := PlacesAt.has hat id; rw [HL.out] at hhas; have HHAS := hideI hhas; have HOWN := hideI hown; have HAT : Hid (∀ z, D.atKey (.int .i64 id) z = placeOr none z) := hideI (fun z => by rw [hat, HL.out]); have HB2 := hideI (HB1.out.trans (hb2.mono HB1.out.size)); clear hown hD hat hb2 hhas)
        | (at_lookup; go_must (refine wpList_lookup_places_ok _ rfl _ _ 95 rfl 3 105 lawInt Try.underlying95 (zeroPlace _) M _ D rfl HOWN.out _ _ rfl (keyOf_int_mk Try.underlying3 HI.out) none HAT.out HHAS.out ?_)))
      go_ret3
      exact ⟨.inr (.inl ⟨H0.out, HL.out, rfl⟩), (HPW.out _ HB2.out).2.2.1.alloc (HPW.out _ HB2.out).2.2.1.size _⟩
    | some m =>
      obtain ⟨mb, ma⟩ := m
      have HL := hideI hl
      clear hl
      go_enter Try.func31, Try.ntmps31
      go_upto_region 1 with fail
      rw [← HW0.out]
      go_wp2_with (first
        | (go_at_call 38; go_must (refine HC.out.mono ?_); rintro e w1 ⟨rfl, hb1⟩; have HB1 := hideI hb1; clear hb1 r0 r1 r2 r3; have hx0 := row_cells HX0.out (HB1.out.block _ (lt_of_heap HX0.out)); have r0 := hx0 0; have r1 := hx0 1; have r2 := hx0 2; have r3 := hx0 3; clear hx0)
        | (go_at_call 57; go_must (refine (HPL.out _ HB1.out).mono ?_); rintro e w2 ⟨M, rfl, _, hpl, hb2⟩; obtain ⟨D, hown, hD, hat⟩ := hpl; have hhas := PlacesAt.has hat id; rw [HL.out] at hhas; have HHAS := hideI hhas; have HOWN := hideI hown; have HAT : Hid (∀ z, D.atKey (.int .i64 id) z = placeOr (some (mb, ma)) z) := hideI (fun z => by rw [hat, HL.out]); have HB2 := hideI (HB1.out.trans (hb2.mono HB1.out.size)); clear hown hD hat hb2 hhas)
        | (at_lookup; go_must (refine wpList_lookup_places_ok _ rfl _ _ 95 rfl 3 105 lawInt Try.underlying95 (zeroPlace _) M _ D rfl HOWN.out _ _ rfl (keyOf_int_mk Try.underlying3 HI.out) (some (mb, ma)) HAT.out HHAS.out ?_)))
      go_quiet (fail)
      go_wp2
      go_ret3
      exact ⟨.inr (.inr ⟨H0.out, mb, ma, HL.out, rfl⟩), drew_below ((HPW.out _ HB2.out).2.2.1.alloc (HPW.out _ HB2.out).2.2.1.size _) _⟩
  · have H0 := hideI h0
    have hb : ((lookM f).1 != 0) = true := by simpa using h0
    clear h0
    go_enter Try.func31, Try.ntmps31
    go_upto_region 1 with fail
    rw [← HW0.out]
    go_wp2_with (go_at_call 38; go_must (refine HC.out.mono ?_); rintro e w1 ⟨rfl, hb1⟩; have HB1 := hideI hb1; clear hb1)
    go_ret3
    exact ⟨.inl ⟨H0.out, rfl⟩, (HPW.out _ HB1.out).2.2.1⟩

theorem awake_placed : placedM awakeF = [(0, (0, 0))] := by decide

theorem awake_checkIs : CheckIs awakeF (0, 0) := by
  refine .inr ⟨congrArg Prod.fst awake_look, [0], awake_orderIs, .inr (.inr (.inr ⟨?_, ?_, ?_, rfl⟩))⟩
  · intro b hb
    have : b = 0 := by have : b < 1 := hb; omega
    subst this
    simp
  · intro b hb q hq
    have : b = 0 := by have : b < 1 := hb; omega
    subst this
    simp [awakeF] at hq
    subst hq
    rfl
  · intro b hb q hq
    have : b = 0 := by have : b < 1 := hb; omega
    subst this
    simp [awakeF] at hq
    subst hq
    refine ⟨fun p hp => by simp at hp, fun i x hx => ?_, fun _ => ?_⟩
    · rcases i with _ | i
      · simp at hx
        subst hx
        intro id hid
        simp at hid
      · simp at hx
    · intro m hm
      rw [awake_placed] at hm
      have : m = (0, 0) := by
        have h2 : Placed.last [(0, (0, 0))] 0 = some (0, 0) := by decide
        exact (Option.some.inj (h2.symm.trans hm)).symm
      subst this
      exact .inl ⟨rfl, by simp⟩

theorem noneF_look : lookM ⟨[], 0, 0, []⟩ = (2, []) := by decide

theorem awake_strict (w : World) : Calls Try.prog 28 #[.agg #[.slice none 0 0, .int .i64 0, .int .i64 0, .slice (some ⟨w.heap.size + 1, 0, none⟩) 1 1]] (awakeMade w) fun e w' => e = .returned (.tuple #[.int .i64 0, .int .i64 0]) ∧ Below w.heap.size w w' := by
  obtain ⟨h1, h2, h3⟩ := awakeMade_facts w
  refine (sCheck_any awakeF (w.heap.size + 2) (.slice none 0 0) _ (awakeMade w) (Ints.nil _ _) h1 (by omega) awake_uses).mono ?_
  rintro e w1 ⟨x, y, rfl, hc, hb⟩
  have := hc.one awake_checkIs
  cases this
  exact ⟨rfl, h3.trans (hb.mono (by omega))⟩

theorem awake_defOf (w : World) : Calls Try.prog 31 #[.agg #[.slice none 0 0, .int .i64 0, .int .i64 0, .slice (some ⟨w.heap.size + 1, 0, none⟩) 1 1], .int .i64 0] (awakeMade w) fun e w' => e = .returned (.tuple #[.int .i64 0, .int .i64 0, .int .i64 0]) ∧ Below w.heap.size w w' := by
  obtain ⟨h1, h2, h3⟩ := awakeMade_facts w
  refine (defOf_any awakeF (w.heap.size + 2) (.slice none 0 0) _ 0 (awakeMade w) (Ints.nil _ _) h1 (by omega) awake_uses (by unfold I64; decide)).mono ?_
  have hl : (placedM awakeF).last 0 = some (0, 0) := by rw [awake_placed]; decide
  rintro e w1 ⟨⟨hbad, _⟩ | ⟨_, hn, _⟩ | ⟨_, b, a, hm, rfl⟩, hb⟩
  · exact absurd (congrArg Prod.fst awake_look) hbad
  · rw [hl] at hn; cases hn
  · rw [hl] at hm
    cases hm
    exact ⟨rfl, h3.trans (hb.mono (by omega))⟩

theorem awake_noDef (w : World) : Calls Try.prog 31 #[.agg #[.slice none 0 0, .int .i64 0, .int .i64 0, .slice none 0 0], .int .i64 0] w fun e w' => e = .returned (.tuple #[.int .i64 0, .int .i64 0, .int .i64 2]) ∧ Below w.heap.size w w' := by
  refine (defOf_any ⟨[], 0, 0, []⟩ w.heap.size (.slice none 0 0) (.slice none 0 0) 0 w (Ints.nil _ _) ⟨none, 0, rfl, by decide, fun k q hq => by simp at hq⟩ (Nat.le_refl _) (by intro u hu; simp [usesM] at hu) (by unfold I64; decide)).mono ?_
  rintro e w1 ⟨⟨_, rfl⟩ | ⟨hbad, _⟩ | ⟨hbad, _⟩, hb⟩
  · rw [noneF_look]
    exact ⟨rfl, hb⟩
  · rw [noneF_look] at hbad; cases hbad
  · rw [noneF_look] at hbad; cases hbad

set_option maxHeartbeats 1000000 in
theorem awake5_any (w : World) : Calls Try.prog 30 #[] w fun e w' => e = .returned (.bool true) ∧ Below w.heap.size w w' := by
  have HI := hideI (awake_strict w)
  have HD : Hid (∀ w, _) := hideI (fun w => awake_defOf w)
  have HN : Hid (∀ w, _) := hideI (fun w => awake_noDef w)
  unfold awakeMade at HI
  go_enter Try.func30, Try.ntmps30
  go_wp2_with (first
    | (go_at_call 28; go_must (refine HI.out.mono ?_); rintro e w1 ⟨rfl, hb⟩; have HB1 := hideI hb; have HDW := hideI (HD.out w1); unfold awakeMade at HDW; clear hb)
    | (go_at_call 31; (with_reducible refine HDW.out.mono ?_); rintro e w2 ⟨rfl, hb⟩; have HB2 := hideI (HB1.out.trans (hb.mono HB1.out.size)); clear hb)
    | (go_at_call 31; (with_reducible refine (HN.out _).mono ?_); rintro e w3 ⟨rfl, hb⟩; have HB3 := hideI (HB2.out.trans (hb.mono HB2.out.size)); clear hb))
  go_ret
  exact ⟨rfl, HB3.out⟩

end Go.Proofs.Ytocnlclighonfaa

namespace Go.Proofs.Ytocnlclighonfaa
open Go.RowKit Go.Maps

theorem Placed.first_append (l r : Placed) (id : Int) : Placed.first (l ++ r) id = (l.first id).or (r.first id) := by
  unfold Placed.first
  rw [List.find?_append]
  cases l.find? (fun d => d.1 == id) <;> simp

theorem Placed.first_one (a id : Int) (v : Nat × Int) : Placed.first [(a, v)] id = if a = id then some v else none := by
  unfold Placed.first
  by_cases h : a = id
  · subst h; simp
  · simp [h]

theorem Placed.first_nil (id : Int) : Placed.first [] id = none := rfl

theorem Placed.first_none_snoc {l : Placed} {a id : Int} {v : Nat × Int} (h : l.first id = none) (hn : a ≠ id) : Placed.first (l ++ [(a, v)]) id = none := by
  rw [Placed.first_append, h, Placed.first_one, if_neg hn]
  rfl

theorem Placed.first_hit {l r : Placed} {id : Int} {v : Nat × Int} (h : l.first id = none) : Placed.first (l ++ [(id, v)] ++ r) id = some v := by
  rw [Placed.first_append, Placed.first_append, h, Placed.first_one, if_pos rfl]
  rfl

theorem placedBlocks_split (bs : List BlockM) {j : Nat} {q : BlockM} (hq : bs[j]? = some q) : ∀ n, j < n → ∃ r, placedBlocks bs n = placedBlocks bs j ++ placedBlock j q ++ r := by
  intro n
  induction n with
  | zero => intro h; omega
  | succ n ih =>
    intro h
    rw [placedBlocks]
    rcases Nat.lt_or_ge j n with hj | hj
    · obtain ⟨r, hr⟩ := ih hj
      exact ⟨r ++ _, by rw [hr, List.append_assoc]⟩
    · have : j = n := by omega
      subst this
      rw [hq]
      exact ⟨[], by simp⟩

theorem placedCode_split (b : Nat) (xs : List InstrM) {m : Nat} {x : InstrM} (hx : xs[m]? = some x) : ∀ n, m < n → ∃ r, placedCode b xs n = placedCode b xs m ++ placedInstr b m x ++ r := by
  intro n
  induction n with
  | zero => intro h; omega
  | succ n ih =>
    intro h
    rw [placedCode]
    rcases Nat.lt_or_ge m n with hj | hj
    · obtain ⟨r, hr⟩ := ih hj
      exact ⟨r ++ _, by rw [hr, List.append_assoc]⟩
    · have : m = n := by omega
      subst this
      rw [hx]
      exact ⟨[], by simp⟩

theorem placedPhis_split (b : Nat) (ps : List PhiM) {m : Nat} {p : PhiM} (hp : ps[m]? = some p) : ∃ r, placedPhis b ps = placedPhis b (ps.take m) ++ [(p.id, (b, -1))] ++ r := by
  obtain ⟨hm, rfl⟩ := List.getElem?_eq_some_iff.1 hp
  refine ⟨placedPhis b (ps.drop (m + 1)), ?_⟩
  have e : ps = ps.take m ++ [ps[m]] ++ ps.drop (m + 1) := by
    rw [List.append_assoc, List.singleton_append, ← List.drop_eq_getElem_cons hm, List.take_append_drop]
  have e2 : placedPhis b (ps.take m ++ [ps[m]] ++ ps.drop (m + 1)) = placedPhis b (ps.take m) ++ [(ps[m].id, (b, -1))] ++ placedPhis b (ps.drop (m + 1)) := by
    unfold placedPhis
    rw [List.map_append, List.map_append]
    rfl
  rw [← e2, ← e]

/-- one of block j's phis is the value -/
theorem first_phi {f : FuncM} {j m : Nat} {q : BlockM} {p : PhiM} (hq : f.blocks[j]? = some q) (hp : q.phis[m]? = some p) (h1 : Placed.first (placedParams f.params.length ++ placedBlocks f.blocks j ++ placedPhis j (q.phis.take m)) p.id = none) :
    (placedM f).first p.id = some (j, -1) := by
  obtain ⟨r, hr⟩ := placedBlocks_split f.blocks hq f.blocks.length (List.getElem?_eq_some_iff.1 hq).1
  obtain ⟨r2, hr2⟩ := placedPhis_split j q.phis hp
  unfold placedM placedBlock at *
  rw [hr, hr2]
  have := Placed.first_hit (r := r2 ++ placedCode j q.code q.code.length ++ r) (v := (j, -1)) h1
  rw [← this]
  simp only [List.append_assoc]

/-- one of block j's instructions is the value -/
theorem first_code {f : FuncM} {j m : Nat} {q : BlockM} {x : InstrM} (hq : f.blocks[j]? = some q) (hx : q.code[m]? = some x) (h0 : 0 ≤ x.id) (h1 : Placed.first (placedParams f.params.length ++ placedBlocks f.blocks j ++ (placedPhis j q.phis ++ placedCode j q.code m)) x.id = none) :
    (placedM f).first x.id = some (j, (m : Int)) := by
  obtain ⟨r, hr⟩ := placedBlocks_split f.blocks hq f.blocks.length (List.getElem?_eq_some_iff.1 hq).1
  obtain ⟨r2, hr2⟩ := placedCode_split j q.code hx q.code.length (List.getElem?_eq_some_iff.1 hx).1
  unfold placedInstr at hr2
  rw [if_pos h0] at hr2
  unfold placedM placedBlock at *
  rw [hr, hr2]
  have := Placed.first_hit (r := r2 ++ r) (v := (j, (m : Int))) h1
  rw [← this]
  simp only [List.append_assoc]

theorem first_params (n : Nat) (id : Int) : Placed.first (placedParams n) id = if 0 ≤ id ∧ id < n then some (0, -1) else none := by
  induction n with
  | zero => rw [if_neg (by omega)]; rfl
  | succ n ih =>
    unfold placedParams
    rw [Placed.first_append, ih, Placed.first_one]
    by_cases h1 : 0 ≤ id ∧ id < n
    · rw [if_pos h1, if_pos (show 0 ≤ id ∧ id < ((n + 1 : Nat) : Int) by omega)]; rfl
    · rw [if_neg h1]
      by_cases h2 : (n : Int) = id
      · rw [if_pos h2, if_pos (show 0 ≤ id ∧ id < ((n + 1 : Nat) : Int) by omega)]; rfl
      · rw [if_neg h2, if_neg (show ¬ (0 ≤ id ∧ id < ((n + 1 : Nat) : Int)) by omega)]; rfl

/-- what Def answers -/
def DefPost (l : Placed) (id : Int) (w : World) (e : Ending) (w' : World) : Prop :=
  ((∃ v, l.first id = some v ∧ e = .returned (.tuple #[.int .i64 (v.1 : Int), .int .i64 v.2, .bool true])) ∨ (l.first id = none ∧ e = .returned (.tuple #[.int .i64 0, .int .i64 0, .bool false]))) ∧ Below w.heap.size w w'

theorem defPost_some {l : Placed} {id : Int} {w w' : World} {b : Nat} {a : Int} (h : l.first id = some (b, a)) (hb : Below w.heap.size w w') : DefPost l id w (.returned (.tuple #[.int .i64 (b : Int), .int .i64 a, .bool true])) w' := ⟨.inl ⟨_, h, rfl⟩, hb⟩
theorem defPost_none {l : Placed} {id : Int} {w w' : World} (h : l.first id = none) (hb : Below w.heap.size w w') : DefPost l id w (.returned (.tuple #[.int .i64 0, .int .i64 0, .bool false])) w' := ⟨.inr ⟨h, rfl⟩, hb⟩

set_option maxRecDepth 100000 in
set_option maxHeartbeats 8000000 in
theorem refDef_any (f : FuncM) (B : Nat) (pv bv : Value) (id : Int) (w : World) (hpv : Ints w B pv f.params) (hbv : BlocksR w B bv f.blocks) (hB : B ≤ w.heap.size) (hfew : FewV f) (hl5 : f.blocks.length ≤ 512) :
    Calls Try.prog 32 #[.agg #[pv, .int .i64 f.arrays, .int .i64 f.cells, bv], .int .i64 id] w (DefPost (placedM f) id w) := by
  obtain ⟨A, c, rfl, hbm, hbx⟩ := hbv
  obtain ⟨P, pc, rfl, hpm, _⟩ := hpv
  have HX := hideI hbx
  have hp16 := hfew.1
  clear hbx hfew
  obtain ⟨np, hnp⟩ : ∃ np, np = f.params.length := ⟨_, rfl⟩
  have HNP := hideI hnp
  rw [← hnp] at hp16 hpm ⊢
  obtain ⟨nb, hnb⟩ : ∃ nb, nb = f.blocks.length := ⟨_, rfl⟩
  have HNB := hideI hnb
  rw [← hnb] at hl5 hbm ⊢
  have HB0 : Hid (Below w.heap.size w (w.alloc (.cells #[.slice P np pc, .int .i64 f.arrays, .int .i64 f.cells, .slice A nb c] 25))) := (Below.refl _ w).alloc (Nat.le_refl _) _
  obtain ⟨W0, hW0⟩ : ∃ W0 : World, W0 = w.alloc (.cells #[.slice P np pc, .int .i64 f.arrays, .int .i64 f.cells, .slice A nb c] 25) := ⟨_, rfl⟩
  have HW0 := hideI hW0
  have hk : Hid (Keeps B w W0) := by rw [hW0]; exact hideI ((Keeps.refl w).alloc hB _)
  have hbox : Hid (∀ o, W0.cell? ⟨w.heap.size, o, none⟩ = (#[.slice P np pc, .int .i64 f.arrays, .int .i64 f.cells, .slice A nb c] : Array Value)[o]?) := by rw [hW0]; exact hideI (row_cells (heap_alloc_new w _) rfl)
  have hFP : Hid (Placed.first (placedParams f.params.length) id = if 0 ≤ id ∧ id < (np : Int) then some (0, -1) else none) := by show _ = _; rw [first_params, ← HNP.out]
  clear hnp hnb hW0
  by_cases h1 : 0 ≤ id
  · by_cases h2 : id < (np : Int)
    · have HR : Hid ((placedM f).first id = some (0, -1)) := by
        show _ = _
        unfold placedM
        rw [Placed.first_append, hFP.out, if_pos ⟨h1, h2⟩]
        rfl
      go_enter Try.func32, Try.ntmps32
      go_wp2
      go_ret3
      exact defPost_some (b := 0) HR.out HB0.out
    · have HF0 : Hid (Placed.first (placedParams f.params.length) id = none) := by show _ = _; rw [hFP.out, if_neg (by omega)]
      clear hFP
      go_enter Try.func32, Try.ntmps32
      go_wp2
      rw [← HW0.out]
      go_loopw [7] (fun i wr => ∃ j : Nat, j ≤ nb ∧ i = .int .i64 j ∧ Hid (Placed.first (placedParams f.params.length ++ placedBlocks f.blocks j) id = none) ∧ wr = W0) (fun i _ => nb - (intOf i).toNat)
      case atStart => exact ⟨0, Nat.zero_le _, rfl, by rw [placedBlocks, List.append_nil]; exact HF0, rfl⟩
      case round =>
        obtain ⟨j, hj, rfl, HN, hw⟩ := hrel; obtain rfl := hw.symm
        have hx := hbox.out
        by_cases hlt : j < nb
        · obtain ⟨q, hq⟩ : ∃ q, f.blocks[j]? = some q := ⟨_, List.getElem?_eq_getElem (by rw [← HNB.out]; exact hlt)⟩
          obtain ⟨b, off, qpv, qcv, qtv, rfl, hb, e0, e1, e2, e3, e4, e5, hpv, hcv, htv, _⟩ := HX.out j q hq
          have c0 := (hk.out b (off + j * 6) hb).trans e0
          have c1 := (hk.out b (off + j * 6 + 1) hb).trans e1
          have HQ := hideI hq
          obtain ⟨PA, pc2, rfl, hpm2, hpx⟩ := hpv
          obtain ⟨CA, cc, rfl, hcm, hcx⟩ := hcv
          have HPX := hideI hpx
          have HCX := hideI hcx
          obtain ⟨nq, hnq⟩ : ∃ nq, nq = q.phis.length := ⟨_, rfl⟩
          obtain ⟨nc, hnc⟩ : ∃ nc, nc = q.code.length := ⟨_, rfl⟩
          have HNQ := hideI hnq
          have HNC := hideI hnc
          rw [← hnq] at c0 hpm2
          rw [← hnc] at c1 hcm
          clear e0 e1 e2 e3 e4 e5 hq hpx hcx hnq hnc
          go_wp2
          go_loopw [8] (fun i wr => ∃ m : Nat, m ≤ nq ∧ i = .int .i64 m ∧ Hid (Placed.first (placedParams f.params.length ++ placedBlocks f.blocks j ++ placedPhis j (q.phis.take m)) id = none) ∧ wr = W0) (fun i _ => nq - (intOf i).toNat)
          case atStart => exact ⟨0, Nat.zero_le _, rfl, by rw [List.take_zero, show placedPhis j [] = [] from rfl, List.append_nil]; exact HN, rfl⟩
          case round =>
            obtain ⟨m, hm, rfl, HNm, hw⟩ := hrel; obtain rfl := hw.symm
            by_cases hlm : m < nq
            · obtain ⟨p, hp⟩ : ∃ p, q.phis[m]? = some p := ⟨_, List.getElem?_eq_getElem (by rw [← HNQ.out]; exact hlm)⟩
              obtain ⟨b2, off2, fv, vv, rfl, hb2, e0, _⟩ := HPX.out m p hp
              have d0 := (hk.out b2 (off2 + m * 4) hb2).trans e0
              have HP2 := hideI hp
              obtain ⟨pid, hpid⟩ : ∃ pid, pid = p.id := ⟨_, rfl⟩
              rw [← hpid] at d0
              have HPID := hideI hpid
              clear e0 hp hpid
              by_cases hid : pid = id
              · subst hid
                have HR : Hid ((placedM f).first pid = some (j, -1)) := by
                  have := HNm.out
                  rw [HPID.out] at this ⊢
                  exact hideI (first_phi HQ.out HP2.out this)
                go_wp2
                go_ret3
                exact defPost_some HR.out (by rw [HW0.out]; exact HB0.out)
              · have HD : Hid (pid ≠ id) := hid
                have hib : (pid == id) = false := beq_eq_false_iff_ne.2 hid
                clear hid
                go_wp2
                go_roundw
                case rel =>
                  refine ⟨m + 1, by omega, by go_num, ?_, by first | rfl | trivial⟩
                  have e : placedPhis j (q.phis.take (m + 1)) = placedPhis j (q.phis.take m) ++ [(p.id, (j, -1))] := by
                    unfold placedPhis
                    exact map_take' _ q.phis m p HP2.out
                  rw [e, ← List.append_assoc]
                  exact hideI (Placed.first_none_snoc HNm.out (by rw [← HPID.out]; exact HD.out))
                case measure => simp [intOf]; omega
            · have HNe : Hid (Placed.first (placedParams f.params.length ++ placedBlocks f.blocks j ++ placedPhis j q.phis) id = none) := by have := HNm.out; rw [List.take_of_length_le (by rw [← HNQ.out]; omega)] at this; exact hideI this
              go_wp2
              go_loopw [9] (fun i wr => ∃ m : Nat, m ≤ nc ∧ i = .int .i64 m ∧ Hid (Placed.first (placedParams f.params.length ++ placedBlocks f.blocks j ++ (placedPhis j q.phis ++ placedCode j q.code m)) id = none) ∧ wr = W0) (fun i _ => nc - (intOf i).toNat)
              case atStart => exact ⟨0, Nat.zero_le _, rfl, by rw [placedCode, List.append_nil]; exact HNe, rfl⟩
              case round =>
                obtain ⟨m, hm, rfl, HNm, hw⟩ := hrel; obtain rfl := hw.symm
                by_cases hlm : m < nc
                · obtain ⟨x, hxx⟩ : ∃ x, q.code[m]? = some x := ⟨_, List.getElem?_eq_getElem (by rw [← HNC.out]; exact hlm)⟩
                  obtain ⟨b2, off2, av, rfl, hb2, _, e1, _⟩ := HCX.out m x hxx
                  have d1 := (hk.out b2 (off2 + m * 4 + 1) hb2).trans e1
                  have HP2 := hideI hxx
                  have HSU : Hid (placedCode j q.code (m + 1) = placedCode j q.code m ++ placedInstr j m x) := by show _ = _; rw [placedCode, hxx]
                  obtain ⟨pid, hpid⟩ : ∃ pid, pid = x.id := ⟨_, rfl⟩
                  rw [← hpid] at d1
                  have HPID := hideI hpid
                  clear e1 hxx hpid
                  have HNX : Hid (¬ (pid = id ∧ 0 ≤ id) → Placed.first (placedParams f.params.length ++ placedBlocks f.blocks j ++ (placedPhis j q.phis ++ placedCode j q.code (m + 1))) id = none) := by
                    refine hideI (fun hno => ?_)
                    rw [HSU.out, ← List.append_assoc (placedPhis j q.phis), ← List.append_assoc (placedParams f.params.length ++ placedBlocks f.blocks j)]
                    unfold placedInstr
                    rw [← HPID.out]
                    by_cases h0 : 0 ≤ pid
                    · rw [if_pos h0]
                      exact Placed.first_none_snoc HNm.out (fun e => hno ⟨e, by rw [← e]; exact h0⟩)
                    · rw [if_neg h0, List.append_nil]
                      exact HNm.out
                  by_cases hid : pid = id
                  · by_cases h0 : 0 ≤ id
                    · subst hid
                      have HR : Hid ((placedM f).first pid = some (j, (m : Int))) := by
                        have := HNm.out
                        rw [HPID.out] at this h0 ⊢
                        exact hideI (first_code HQ.out HP2.out h0 this)
                      go_wp2
                      go_ret3
                      exact defPost_some HR.out (by rw [HW0.out]; exact HB0.out)
                    · exact absurd h1 h0
                  · have HNN := hideI (HNX.out (fun h => hid h.1))
                    have hib : (pid == id) = false := beq_eq_false_iff_ne.2 hid
                    clear hid
                    go_wp2
                    go_roundw
                    case rel => exact ⟨m + 1, by omega, by go_num, HNN, by first | rfl | trivial⟩
                    case measure => simp [intOf]; omega
                · have HNE : Hid (Placed.first (placedParams f.params.length ++ placedBlocks f.blocks (j + 1)) id = none) := by
                    have h1 := HNm.out
                    have h2 : m = q.code.length := by have := HNC.out; omega
                    rw [h2] at h1
                    show _ = _
                    rw [placedBlocks, HQ.out, ← List.append_assoc]
                    exact h1
                  go_wp2
                  go_roundw
                  case rel => exact ⟨j + 1, by omega, by go_num, HNE, by first | rfl | trivial⟩
                  case measure => simp [intOf]; omega
        · have HNE : Hid ((placedM f).first id = none) := by
            have h1 := HN.out
            have h2 : j = f.blocks.length := by have := HNB.out; omega
            rw [h2] at h1
            exact h1
          go_wp2
          go_ret3
          exact defPost_none HNE.out (by rw [HW0.out]; exact HB0.out)
  · have HF0 : Hid (Placed.first (placedParams f.params.length) id = none) := by show _ = _; rw [hFP.out, if_neg (by omega)]
    clear hFP
    go_enter Try.func32, Try.ntmps32
    go_wp2
    rw [← HW0.out]
    go_loopw [7] (fun i wr => ∃ j : Nat, j ≤ nb ∧ i = .int .i64 j ∧ Hid (Placed.first (placedParams f.params.length ++ placedBlocks f.blocks j) id = none) ∧ wr = W0) (fun i _ => nb - (intOf i).toNat)
    case atStart => exact ⟨0, Nat.zero_le _, rfl, by rw [placedBlocks, List.append_nil]; exact HF0, rfl⟩
    case round =>
      obtain ⟨j, hj, rfl, HN, hw⟩ := hrel; obtain rfl := hw.symm
      have hx := hbox.out
      by_cases hlt : j < nb
      · obtain ⟨q, hq⟩ : ∃ q, f.blocks[j]? = some q := ⟨_, List.getElem?_eq_getElem (by rw [← HNB.out]; exact hlt)⟩
        obtain ⟨b, off, qpv, qcv, qtv, rfl, hb, e0, e1, e2, e3, e4, e5, hpv, hcv, htv, _⟩ := HX.out j q hq
        have c0 := (hk.out b (off + j * 6) hb).trans e0
        have c1 := (hk.out b (off + j * 6 + 1) hb).trans e1
        have HQ := hideI hq
        obtain ⟨PA, pc2, rfl, hpm2, hpx⟩ := hpv
        obtain ⟨CA, cc, rfl, hcm, hcx⟩ := hcv
        have HPX := hideI hpx
        have HCX := hideI hcx
        obtain ⟨nq, hnq⟩ : ∃ nq, nq = q.phis.length := ⟨_, rfl⟩
        obtain ⟨nc, hnc⟩ : ∃ nc, nc = q.code.length := ⟨_, rfl⟩
        have HNQ := hideI hnq
        have HNC := hideI hnc
        rw [← hnq] at c0 hpm2
        rw [← hnc] at c1 hcm
        clear e0 e1 e2 e3 e4 e5 hq hpx hcx hnq hnc
        go_wp2
        go_loopw [8] (fun i wr => ∃ m : Nat, m ≤ nq ∧ i = .int .i64 m ∧ Hid (Placed.first (placedParams f.params.length ++ placedBlocks f.blocks j ++ placedPhis j (q.phis.take m)) id = none) ∧ wr = W0) (fun i _ => nq - (intOf i).toNat)
        case atStart => exact ⟨0, Nat.zero_le _, rfl, by rw [List.take_zero, show placedPhis j [] = [] from rfl, List.append_nil]; exact HN, rfl⟩
        case round =>
          obtain ⟨m, hm, rfl, HNm, hw⟩ := hrel; obtain rfl := hw.symm
          by_cases hlm : m < nq
          · obtain ⟨p, hp⟩ : ∃ p, q.phis[m]? = some p := ⟨_, List.getElem?_eq_getElem (by rw [← HNQ.out]; exact hlm)⟩
            obtain ⟨b2, off2, fv, vv, rfl, hb2, e0, _⟩ := HPX.out m p hp
            have d0 := (hk.out b2 (off2 + m * 4) hb2).trans e0
            have HP2 := hideI hp
            obtain ⟨pid, hpid⟩ : ∃ pid, pid = p.id := ⟨_, rfl⟩
            rw [← hpid] at d0
            have HPID := hideI hpid
            clear e0 hp hpid
            by_cases hid : pid = id
            · subst hid
              have HR : Hid ((placedM f).first pid = some (j, -1)) := by
                have := HNm.out
                rw [HPID.out] at this ⊢
                exact hideI (first_phi HQ.out HP2.out this)
              go_wp2
              go_ret3
              exact defPost_some HR.out (by rw [HW0.out]; exact HB0.out)
            · have HD : Hid (pid ≠ id) := hid
              have hib : (pid == id) = false := beq_eq_false_iff_ne.2 hid
              clear hid
              go_wp2
              go_roundw
              case rel =>
                refine ⟨m + 1, by omega, by go_num, ?_, by first | rfl | trivial⟩
                have e : placedPhis j (q.phis.take (m + 1)) = placedPhis j (q.phis.take m) ++ [(p.id, (j, -1))] := by
                  unfold placedPhis
                  exact map_take' _ q.phis m p HP2.out
                rw [e, ← List.append_assoc]
                exact hideI (Placed.first_none_snoc HNm.out (by rw [← HPID.out]; exact HD.out))
              case measure => simp [intOf]; omega
          · have HNe : Hid (Placed.first (placedParams f.params.length ++ placedBlocks f.blocks j ++ placedPhis j q.phis) id = none) := by have := HNm.out; rw [List.take_of_length_le (by rw [← HNQ.out]; omega)] at this; exact hideI this
            go_wp2
            go_loopw [9] (fun i wr => ∃ m : Nat, m ≤ nc ∧ i = .int .i64 m ∧ Hid (Placed.first (placedParams f.params.length ++ placedBlocks f.blocks j ++ (placedPhis j q.phis ++ placedCode j q.code m)) id = none) ∧ wr = W0) (fun i _ => nc - (intOf i).toNat)
            case atStart => exact ⟨0, Nat.zero_le _, rfl, by rw [placedCode, List.append_nil]; exact HNe, rfl⟩
            case round =>
              obtain ⟨m, hm, rfl, HNm, hw⟩ := hrel; obtain rfl := hw.symm
              by_cases hlm : m < nc
              · obtain ⟨x, hxx⟩ : ∃ x, q.code[m]? = some x := ⟨_, List.getElem?_eq_getElem (by rw [← HNC.out]; exact hlm)⟩
                obtain ⟨b2, off2, av, rfl, hb2, _, e1, _⟩ := HCX.out m x hxx
                have d1 := (hk.out b2 (off2 + m * 4 + 1) hb2).trans e1
                have HP2 := hideI hxx
                have HSU : Hid (placedCode j q.code (m + 1) = placedCode j q.code m ++ placedInstr j m x) := by show _ = _; rw [placedCode, hxx]
                obtain ⟨pid, hpid⟩ : ∃ pid, pid = x.id := ⟨_, rfl⟩
                rw [← hpid] at d1
                have HPID := hideI hpid
                clear e1 hxx hpid
                have HNX : Hid (¬ (pid = id ∧ 0 ≤ id) → Placed.first (placedParams f.params.length ++ placedBlocks f.blocks j ++ (placedPhis j q.phis ++ placedCode j q.code (m + 1))) id = none) := by
                  refine hideI (fun hno => ?_)
                  rw [HSU.out, ← List.append_assoc (placedPhis j q.phis), ← List.append_assoc (placedParams f.params.length ++ placedBlocks f.blocks j)]
                  unfold placedInstr
                  rw [← HPID.out]
                  by_cases h0 : 0 ≤ pid
                  · rw [if_pos h0]
                    exact Placed.first_none_snoc HNm.out (fun e => hno ⟨e, by rw [← e]; exact h0⟩)
                  · rw [if_neg h0, List.append_nil]
                    exact HNm.out
                by_cases hid : pid = id
                · by_cases h0 : 0 ≤ id
                  · exact absurd h1 (by omega)
                  · have HNN := hideI (HNX.out (fun h => h0 h.2))
                    subst hid
                    go_wp2
                    go_roundw
                    case rel => exact ⟨m + 1, by omega, by go_num, HNN, by first | rfl | trivial⟩
                    case measure => simp [intOf]; omega
                · have HNN := hideI (HNX.out (fun h => hid h.1))
                  have hib : (pid == id) = false := beq_eq_false_iff_ne.2 hid
                  clear hid
                  go_wp2
                  go_roundw
                  case rel => exact ⟨m + 1, by omega, by go_num, HNN, by first | rfl | trivial⟩
                  case measure => simp [intOf]; omega
              · have HNE : Hid (Placed.first (placedParams f.params.length ++ placedBlocks f.blocks (j + 1)) id = none) := by
                  have h1 := HNm.out
                  have h2 : m = q.code.length := by have := HNC.out; omega
                  rw [h2] at h1
                  show _ = _
                  rw [placedBlocks, HQ.out, ← List.append_assoc]
                  exact h1
                go_wp2
                go_roundw
                case rel => exact ⟨j + 1, by omega, by go_num, HNE, by first | rfl | trivial⟩
                case measure => simp [intOf]; omega
      · have HNE : Hid ((placedM f).first id = none) := by
          have h1 := HN.out
          have h2 : j = f.blocks.length := by have := HNB.out; omega
          rw [h2] at h1
          exact h1
        go_wp2
        go_ret3
        exact defPost_none HNE.out (by rw [HW0.out]; exact HB0.out)

end Go.Proofs.Ytocnlclighonfaa

namespace Go.Proofs.Ytocnlclighonfaa
open Go.RowKit

/-- a use, as a row of five numbers: value, type, block, place, block that it is come from -/
def rowPhi (b : Nat) (t : Int) (d : Int × Int) : List Int := [d.1, t, (b : Int), -1, d.2]
def rowInstr (b i : Nat) (d : Int × Int) : List Int := [d.1, d.2, (b : Int), (i : Int), 0]
def rowsPhi (b : Nat) (p : PhiM) : List (List Int) := (p.vals.zip p.fr).map (rowPhi b p.typ)
def rowsInstr (b i : Nat) (x : InstrM) : List (List Int) := (x.args.zip (takesS x.op)).map (rowInstr b i)
def rowsCode (b : Nat) (xs : List InstrM) : Nat → List (List Int)
  | 0 => []
  | i + 1 => rowsCode b xs i ++ match xs[i]? with | some x => rowsInstr b i x | none => []
def rowsTerm (b : Nat) (q : BlockM) : List (List Int) :=
  if q.term.op = 2 then [[q.term.val, 2, (b : Int), (q.code.length : Int), 0]] else if q.term.op = 3 then [[q.term.val, 0, (b : Int), (q.code.length : Int), 0]] else []
def rowsBlock (b : Nat) (q : BlockM) : List (List Int) := q.phis.flatMap (rowsPhi b) ++ (rowsCode b q.code q.code.length ++ rowsTerm b q)
def rowsTo (bs : List BlockM) : Nat → List (List Int)
  | 0 => []
  | b + 1 => rowsTo bs b ++ match bs[b]? with | some q => rowsBlock b q | none => []

/-- the slice v is the call's own row of uses, whole -/
def RU5 (w : World) (base : Nat) (v : Value) (us : List (Int × Int)) (rows : List (List Int)) : Prop :=
  rows.map (fun r => (r.getD 0 0, r.getD 1 0)) = us ∧ (∀ r ∈ rows, r.length = 5) ∧ w.ownsRow base 74 5 v us.length (rows.flatten.map (Value.int .i64))

theorem RU5.push {w' : World} {base : Nat} {v' : Value} {us : List (Int × Int)} {rows : List (List Int)} (h1 : rows.map (fun r => (r.getD 0 0, r.getD 1 0)) = us) (h2 : ∀ r ∈ rows, r.length = 5) {a b c d e : Int}
    (h : w'.ownsRow base 74 5 v' (us.length + 1) (rows.flatten.map (Value.int .i64) ++ [.int .i64 a, .int .i64 b, .int .i64 c, .int .i64 d, .int .i64 e])) : RU5 w' base v' (us ++ [(a, b)]) (rows ++ [[a, b, c, d, e]]) := by
  refine ⟨by rw [List.map_append, h1]; rfl, ?_, ?_⟩
  · intro r hr
    rcases List.mem_append.1 hr with hr | hr
    · exact h2 r hr
    · simp at hr
      subst hr
      rfl
  · simpa using h

theorem RU5.alloc {w : World} {base : Nat} {v : Value} {us : List (Int × Int)} {rows : List (List Int)} (h : RU5 w base v us rows) (o : Obj) : RU5 (w.alloc o) base v us rows := ⟨h.1, h.2.1, h.2.2.alloc o⟩

theorem RU5.below {w w' : World} {base : Nat} {v : Value} {us : List (Int × Int)} {rows : List (List Int)} (h : RU5 w base v us rows) (hb : Below w.heap.size w w') : RU5 w' base v us rows := by
  obtain ⟨h1, h2, h3⟩ := h
  exact ⟨h1, h2, h3.kept (row := none) ⟨hb.os, hb.tape, hb.output, hb.size, fun k hk _ => hb.block k hk⟩ (by
    cases hv : v.ownBlock with
    | none => exact .inl rfl
    | some k => exact .inr (by simp))⟩

set_option maxRecDepth 100000 in
set_option maxHeartbeats 8000000 in
theorem refUses5_any (bs : List BlockM) (B : Nat) (pv xv cv bv : Value) (w : World) (hbv : BlocksR w B bv bs) (hB : B ≤ w.heap.size) (hfew : Few bs) (hl5 : bs.length ≤ 512)
    (hform : ∀ b ∈ bs, ∀ x ∈ b.code, x.args.length = (takesS x.op).length) (hphi : ∀ b ∈ bs, ∀ p ∈ b.phis, p.vals.length = p.fr.length) :
    Calls Try.prog 37 #[.agg #[pv, xv, cv, bv]] w fun e w' => ∃ v, e = .returned v ∧ RU5 w' w.heap.size v (bs.flatMap usesBlock) (rowsTo bs bs.length) ∧ Below w.heap.size w w' := by
  have HFEW := hideI hfew
  have HFO := hideI hform
  have HPH := hideI hphi
  have HBB := hideI hbv
  obtain ⟨i0, hi, hz0, hz1, hz2⟩ := info_parts use_info
  obtain ⟨A, c, rfl, hbm, hbx⟩ := hbv
  have HX := hideI hbx
  clear hbx hfew hform hphi
  obtain ⟨W0, hW0⟩ : ∃ W0 : World, W0 = (w.alloc (.cells #[pv, xv, cv, .slice A bs.length c] 25)).alloc (.cells #[] 74) := ⟨_, rfl⟩
  have hK0 : Hid (Ka w.heap.size w W0) := by rw [hW0]; exact ((Ka.refl _ w).alloc (Nat.le_refl _) _).alloc (by simp) _
  have hbox0 : Hid (W0.heap[w.heap.size]? = some (.cells #[pv, xv, cv, .slice A bs.length c] 25 (0, 0))) := by
    show _ = _
    rw [hW0, Below.heap_alloc _ _ _ (by simp)]
    exact heap_alloc_new w _
  have hR0 : Hid (RU5 W0 w.heap.size (.slice (some ⟨w.heap.size + 1, 0, none⟩) 0 0) [] []) := by
    have := World.ownsRow_made (base := w.heap.size) (e := 74) (size := 5) (w.alloc (.cells #[pv, xv, cv, .slice A bs.length c] 25)) #[] 0 (by simp) (by decide) rfl
    show RU5 W0 _ _ _ _
    rw [hW0]
    exact ⟨rfl, (fun _ h => by cases h), by simpa using this⟩
  have HW0 := hideI hW0
  clear hW0
  go_enter Try.func37, Try.ntmps37
  go_wp2
  rw [← HW0.out]
  go_loopw [3, 4] (fun o i wr => ∃ k : Nat, k ≤ bs.length ∧ i = .int .i64 k ∧ RU5 wr w.heap.size o ((bs.take k).flatMap usesBlock) (rowsTo bs k) ∧ Ka w.heap.size W0 wr) (fun _ i _ => bs.length - (intOf i).toNat)
  case atStart => exact ⟨0, Nat.zero_le _, rfl, by simpa [rowsTo] using hR0.out, Ka.refl _ _⟩
  case round =>
    obtain ⟨k, hk, rfl, hIk, hFk⟩ := hrel
    obtain ⟨u3, rfl⟩ : ∃ u3' : Value, u3' = u3 := ⟨_, rfl⟩
    have HIk := hideI hIk
    have HFk := hideI hFk
    have hx := hFk.row hbox0.out (by decide)
    have hsz : w.heap.size < wr.heap.size := by have h1 := hFk.size; have h2 := lt_of_heap hbox0.out; omega
    have HK := hideI (Keeps.mono' (hK0.out.trans hFk).keeps hB)
    clear hIk hFk
    by_cases hlt : k < bs.length
    · obtain ⟨q, hq⟩ : ∃ q, bs[k]? = some q := ⟨_, List.getElem?_eq_getElem hlt⟩
      obtain ⟨b, off, qpv, qcv, qtv, rfl, hb, e0, e1, e2, e3, e4, e5, hpv, hcv, htv, _⟩ := HX.out k q hq
      have c0 := (HK.out b (off + k * 6) hb).trans e0
      have c1 := (HK.out b (off + k * 6 + 1) hb).trans e1
      have c2 := (HK.out b (off + k * 6 + 2) hb).trans e2
      have c3 := (HK.out b (off + k * 6 + 3) hb).trans e3
      have c4 := (HK.out b (off + k * 6 + 4) hb).trans e4
      have c5 := (HK.out b (off + k * 6 + 5) hb).trans e5
      have HQ := hideI hq
      obtain ⟨PA, pc, rfl, hpm, hpx⟩ := hpv
      obtain ⟨CA, cc, rfl, hcm, hcx⟩ := hcv
      obtain ⟨TA, tc, rfl, _⟩ := htv
      have HPX := hideI hpx
      have HCX := hideI hcx
      clear e0 e1 e2 e3 e4 e5 hq hpx hcx
      obtain ⟨wo, rfl⟩ : ∃ wo : World, wo = wr := ⟨_, rfl⟩
      obtain ⟨W1, hW1⟩ : ∃ W1 : World, W1 = wo.alloc (.cells #[.slice PA q.phis.length pc, .slice CA q.code.length cc, .int .i64 q.term.op, .int .i64 q.term.val, .slice TA q.term.to.length tc, .int .i64 q.term.n] 54) := ⟨_, rfl⟩
      have HF1 : Hid (Ka w.heap.size W0 W1) := by rw [hW1]; exact HFk.out.alloc (by omega) _
      have HI1 : Hid (RU5 W1 w.heap.size u3 ((bs.take k).flatMap usesBlock) (rowsTo bs k)) := by rw [hW1]; exact HIk.out.alloc _
      have HB1 : Hid (W1.heap[wo.heap.size]? = some (.cells #[.slice PA q.phis.length pc, .slice CA q.code.length cc, .int .i64 q.term.op, .int .i64 q.term.val, .slice TA q.term.to.length tc, .int .i64 q.term.n] 54 (0, 0))) := by rw [hW1]; exact heap_alloc_new wo _
      have HW1 := hideI hW1
      clear hW1
      obtain ⟨us1, hus1⟩ : ∃ us1, us1 = (bs.take k).flatMap usesBlock := ⟨_, rfl⟩
      obtain ⟨rs1, hrs1⟩ : ∃ rs1, rs1 = rowsTo bs k := ⟨_, rfl⟩
      rw [← hus1, ← hrs1] at HI1
      have HU1 := hideI hus1
      have HRS1 := hideI hrs1
      clear hus1 hrs1
      go_wp2
      rw [← HW1.out]
      go_loopw [3, 6] (fun o i wr => ∃ j : Nat, j ≤ q.phis.length ∧ i = .int .i64 j ∧ RU5 wr w.heap.size o (us1 ++ (q.phis.take j).flatMap usesPhi) (rs1 ++ (q.phis.take j).flatMap (rowsPhi k)) ∧ Ka w.heap.size W1 wr) (fun _ i _ => q.phis.length - (intOf i).toNat)
      case atStart => exact ⟨0, Nat.zero_le _, rfl, by simpa using HI1.out, Ka.refl _ _⟩
      case round =>
        obtain ⟨j, hj, rfl, hIj, hFj⟩ := hrel
        have HIj := hideI hIj
        have HFj := hideI hFj
        have hx1 := hFj.row HB1.out (by decide)
        have hsz1 : wo.heap.size < wr.heap.size := by have h1 := hFj.size; have h2 := lt_of_heap HB1.out; omega
        have HK1 := hideI (Keeps.mono' ((hK0.out.trans HF1.out).trans hFj).keeps hB)
        clear hIj hFj
        by_cases hlj : j < q.phis.length
        · obtain ⟨p, hp⟩ : ∃ p, q.phis[j]? = some p := ⟨_, List.getElem?_eq_getElem hlj⟩
          obtain ⟨b2, off2, fv, vv, rfl, hb2, e0, e1, e2, e3, hf, hv, _⟩ := HPX.out j p hp
          have HQ2 := hideI hp
          have hpl : Hid (p.vals.length = p.fr.length) := HPH.out q (List.mem_of_getElem? HQ.out) p (List.mem_of_getElem? hp)
          obtain ⟨FA, fc, rfl, hfm, hfx⟩ := hf
          obtain ⟨VA, vc, rfl, hvm, hvx⟩ := hv
          have HVX := hideI hvx
          have HFX := hideI hfx
          have HE := hideI (And.intro e1 (And.intro e2 e3))
          have d3 := (HK1.out b2 (off2 + j * 4 + 3) hb2).trans e3
          obtain ⟨wi, rfl⟩ : ∃ wi : World, wi = wr := ⟨_, rfl⟩
          obtain ⟨us2, hus2⟩ : ∃ us2, us2 = us1 ++ (q.phis.take j).flatMap usesPhi := ⟨_, rfl⟩
          obtain ⟨rs2, hrs2⟩ : ∃ rs2, rs2 = rs1 ++ (q.phis.take j).flatMap (rowsPhi k) := ⟨_, rfl⟩
          rw [← hus2, ← hrs2] at HIj
          have HU2 := hideI hus2
          have HRS2 := hideI hrs2
          clear e0 e1 e2 e3 hp hvx hfx hus2 hrs2
          go_wp2
          clear d3
          go_loopw [3, 7] (fun o i wr => ∃ m : Nat, m ≤ p.vals.length ∧ i = .int .i64 m ∧ RU5 wr w.heap.size o (us2 ++ (p.vals.take m).map fun v => (v, p.typ)) (rs2 ++ ((p.vals.zip p.fr).take m).map (rowPhi k p.typ)) ∧ Ka w.heap.size wi wr) (fun _ i _ => p.vals.length - (intOf i).toNat)
          case atStart => exact ⟨0, Nat.zero_le _, rfl, by simpa using HIj.out, Ka.refl _ _⟩
          case round =>
            obtain ⟨m, hm, rfl, hIm, hFm⟩ := hrel
            have hx2 := (HFj.out.trans hFm).row HB1.out (by decide)
            have HK2 := hideI (Keeps.mono' (((hK0.out.trans HF1.out).trans HFj.out).trans hFm).keeps hB)
            have hsz2 : w.heap.size ≤ wr.heap.size := by have h1 := hFm.size; omega
            have d1 := (HK2.out b2 (off2 + j * 4 + 1) hb2).trans HE.out.1
            have d2 := (HK2.out b2 (off2 + j * 4 + 2) hb2).trans HE.out.2.1
            have d3 := (HK2.out b2 (off2 + j * 4 + 3) hb2).trans HE.out.2.2
            have HIm := hideI hIm
            have HFm := hideI hFm
            clear hIm hFm
            by_cases hlm : m < p.vals.length
            · obtain ⟨b3, off3, rfl, hb3, e3⟩ := HVX.out m hlm
              obtain ⟨v, hv⟩ : ∃ v, p.vals[m]? = some v := ⟨_, List.getElem?_eq_getElem hlm⟩
              have hlf : m < p.fr.length := by rw [← hpl.out]; exact hlm
              obtain ⟨b4, off4, rfl, hb4, e4⟩ := HFX.out m hlf
              obtain ⟨fr, hfr⟩ : ∃ fr, p.fr[m]? = some fr := ⟨_, List.getElem?_eq_getElem hlf⟩
              rw [hv] at e3
              rw [hfr] at e4
              have f3 := (HK2.out b3 (off3 + m) hb3).trans e3
              have f4 := (HK2.out b4 (off4 + m) hb4).trans e4
              simp only [Option.getD_some] at f3 f4
              have HV := hideI hv
              have HZ : Hid ((p.vals.zip p.fr)[m]? = some (v, fr)) := hideI (List.getElem?_zip_eq_some.2 ⟨hv, hfr⟩)
              have hfw := few_phi HFEW.out HQ.out HQ2.out hlm us1 us2 HU1.out HU2.out
              obtain ⟨uu, huu⟩ : ∃ uu, uu = us2 ++ (p.vals.take m).map fun v => (v, p.typ) := ⟨_, rfl⟩
              obtain ⟨rows, hrows⟩ : ∃ rows, rows = rs2 ++ ((p.vals.zip p.fr).take m).map (rowPhi k p.typ) := ⟨_, rfl⟩
              rw [← huu] at hfw HIm
              rw [← hrows] at HIm
              have HUU := hideI huu
              have HRW := hideI hrows
              clear e3 e4 hv hfr huu hrows
              have g0 : wr.cell? ⟨wo.heap.size, 0, none⟩ = some (.slice (some ⟨b2, off2, none⟩) q.phis.length pc) := hx2 0
              clear hx2
              obtain ⟨hrw1, hrw2, hown⟩ := HIm.out
              have HR1 := hideI hrw1
              have HR2 := hideI hrw2
              clear hrw1 hrw2
              have G0 : Hid (∀ W, Ka w.heap.size wr W → W.cell? ⟨wo.heap.size, 0, none⟩ = some (.slice (some ⟨b2, off2, none⟩) q.phis.length pc) ∧ W.cell? ⟨b2, off2 + j * 4 + 1, none⟩ = some (.int .i64 p.typ) ∧ W.cell? ⟨b2, off2 + j * 4 + 2, none⟩ = some (.slice (some ⟨b4, off4, none⟩) p.fr.length fc) ∧ W.cell? ⟨b2, off2 + j * 4 + 3, none⟩ = some (.slice (some ⟨b3, off3, none⟩) p.vals.length vc) ∧ W.cell? ⟨b3, off3 + m, none⟩ = some (.int .i64 v) ∧ W.cell? ⟨b4, off4 + m, none⟩ = some (.int .i64 fr)) :=
                fun W hW => ⟨((HFj.out.trans HFm.out).trans hW).row HB1.out (by decide) 0, (hW.keeps _ _ (by omega)).trans d1, (hW.keeps _ _ (by omega)).trans d2, (hW.keeps _ _ (by omega)).trans d3, (hW.keeps _ _ (by omega)).trans f3, (hW.keeps _ _ (by omega)).trans f4⟩
              go_wp2
              go_region_held3 (fun w' => w'.cell? ⟨wo.heap.size, 0, none⟩ = some (.slice (some ⟨b2, off2, none⟩) q.phis.length pc) ∧ w'.cell? ⟨b2, off2 + j * 4 + 1, none⟩ = some (.int .i64 p.typ) ∧ w'.cell? ⟨b2, off2 + j * 4 + 2, none⟩ = some (.slice (some ⟨b4, off4, none⟩) p.fr.length fc) ∧ w'.cell? ⟨b2, off2 + j * 4 + 3, none⟩ = some (.slice (some ⟨b3, off3, none⟩) p.vals.length vc) ∧ w'.cell? ⟨b3, off3 + m, none⟩ = some (.int .i64 v) ∧ w'.cell? ⟨b4, off4 + m, none⟩ = some (.int .i64 fr)) (first | go_keep | exact G0.out _ ((((Ka.refl _ wr).alloc hsz2 _).drew).trans hka) | exact G0.out _ (((Ka.refl _ wr).alloc hsz2 _).trans hka))
                (first | (refine step_append_lies _ rfl (.tmp 44) (.tmp 71) _ rfl w.heap.size 74 i0 _ 5 40 Try.underlying71 hi hz0 hz1 hz2 rfl (by decide) _ _ _ rfl (hown.alloc _) ⟨wr.heap.size, 0, none⟩ 1 1 [.int .i64 v, .int .i64 p.typ, .int .i64 k, .int .i64 (-1), .int .i64 fr] rfl rfl (five_new _ _ _) (by simp [Value.oneCell']) (by decide) (by unfold maxLen; omega) (by omega) (by simp; omega) _ rfl ?_; intro g1 cap1 w4 hown1 hgrow1 hor hgl1; have hka := Ka.grown hgrow1 (hown.alloc _) (by simp; omega)))
              have HIN : Hid (RU5 w4 w.heap.size (.slice (some ⟨g1, 0, none⟩) (uu.length + 1) cap1) (us2 ++ (p.vals.take (m + 1)).map fun v => (v, p.typ)) (rs2 ++ ((p.vals.zip p.fr).take (m + 1)).map (rowPhi k p.typ))) := by
                have := RU5.push (b := p.typ) HR1.out HR2.out hown1
                rw [map_take' (fun v => (v, p.typ)) p.vals m v HV.out, ← List.append_assoc, ← HUU.out, map_take' (rowPhi k p.typ) (p.vals.zip p.fr) m (v, fr) HZ.out, ← List.append_assoc, ← HRW.out]
                exact this
              have HFN : Hid (Ka w.heap.size wi w4) := (HFm.out.trans (((Ka.refl _ wr).alloc hsz2 _).drew)).trans hka
              clear hown1 hgrow1 hor hgl1 hka
              go_wp2
              go_roundw
              case rel => exact ⟨m + 1, by omega, by go_num, HIN.out, HFN.out⟩
              case measure => simp [intOf]; omega
            · have HIend : Hid (RU5 wr w.heap.size u3 (us2 ++ usesPhi p) (rs2 ++ rowsPhi k p)) := by have := HIm.out; rw [List.take_of_length_le (l := p.vals) (by omega), List.take_of_length_le (l := p.vals.zip p.fr) (by rw [List.length_zip]; omega)] at this; exact this
              go_wp2
              go_roundw
              case rel => exact ⟨j + 1, by omega, by go_num, by rw [flat_take' _ _ _ _ HQ2.out, flat_take' _ _ _ _ HQ2.out, ← List.append_assoc, ← List.append_assoc, ← HU2.out, ← HRS2.out]; exact HIend.out, HFj.out.trans HFm.out⟩
              case measure => simp [intOf]; omega
        · have HIend : Hid (RU5 wr w.heap.size u3 (us1 ++ q.phis.flatMap usesPhi) (rs1 ++ q.phis.flatMap (rowsPhi k))) := by have := HIj.out; rw [List.take_of_length_le (by omega)] at this; exact this
          go_wp2
          obtain ⟨wp, rfl⟩ : ∃ wp : World, wp = wr := ⟨_, rfl⟩
          clear hx1 hsz1 HK1 hlj
          obtain ⟨us3, hus3⟩ : ∃ us3, us3 = us1 ++ q.phis.flatMap usesPhi := ⟨_, rfl⟩
          obtain ⟨rs3, hrs3⟩ : ∃ rs3, rs3 = rs1 ++ q.phis.flatMap (rowsPhi k) := ⟨_, rfl⟩
          rw [← hus3, ← hrs3] at HIend
          have HU3 := hideI hus3
          have HRS3 := hideI hrs3
          clear hus3 hrs3
          go_loopw [3, 8] (fun o i wr => ∃ j : Nat, j ≤ q.code.length ∧ i = .int .i64 j ∧ RU5 wr w.heap.size o (us3 ++ (q.code.take j).flatMap usesInstr) (rs3 ++ rowsCode k q.code j) ∧ Ka w.heap.size W1 wr) (fun _ i _ => q.code.length - (intOf i).toNat)
          case atStart => exact ⟨0, Nat.zero_le _, rfl, by simpa [rowsCode] using HIend.out, HFj.out⟩
          case round =>
            obtain ⟨j2, hj2, rfl, hIj2, hFj2⟩ := hrel
            have HIj2 := hideI hIj2
            have HFj2 := hideI hFj2
            have hx1 := hFj2.row HB1.out (by decide)
            have hsz1 : wo.heap.size < wr.heap.size := by have h1 := hFj2.size; have h2 := lt_of_heap HB1.out; omega
            have hsz0 : w.heap.size ≤ wr.heap.size := by omega
            have HK1 := hideI (Keeps.mono' ((hK0.out.trans HF1.out).trans hFj2).keeps hB)
            clear hIj2 hFj2
            by_cases hlj2 : j2 < q.code.length
            · obtain ⟨x, hp⟩ : ∃ x, q.code[j2]? = some x := ⟨_, List.getElem?_eq_getElem hlj2⟩
              have hxl : Hid (x.args.length = (takesS x.op).length) := HFO.out q (List.mem_of_getElem? HQ.out) x (List.mem_of_getElem? hp)
              obtain ⟨b2, off2, av, rfl, hb2, e0, e1, e2, e3, hf, _⟩ := HCX.out j2 x hp
              have d0 := (HK1.out b2 (off2 + j2 * 4) hb2).trans e0
              have HE2 := hideI e2
              have HQ2 := hideI hp
              obtain ⟨AA, ac, rfl, ham, hax⟩ := hf
              have HAX := hideI hax
              clear e0 e1 e2 e3 hp hax
              obtain ⟨wi, rfl⟩ : ∃ wi : World, wi = wr := ⟨_, rfl⟩
              go_wp2_with (go_at_call 62; refine (refArgs_any _ _).mono ?_; rintro e w3 ⟨tv, rfl, htv, hbA⟩; obtain ⟨TK, tkc, rfl, htm, htx⟩ := htv; have HTX := hideI htx; have HBA := hideI hbA; clear htx hbA)
              have HF3 : Hid (Ka w.heap.size W1 w3) := HFj2.out.trans (Ka.of_below HBA.out hsz0)
              have HI3 : Hid (RU5 w3 w.heap.size u3 (us3 ++ (q.code.take j2).flatMap usesInstr) (rs3 ++ rowsCode k q.code j2)) := HIj2.out.below HBA.out
              obtain ⟨us4, hus4⟩ : ∃ us4, us4 = us3 ++ (q.code.take j2).flatMap usesInstr := ⟨_, rfl⟩
              obtain ⟨rs4, hrs4⟩ : ∃ rs4, rs4 = rs3 ++ rowsCode k q.code j2 := ⟨_, rfl⟩
              rw [← hus4, ← hrs4] at HI3
              have HU4 := hideI hus4
              have HRS4 : Hid (rs3 ++ rowsCode k q.code (j2 + 1) = rs4 ++ rowsInstr k j2 x) := by show _ = _; rw [rowsCode, HQ2.out, hrs4, List.append_assoc]
              clear hrs4
              have hsz3 : wi.heap.size ≤ w3.heap.size := HBA.out.size
              clear hus4 hx1 d0
              go_loopw [3, 12] (fun o i wr => ∃ m : Nat, m ≤ (takesS x.op).length ∧ i = .int .i64 m ∧ RU5 wr w.heap.size o (us4 ++ (x.args.take m).zip ((takesS x.op).take m)) (rs4 ++ ((x.args.zip (takesS x.op)).take m).map (rowInstr k j2)) ∧ Ka w.heap.size w3 wr) (fun _ i _ => (takesS x.op).length - (intOf i).toNat)
              case atStart => exact ⟨0, Nat.zero_le _, rfl, by simpa using HI3.out, Ka.refl _ _⟩
              case round =>
                obtain ⟨m, hm, rfl, hIm, hFm⟩ := hrel
                have HIm := hideI hIm
                have HFm := hideI hFm
                have HK2 := hideI (Keeps.mono' ((hK0.out.trans HF1.out).trans (HF3.out.trans hFm)).keeps hB)
                have hsz2 : w.heap.size ≤ wr.heap.size := by have h1 := hFm.size; omega
                clear hIm hFm
                by_cases hlm : m < (takesS x.op).length
                · have hla : m < x.args.length := by rw [hxl.out]; exact hlm
                  obtain ⟨b3, off3, rfl, hb3, e3⟩ := HAX.out m hla
                  obtain ⟨v, hv⟩ : ∃ v, x.args[m]? = some v := ⟨_, List.getElem?_eq_getElem hla⟩
                  obtain ⟨t, ht⟩ : ∃ t, (takesS x.op)[m]? = some t := ⟨_, List.getElem?_eq_getElem hlm⟩
                  obtain ⟨g, cs, rfl, hg, hgb, hgc⟩ := HTX.out (by omega)
                  have hgx := (HFm.out.row hgb (by decide) m).trans (hgc m hlm)
                  rw [hv] at e3
                  rw [ht] at hgx
                  have f3 := (HK2.out b3 (off3 + m) hb3).trans e3
                  have d2 := (HK2.out b2 (off2 + j2 * 4 + 2) hb2).trans HE2.out
                  simp only [Option.getD_some] at f3 hgx
                  have HV := hideI hv
                  have HT2 := hideI ht
                  have HZ : Hid ((x.args.zip (takesS x.op))[m]? = some (v, t)) := hideI (List.getElem?_zip_eq_some.2 ⟨hv, ht⟩)
                  have HGB := hideI (And.intro hgb (hgc m hlm))
                  have hfw := few_instr HFEW.out HQ.out HQ2.out hla hxl.out us1 us3 us4 HU1.out HU3.out HU4.out
                  obtain ⟨uu, huu⟩ : ∃ uu, uu = us4 ++ (x.args.take m).zip ((takesS x.op).take m) := ⟨_, rfl⟩
                  obtain ⟨rows, hrows⟩ : ∃ rows, rows = rs4 ++ ((x.args.zip (takesS x.op)).take m).map (rowInstr k j2) := ⟨_, rfl⟩
                  rw [← huu] at hfw HIm
                  rw [← hrows] at HIm
                  have HUU := hideI huu
                  have HRW := hideI hrows
                  clear hrows
                  obtain ⟨hrw1, hrw2, hown⟩ := HIm.out
                  have HR1 := hideI hrw1
                  have HR2 := hideI hrw2
                  have g0 : wr.cell? ⟨wo.heap.size, 1, none⟩ = some (.slice (some ⟨b2, off2, none⟩) q.code.length cc) := ((HF3.out.trans HFm.out).row HB1.out (by decide) 1)
                  clear e3 hv ht hgb hgc huu hrw1 hrw2
                  have G0 : Hid (∀ W, Ka w.heap.size wr W → W.cell? ⟨wo.heap.size, 1, none⟩ = some (.slice (some ⟨b2, off2, none⟩) q.code.length cc) ∧ W.cell? ⟨b2, off2 + j2 * 4 + 2, none⟩ = some (.slice (some ⟨b3, off3, none⟩) x.args.length ac) ∧ W.cell? ⟨b3, off3 + m, none⟩ = some (.int .i64 v) ∧ W.cell? ⟨g, m, none⟩ = some (.int .i64 t)) :=
                    fun W hW => ⟨((HF3.out.trans HFm.out).trans hW).row HB1.out (by decide) 1, (hW.keeps _ _ (by omega)).trans d2, (hW.keeps _ _ (by omega)).trans f3, (by rw [((HFm.out.trans hW).row HGB.out.1 (by decide) m), ← hgx, HFm.out.row HGB.out.1 (by decide) m])⟩
                  go_wp2
                  go_region_held3 (fun w' => w'.cell? ⟨wo.heap.size, 1, none⟩ = some (.slice (some ⟨b2, off2, none⟩) q.code.length cc) ∧ w'.cell? ⟨b2, off2 + j2 * 4 + 2, none⟩ = some (.slice (some ⟨b3, off3, none⟩) x.args.length ac) ∧ w'.cell? ⟨b3, off3 + m, none⟩ = some (.int .i64 v) ∧ w'.cell? ⟨g, m, none⟩ = some (.int .i64 t)) (first | go_keep | exact G0.out _ ((((Ka.refl _ wr).alloc hsz2 _).drew).trans hka) | exact G0.out _ (((Ka.refl _ wr).alloc hsz2 _).trans hka))
                    (first | (refine step_append_lies _ rfl (.tmp 97) (.tmp 114) _ rfl w.heap.size 74 i0 _ 5 40 Try.underlying71 hi hz0 hz1 hz2 rfl (by decide) _ _ _ rfl (hown.alloc _) ⟨wr.heap.size, 0, none⟩ 1 1 [.int .i64 v, .int .i64 t, .int .i64 k, .int .i64 j2, .int .i64 0] rfl rfl (five_new _ _ _) (by simp [Value.oneCell']) (by decide) (by unfold maxLen; omega) (by omega) (by simp; omega) _ rfl ?_; intro g1 cap1 w4 hown1 hgrow1 hor hgl1; have hka := Ka.grown hgrow1 (hown.alloc _) (by simp; omega)))
                  have HIN : Hid (RU5 w4 w.heap.size (.slice (some ⟨g1, 0, none⟩) (uu.length + 1) cap1) (us4 ++ (x.args.take (m + 1)).zip ((takesS x.op).take (m + 1))) (rs4 ++ ((x.args.zip (takesS x.op)).take (m + 1)).map (rowInstr k j2))) := by
                    have := RU5.push (b := t) HR1.out HR2.out hown1
                    rw [zip_take' _ _ _ _ _ HV.out HT2.out, ← List.append_assoc, ← HUU.out, map_take' (rowInstr k j2) (x.args.zip (takesS x.op)) m (v, t) HZ.out, ← List.append_assoc, ← HRW.out]
                    exact this
                  have HFN : Hid (Ka w.heap.size w3 w4) := (HFm.out.trans (((Ka.refl _ wr).alloc hsz2 _).drew)).trans hka
                  clear hown1 hgrow1 hor hgl1 hka
                  go_wp2
                  go_roundw
                  case rel => exact ⟨m + 1, by omega, by go_num, HIN.out, HFN.out⟩
                  case measure => simp [intOf]; omega
                · have HIe : Hid (RU5 wr w.heap.size u3 (us4 ++ usesInstr x) (rs4 ++ rowsInstr k j2 x)) := by
                    have := HIm.out
                    rw [List.take_of_length_le (l := x.args) (by rw [hxl.out]; omega), List.take_of_length_le (l := takesS x.op) (by omega), List.take_of_length_le (l := x.args.zip (takesS x.op)) (by rw [List.length_zip]; omega)] at this
                    exact this
                  go_wp2
                  go_roundw
                  case rel => exact ⟨j2 + 1, by omega, by go_num, by rw [flat_take' _ _ _ _ HQ2.out, ← List.append_assoc, ← HU4.out, HRS4.out]; exact HIe.out, HF3.out.trans HFm.out⟩
                  case measure => simp [intOf]; omega
            · have HIe : Hid (RU5 wr w.heap.size u3 (us3 ++ q.code.flatMap usesInstr) (rs3 ++ rowsCode k q.code q.code.length)) := by have := HIj2.out; rw [List.take_of_length_le (by omega), show j2 = q.code.length by omega] at this; exact this
              have HUB : Hid ((bs.take (k + 1)).flatMap usesBlock = (us3 ++ q.code.flatMap usesInstr) ++ usesTerm q.term) := by
                show _ = _
                rw [flat_take' _ _ _ _ HQ.out, HU3.out, HU1.out]
                simp only [usesBlock, List.append_assoc]
              have HRB : Hid (rowsTo bs (k + 1) = (rs3 ++ rowsCode k q.code q.code.length) ++ rowsTerm k q) := by
                show _ = _
                rw [rowsTo, HQ.out, HRS3.out, HRS1.out]
                simp only [rowsBlock, List.append_assoc]
              cases h2 : q.term.op == 2
              · cases h3 : q.term.op == 3
                · have hu : usesTerm q.term = [] := by
                    unfold usesTerm
                    rw [if_neg (by simpa using h2), if_neg (by simpa using h3)]
                  have HU := hideI hu
                  have HRT : Hid (rowsTerm k q = []) := by
                    show _ = _
                    unfold rowsTerm
                    rw [if_neg (by simpa using h2), if_neg (by simpa using h3)]
                  clear hu
                  go_wp2
                  go_roundw
                  case rel => exact ⟨k + 1, by omega, by go_num, by rw [HUB.out, HU.out, List.append_nil, HRB.out, HRT.out, List.append_nil]; exact HIe.out, HF1.out.trans HFj2.out⟩
                  case measure => simp [intOf]; omega
                · have hu : usesTerm q.term = [(q.term.val, 0)] := by
                    unfold usesTerm
                    rw [if_neg (by simpa using h2), if_pos (by simpa using h3)]
                  have HU := hideI hu
                  have HRT : Hid (rowsTerm k q = [[q.term.val, 0, (k : Int), (q.code.length : Int), 0]]) := by
                    show _ = _
                    unfold rowsTerm
                    rw [if_neg (by simpa using h2), if_pos (by simpa using h3)]
                  have hfw := few_term HFEW.out HQ.out (by rw [hu]; exact Nat.zero_lt_one) us1 us3 HU1.out HU3.out
                  clear hu
                  obtain ⟨uu, huu⟩ : ∃ uu, uu = us3 ++ q.code.flatMap usesInstr := ⟨_, rfl⟩
                  obtain ⟨rows, hrows⟩ : ∃ rows, rows = rs3 ++ rowsCode k q.code q.code.length := ⟨_, rfl⟩
                  rw [← huu] at hfw HIe HUB
                  rw [← hrows] at HIe HRB
                  clear huu hrows
                  obtain ⟨hrw1, hrw2, hown⟩ := HIe.out
                  have HR1 := hideI hrw1
                  have HR2 := hideI hrw2
                  clear hrw1 hrw2
                  go_wp2_with (at_builtin; refine wpList_append_lies _ rfl _ _ _ rfl w.heap.size 74 i0 _ 5 40 Try.underlying71 hi hz0 hz1 hz2 rfl (by decide) _ _ _ rfl (hown.alloc _) ⟨wr.heap.size, 0, none⟩ 1 1 [.int .i64 q.term.val, .int .i64 0, .int .i64 k, .int .i64 q.code.length, .int .i64 0] rfl rfl (five_new _ _ _) (by simp [Value.oneCell']) (by decide) (by unfold maxLen; omega) (by omega) (by simp; omega) _ rfl ?_; intro g1 cap1 w4 hown1 hgrow1 hor hgl1; have hka := hideI (Ka.grown hgrow1 (hown.alloc _) (by simp; omega)); have HO1 := hideI hown1; clear hown1 hgrow1 hor hgl1)
                  go_roundw
                  case rel => exact ⟨k + 1, by omega, by go_num, by rw [HUB.out, HU.out, HRB.out, HRT.out]; exact RU5.push HR1.out HR2.out HO1.out, (HF1.out.trans (HFj2.out.alloc hsz0 _)).trans hka.out⟩
                  case measure => simp [intOf]; omega
              · have hu : usesTerm q.term = [(q.term.val, 2)] := by
                  unfold usesTerm
                  rw [if_pos (by simpa using h2)]
                have HU := hideI hu
                have HRT : Hid (rowsTerm k q = [[q.term.val, 2, (k : Int), (q.code.length : Int), 0]]) := by
                  show _ = _
                  unfold rowsTerm
                  rw [if_pos (by simpa using h2)]
                have hfw := few_term HFEW.out HQ.out (by rw [hu]; exact Nat.zero_lt_one) us1 us3 HU1.out HU3.out
                clear hu
                have h3 : (q.term.op == 3) = false := by
                  have : q.term.op = 2 := by simpa using h2
                  rw [this]; rfl
                obtain ⟨uu, huu⟩ : ∃ uu, uu = us3 ++ q.code.flatMap usesInstr := ⟨_, rfl⟩
                obtain ⟨rows, hrows⟩ : ∃ rows, rows = rs3 ++ rowsCode k q.code q.code.length := ⟨_, rfl⟩
                rw [← huu] at hfw HIe HUB
                rw [← hrows] at HIe HRB
                clear huu hrows
                obtain ⟨hrw1, hrw2, hown⟩ := HIe.out
                have HR1 := hideI hrw1
                have HR2 := hideI hrw2
                clear hrw1 hrw2
                go_wp2_with (at_builtin; refine wpList_append_lies _ rfl _ _ _ rfl w.heap.size 74 i0 _ 5 40 Try.underlying71 hi hz0 hz1 hz2 rfl (by decide) _ _ _ rfl (hown.alloc _) ⟨wr.heap.size, 0, none⟩ 1 1 [.int .i64 q.term.val, .int .i64 2, .int .i64 k, .int .i64 q.code.length, .int .i64 0] rfl rfl (five_new _ _ _) (by simp [Value.oneCell']) (by decide) (by unfold maxLen; omega) (by omega) (by simp; omega) _ rfl ?_; intro g1 cap1 w4 hown1 hgrow1 hor hgl1; have hka := hideI (Ka.grown hgrow1 (hown.alloc _) (by simp; omega)); have HO1 := hideI hown1; have hx4 := ((HFj2.out.alloc hsz0 _).trans hka.out).row HB1.out (by decide); clear hown1 hgrow1 hor hgl1)
                go_roundw
                case rel => exact ⟨k + 1, by omega, by go_num, by rw [HUB.out, HU.out, HRB.out, HRT.out]; exact RU5.push HR1.out HR2.out HO1.out, (HF1.out.trans (HFj2.out.alloc hsz0 _)).trans hka.out⟩
                case measure => simp [intOf]; omega
    · go_wp2
      go_ret
      refine ⟨_, rfl, ?_, (hK0.out.trans HFk.out).below⟩
      have := HIk.out
      rw [List.take_of_length_le (by omega), show k = bs.length by omega] at this
      exact this

end Go.Proofs.Ytocnlclighonfaa
