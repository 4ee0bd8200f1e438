/- What InterpCalc rests on, part 15: SCheckM, IRun, AwakeM, AwakeN, AwakeS, IAwake, ICalcP, IRefCalc. -/
import Derived.Test.YtliolgamhjpljaaGreatPkInterpCalc14

namespace Go.Proofs.YtliolgamhjpljaaGreat
open Go.RowKit Go.Maps

theorem look_right {f : FuncM} (h : (lookM f).1 = 0) : formedR f = true := by
  cases hr : formedR f
  · have := formed_no hr
    rw [look_formed h] at this
    cases this
  · rfl

theorem right_blockR {f : FuncM} (h : (lookM f).1 = 0) {q : BlockM} (hq : q ∈ f.blocks) : blockR f q = true := by
  have hr := look_right h
  unfold formedR at hr
  simp only [Bool.and_eq_true, List.all_eq_true] at hr
  exact hr.2.2.2 q hq

theorem look_id {f : FuncM} (h : (lookM f).1 = 0) {q : BlockM} (hq : q ∈ f.blocks) {x : InstrM} (hx : x ∈ q.code) : makesS x.op = 0 → x.id = -1 := by
  have hb := right_blockR h hq
  unfold blockR at hb
  simp only [Bool.and_eq_true, List.all_eq_true] at hb
  have hi := hb.2.1 x hx
  unfold instrR at hi
  simp only [Bool.and_eq_true, Bool.not_eq_true', Bool.and_eq_false_iff, beq_eq_false_iff_ne, bne_eq_false_iff_eq] at hi
  intro hm
  rcases hi.2.2.1 with h1 | h1
  · exact absurd hm h1
  · exact h1

theorem look_used {f : FuncM} (h : (lookM f).1 = 0) (u : Int × Int) (hu : u ∈ usesM f) : u.1 ∈ (valuesM f).map (·.1) := by
  rw [← at_some]
  have he := look_eq (look_formed h)
  rw [h, formed_eq (look_formed h)] at he
  cases hx : unknownB (valuesM f) (usesM f)
  · unfold unknownB at hx
    rw [List.any_eq_false] at hx
    have := hx u hu
    simpa [Option.isSome_iff_ne_none] using this
  · rw [hx] at he
    simp at he

theorem vals_instr {f : FuncM} (h : (lookM f).1 = 0) {q : BlockM} (hq : q ∈ f.blocks) {x : InstrM} (hx : x ∈ q.code) (b i : Nat) : (placedInstr b i x).map (·.1) = (valuesInstr x).map (·.1) := by
  unfold placedInstr valuesInstr
  rcases makes_cases x.op with hm | hm
  · have := look_id h hq hx hm
    rw [if_neg (by omega), if_neg (by omega)]
    rfl
  · have hk := (formed_keys (look_formed h)).1
    have hv := formed_eq (look_formed h)
    have hmem : (x.id, makesS x.op) ∈ (lookM f).2 := by
      rw [hv]
      unfold valuesM valuesBlock
      refine List.mem_append.2 (.inr (List.mem_flatMap.2 ⟨q, hq, List.mem_append.2 (.inr (List.mem_flatMap.2 ⟨x, hx, ?_⟩))⟩))
      unfold valuesInstr
      rw [if_pos hm]
      exact List.mem_singleton.2 rfl
    have h0 := (hk _ hmem).1
    rw [if_pos h0, if_pos hm]
    rfl

theorem vals_code {f : FuncM} (h : (lookM f).1 = 0) {q : BlockM} (hq : q ∈ f.blocks) (b : Nat) : ∀ i, i ≤ q.code.length → (placedCode b q.code i).map (·.1) = ((q.code.take i).flatMap valuesInstr).map (·.1) := by
  intro i
  induction i with
  | zero => intro _; rfl
  | succ i ih =>
    intro hi
    have hx : q.code[i]? = some q.code[i] := List.getElem?_eq_getElem (by omega)
    rw [placedCode, hx, List.map_append, ih (by omega), List.take_succ_eq_append_getElem (by omega), List.flatMap_append, List.map_append, vals_instr h hq (List.getElem_mem ..)]
    simp

theorem vals_block {f : FuncM} (h : (lookM f).1 = 0) {q : BlockM} (hq : q ∈ f.blocks) (b : Nat) : (placedBlock b q).map (·.1) = (valuesBlock q).map (·.1) := by
  unfold placedBlock valuesBlock
  rw [List.map_append, List.map_append, vals_code h hq b _ (Nat.le_refl _), List.take_length]
  congr 1
  unfold placedPhis
  rw [List.map_map, List.map_map]
  rfl

theorem vals_blocks {f : FuncM} (h : (lookM f).1 = 0) : ∀ b, b ≤ f.blocks.length → (placedBlocks f.blocks b).map (·.1) = ((f.blocks.take b).flatMap valuesBlock).map (·.1) := by
  intro b
  induction b with
  | zero => intro _; rfl
  | succ b ih =>
    intro hb
    have hx : f.blocks[b]? = some f.blocks[b] := List.getElem?_eq_getElem (by omega)
    rw [placedBlocks, hx, List.map_append, ih (by omega), List.take_succ_eq_append_getElem (by omega), List.flatMap_append, List.map_append, vals_block h (List.getElem_mem ..)]
    simp

theorem vals_params (l : List Int) : (placedParams l.length).map (·.1) = (paramDefs 0 l).map (·.1) := by
  have h1 : ∀ n, (placedParams n).map (·.1) = (List.range n).map fun (k : Nat) => (k : Int) := by
    intro n
    induction n with
    | zero => rfl
    | succ n ih => rw [placedParams, List.map_append, ih, List.range_succ, List.map_append]; rfl
  have h2 : ∀ (l : List Int) (j : Nat), (paramDefs j l).map (·.1) = (List.range l.length).map fun (k : Nat) => ((j + k : Nat) : Int) := by
    intro l
    induction l with
    | nil => intro j; rfl
    | cons a l ih =>
      intro j
      rw [paramDefs, List.map_cons, ih, List.length_cons, List.range_succ_eq_map, List.map_cons, List.map_map]
      congr 1
      apply List.map_congr_left
      intro k _
      simp only [Function.comp]
      omega
  rw [h1, h2]
  apply List.map_congr_left
  intro k _
  simp

theorem placed_ids {f : FuncM} (h : (lookM f).1 = 0) : (placedM f).map (·.1) = (valuesM f).map (·.1) := by
  unfold placedM valuesM
  rw [List.map_append, List.map_append, vals_params, vals_blocks h _ (Nat.le_refl _), List.take_length]

theorem placed_nodup {f : FuncM} (h : (lookM f).1 = 0) : ((placedM f).map (·.1)).Nodup := by
  rw [placed_ids h]
  have := formed_nodup (look_formed h)
  rwa [formed_eq (look_formed h)] at this

/-- the blocks and places of what is placed -/
theorem placedCode_mem {b : Nat} {xs : List InstrM} {d : Int × (Nat × Int)} : ∀ i, d ∈ placedCode b xs i → d.2.1 = b ∧ ∃ (j : Nat) (x : InstrM), xs[j]? = some x ∧ j < i ∧ d.1 = x.id ∧ d.2.2 = (j : Int) ∧ 0 ≤ x.id := by
  intro i
  induction i with
  | zero => intro h; cases h
  | succ i ih =>
    intro h
    rw [placedCode] at h
    rcases List.mem_append.1 h with h | h
    · obtain ⟨h1, j, x, h2, h3, h4⟩ := ih h
      exact ⟨h1, j, x, h2, by omega, h4⟩
    · cases hx : xs[i]? with
      | none => rw [hx] at h; cases h
      | some x =>
        rw [hx] at h
        simp only [placedInstr] at h
        split at h
        · rename_i h0
          rw [List.mem_singleton] at h
          subst h
          exact ⟨rfl, i, x, hx, by omega, rfl, rfl, h0⟩
        · cases h

/-- where a value is made -/
inductive MadeAt (f : FuncM) (id : Int) : Nat → Int → Prop
  | param (h0 : 0 ≤ id) (h : id < f.params.length) : MadeAt f id 0 (-1)
  | phi {b : Nat} {q : BlockM} {p : PhiM} (hq : f.blocks[b]? = some q) (hp : p ∈ q.phis) (h : p.id = id) : MadeAt f id b (-1)
  | instr {b i : Nat} {q : BlockM} {x : InstrM} (hq : f.blocks[b]? = some q) (hx : q.code[i]? = some x) (h : x.id = id) (h0 : 0 ≤ id) : MadeAt f id b (i : Int)

theorem placedBlocks_mem {f : FuncM} {d : Int × (Nat × Int)} : ∀ n, d ∈ placedBlocks f.blocks n → MadeAt f d.1 d.2.1 d.2.2 := by
  intro n
  induction n with
  | zero => intro h; cases h
  | succ n ih =>
    intro h
    rw [placedBlocks] at h
    rcases List.mem_append.1 h with h | h
    · exact ih h
    · cases hq : f.blocks[n]? with
      | none => rw [hq] at h; cases h
      | some q =>
        rw [hq] at h
        simp only [placedBlock] at h
        rcases List.mem_append.1 h with h | h
        · unfold placedPhis at h
          obtain ⟨p, hp, rfl⟩ := List.mem_map.1 h
          exact .phi hq hp rfl
        · obtain ⟨h1, j, x, hx, _, h2, h3, h4⟩ := placedCode_mem _ h
          rw [h1, h3]
          exact .instr hq hx h2.symm (by rw [h2]; exact h4)

theorem placedM_mem {f : FuncM} {id : Int} {b : Nat} {a : Int} (h : (id, (b, a)) ∈ placedM f) : MadeAt f id b a := by
  unfold placedM at h
  rcases List.mem_append.1 h with h | h
  · have hp : ∀ n, (id, (b, a)) ∈ placedParams n → b = 0 ∧ a = -1 ∧ 0 ≤ id ∧ id < n := by
      intro n
      induction n with
      | zero => intro h; cases h
      | succ n ih =>
        intro h
        rw [placedParams] at h
        rcases List.mem_append.1 h with h | h
        · have := ih h; omega
        · rw [List.mem_singleton] at h
          injection h with h1 h2
          injection h2 with h2 h3
          omega
    obtain ⟨rfl, rfl, h0, h1⟩ := hp _ h
    exact .param h0 h1
  · exact placedBlocks_mem _ h

theorem last_made {f : FuncM} {id : Int} {m : Nat × Int} (h : (placedM f).last id = some m) : MadeAt f id m.1 m.2 := by
  unfold Placed.last at h
  rw [Option.map_eq_some_iff] at h
  obtain ⟨d, hd, rfl⟩ := h
  have h1 := List.mem_reverse.1 (List.mem_of_find?_eq_some hd)
  have h2 : d.1 = id := by simpa using List.find?_some hd
  obtain ⟨x, y, z⟩ := d
  simp only at h2
  subst h2
  exact placedM_mem h1

theorem made_lt {f : FuncM} (h0 : 0 < f.blocks.length) {id : Int} {b : Nat} {a : Int} (h : MadeAt f id b a) : b < f.blocks.length := by
  cases h with
  | param => exact h0
  | phi hq => exact (List.getElem?_eq_some_iff.1 hq).1
  | instr hq => exact (List.getElem?_eq_some_iff.1 hq).1

theorem known_of {f : FuncM} (h : (lookM f).1 = 0) (hid : ∀ u ∈ usesM f, I64 u.1) {u : Int × Int} (hu : u ∈ usesM f) : Known f u.1 := by
  have hn := (look_some_block h).1
  have hm : u.1 ∈ (placedM f).map (·.1) := by
    rw [placed_ids h]
    exact look_used h u hu
  refine ⟨hid u hu, ?_⟩
  obtain ⟨d, hd, he⟩ := List.mem_map.1 hm
  obtain ⟨x, y, z⟩ := d
  simp only at he
  subst he
  have hl : (placedM f).last u.1 = some (y, z) := by
    rw [Placed.last_first (placed_nodup h)]
    exact Placed.first_mem (placed_nodup h) hd
  exact ⟨y, z, hl, made_lt hn (last_made hl)⟩

theorem uses_known {f : FuncM} (h : (lookM f).1 = 0) (hid : ∀ u ∈ usesM f, I64 u.1) : UsesKnown f := by
  have hall := (formed_all (look_formed h)).1
  refine ⟨fun b q p i id hq hp hi => ?_, fun b q x id hq hx hi => ?_, fun b q hq ht => ?_⟩
  · have hmq := List.mem_of_getElem? hq
    have hl := look_phi h q hmq p hp
    have hil := (List.getElem?_eq_some_iff.1 hi).1
    obtain ⟨k, hk⟩ : ∃ k, p.fr[i]? = some k := ⟨_, List.getElem?_eq_getElem (by omega)⟩
    have hon := (hall q hmq).1 p hp
    unfold phiB at hon
    simp only [Bool.and_eq_true] at hon
    have hr := (once_nodup _ _ hon.2.2).2.1 k (List.mem_of_getElem? hk)
    obtain ⟨kn, rfl⟩ : ∃ kn : Nat, k = (kn : Int) := ⟨k.toNat, by omega⟩
    obtain ⟨j, hj⟩ := List.getElem?_of_mem hp
    exact ⟨kn, f.blocks[kn]'(by omega), hk, List.getElem?_eq_getElem _, known_of h hid (each3.mem_phi hq hj hi)⟩
  · obtain ⟨j, hj⟩ := List.getElem?_of_mem hx
    obtain ⟨m, hm⟩ := List.getElem?_of_mem hi
    have hf := look_form h q (List.mem_of_getElem? hq) x hx
    have hml := (List.getElem?_eq_some_iff.1 hm).1
    obtain ⟨t, ht⟩ : ∃ t, (takesS x.op)[m]? = some t := ⟨_, List.getElem?_eq_getElem (by omega)⟩
    exact known_of h hid (each3.mem_instr hq hj hm ht)
  · rcases ht with ht | ht
    · exact known_of h hid (each3.mem_term (u := (q.term.val, 2)) hq (by unfold usesTerm; rw [if_pos ht]; exact List.mem_singleton.2 rfl))
    · exact known_of h hid (each3.mem_term (u := (q.term.val, 0)) hq (by unfold usesTerm; rw [if_neg (by omega), if_pos ht]; exact List.mem_singleton.2 rfl))

/-- what is made at m comes ahead of a place -/
def aheadP (bs : List BlockM) (o : List Nat) (m : Nat × Int) (ub : Nat) (ua : Int) : Prop := (m.1 = ub ∧ m.2 < ua) ∨ (m.1 ≠ ub ∧ OverP bs o m.1 ub)

def okP (f : FuncM) (o : List Nat) (id : Int) (ub : Nat) (ua : Int) : Prop := ∀ m, (placedM f).last id = some m → aheadP f.blocks o m ub ua

structure UsesP (f : FuncM) (o : List Nat) (b : Nat) (q : BlockM) : Prop where
  phi : ∀ p ∈ q.phis, ∀ (i : Nat) (id : Int) (fr : Nat) (q' : BlockM), p.vals[i]? = some id → p.fr[i]? = some (fr : Int) → f.blocks[fr]? = some q' → okP f o id fr q'.code.length
  arg : ∀ (i : Nat) (x : InstrM), q.code[i]? = some x → ∀ id ∈ x.args, okP f o id b i
  term : q.term.op = 2 ∨ q.term.op = 3 → okP f o q.term.val b q.code.length

def usesPR (f : FuncM) (o : List Nat) (b : Nat) : Prop := ∀ q, f.blocks[b]? = some q → UsesP f o b q

/-- what Check of strict form answers -/
def CheckIs (f : FuncM) (r : Int × Int) : Prop :=
  ((lookM f).1 ≠ 0 ∧ r = (0, (lookM f).1)) ∨ ((lookM f).1 = 0 ∧ ∃ o, OrderIs f.blocks o ∧ FaultIs f.blocks.length (· ∈ o) (phisR f) (usesPR f o) r)

theorem CheckIs.one {f : FuncM} {r s : Int × Int} (h : CheckIs f r) (k : CheckIs f s) : r = s := by
  rcases h with ⟨h1, rfl⟩ | ⟨h1, o, ho, hf⟩
  · rcases k with ⟨_, rfl⟩ | ⟨k1, _⟩
    · rfl
    · exact absurd k1 h1
  · rcases k with ⟨k1, _⟩ | ⟨_, o', ho', kf⟩
    · exact absurd h1 k1
    · have := ho.one ho'
      subst this
      exact hf.one (fun _ _ => Iff.rfl) (fun _ _ => Iff.rfl) (fun _ _ _ => Iff.rfl) kf

theorem okAt_iff {f : FuncM} {o : List Nat} {pl : Nat → Nat} {par : Nat → Option Nat} {F L : Nat → Int} (hn : 0 < f.blocks.length) (hO : Ord (succM f.blocks) o pl) (hD : Done (succM f.blocks) o pl par) (hN : Numbered o par F L) (hall : ∀ b, b < f.blocks.length → b ∈ o)
    {id : Int} {ub : Nat} {ua : Int} (hub : ub < f.blocks.length) : okAt f F L id ub ua ↔ okP f o id ub ua := by
  unfold okAt okP
  refine forall_congr' fun m => forall_congr' fun hm => ?_
  have hml := made_lt hn (last_made hm)
  have hd : domB F L m.1 ub = true ↔ OverP f.blocks o m.1 ub := by
    unfold domB
    rw [over_anc hO hD (hall ub hub), Bool.and_eq_true, decide_eq_true_iff, decide_eq_true_iff]
    exact hN.over m.1 (hall _ hml) ub (hall ub hub)
  unfold aheadB aheadP
  by_cases h : m.1 = ub
  · rw [if_pos h, decide_eq_true_iff]
    exact ⟨fun k => .inl ⟨h, k⟩, fun k => k.elim (fun k => k.2) (fun k => absurd h k.1)⟩
  · rw [if_neg h, hd]
    exact ⟨fun k => .inr ⟨h, k⟩, fun k => k.elim (fun k => absurd k.1 h) (fun k => k.2)⟩

theorem usesR_iff {f : FuncM} {o : List Nat} {pl : Nat → Nat} {par : Nat → Option Nat} {F L : Nat → Int} (hn : 0 < f.blocks.length) (hO : Ord (succM f.blocks) o pl) (hD : Done (succM f.blocks) o pl par) (hN : Numbered o par F L) (hall : ∀ b, b < f.blocks.length → b ∈ o)
    {b : Nat} (hb : b < f.blocks.length) : usesR f F L b ↔ usesPR f o b := by
  refine forall_congr' fun q => forall_congr' fun hq => ?_
  have H := @okAt_iff f o pl par F L hn hO hD hN hall
  constructor
  · rintro ⟨h1, h2, h3⟩
    exact ⟨fun p hp i id fr q' a b c => (H (List.getElem?_eq_some_iff.1 c).1).1 (h1 p hp i id fr q' a b c), fun i x a id c => (H hb).1 (h2 i x a id c), fun a => (H hb).1 (h3 a)⟩
  · rintro ⟨h1, h2, h3⟩
    exact ⟨fun p hp i id fr q' a b c => (H (List.getElem?_eq_some_iff.1 c).1).2 (h1 p hp i id fr q' a b c), fun i x a id c => (H hb).2 (h2 i x a id c), fun a => (H hb).2 (h3 a)⟩

theorem FaultIs.change {n : Nat} {R0 R1 R2 S2 : Nat → Prop} (h2 : (∀ b, b < n → R0 b) → ∀ b, b < n → (R2 b ↔ S2 b)) {r : Int × Int} (h : FaultIs n R0 R1 R2 r) : FaultIs n R0 R1 S2 r := by
  rcases h with h | h | ⟨a0, a1, b, ⟨hb, hn, hl⟩, rfl⟩ | ⟨a0, a1, a2, rfl⟩
  · exact .inl h
  · exact .inr (.inl h)
  · exact .inr (.inr (.inl ⟨a0, a1, b, ⟨hb, fun h => hn ((h2 a0 b hb).2 h), fun a ha => (h2 a0 a (by omega)).1 (hl a ha)⟩, rfl⟩))
  · exact .inr (.inr (.inr ⟨a0, a1, fun b hb => (h2 a0 b hb).1 (a2 b hb), rfl⟩))

def CheckPost (f : FuncM) (w : World) (e : Ending) (w' : World) : Prop := ∃ x y : Int, e = .returned (.tuple #[.int .i64 x, .int .i64 y]) ∧ CheckIs f (x, y) ∧ Below w.heap.size w w'

set_option maxRecDepth 100000 in
set_option maxHeartbeats 2000000 in
theorem sCheck_any (f : FuncM) (B : Nat) (pv bv : Value) (w : World) (hpv : Ints w B pv f.params) (hbv : BlocksR w B bv f.blocks) (hB : B ≤ w.heap.size) (hid : ∀ u ∈ usesM f, I64 u.1) :
    Calls Tryz.prog 22 #[.agg #[pv, .int .i64 f.arrays, .int .i64 f.cells, bv]] w (CheckPost f w) := by
  have HP := hideI hpv
  have HBL := hideI hbv
  have HID := hideI hid
  obtain ⟨P, pc, rfl, _⟩ := hpv
  obtain ⟨A, c, rfl, hbm, _⟩ := hbv
  have HB0 : Hid (Below w.heap.size w (w.alloc (.cells #[.slice P f.params.length pc, .int .i64 f.arrays, .int .i64 f.cells, .slice A f.blocks.length c] 25))) := (Below.refl _ w).alloc (Nat.le_refl _) _
  have HF := hideI (functionOf_any f B _ _ (w.alloc (.cells #[.slice P f.params.length pc, .int .i64 f.arrays, .int .i64 f.cells, .slice A f.blocks.length c] 25)) (HP.out.keeps (Keeps.of_below (HB0.out.mono hB))) (HBL.out.keeps (Keeps.of_below (HB0.out.mono hB))) (by simp; omega) HID.out)
  clear hid
  by_cases h0 : (lookM f).1 = 0
  · have H0 := hideI h0
    have hnb := look_some_block h0
    have hn5 := hnb.2
    have hn0 := hnb.1
    clear h0 hnb
    go_enter Tryz.func22, Tryz.ntmps22
    go_wp2_with (first
      | (go_at_call 42; go_must (refine HF.out.mono ?_); rintro e w1 (⟨hbad, _⟩ | ⟨_, o, pl, par, capo, gF, gL, gp, M, F, L, rfl, hfs, hdone, hnum, hsf, hb1⟩); (exact absurd H0.out hbad); have HFS := hideI hfs; have HDONE := hideI hdone; have HNUM := hideI hnum; have HSF := hideI hsf; have HB1 := hideI (HB0.out.trans (hb1.mono (by simp))); clear hfs hdone hnum hsf hb1)
      | (go_at_call 43; go_must (refine (fault_any f o par w1.heap.size (.slice P f.params.length pc) (.slice A f.blocks.length c) gF gL gp M F L _ (HSF.out.kept ((Below.refl _ _).alloc (Nat.le_refl _) _)) (by simp) hn5 (uses_known H0.out HID.out) HNUM.out P _ _ rfl).mono ?_); rintro e w2 ⟨x, y, rfl, hfi, hb2⟩; have HFI := hideI hfi; have HB2 := hideI ((HB1.out.alloc HB1.out.size _).trans (hb2.mono (by have := HB1.out.size; simp; omega))); clear hfi hb2))
    go_ret2
    exact ⟨x, y, rfl, .inr ⟨H0.out, o, HFS.out.order, HFI.out.change (fun hall b hb => usesR_iff hn0 HFS.out.ord HDONE.out HNUM.out hall hb)⟩, HB2.out⟩
  · have H0 := hideI h0
    have hb : ((lookM f).1 != 0) = true := by simpa using h0
    clear h0
    go_enter Tryz.func22, Tryz.ntmps22
    go_wp2_with (go_at_call 42; go_must (refine HF.out.mono ?_); rintro e w1 (⟨_, rfl, hb1⟩ | ⟨hbad, _⟩); rotate_left; (exact absurd hbad H0.out); have HB1 := hideI (HB0.out.trans (hb1.mono (by simp))); clear hb1)
    go_ret2
    exact ⟨_, _, rfl, .inl ⟨H0.out, rfl⟩, HB1.out.alloc HB1.out.size _⟩

end Go.Proofs.YtliolgamhjpljaaGreat

namespace Go.Proofs.YtliolgamhjpljaaGreat
open Go.RowKit Go.Maps

/-- a trace, as it lies -/
def TraceAt (w : World) (v : Value) (s : StM) (en : EndM) : Prop :=
  ∃ (nv : Nat) (val : MVals), v = .agg #[.int .i64 en.1, .int .i64 en.2.1, .int .i64 en.2.2, val .out, val .arrs, .int .i64 s.steps, .int .i64 s.checks, val .vis] ∧ ∀ t d, mRow s nv val t = some d → w.ownsRow 0 d.elem 1 (val t) d.len d.cells

/-- what Run answers -/
def RunIs (f : FuncM) (I : InM) (F : Nat) (w : World) (e : Ending) (w' : World) : Prop :=
  ∃ v s en, e = .returned v ∧ EndIs f I (min F 200000) s en ∧ TraceAt w' v s en ∧ Below w.heap.size w w'

theorem row_form {w : World} {base : Nat} {e : TypeId} {size : Nat} {v : Value} {n : Nat} {xs : List Value} (h : w.ownsRow base e size v n xs) : ∃ A cp, v = .slice A n cp := by
  rcases h.2 with ⟨e, e0⟩ | ⟨g, cap, cur, e, _⟩
  · exact ⟨none, 0, by rw [e, e0]⟩
  · exact ⟨_, _, e⟩

/-- a trace is laid -/
theorem eight_set {w : World} {g : Nat} {a0 a1 a2 a3 a4 a5 a6 a7 : Value} {T : TypeId} (h : w.heap[g]? = some (.cells #[a0, a1, a2, a3, a4, a5, a6, a7] T (0, 0))) (v0 v1 v2 v3 v4 v5 v6 v7 : Value) {W : World}
    (hW : W = (((((((w.setCell ⟨g, 0, none⟩ v0).setCell ⟨g, 1, none⟩ v1).setCell ⟨g, 2, none⟩ v2).setCell ⟨g, 3, none⟩ v3).setCell ⟨g, 4, none⟩ v4).setCell ⟨g, 5, none⟩ v5).setCell ⟨g, 6, none⟩ v6).setCell ⟨g, 7, none⟩ v7) :
    W.heap[g]? = some (.cells #[v0, v1, v2, v3, v4, v5, v6, v7] T (0, 0)) ∧ (∀ b, b ≠ g → W.heap[b]? = w.heap[b]?) ∧ (∀ B, B ≤ g → Below B w W) := by
  subst hW
  have h0 := heap_setCell_same w g 0 _ _ v0 h
  have h1 := heap_setCell_same _ g 1 _ _ v1 h0
  have h2 := heap_setCell_same _ g 2 _ _ v2 h1
  have h3 := heap_setCell_same _ g 3 _ _ v3 h2
  have h4 := heap_setCell_same _ g 4 _ _ v4 h3
  have h5 := heap_setCell_same _ g 5 _ _ v5 h4
  have h6 := heap_setCell_same _ g 6 _ _ v6 h5
  have h7 := heap_setCell_same _ g 7 _ _ v7 h6
  refine ⟨h7.trans (by simp), fun b hb => ?_, fun B hB => ?_⟩
  · rw [Below.heap_setCell _ _ _ _ (by exact hb), Below.heap_setCell _ _ _ _ (by exact hb), Below.heap_setCell _ _ _ _ (by exact hb), Below.heap_setCell _ _ _ _ (by exact hb), Below.heap_setCell _ _ _ _ (by exact hb), Below.heap_setCell _ _ _ _ (by exact hb), Below.heap_setCell _ _ _ _ (by exact hb), Below.heap_setCell _ _ _ _ (by exact hb)]
  · exact ((((((((Below.refl B w).setCell (p := ⟨g, 0, none⟩) hB v0).setCell (p := ⟨g, 1, none⟩) hB v1).setCell (p := ⟨g, 2, none⟩) hB v2).setCell (p := ⟨g, 3, none⟩) hB v3).setCell (p := ⟨g, 4, none⟩) hB v4).setCell (p := ⟨g, 5, none⟩) hB v5).setCell (p := ⟨g, 6, none⟩) hB v6).setCell (p := ⟨g, 7, none⟩) hB v7

set_option maxRecDepth 100000 in
set_option maxHeartbeats 4000000 in
theorem irun_yes (f : FuncM) (I : InM) (B : Nat) (pv bv av rv : Value) (F : Nat) (w : World) (hpv : Ints w B pv f.params) (hbv : BlocksR w B bv f.blocks) (hB : B ≤ w.heap.size) (hid : ∀ u ∈ usesM f, I64 u.1)
    (hstr : CheckIs f (0, 0)) (hok : FOk f (roomM f).toNat) (hfit : Fit f (startS f I))
    (hr : ∀ x ∈ idsOut f, 0 ≤ x ∧ x ≤ 1048575) (hpar : f.params.length ≤ 16 ∧ (f.params.length : Int) ≤ roomM f) (hcel : 0 ≤ f.cells ∧ f.cells ≤ 64) (harr : 0 ≤ f.arrays ∧ f.arrays ≤ 8) (hnb : f.blocks.length ≤ 512)
    (ha : Ints w B av I.args) (hT : ∀ W, Keeps B w W → TakeArrs f I B W rv) (A2 : Option Addr) (rl rc : Nat) (hrv : rv = .slice A2 rl rc) :
    Calls Tryz.prog 13 #[.agg #[pv, .int .i64 f.arrays, .int .i64 f.cells, bv], .agg #[av, rv], .int .i64 F] w (RunIs f I F w) := by
  have HPV := hideI hpv
  have HBV := hideI hbv
  have HAV := hideI ha
  obtain ⟨P, pc, rfl, _, _⟩ := hpv
  obtain ⟨A, cc, rfl, _, _⟩ := hbv
  obtain ⟨A1, ac, rfl, _, _⟩ := ha
  subst hrv
  obtain ⟨np, hnp⟩ : ∃ n : Nat, n = f.params.length := ⟨_, rfl⟩
  obtain ⟨nb, hnbN⟩ : ∃ n : Nat, n = f.blocks.length := ⟨_, rfl⟩
  obtain ⟨ni, hni⟩ : ∃ n : Nat, n = I.args.length := ⟨_, rfl⟩
  obtain ⟨W1, hW1⟩ : ∃ W1, W1 = ((w.alloc (.cells #[.slice P np pc, .int .i64 f.arrays, .int .i64 f.cells, .slice A nb cc] 25)).alloc (.cells #[.slice A1 ni ac, .slice A2 rl rc] 28)).alloc (.cells #[.int .i64 0, .int .i64 0, .int .i64 0, .slice none 0 0, .slice none 0 0, .int .i64 0, .int .i64 0, .slice none 0 0] 34) := ⟨_, rfl⟩
  have hb1 : Below w.heap.size w W1 := by rw [hW1]; exact (((Below.refl _ w).alloc (Nat.le_refl _) _).alloc (by simp) _).alloc (by simp; omega) _
  have hs1 : W1.heap.size = w.heap.size + 3 := by rw [hW1]; simp
  have hf0 : W1.heap[w.heap.size]? = some (.cells #[.slice P np pc, .int .i64 f.arrays, .int .i64 f.cells, .slice A nb cc] 25 (0, 0)) := by
    rw [hW1, Below.heap_alloc _ _ _ (by simp; omega), Below.heap_alloc _ _ _ (by simp)]
    exact heap_alloc_new w _
  have hi0 : W1.heap[w.heap.size + 1]? = some (.cells #[.slice A1 ni ac, .slice A2 rl rc] 28 (0, 0)) := by
    rw [hW1, Below.heap_alloc _ _ _ (by simp)]
    have := heap_alloc_new (w.alloc (.cells #[.slice P np pc, .int .i64 f.arrays, .int .i64 f.cells, .slice A nb cc] 25)) (.cells #[.slice A1 ni ac, .slice A2 rl rc] 28)
    simpa using this
  have ht0 : W1.heap[w.heap.size + 2]? = some (.cells #[.int .i64 0, .int .i64 0, .int .i64 0, .slice none 0 0, .slice none 0 0, .int .i64 0, .int .i64 0, .slice none 0 0] 34 (0, 0)) := by
    rw [hW1]
    have := heap_alloc_new ((w.alloc (.cells #[.slice P np pc, .int .i64 f.arrays, .int .i64 f.cells, .slice A nb cc] 25)).alloc (.cells #[.slice A1 ni ac, .slice A2 rl rc] 28)) (.cells #[.int .i64 0, .int .i64 0, .int .i64 0, .slice none 0 0, .slice none 0 0, .int .i64 0, .int .i64 0, .slice none 0 0] 34)
    simpa using this
  have HBX : Hid (∀ W, Below W1.heap.size W1 W → (W.cell? ⟨w.heap.size, 0, none⟩ = some (.slice P np pc) ∧ W.cell? ⟨w.heap.size, 1, none⟩ = some (.int .i64 f.arrays) ∧ W.cell? ⟨w.heap.size, 2, none⟩ = some (.int .i64 f.cells) ∧ W.cell? ⟨w.heap.size, 3, none⟩ = some (.slice A nb cc)) ∧ W.cell? ⟨w.heap.size + 1, 0, none⟩ = some (.slice A1 ni ac) ∧ W.cell? ⟨w.heap.size + 1, 1, none⟩ = some (.slice A2 rl rc)) := hideI fun W hW => by
    have hx := row_cells hf0 (hW.block _ (by omega))
    have hy := row_cells hi0 (hW.block _ (by omega))
    exact ⟨⟨hx 0, hx 1, hx 2, hx 3⟩, hy 0, hy 1⟩
  have hk1 : Keeps B w W1 := Keeps.of_below (hb1.mono hB)
  have HKW : Hid (∀ W, Below W1.heap.size W1 W → Keeps B w W) := hideI fun W hW => hk1.trans (Keeps.of_below (hW.mono (by omega)))
  have HCHK : Hid (Calls Tryz.prog 22 #[.agg #[.slice P np pc, .int .i64 f.arrays, .int .i64 f.cells, .slice A nb cc]] W1 fun e w' => e = .returned (.tuple #[.int .i64 0, .int .i64 0]) ∧ Below W1.heap.size W1 w') := hideI (by
    have h := sCheck_any f B _ _ W1 (HPV.out.keeps hk1) (HBV.out.keeps hk1) (by omega) hid
    rw [← hnp, ← hnbN] at h
    refine h.mono ?_
    rintro e w' ⟨x, y, rfl, hc, hb⟩
    have h1 := hc.one hstr
    injection h1 with h1 h2
    subst h1 h2
    exact ⟨rfl, hb⟩)
  obtain ⟨F2, hF2⟩ : ∃ F2 : Nat, F2 = min F 200000 := ⟨_, rfl⟩
  have HMO : Hid (∀ W, Below W1.heap.size W1 W → Calls Tryz.prog 23 #[.agg #[.slice P np pc, .int .i64 f.arrays, .int .i64 f.cells, .slice A nb cc], .agg #[.slice A1 ni ac, .slice A2 rl rc], .int .i64 F2] W (MachPost f I B (.slice A nb cc) F2 W)) := hideI fun W hW => by
    have hk := HKW.out W hW
    have h := machineOf_any f I B _ _ _ _ F2 W (HPV.out.keeps hk) (HBV.out.keeps hk) (by have := hW.size; omega) hid hr hpar hcel harr hnb (HAV.out.keeps hk) (hT W hk) A2 rl rc rfl
    rw [← hnp, ← hnbN, ← hni] at h
    exact h
  have HRUN : Hid (∀ (c : MachC) (W : World) (val : MVals), c.f = f → c.nv = (roomM f).toNat → c.fuel = F2 → MachR c (fun b => b < W1.heap.size ∨ b = c.M) W val (startS f I) → Calls Tryz.prog 24 #[.pointer (some ⟨c.m, 0, none⟩)] W (RunPost c (fun b => b < W1.heap.size ∨ b = c.M) I F2 W)) := hideI fun c W val h1 h2 h3 h4 => by
    subst h1
    exact run_any h4 I F2 h3 (by omega) (by rw [h2]; exact hok) hfit rfl
  have HW1 := hideI hW1
  have HB1 := hideI hb1
  have HS1 := hideI hs1
  have HT0 := hideI ht0
  have HF2 := hideI hF2
  have hbx := HBX.out W1 (Below.refl _ _)
  obtain ⟨⟨q0, q1, q2, q3⟩, q4, q5⟩ := hbx
  have hlt0 : w.heap.size < W1.heap.size := by omega
  have hlt1 : w.heap.size + 1 < W1.heap.size := by omega
  have hlt2 : w.heap.size + 2 < W1.heap.size := by omega
  have hfu : decide ((F : Int) < 0) = false := by simp
  have hmin : min (F : Int) 200000 = (F2 : Int) := by have := hF2; omega
  rw [← hnp, ← hnbN, ← hni]
  clear hnp hnbN hni hb1 hs1 hf0 hi0 ht0 hk1 hstr hok hfit hr hpar hcel harr hnb hT hF2 hW1 hid
  go_enter Tryz.func13, Tryz.ntmps13
  go_upto_region 1 with fail
  rw [← HW1.out]
  go_upto_region 4 with (first
    | (go_at_call 22; refine HCHK.out.mono ?_; rintro e w2 ⟨rfl, hb2⟩; have HB2 := hideI hb2; clear hb2 q0 q1 q2 q3 q4 q5; have qq := HBX.out w2 HB2.out; obtain ⟨⟨q0, q1, q2, q3⟩, q4, q5⟩ := qq))
  have hkf5 : ∀ b, b < B → b < W1.heap.size := fun b hb => by omega
  have HKF5 := hideI hkf5
  rw [← hmin] at HMO
  have HMIN := hideI hmin
  clear hmin hkf5
  go_wp2_with (first
      | (go_at_call 23; go_must (refine (HMO.out _ HB2.out).mono ?_); rintro e w3 ⟨c, val, rfl, hcf, hcB, hcn, hcF, hm, hb3⟩; have HB3 := hideI (HB2.out.trans (hb3.mono HB2.out.size)); have HM3 : Hid (MachR c (fun b => b < W1.heap.size ∨ b = c.M) w3 val (startS f I)) := hideI (hm.less (fun b hb => by rcases hb with hb | hb; exact .inl (Nat.lt_of_lt_of_le hb HB2.out.size); exact .inr hb) (fun b hb => .inl (HKF5.out b (by rw [← hcB]; exact hb))) (.inr rfl)); have HCF := hideI (And.intro hcf (And.intro hcn hcF)); clear hm hb3 hcf hcB hcn hcF q0 q1 q2 q3 q4 q5)
      | (go_at_call 24; go_must (refine (HRUN.out c _ val HCF.out.1 HCF.out.2.1 HCF.out.2.2 HM3.out).mono ?_); rintro e w4 ⟨rfl, val4, s4, en4, hend, hdone, hoff, hkf⟩; have HOFF := hideI hoff; have HEND := hideI hend; have HDONE := hideI hdone; have HB4 := hideI (HB3.out.trans (hkf.below (fun b hb => .inl hb))); have hmne := HM3.out.offm; clear hend hkf hoff; obtain ⟨⟨o8, o9, o10, o11, o12, hblk⟩, hrows⟩ := hdone; have hx := row_cells hblk rfl; have x0 := hx 0; have x1 := hx 1; have x2 := hx 2; have x3 := hx 3; have x4 := hx 4; have x5 := hx 5; have x6 := hx 6; have x7 := hx 7; obtain ⟨Ao, co, ho⟩ := row_form (hrows .out _ rfl); obtain ⟨Aa, ca, ha⟩ := row_form (hrows .arrs _ rfl); obtain ⟨Av, cv, hv⟩ := row_form (hrows .vis _ rfl); have ho : val4 .out = .slice Ao s4.out.length co := ho; have hv : val4 .vis = .slice Av s4.vis.length cv := hv; rw [ho] at x3; rw [ha] at x4; rw [hv] at x7; have HVV := hideI (And.intro ho (And.intro ha hv)); clear ho ha hv; have hbt := (HB4.out.block (w.heap.size + 1 + 1) (by omega)).trans HT0.out; have hy := row_cells hbt rfl; have hz := fun o => frozen_of_row w4 (w.heap.size + 1 + 1) o _ _ hbt; have y0 := hy 0; have y1 := hy 1; have y2 := hy 2; have y3 := hy 3; have y4 := hy 4; have y5 := hy 5; have y6 := hy 6; have y7 := hy 7; have z0 := hz 0; have z1 := hz 1; have z2 := hz 2; have z3 := hz 3; have z4 := hz 4; have z5 := hz 5; have z6 := hz 6; have z7 := hz 7; have HBT := hideI hbt; clear hx hy hz hblk hrows hbt))
  obtain ⟨W8, hW8⟩ : ∃ W8, W8 = (((((((w4.setCell ⟨w.heap.size + 1 + 1, 0, none⟩ (.int .i64 en4.1)).setCell ⟨w.heap.size + 1 + 1, 1, none⟩ (.int .i64 en4.2.1)).setCell ⟨w.heap.size + 1 + 1, 2, none⟩ (.int .i64 en4.2.2)).setCell ⟨w.heap.size + 1 + 1, 3, none⟩ (.slice Ao s4.out.length co)).setCell ⟨w.heap.size + 1 + 1, 4, none⟩ (.slice Aa s4.arrs.length ca)).setCell ⟨w.heap.size + 1 + 1, 5, none⟩ (.int .i64 s4.steps)).setCell ⟨w.heap.size + 1 + 1, 6, none⟩ (.int .i64 s4.checks)).setCell ⟨w.heap.size + 1 + 1, 7, none⟩ (.slice Av s4.vis.length cv) := ⟨_, rfl⟩
  rw [← hW8]
  obtain ⟨hb8, ho8, hbe8⟩ := eight_set HBT.out _ _ _ _ _ _ _ _ hW8
  have hx := row_cells hb8 rfl
  have s0 := hx 0
  have s1 := hx 1
  have s2 := hx 2
  have s3 := hx 3
  have s4' := hx 4
  have s5 := hx 5
  have s6 := hx 6
  have s7 := hx 7
  clear hx hW8 x0 x1 x2 x3 x4 x5 x6 x7 y0 y1 y2 y3 y4 y5 y6 y7 z0 z1 z2 z3 z4 z5 z6 z7
  refine bodyPost_ret (v := .agg #[.int .i64 en4.1, .int .i64 en4.2.1, .int .i64 en4.2.2, .slice Ao s4.out.length co, .slice Aa s4.arrs.length ca, .int .i64 s4.steps, .int .i64 s4.checks, .slice Av s4.vis.length cv]) (by simp [results, Tryz.results13, go_sem, s0, s1, s2, s3, s4', s5, s6, s7]) rfl ?_
  refine ⟨_, s4, en4, rfl, by rw [← HF2.out]; exact (by have h := HEND.out; rw [HCF.out.1] at h; exact h), ⟨c.nv, val4, by rw [HVV.out.1, HVV.out.2.1, HVV.out.2.2], fun t d ht => ?_⟩, ?_⟩
  · refine owns_kept (HDONE.out.rows t d ht) fun g hg => ho8 g (fun e => HOFF.out t d g ht hg (.inl ?_))
    rw [e]
    exact hlt2
  · exact HB1.out.trans ((HB4.out.mono (by have := HS1.out; omega)).trans (hbe8 _ (by omega)))
end Go.Proofs.YtliolgamhjpljaaGreat

namespace Go.Proofs.YtliolgamhjpljaaGreat
open Go.RowKit Go.Maps

def awakeF : FuncM := ⟨[], 0, 0, [⟨[], [⟨1, 0, [], 5⟩], ⟨3, 0, [], 0⟩⟩]⟩

theorem awake_look : lookM awakeF = (0, [(0, 1)]) := by decide
theorem awake_size : sizeM awakeF = 2 := by decide

theorem awake_reads (w W : World) (h0 : W.heap[w.heap.size]? = some (.cells #[.int .i64 1, .int .i64 0, .slice none 0 0, .int .i64 5] 59 (0, 0)))
    (h1 : W.heap[w.heap.size + 1]? = some (.cells #[.slice none 0 0, .slice (some ⟨w.heap.size, 0, none⟩) 1 1, .int .i64 3, .int .i64 0, .slice none 0 0, .int .i64 0] 51 (0, 0))) :
    BlocksR W (w.heap.size + 2) (.slice (some ⟨w.heap.size + 1, 0, none⟩) 1 1) awakeF.blocks := by
  have c0 := row_cells h0 (rfl : W.heap[w.heap.size]? = W.heap[w.heap.size]?)
  have c1 := row_cells h1 (rfl : W.heap[w.heap.size + 1]? = W.heap[w.heap.size + 1]?)
  refine ⟨_, _, rfl, by decide, fun k q hk => ?_⟩
  have hq : k = 0 ∧ q = ⟨[], [⟨1, 0, [], 5⟩], ⟨3, 0, [], 0⟩⟩ := by
    rcases k with _ | k
    · simp [awakeF] at hk
      exact ⟨rfl, hk.symm⟩
    · simp [awakeF] at hk
  obtain ⟨rfl, rfl⟩ := hq
  refine ⟨_, 0, _, _, _, rfl, by omega, c1 _, c1 _, c1 _, c1 _, c1 _, c1 _, ⟨none, 0, rfl, by decide, fun k p hp => by simp at hp⟩, ⟨_, _, rfl, by decide, fun k x hx => ?_⟩, Ints.nil _ _, by unfold I64; decide, by unfold I64; decide, by unfold I64; decide⟩
  have hx' : k = 0 ∧ x = ⟨1, 0, [], 5⟩ := by
    rcases k with _ | k
    · simp at hx
      exact ⟨rfl, hx.symm⟩
    · simp at hx
  obtain ⟨rfl, rfl⟩ := hx'
  exact ⟨_, 0, _, rfl, by omega, c0 _, c0 _, c0 _, c0 _, Ints.nil _ _, by unfold I64; decide, by unfold I64; decide, by unfold I64; decide⟩

end Go.Proofs.YtliolgamhjpljaaGreat

namespace Go.Proofs.YtliolgamhjpljaaGreat
open Go.RowKit Go.Maps

theorem awake_order {o : List Nat} (h : OrderIs awakeF.blocks o) : o = [0] := by
  refine h.one ⟨[0], [], ?_, rfl⟩
  have : succM awakeF.blocks 0 = [] := rfl
  rw [this]
  exact .nil _

theorem awake_uses : ∀ u ∈ usesM awakeF, I64 u.1 := by
  intro u hu
  simp [usesM, awakeF, usesBlock, usesInstr, usesTerm, takesS, shapeS] at hu
  subst hu
  unfold I64
  decide

/-- the simplest function, made anew -/
def awakeMade (w : World) : World := (w.alloc (.cells #[.int .i64 1, .int .i64 0, .slice none 0 0, .int .i64 5] 59)).alloc (.cells #[.slice none 0 0, .slice (some ⟨w.heap.size, 0, none⟩) 1 1, .int .i64 3, .int .i64 0, .slice none 0 0, .int .i64 0] 51)

theorem awakeMade_facts (w : World) : BlocksR (awakeMade w) (w.heap.size + 2) (.slice (some ⟨w.heap.size + 1, 0, none⟩) 1 1) awakeF.blocks ∧ (awakeMade w).heap.size = w.heap.size + 2 ∧ Below w.heap.size w (awakeMade w) := by
  have hsz : (awakeMade w).heap.size = w.heap.size + 2 := by unfold awakeMade; simp
  have hBl : Below w.heap.size w (awakeMade w) := by unfold awakeMade; exact (((Below.refl _ w).alloc (Nat.le_refl _) _).alloc (by simp) _)
  have h0 : (awakeMade w).heap[w.heap.size]? = some (.cells #[.int .i64 1, .int .i64 0, .slice none 0 0, .int .i64 5] 59 (0, 0)) := by
    unfold awakeMade
    rw [Below.heap_alloc _ _ _ (by simp)]
    exact heap_alloc_new w _
  have h1 : (awakeMade w).heap[w.heap.size + 1]? = some (.cells #[.slice none 0 0, .slice (some ⟨w.heap.size, 0, none⟩) 1 1, .int .i64 3, .int .i64 0, .slice none 0 0, .int .i64 0] 51 (0, 0)) := by
    unfold awakeMade
    have := heap_alloc_new (w.alloc (.cells #[.int .i64 1, .int .i64 0, .slice none 0 0, .int .i64 5] 59)) (.cells #[.slice none 0 0, .slice (some ⟨w.heap.size, 0, none⟩) 1 1, .int .i64 3, .int .i64 0, .slice none 0 0, .int .i64 0] 51)
    simpa using this
  exact ⟨awake_reads w _ h0 h1, hsz, hBl⟩

theorem awake_orderIs : OrderIs awakeF.blocks [0] := by
  refine ⟨[0], [], ?_, rfl⟩
  have : succM awakeF.blocks 0 = [] := rfl
  rw [this]
  exact .nil _

end Go.Proofs.YtliolgamhjpljaaGreat

namespace Go.Proofs.YtliolgamhjpljaaGreat
open Go.RowKit Go.Maps

theorem awake_placed : placedM awakeF = [(0, (0, 0))] := by decide

theorem awake_checkIs : CheckIs awakeF (0, 0) := by
  refine .inr ⟨congrArg Prod.fst awake_look, [0], awake_orderIs, .inr (.inr (.inr ⟨?_, ?_, ?_, rfl⟩))⟩
  · intro b hb
    have : b = 0 := by have : b < 1 := hb; omega
    subst this
    simp
  · intro b hb q hq
    have : b = 0 := by have : b < 1 := hb; omega
    subst this
    simp [awakeF] at hq
    subst hq
    rfl
  · intro b hb q hq
    have : b = 0 := by have : b < 1 := hb; omega
    subst this
    simp [awakeF] at hq
    subst hq
    refine ⟨fun p hp => by simp at hp, fun i x hx => ?_, fun _ => ?_⟩
    · rcases i with _ | i
      · simp at hx
        subst hx
        intro id hid
        simp at hid
      · simp at hx
    · intro m hm
      rw [awake_placed] at hm
      have : m = (0, 0) := by
        have h2 : Placed.last [(0, (0, 0))] 0 = some (0, 0) := by decide
        exact (Option.some.inj (h2.symm.trans hm)).symm
      subst this
      exact .inl ⟨rfl, by simp⟩

end Go.Proofs.YtliolgamhjpljaaGreat

namespace Go.Proofs.YtliolgamhjpljaaGreat
open Go.RowKit Go.Maps

theorem awake_ids : idsOut awakeF = [0] := by
  unfold idsOut idsS
  rw [awake_look]
  simp

theorem awake_room : roomM awakeF = 1 := by
  unfold roomM
  rw [awake_ids]
  rfl

theorem awake_blocks {b : Nat} {q : BlockM} (h : awakeF.blocks[b]? = some q) : b = 0 ∧ q = ⟨[], [⟨1, 0, [], 5⟩], ⟨3, 0, [], 0⟩⟩ := by
  rcases b with _ | b
  · simp [awakeF] at h
    exact ⟨rfl, h.symm⟩
  · simp [awakeF] at h

theorem awake_fok : FOk awakeF 1 := by
  refine ⟨fun b q h x hx => ?_, fun b q h => ?_, fun b q h t ht => ?_, fun b q h => ?_, fun b q h => ?_, by decide, fun q h => ?_⟩
  · obtain ⟨_, rfl⟩ := awake_blocks h
    simp at hx
    subst hx
    exact ⟨fun i hi => by simp at hi, by decide, by decide, fun e => absurd e (by decide), fun e => absurd e (by decide), fun _ => by decide, by decide⟩
  · obtain ⟨_, rfl⟩ := awake_blocks h
    exact ⟨.inr (.inr (.inl ⟨rfl, rfl⟩)), fun _ => by decide⟩
  · obtain ⟨_, rfl⟩ := awake_blocks h
    simp at ht
  · obtain ⟨_, rfl⟩ := awake_blocks h
    simp
  · obtain ⟨_, rfl⟩ := awake_blocks h
    simp
  · obtain ⟨_, rfl⟩ := awake_blocks h
    rfl

theorem awake_end {s : StM} {en : EndM} (h : EndIs awakeF ⟨[], []⟩ (min 9 200000) s en) : s.steps = 2 ∧ en = (1, 5, 0) := by
  obtain ⟨h1, h2⟩ := h
  have e1 : (goN awakeF (min 9 200000) (startM awakeF ⟨[], []⟩)).s.steps = 2 := by rfl
  have e2 : finM (goN awakeF (min 9 200000) (startM awakeF ⟨[], []⟩)) = (1, 5, 0) := by rfl
  exact ⟨by rw [← h1]; exact e1, by rw [← h2]; exact e2⟩

theorem awake_run (w : World) : Calls Tryz.prog 13 #[.agg #[.slice none 0 0, .int .i64 0, .int .i64 0, .slice (some ⟨w.heap.size + 1, 0, none⟩) 1 1], .agg #[.slice none 0 0, .slice none 0 0], .int .i64 9] (awakeMade w) fun e w' =>
    (∃ A1 n1 c1 A2 n2 c2 A3 n3 c3 ch, e = .returned (.agg #[.int .i64 1, .int .i64 5, .int .i64 0, .slice A1 n1 c1, .slice A2 n2 c2, .int .i64 2, .int .i64 ch, .slice A3 n3 c3])) ∧ Below w.heap.size w w' := by
  obtain ⟨h1, h2, h3⟩ := awakeMade_facts w
  refine (irun_yes awakeF ⟨[], []⟩ (w.heap.size + 2) (.slice none 0 0) _ (.slice none 0 0) (.slice none 0 0) 9 (awakeMade w) (Ints.nil _ _) h1 (by omega) awake_uses awake_checkIs (by rw [awake_room]; exact awake_fok) ⟨rfl, rfl, rfl, by decide⟩
    (by rw [awake_ids]; intro x hx; simp at hx; subst hx; decide) ⟨by decide, by rw [awake_room]; decide⟩ (by decide) (by decide) (by decide) (Ints.nil _ _) (fun W _ => takeArrays_none _ _ _ _ _ none 0 0 rfl rfl) none 0 0 rfl).mono ?_
  rintro e w' ⟨v, s, en, rfl, hend, ⟨nv, val, rfl, hrows⟩, hb⟩
  obtain ⟨hs, rfl⟩ := awake_end hend
  obtain ⟨Ao, co, ho⟩ := row_form (hrows .out _ rfl)
  obtain ⟨Aa, ca, ha⟩ := row_form (hrows .arrs _ rfl)
  obtain ⟨Av, cv, hv⟩ := row_form (hrows .vis _ rfl)
  refine ⟨⟨Ao, (intRow s.out).len, co, Aa, s.arrs.length, ca, Av, (intRow s.vis).len, cv, s.checks, ?_⟩, h3.trans (hb.mono (by omega))⟩
  rw [ho, ha, hv, hs]
  rfl

set_option maxRecDepth 100000 in
set_option maxHeartbeats 1000000 in
theorem awake6_any (w : World) : Calls Tryz.prog 11 #[] w fun e w' => e = .returned (.bool true) ∧ Below w.heap.size w w' := by
  have HI := hideI (awake_run w)
  unfold awakeMade at HI
  go_enter Tryz.func11, Tryz.ntmps11
  go_wp2_with (first
    | (go_at_call 13; go_must (refine HI.out.mono ?_); rintro e w1 ⟨⟨A1, n1, c1, A2, n2, c2, A3, n3, c3, ch, rfl⟩, hb⟩; have HB1 := hideI hb; clear hb))
  go_ret
  exact ⟨rfl, HB1.out.alloc HB1.out.size _⟩
end Go.Proofs.YtliolgamhjpljaaGreat

namespace Go.Proofs.YtliolgamhjpljaaGreat
open Go.RowKit Go.Maps

def calcR (op : Int) (a : List Int) : Int × Int :=
  if 3 ≤ op ∧ op ≤ 17 ∧ a.length = (takesS op).length then (if divZero op a then (0, 9) else (calcM op a, 0)) else (0, 1)

def CalcPost (op : Int) (a : List Int) (w : World) (e : Ending) (w' : World) : Prop := e = .returned (.tuple #[.int .i64 (calcR op a).1, .int .i64 (calcR op a).2]) ∧ Below w.heap.size w w'

set_option maxRecDepth 100000 in
set_option maxHeartbeats 1000000 in
theorem iCalc_any (op : Int) (a : List Int) (B : Nat) (av : Value) (w : World) (ha : Ints w B av a) (hB : B ≤ w.heap.size) :
    Calls Tryz.prog 15 #[.int .i64 op, av] w (CalcPost op a w) := by
  have HA := hideI ha
  obtain ⟨A, ac, rfl, _, _⟩ := ha
  have HARGS := hideI (irArgs_any op w)
  unfold ArgsPost at HARGS
  obtain ⟨n, hn⟩ : ∃ n, n = a.length := ⟨_, rfl⟩
  obtain ⟨k, hk⟩ : ∃ k, k = (takesS op).length := ⟨_, rfl⟩
  have HN := hideI hn
  have HK := hideI hk
  rw [← hn]
  have HPURE : Hid (∀ W : World, _) := hideI fun W => isPure_any op W
  clear hn hk
  by_cases hp : 3 ≤ op ∧ op ≤ 17
  · have hb : (decide (3 ≤ op) && decide (op ≤ 17)) = true := by simp [hp]
    rw [hb] at HPURE
    have HP := hideI hp
    clear hb hp
    by_cases hnk : (n : Int) = (k : Int)
    · have hne : ((n : Int) != (k : Int)) = false := by simpa using hnk
      have hlen : a.length = (takesS op).length := by rw [← HN.out, ← HK.out]; omega
      have HLEN := hideI hlen
      have HDIV : Hid (∀ W, Below w.heap.size w W → Calls Tryz.prog 30 #[.int .i64 op, .slice A n ac] W fun e w' => e = .returned (.bool (divZero op a)) ∧ w' = W) := hideI fun W hW => by
        have h := divZero_any op a (fun ho => by rw [hlen, takes_two HP.out.1 (by omega)]; exact Nat.le_refl 2) B _ W (HA.out.keeps (Keeps.of_below (hW.mono hB)))
        rw [← HN.out] at h
        exact h
      have HCALC : Hid (divZero op a = false → ∀ W M, Below w.heap.size w W → OpsAt W M → Calls Tryz.prog 32 #[.map (some M), .int .i64 op, .slice A n ac] W fun e w' => e = .returned (.int .i64 (calcM op a)) ∧ ∃ m, w' = W.drewN m) := hideI fun hd W M hW hM => by
        have h := calc_any op HP.out.1 HP.out.2 a hlen hd M B _ W hM (HA.out.keeps (Keeps.of_below (hW.mono hB)))
        rw [← HN.out] at h
        exact h
      clear hnk hlen
      cases hd : divZero op a with
      | true =>
        have HR : Hid (calcR op a = (0, 9)) := hideI (by unfold calcR; rw [if_pos ⟨HP.out.1, HP.out.2, HLEN.out⟩, if_pos hd])
        rw [hd] at HDIV
        clear hd HCALC
        go_enter Tryz.func15, Tryz.ntmps15
        go_wp2_with (first
          | (go_at_call 28; refine HARGS.out.mono ?_; rintro e w1 ⟨v, rfl, ⟨A1, c1, rfl, _, _⟩, hb⟩; rw [← HK.out]; have HB1 := hideI hb; clear hb)
          | (go_at_call 29; refine (HPURE.out _).mono ?_; rintro e w2 ⟨rfl, rfl⟩)
          | (go_at_call 30; refine (HDIV.out _ HB1.out).mono ?_; rintro e w2 ⟨rfl, rfl⟩))
        go_ret2
        exact ⟨by rw [HR.out]; rfl, HB1.out⟩
      | false =>
        have HR : Hid (calcR op a = (calcM op a, 0)) := hideI (by unfold calcR; rw [if_pos ⟨HP.out.1, HP.out.2, HLEN.out⟩, if_neg (by rw [hd]; decide)])
        rw [hd] at HDIV
        replace HCALC := hideI (HCALC.out hd)
        clear hd
        go_enter Tryz.func15, Tryz.ntmps15
        go_wp2_with (first
          | (go_at_call 28; refine HARGS.out.mono ?_; rintro e w1 ⟨v, rfl, ⟨A1, c1, rfl, _, _⟩, hb⟩; rw [← HK.out]; have HB1 := hideI hb; clear hb)
          | (go_at_call 29; refine (HPURE.out _).mono ?_; rintro e w2 ⟨rfl, rfl⟩)
          | (go_at_call 30; refine (HDIV.out _ HB1.out).mono ?_; rintro e w2 ⟨rfl, rfl⟩)
          | (go_at_call 31; refine (pairs_any _).mono ?_; rintro e w3 ⟨rfl, hops, hb⟩; have HOPS := hideI hops; have HB3 := hideI (HB1.out.trans (hb.mono HB1.out.size)); clear hops hb)
          | (go_at_call 32; refine (HCALC.out _ _ HB3.out HOPS.out).mono ?_; rintro e w4 ⟨rfl, m, rfl⟩))
        go_ret2
        exact ⟨by rw [HR.out]; rfl, below_drewN HB3.out m⟩
    · have hne : ((n : Int) != (k : Int)) = true := by simpa using hnk
      have HR : Hid (calcR op a = (0, 1)) := hideI (by unfold calcR; rw [if_neg]; rintro ⟨_, _, h⟩; rw [← HN.out, ← HK.out] at h; exact hnk (by omega))
      clear hnk
      go_enter Tryz.func15, Tryz.ntmps15
      go_wp2_with (first
        | (go_at_call 28; refine HARGS.out.mono ?_; rintro e w1 ⟨v, rfl, ⟨A1, c1, rfl, _, _⟩, hb⟩; rw [← HK.out]; have HB1 := hideI hb; clear hb)
        | (go_at_call 29; refine (HPURE.out _).mono ?_; rintro e w2 ⟨rfl, rfl⟩))
      go_ret2
      exact ⟨by rw [HR.out]; rfl, HB1.out⟩
  · have hb : (decide (3 ≤ op) && decide (op ≤ 17)) = false := by
      rw [Bool.and_eq_false_iff]
      simp only [decide_eq_false_iff_not]
      omega
    rw [hb] at HPURE
    have HR : Hid (calcR op a = (0, 1)) := hideI (by unfold calcR; rw [if_neg]; rintro ⟨h1, h2, _⟩; exact hp ⟨h1, h2⟩)
    clear hb hp
    go_enter Tryz.func15, Tryz.ntmps15
    go_wp2_with (first
      | (go_at_call 28; refine HARGS.out.mono ?_; rintro e w1 ⟨v, rfl, ⟨A1, c1, rfl, _, _⟩, hb⟩; rw [← HK.out]; have HB1 := hideI hb; clear hb)
      | (go_at_call 29; refine (HPURE.out _).mono ?_; rintro e w2 ⟨rfl, rfl⟩))
    go_ret2
    exact ⟨by rw [HR.out]; rfl, HB1.out⟩
end Go.Proofs.YtliolgamhjpljaaGreat

namespace Go.Proofs.YtliolgamhjpljaaGreat
open Go.RowKit Go.Maps

theorem refBit_any (b : Bool) (w : World) : Calls Tryz.prog 26 #[.bool b] w fun e w' => e = .returned (.int .i64 (flagM b)) ∧ w' = w := by
  cases b
  · go_enter Tryz.func26, Tryz.ntmps26
    go_wp2
    go_ret
    exact ⟨rfl, rfl⟩
  · go_enter Tryz.func26, Tryz.ntmps26
    go_wp2
    go_ret
    exact ⟨rfl, rfl⟩

def refPost (r : Int × Int) (w : World) (e : Ending) (w' : World) : Prop := e = .returned (.tuple #[.int .i64 r.1, .int .i64 r.2]) ∧ ∃ m, w' = w.drewN m

set_option maxRecDepth 100000 in
set_option maxHeartbeats 4000000 in
/-- not pure, or not so many -/
theorem refCalc_bad (op : Int) (A : Option Addr) (n c : Nat) (w : World) (s : ByteArray) (mk nn : Int) (ok : Bool) (hs : shapeV op = .tuple #[.string s, .int .i64 mk, .int .i64 nn, .bool ok])
    (hbad : ok = false ∨ mk = 0 ∨ nn ≠ 0 ∨ (n : Int) ≠ (s.size : Int)) :
    Calls Tryz.prog 16 #[.int .i64 op, .slice A n c] w (refPost (0, 1) w) := by
  have HS : Hid (∀ W : World, Calls Tryz.prog 33 #[.int .i64 op] W fun e w' => e = .returned (.tuple #[.string s, .int .i64 mk, .int .i64 nn, .bool ok]) ∧ w' = W) := hideI fun W => (shape_any op W).mono fun e w' ⟨h1, h2⟩ => ⟨by rw [h1, hs], h2.symm⟩
  clear hs
  cases ok with
  | false =>
    clear hbad
    go_enter Tryz.func16, Tryz.ntmps16
    go_wp2_with (first | (go_at_call 33; refine (HS.out _).mono ?_; rintro e w1 ⟨rfl, rfl⟩))
    go_ret2
    exact ⟨rfl, 0, rfl⟩
  | true =>
    by_cases hmk : mk = 0
    · have e1 : (mk == 0) = true := by simpa using hmk
      clear hbad hmk
      go_enter Tryz.func16, Tryz.ntmps16
      go_wp2_with (first | (go_at_call 33; refine (HS.out _).mono ?_; rintro e w1 ⟨rfl, rfl⟩))
      go_ret2
      exact ⟨rfl, 0, rfl⟩
    · have e1 : (mk == 0) = false := by simpa using hmk
      by_cases hnn : nn = 0
      · have e2 : (nn != 0) = false := by simpa using hnn
        have hl : (n : Int) ≠ (s.size : Int) := by
          rcases hbad with h | h | h | h
          · cases h
          · exact absurd h hmk
          · exact absurd hnn h
          · exact h
        have e3 : ((n : Int) != (s.size : Int)) = true := by simpa using hl
        clear hbad hmk hnn hl
        go_enter Tryz.func16, Tryz.ntmps16
        go_wp2_with (first | (go_at_call 33; refine (HS.out _).mono ?_; rintro e w1 ⟨rfl, rfl⟩))
        go_ret2
        exact ⟨rfl, 0, rfl⟩
      · have e2 : (nn != 0) = true := by simpa using hnn
        clear hbad hmk hnn
        go_enter Tryz.func16, Tryz.ntmps16
        go_wp2_with (first | (go_at_call 33; refine (HS.out _).mono ?_; rintro e w1 ⟨rfl, rfl⟩))
        go_ret2
        exact ⟨rfl, 0, rfl⟩

theorem shape_two {op : Int} (h1 : 3 ≤ op) (h2 : op ≤ 15) : ∃ mk : Int, (mk == 0) = false ∧ shapeV op = .tuple #[.string ⟨#[73, 73]⟩, .int .i64 mk, .int .i64 0, .bool true] := by
  unfold shapeV shapeS
  rw [if_neg (by omega), if_neg (by omega)]
  by_cases h : 3 ≤ op ∧ op ≤ 12
  · rw [if_pos h]; exact ⟨1, rfl, rfl⟩
  · rw [if_neg h, if_pos (by omega)]; exact ⟨2, rfl, rfl⟩

set_option maxRecDepth 100000 in
set_option maxHeartbeats 4000000 in
theorem refCalc_3 (x y : Int) (g off c : Nat) (w : World) (c0 : w.cell? ⟨g, off, none⟩ = some (.int .i64 x)) (c1 : w.cell? ⟨g, off + 1, none⟩ = some (.int .i64 y)) :
    Calls Tryz.prog 16 #[.int .i64 3, .slice (some ⟨g, off, none⟩) 2 c] w (refPost (calcM 3 [x, y], 0) w) := by
  obtain ⟨mk, e1, hs⟩ := shape_two (op := 3) (by decide) (by decide)
  have HS : Hid (∀ W : World, Calls Tryz.prog 33 #[.int .i64 3] W fun e w' => e = .returned (.tuple #[.string ⟨#[73, 73]⟩, .int .i64 mk, .int .i64 0, .bool true]) ∧ w' = W) := hideI fun W => (shape_any 3 W).mono fun e w' ⟨h1, h2⟩ => ⟨by rw [h1, hs], h2.symm⟩
  have hsz : (⟨#[73, 73]⟩ : ByteArray).size = 2 := rfl
  clear hs
  go_enter Tryz.func16, Tryz.ntmps16
  go_wp2_with (first | (go_at_call 33; refine (HS.out _).mono ?_; rintro e w1 ⟨rfl, rfl⟩))
  go_quiet (fail)
  go_wp2
  go_ret2
  exact ⟨rfl, _, rfl⟩

set_option maxRecDepth 100000 in
set_option maxHeartbeats 4000000 in
theorem refCalc_4 (x y : Int) (g off c : Nat) (w : World) (c0 : w.cell? ⟨g, off, none⟩ = some (.int .i64 x)) (c1 : w.cell? ⟨g, off + 1, none⟩ = some (.int .i64 y)) :
    Calls Tryz.prog 16 #[.int .i64 4, .slice (some ⟨g, off, none⟩) 2 c] w (refPost (calcM 4 [x, y], 0) w) := by
  obtain ⟨mk, e1, hs⟩ := shape_two (op := 4) (by decide) (by decide)
  have HS : Hid (∀ W : World, Calls Tryz.prog 33 #[.int .i64 4] W fun e w' => e = .returned (.tuple #[.string ⟨#[73, 73]⟩, .int .i64 mk, .int .i64 0, .bool true]) ∧ w' = W) := hideI fun W => (shape_any 4 W).mono fun e w' ⟨h1, h2⟩ => ⟨by rw [h1, hs], h2.symm⟩
  have hsz : (⟨#[73, 73]⟩ : ByteArray).size = 2 := rfl
  clear hs
  go_enter Tryz.func16, Tryz.ntmps16
  go_wp2_with (first | (go_at_call 33; refine (HS.out _).mono ?_; rintro e w1 ⟨rfl, rfl⟩))
  go_quiet (fail)
  go_wp2
  go_ret2
  exact ⟨rfl, _, rfl⟩

set_option maxRecDepth 100000 in
set_option maxHeartbeats 4000000 in
theorem refCalc_5 (x y : Int) (g off c : Nat) (w : World) (c0 : w.cell? ⟨g, off, none⟩ = some (.int .i64 x)) (c1 : w.cell? ⟨g, off + 1, none⟩ = some (.int .i64 y)) :
    Calls Tryz.prog 16 #[.int .i64 5, .slice (some ⟨g, off, none⟩) 2 c] w (refPost (calcM 5 [x, y], 0) w) := by
  obtain ⟨mk, e1, hs⟩ := shape_two (op := 5) (by decide) (by decide)
  have HS : Hid (∀ W : World, Calls Tryz.prog 33 #[.int .i64 5] W fun e w' => e = .returned (.tuple #[.string ⟨#[73, 73]⟩, .int .i64 mk, .int .i64 0, .bool true]) ∧ w' = W) := hideI fun W => (shape_any 5 W).mono fun e w' ⟨h1, h2⟩ => ⟨by rw [h1, hs], h2.symm⟩
  have hsz : (⟨#[73, 73]⟩ : ByteArray).size = 2 := rfl
  clear hs
  go_enter Tryz.func16, Tryz.ntmps16
  go_wp2_with (first | (go_at_call 33; refine (HS.out _).mono ?_; rintro e w1 ⟨rfl, rfl⟩))
  go_quiet (fail)
  go_wp2
  go_ret2
  exact ⟨rfl, _, rfl⟩

set_option maxRecDepth 100000 in
set_option maxHeartbeats 4000000 in
theorem refCalc_6 (x y : Int) (g off c : Nat) (w : World) (c0 : w.cell? ⟨g, off, none⟩ = some (.int .i64 x)) (c1 : w.cell? ⟨g, off + 1, none⟩ = some (.int .i64 y)) :
    Calls Tryz.prog 16 #[.int .i64 6, .slice (some ⟨g, off, none⟩) 2 c] w (refPost (calcM 6 [x, y], 0) w) := by
  obtain ⟨mk, e1, hs⟩ := shape_two (op := 6) (by decide) (by decide)
  have HS : Hid (∀ W : World, Calls Tryz.prog 33 #[.int .i64 6] W fun e w' => e = .returned (.tuple #[.string ⟨#[73, 73]⟩, .int .i64 mk, .int .i64 0, .bool true]) ∧ w' = W) := hideI fun W => (shape_any 6 W).mono fun e w' ⟨h1, h2⟩ => ⟨by rw [h1, hs], h2.symm⟩
  have hsz : (⟨#[73, 73]⟩ : ByteArray).size = 2 := rfl
  clear hs
  go_enter Tryz.func16, Tryz.ntmps16
  go_wp2_with (first | (go_at_call 33; refine (HS.out _).mono ?_; rintro e w1 ⟨rfl, rfl⟩))
  go_quiet (fail)
  go_wp2
  go_ret2
  exact ⟨rfl, _, rfl⟩

set_option maxRecDepth 100000 in
set_option maxHeartbeats 4000000 in
theorem refCalc_7 (x y : Int) (g off c : Nat) (w : World) (c0 : w.cell? ⟨g, off, none⟩ = some (.int .i64 x)) (c1 : w.cell? ⟨g, off + 1, none⟩ = some (.int .i64 y)) :
    Calls Tryz.prog 16 #[.int .i64 7, .slice (some ⟨g, off, none⟩) 2 c] w (refPost (calcM 7 [x, y], 0) w) := by
  obtain ⟨mk, e1, hs⟩ := shape_two (op := 7) (by decide) (by decide)
  have HS : Hid (∀ W : World, Calls Tryz.prog 33 #[.int .i64 7] W fun e w' => e = .returned (.tuple #[.string ⟨#[73, 73]⟩, .int .i64 mk, .int .i64 0, .bool true]) ∧ w' = W) := hideI fun W => (shape_any 7 W).mono fun e w' ⟨h1, h2⟩ => ⟨by rw [h1, hs], h2.symm⟩
  have hsz : (⟨#[73, 73]⟩ : ByteArray).size = 2 := rfl
  clear hs
  go_enter Tryz.func16, Tryz.ntmps16
  go_wp2_with (first | (go_at_call 33; refine (HS.out _).mono ?_; rintro e w1 ⟨rfl, rfl⟩))
  go_quiet (fail)
  go_wp2
  go_ret2
  exact ⟨rfl, _, rfl⟩

set_option maxRecDepth 100000 in
set_option maxHeartbeats 4000000 in
theorem refCalc_8 (x y : Int) (g off c : Nat) (w : World) (c0 : w.cell? ⟨g, off, none⟩ = some (.int .i64 x)) (c1 : w.cell? ⟨g, off + 1, none⟩ = some (.int .i64 y)) :
    Calls Tryz.prog 16 #[.int .i64 8, .slice (some ⟨g, off, none⟩) 2 c] w (refPost (calcM 8 [x, y], 0) w) := by
  obtain ⟨mk, e1, hs⟩ := shape_two (op := 8) (by decide) (by decide)
  have HS : Hid (∀ W : World, Calls Tryz.prog 33 #[.int .i64 8] W fun e w' => e = .returned (.tuple #[.string ⟨#[73, 73]⟩, .int .i64 mk, .int .i64 0, .bool true]) ∧ w' = W) := hideI fun W => (shape_any 8 W).mono fun e w' ⟨h1, h2⟩ => ⟨by rw [h1, hs], h2.symm⟩
  have hsz : (⟨#[73, 73]⟩ : ByteArray).size = 2 := rfl
  clear hs
  go_enter Tryz.func16, Tryz.ntmps16
  go_wp2_with (first | (go_at_call 33; refine (HS.out _).mono ?_; rintro e w1 ⟨rfl, rfl⟩))
  go_quiet (fail)
  go_wp2
  go_ret2
  exact ⟨rfl, _, rfl⟩

set_option maxRecDepth 100000 in
set_option maxHeartbeats 4000000 in
theorem refCalc_9 (x y : Int) (g off c : Nat) (w : World) (c0 : w.cell? ⟨g, off, none⟩ = some (.int .i64 x)) (c1 : w.cell? ⟨g, off + 1, none⟩ = some (.int .i64 y)) :
    Calls Tryz.prog 16 #[.int .i64 9, .slice (some ⟨g, off, none⟩) 2 c] w (refPost (calcM 9 [x, y], 0) w) := by
  obtain ⟨mk, e1, hs⟩ := shape_two (op := 9) (by decide) (by decide)
  have HS : Hid (∀ W : World, Calls Tryz.prog 33 #[.int .i64 9] W fun e w' => e = .returned (.tuple #[.string ⟨#[73, 73]⟩, .int .i64 mk, .int .i64 0, .bool true]) ∧ w' = W) := hideI fun W => (shape_any 9 W).mono fun e w' ⟨h1, h2⟩ => ⟨by rw [h1, hs], h2.symm⟩
  have hsz : (⟨#[73, 73]⟩ : ByteArray).size = 2 := rfl
  have hs9 := shift_l Tryz.prog x y
  clear hs
  go_enter Tryz.func16, Tryz.ntmps16
  go_wp2_with (first | (go_at_call 33; refine (HS.out _).mono ?_; rintro e w1 ⟨rfl, rfl⟩))
  go_quiet (fail)
  go_wp2
  go_ret2
  exact ⟨rfl, _, rfl⟩

set_option maxRecDepth 100000 in
set_option maxHeartbeats 4000000 in
theorem refCalc_10 (x y : Int) (g off c : Nat) (w : World) (c0 : w.cell? ⟨g, off, none⟩ = some (.int .i64 x)) (c1 : w.cell? ⟨g, off + 1, none⟩ = some (.int .i64 y)) :
    Calls Tryz.prog 16 #[.int .i64 10, .slice (some ⟨g, off, none⟩) 2 c] w (refPost (calcM 10 [x, y], 0) w) := by
  obtain ⟨mk, e1, hs⟩ := shape_two (op := 10) (by decide) (by decide)
  have HS : Hid (∀ W : World, Calls Tryz.prog 33 #[.int .i64 10] W fun e w' => e = .returned (.tuple #[.string ⟨#[73, 73]⟩, .int .i64 mk, .int .i64 0, .bool true]) ∧ w' = W) := hideI fun W => (shape_any 10 W).mono fun e w' ⟨h1, h2⟩ => ⟨by rw [h1, hs], h2.symm⟩
  have hsz : (⟨#[73, 73]⟩ : ByteArray).size = 2 := rfl
  have hs10 := shift_r Tryz.prog x y
  clear hs
  go_enter Tryz.func16, Tryz.ntmps16
  go_wp2_with (first | (go_at_call 33; refine (HS.out _).mono ?_; rintro e w1 ⟨rfl, rfl⟩))
  go_quiet (fail)
  go_wp2
  go_ret2
  exact ⟨rfl, _, rfl⟩

set_option maxRecDepth 100000 in
set_option maxHeartbeats 4000000 in
theorem refCalc_13 (x y : Int) (g off c : Nat) (w : World) (c0 : w.cell? ⟨g, off, none⟩ = some (.int .i64 x)) (c1 : w.cell? ⟨g, off + 1, none⟩ = some (.int .i64 y)) :
    Calls Tryz.prog 16 #[.int .i64 13, .slice (some ⟨g, off, none⟩) 2 c] w (refPost (calcM 13 [x, y], 0) w) := by
  obtain ⟨mk, e1, hs⟩ := shape_two (op := 13) (by decide) (by decide)
  have HS : Hid (∀ W : World, Calls Tryz.prog 33 #[.int .i64 13] W fun e w' => e = .returned (.tuple #[.string ⟨#[73, 73]⟩, .int .i64 mk, .int .i64 0, .bool true]) ∧ w' = W) := hideI fun W => (shape_any 13 W).mono fun e w' ⟨h1, h2⟩ => ⟨by rw [h1, hs], h2.symm⟩
  have hsz : (⟨#[73, 73]⟩ : ByteArray).size = 2 := rfl
  clear hs
  go_enter Tryz.func16, Tryz.ntmps16
  go_wp2_with (first | (go_at_call 33; refine (HS.out _).mono ?_; rintro e w1 ⟨rfl, rfl⟩))
  go_quiet (refine Calls.quiet_of_same (refBit_any _ _))
  go_wp2
  go_ret2
  exact ⟨rfl, _, rfl⟩

set_option maxRecDepth 100000 in
set_option maxHeartbeats 4000000 in
theorem refCalc_14 (x y : Int) (g off c : Nat) (w : World) (c0 : w.cell? ⟨g, off, none⟩ = some (.int .i64 x)) (c1 : w.cell? ⟨g, off + 1, none⟩ = some (.int .i64 y)) :
    Calls Tryz.prog 16 #[.int .i64 14, .slice (some ⟨g, off, none⟩) 2 c] w (refPost (calcM 14 [x, y], 0) w) := by
  obtain ⟨mk, e1, hs⟩ := shape_two (op := 14) (by decide) (by decide)
  have HS : Hid (∀ W : World, Calls Tryz.prog 33 #[.int .i64 14] W fun e w' => e = .returned (.tuple #[.string ⟨#[73, 73]⟩, .int .i64 mk, .int .i64 0, .bool true]) ∧ w' = W) := hideI fun W => (shape_any 14 W).mono fun e w' ⟨h1, h2⟩ => ⟨by rw [h1, hs], h2.symm⟩
  have hsz : (⟨#[73, 73]⟩ : ByteArray).size = 2 := rfl
  clear hs
  go_enter Tryz.func16, Tryz.ntmps16
  go_wp2_with (first | (go_at_call 33; refine (HS.out _).mono ?_; rintro e w1 ⟨rfl, rfl⟩))
  go_quiet (refine Calls.quiet_of_same (refBit_any _ _))
  go_wp2
  go_ret2
  exact ⟨rfl, _, rfl⟩

set_option maxRecDepth 100000 in
set_option maxHeartbeats 4000000 in
theorem refCalc_15 (x y : Int) (g off c : Nat) (w : World) (c0 : w.cell? ⟨g, off, none⟩ = some (.int .i64 x)) (c1 : w.cell? ⟨g, off + 1, none⟩ = some (.int .i64 y)) :
    Calls Tryz.prog 16 #[.int .i64 15, .slice (some ⟨g, off, none⟩) 2 c] w (refPost (calcM 15 [x, y], 0) w) := by
  obtain ⟨mk, e1, hs⟩ := shape_two (op := 15) (by decide) (by decide)
  have HS : Hid (∀ W : World, Calls Tryz.prog 33 #[.int .i64 15] W fun e w' => e = .returned (.tuple #[.string ⟨#[73, 73]⟩, .int .i64 mk, .int .i64 0, .bool true]) ∧ w' = W) := hideI fun W => (shape_any 15 W).mono fun e w' ⟨h1, h2⟩ => ⟨by rw [h1, hs], h2.symm⟩
  have hsz : (⟨#[73, 73]⟩ : ByteArray).size = 2 := rfl
  clear hs
  go_enter Tryz.func16, Tryz.ntmps16
  go_wp2_with (first | (go_at_call 33; refine (HS.out _).mono ?_; rintro e w1 ⟨rfl, rfl⟩))
  go_quiet (refine Calls.quiet_of_same (refBit_any _ _))
  go_wp2
  go_ret2
  exact ⟨rfl, _, rfl⟩

set_option maxRecDepth 100000 in
set_option maxHeartbeats 4000000 in
theorem refCalc_11 (x y : Int) (g off c : Nat) (w : World) (c0 : w.cell? ⟨g, off, none⟩ = some (.int .i64 x)) (c1 : w.cell? ⟨g, off + 1, none⟩ = some (.int .i64 y)) (hy : ¬ y = 0) :
    Calls Tryz.prog 16 #[.int .i64 11, .slice (some ⟨g, off, none⟩) 2 c] w (refPost (calcM 11 [x, y], 0) w) := by
  obtain ⟨mk, e1, hs⟩ := shape_two (op := 11) (by decide) (by decide)
  have HS : Hid (∀ W : World, Calls Tryz.prog 33 #[.int .i64 11] W fun e w' => e = .returned (.tuple #[.string ⟨#[73, 73]⟩, .int .i64 mk, .int .i64 0, .bool true]) ∧ w' = W) := hideI fun W => (shape_any 11 W).mono fun e w' ⟨h1, h2⟩ => ⟨by rw [h1, hs], h2.symm⟩
  have hsz : (⟨#[73, 73]⟩ : ByteArray).size = 2 := rfl
  have hy0 : (y == 0) = false := by simpa using hy
  clear hs
  go_enter Tryz.func16, Tryz.ntmps16
  go_wp2_with (first | (go_at_call 33; refine (HS.out _).mono ?_; rintro e w1 ⟨rfl, rfl⟩))
  go_quiet (fail)
  go_wp2
  go_ret2
  exact ⟨rfl, _, rfl⟩

set_option maxRecDepth 100000 in
set_option maxHeartbeats 4000000 in
theorem refCalc_12 (x y : Int) (g off c : Nat) (w : World) (c0 : w.cell? ⟨g, off, none⟩ = some (.int .i64 x)) (c1 : w.cell? ⟨g, off + 1, none⟩ = some (.int .i64 y)) (hy : ¬ y = 0) :
    Calls Tryz.prog 16 #[.int .i64 12, .slice (some ⟨g, off, none⟩) 2 c] w (refPost (calcM 12 [x, y], 0) w) := by
  obtain ⟨mk, e1, hs⟩ := shape_two (op := 12) (by decide) (by decide)
  have HS : Hid (∀ W : World, Calls Tryz.prog 33 #[.int .i64 12] W fun e w' => e = .returned (.tuple #[.string ⟨#[73, 73]⟩, .int .i64 mk, .int .i64 0, .bool true]) ∧ w' = W) := hideI fun W => (shape_any 12 W).mono fun e w' ⟨h1, h2⟩ => ⟨by rw [h1, hs], h2.symm⟩
  have hsz : (⟨#[73, 73]⟩ : ByteArray).size = 2 := rfl
  have hy0 : (y == 0) = false := by simpa using hy
  clear hs
  go_enter Tryz.func16, Tryz.ntmps16
  go_wp2_with (first | (go_at_call 33; refine (HS.out _).mono ?_; rintro e w1 ⟨rfl, rfl⟩))
  go_quiet (fail)
  go_wp2
  go_ret2
  exact ⟨rfl, _, rfl⟩

set_option maxRecDepth 100000 in
set_option maxHeartbeats 4000000 in
theorem refCalc_11z (x : Int) (g off c : Nat) (w : World) (c0 : w.cell? ⟨g, off, none⟩ = some (.int .i64 x)) (c1 : w.cell? ⟨g, off + 1, none⟩ = some (.int .i64 0)) :
    Calls Tryz.prog 16 #[.int .i64 11, .slice (some ⟨g, off, none⟩) 2 c] w (refPost (0, 9) w) := by
  obtain ⟨mk, e1, hs⟩ := shape_two (op := 11) (by decide) (by decide)
  have HS : Hid (∀ W : World, Calls Tryz.prog 33 #[.int .i64 11] W fun e w' => e = .returned (.tuple #[.string ⟨#[73, 73]⟩, .int .i64 mk, .int .i64 0, .bool true]) ∧ w' = W) := hideI fun W => (shape_any 11 W).mono fun e w' ⟨h1, h2⟩ => ⟨by rw [h1, hs], h2.symm⟩
  have hsz : (⟨#[73, 73]⟩ : ByteArray).size = 2 := rfl
  clear hs
  go_enter Tryz.func16, Tryz.ntmps16
  go_wp2_with (first | (go_at_call 33; refine (HS.out _).mono ?_; rintro e w1 ⟨rfl, rfl⟩))
  go_ret2
  exact ⟨rfl, 0, rfl⟩

set_option maxRecDepth 100000 in
set_option maxHeartbeats 4000000 in
theorem refCalc_12z (x : Int) (g off c : Nat) (w : World) (c0 : w.cell? ⟨g, off, none⟩ = some (.int .i64 x)) (c1 : w.cell? ⟨g, off + 1, none⟩ = some (.int .i64 0)) :
    Calls Tryz.prog 16 #[.int .i64 12, .slice (some ⟨g, off, none⟩) 2 c] w (refPost (0, 9) w) := by
  obtain ⟨mk, e1, hs⟩ := shape_two (op := 12) (by decide) (by decide)
  have HS : Hid (∀ W : World, Calls Tryz.prog 33 #[.int .i64 12] W fun e w' => e = .returned (.tuple #[.string ⟨#[73, 73]⟩, .int .i64 mk, .int .i64 0, .bool true]) ∧ w' = W) := hideI fun W => (shape_any 12 W).mono fun e w' ⟨h1, h2⟩ => ⟨by rw [h1, hs], h2.symm⟩
  have hsz : (⟨#[73, 73]⟩ : ByteArray).size = 2 := rfl
  clear hs
  go_enter Tryz.func16, Tryz.ntmps16
  go_wp2_with (first | (go_at_call 33; refine (HS.out _).mono ?_; rintro e w1 ⟨rfl, rfl⟩))
  go_ret2
  exact ⟨rfl, 0, rfl⟩

set_option maxRecDepth 100000 in
set_option maxHeartbeats 4000000 in
theorem refCalc_16 (x : Int) (g off c : Nat) (w : World) (c0 : w.cell? ⟨g, off, none⟩ = some (.int .i64 x)) :
    Calls Tryz.prog 16 #[.int .i64 16, .slice (some ⟨g, off, none⟩) 1 c] w (refPost (calcM 16 [x], 0) w) := by
  have HS : Hid (∀ W : World, Calls Tryz.prog 33 #[.int .i64 16] W fun e w' => e = .returned (.tuple #[.string ⟨#[66]⟩, .int .i64 2, .int .i64 0, .bool true]) ∧ w' = W) := hideI fun W => (shape_any 16 W).mono fun e w' ⟨h1, h2⟩ => ⟨by rw [h1]; rfl, h2.symm⟩
  have hsz : (⟨#[66]⟩ : ByteArray).size = 1 := rfl
  have HC : Hid (∀ W : World, Calls Tryz.prog 26 #[.bool (x == 0)] W fun e w' => e = .returned (.int .i64 (calcM 16 [x])) ∧ w' = W) := hideI fun W => refBit_any _ W
  go_enter Tryz.func16, Tryz.ntmps16
  go_wp2_with (first | (go_at_call 33; refine (HS.out _).mono ?_; rintro e w1 ⟨rfl, rfl⟩) | (go_at_call 26; refine (HC.out _).mono ?_; rintro e w1 ⟨rfl, rfl⟩))
  go_ret2
  exact ⟨rfl, 0, rfl⟩

set_option maxRecDepth 100000 in
set_option maxHeartbeats 4000000 in
theorem refCalc_17 (x y z : Int) (g off c : Nat) (w : World) (c0 : w.cell? ⟨g, off, none⟩ = some (.int .i64 x)) (c1 : w.cell? ⟨g, off + 1, none⟩ = some (.int .i64 y)) (c2 : w.cell? ⟨g, off + 2, none⟩ = some (.int .i64 z)) :
    Calls Tryz.prog 16 #[.int .i64 17, .slice (some ⟨g, off, none⟩) 3 c] w (refPost (calcM 17 [x, y, z], 0) w) := by
  have HS : Hid (∀ W : World, Calls Tryz.prog 33 #[.int .i64 17] W fun e w' => e = .returned (.tuple #[.string ⟨#[66, 73, 73]⟩, .int .i64 1, .int .i64 0, .bool true]) ∧ w' = W) := hideI fun W => (shape_any 17 W).mono fun e w' ⟨h1, h2⟩ => ⟨by rw [h1]; rfl, h2.symm⟩
  have hsz : (⟨#[66, 73, 73]⟩ : ByteArray).size = 3 := rfl
  by_cases hx : x = 0
  · have HE : Hid (calcM 17 [x, y, z] = z) := hideI (by unfold calcM; simp [hx])
    have x0 : (x == 0) = true := by simpa using hx
    clear hx
    go_enter Tryz.func16, Tryz.ntmps16
    go_wp2_with (first | (go_at_call 33; refine (HS.out _).mono ?_; rintro e w1 ⟨rfl, rfl⟩))
    go_ret2
    exact ⟨by rw [HE.out]; rfl, 0, rfl⟩
  · have HE : Hid (calcM 17 [x, y, z] = y) := hideI (by unfold calcM; simp [hx])
    have x0 : (x == 0) = false := by simpa using hx
    clear hx
    go_enter Tryz.func16, Tryz.ntmps16
    go_wp2_with (first | (go_at_call 33; refine (HS.out _).mono ?_; rintro e w1 ⟨rfl, rfl⟩))
    go_ret2
    exact ⟨by rw [HE.out]; rfl, 0, rfl⟩

theorem divZero_two {op x y : Int} : divZero op [x, y] = ((decide (op = 11) || decide (op = 12)) && decide (y = 0)) := rfl

/-- the reference's Calc is calcR -/
theorem refCalc_any (op : Int) (a : List Int) (B : Nat) (av : Value) (w : World) (ha : Ints w B av a) :
    Calls Tryz.prog 16 #[.int .i64 op, av] w (refPost (calcR op a) w) := by
  obtain ⟨A, ac, rfl, _, hat⟩ := ha
  by_cases hp : 3 ≤ op ∧ op ≤ 17
  · by_cases hl : a.length = (takesS op).length
    · have hR : calcR op a = if divZero op a then (0, 9) else (calcM op a, 0) := by unfold calcR; rw [if_pos ⟨hp.1, hp.2, hl⟩]
      rw [hR]
      by_cases h15 : op ≤ 15
      · rw [takes_two hp.1 h15] at hl
        obtain ⟨x, y, rfl⟩ : ∃ x y, a = [x, y] := by
          match a, hl with
          | [x, y], _ => exact ⟨x, y, rfl⟩
        obtain ⟨g, off, rfl, _, c0⟩ := hat 0 (by simp)
        obtain ⟨_, _, e, _, c1⟩ := hat 1 (by simp)
        cases e
        have c0 : w.cell? ⟨g, off, none⟩ = some (.int .i64 x) := by simpa using c0
        have c1 : w.cell? ⟨g, off + 1, none⟩ = some (.int .i64 y) := by simpa using c1
        rw [divZero_two]
        obtain ⟨h1, h2⟩ := hp
        obtain rfl | rfl | rfl | rfl | rfl | rfl | rfl | rfl | rfl | rfl | rfl | rfl | rfl : op = 3 ∨ op = 4 ∨ op = 5 ∨ op = 6 ∨ op = 7 ∨ op = 8 ∨ op = 9 ∨ op = 10 ∨ op = 11 ∨ op = 12 ∨ op = 13 ∨ op = 14 ∨ op = 15 := by omega
        · exact refCalc_3 x y g off ac w c0 c1
        · exact refCalc_4 x y g off ac w c0 c1
        · exact refCalc_5 x y g off ac w c0 c1
        · exact refCalc_6 x y g off ac w c0 c1
        · exact refCalc_7 x y g off ac w c0 c1
        · exact refCalc_8 x y g off ac w c0 c1
        · exact refCalc_9 x y g off ac w c0 c1
        · exact refCalc_10 x y g off ac w c0 c1
        · by_cases hy : y = 0
          · subst hy; exact refCalc_11z x g off ac w c0 c1
          · rw [if_neg (by simp [hy])]; exact refCalc_11 x y g off ac w c0 c1 hy
        · by_cases hy : y = 0
          · subst hy; exact refCalc_12z x g off ac w c0 c1
          · rw [if_neg (by simp [hy])]; exact refCalc_12 x y g off ac w c0 c1 hy
        · exact refCalc_13 x y g off ac w c0 c1
        · exact refCalc_14 x y g off ac w c0 c1
        · exact refCalc_15 x y g off ac w c0 c1
      · obtain rfl | rfl : op = 16 ∨ op = 17 := by omega
        · have hl1 : a.length = 1 := hl
          obtain ⟨x, rfl⟩ : ∃ x, a = [x] := by
            match a, hl1 with
            | [x], _ => exact ⟨x, rfl⟩
          obtain ⟨g, off, rfl, _, c0⟩ := hat 0 (by simp)
          exact refCalc_16 x g off ac w (by simpa using c0)
        · have hl1 : a.length = 3 := hl
          obtain ⟨x, y, z, rfl⟩ : ∃ x y z, a = [x, y, z] := by
            match a, hl1 with
            | [x, y, z], _ => exact ⟨x, y, z, rfl⟩
          obtain ⟨g, off, rfl, _, c0⟩ := hat 0 (by simp)
          obtain ⟨_, _, e, _, c1⟩ := hat 1 (by simp)
          cases e
          obtain ⟨_, _, e, _, c2⟩ := hat 2 (by simp)
          cases e
          exact refCalc_17 x y z g off ac w (by simpa using c0) (by simpa using c1) (by simpa using c2)
    · have hR : calcR op a = (0, 1) := by unfold calcR; rw [if_neg (fun h => hl h.2.2)]
      rw [hR]
      refine refCalc_bad op A a.length ac w _ _ _ _ rfl (.inr (.inr (.inr ?_)))
      intro e
      apply hl
      have h2 : (takesS op).length = (shapeS op).1.length := by unfold takesS; rw [List.length_map]
      have h3 : (⟨(shapeS op).1.toArray⟩ : ByteArray).size = (shapeS op).1.length := rfl
      rw [h3] at e
      omega
  · have hR : calcR op a = (0, 1) := by unfold calcR; rw [if_neg (fun h => hp ⟨h.1, h.2.1⟩)]
    rw [hR]
    refine refCalc_bad op A a.length ac w _ _ _ _ rfl ?_
    rcases op_cases op with h | h | h
    · have : op = 1 ∨ op = 2 := by omega
      rcases this with rfl | rfl <;> exact .inr (.inr (.inl (by decide)))
    · have : op = 18 ∨ op = 19 ∨ op = 20 ∨ op = 21 ∨ op = 22 ∨ op = 23 ∨ op = 24 ∨ op = 25 := by omega
      rcases this with rfl | rfl | rfl | rfl | rfl | rfl | rfl | rfl
      · exact .inr (.inr (.inl (by decide)))
      · exact .inr (.inr (.inl (by decide)))
      · exact .inr (.inl (by decide))
      · exact .inr (.inr (.inl (by decide)))
      · exact .inr (.inl (by decide))
      · exact .inr (.inl (by decide))
      · exact .inr (.inr (.inl (by decide)))
      · exact .inr (.inl (by decide))
    · rw [shapeS_none h]; exact .inl rfl
end Go.Proofs.YtliolgamhjpljaaGreat
