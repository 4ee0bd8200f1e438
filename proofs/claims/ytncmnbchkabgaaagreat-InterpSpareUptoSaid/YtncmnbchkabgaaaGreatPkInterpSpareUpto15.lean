/- What InterpSpareUpto rests on, part 15: SCheckM, IRun, IRunNo, IOk, IRunAny, IKeep, RPreds, ITrace, IEndM, IRuns. -/
import Derived.Test.YtncmnbchkabgaaaGreatPkInterpSpareUpto14
import Derived.Deep.QuietTactic
import Derived.BigQuiet

namespace Go.Proofs.YtncmnbchkabgaaaGreat
open Go.RowKit Go.Maps

theorem look_right {f : FuncM} (h : (lookM f).1 = 0) : formedR f = true := by
  cases hr : formedR f
  · have := formed_no hr
    rw [look_formed h] at this
    cases this
  · rfl

theorem right_blockR {f : FuncM} (h : (lookM f).1 = 0) {q : BlockM} (hq : q ∈ f.blocks) : blockR f q = true := by
  have hr := look_right h
  unfold formedR at hr
  simp only [Bool.and_eq_true, List.all_eq_true] at hr
  exact hr.2.2.2 q hq

theorem look_id {f : FuncM} (h : (lookM f).1 = 0) {q : BlockM} (hq : q ∈ f.blocks) {x : InstrM} (hx : x ∈ q.code) : makesS x.op = 0 → x.id = -1 := by
  have hb := right_blockR h hq
  unfold blockR at hb
  simp only [Bool.and_eq_true, List.all_eq_true] at hb
  have hi := hb.2.1 x hx
  unfold instrR at hi
  simp only [Bool.and_eq_true, Bool.not_eq_true', Bool.and_eq_false_iff, beq_eq_false_iff_ne, bne_eq_false_iff_eq] at hi
  intro hm
  rcases hi.2.2.1 with h1 | h1
  · exact absurd hm h1
  · exact h1

theorem look_used {f : FuncM} (h : (lookM f).1 = 0) (u : Int × Int) (hu : u ∈ usesM f) : u.1 ∈ (valuesM f).map (·.1) := by
  rw [← at_some]
  have he := look_eq (look_formed h)
  rw [h, formed_eq (look_formed h)] at he
  cases hx : unknownB (valuesM f) (usesM f)
  · unfold unknownB at hx
    rw [List.any_eq_false] at hx
    have := hx u hu
    simpa [Option.isSome_iff_ne_none] using this
  · rw [hx] at he
    simp at he

theorem vals_instr {f : FuncM} (h : (lookM f).1 = 0) {q : BlockM} (hq : q ∈ f.blocks) {x : InstrM} (hx : x ∈ q.code) (b i : Nat) : (placedInstr b i x).map (·.1) = (valuesInstr x).map (·.1) := by
  unfold placedInstr valuesInstr
  rcases makes_cases x.op with hm | hm
  · have := look_id h hq hx hm
    rw [if_neg (by omega), if_neg (by omega)]
    rfl
  · have hk := (formed_keys (look_formed h)).1
    have hv := formed_eq (look_formed h)
    have hmem : (x.id, makesS x.op) ∈ (lookM f).2 := by
      rw [hv]
      unfold valuesM valuesBlock
      refine List.mem_append.2 (.inr (List.mem_flatMap.2 ⟨q, hq, List.mem_append.2 (.inr (List.mem_flatMap.2 ⟨x, hx, ?_⟩))⟩))
      unfold valuesInstr
      rw [if_pos hm]
      exact List.mem_singleton.2 rfl
    have h0 := (hk _ hmem).1
    rw [if_pos h0, if_pos hm]
    rfl

theorem vals_code {f : FuncM} (h : (lookM f).1 = 0) {q : BlockM} (hq : q ∈ f.blocks) (b : Nat) : ∀ i, i ≤ q.code.length → (placedCode b q.code i).map (·.1) = ((q.code.take i).flatMap valuesInstr).map (·.1) := by
  intro i
  induction i with
  | zero => intro _; rfl
  | succ i ih =>
    intro hi
    have hx : q.code[i]? = some q.code[i] := List.getElem?_eq_getElem (by omega)
    rw [placedCode, hx, List.map_append, ih (by omega), List.take_succ_eq_append_getElem (by omega), List.flatMap_append, List.map_append, vals_instr h hq (List.getElem_mem ..)]
    simp

theorem vals_block {f : FuncM} (h : (lookM f).1 = 0) {q : BlockM} (hq : q ∈ f.blocks) (b : Nat) : (placedBlock b q).map (·.1) = (valuesBlock q).map (·.1) := by
  unfold placedBlock valuesBlock
  rw [List.map_append, List.map_append, vals_code h hq b _ (Nat.le_refl _), List.take_length]
  congr 1
  unfold placedPhis
  rw [List.map_map, List.map_map]
  rfl

theorem vals_blocks {f : FuncM} (h : (lookM f).1 = 0) : ∀ b, b ≤ f.blocks.length → (placedBlocks f.blocks b).map (·.1) = ((f.blocks.take b).flatMap valuesBlock).map (·.1) := by
  intro b
  induction b with
  | zero => intro _; rfl
  | succ b ih =>
    intro hb
    have hx : f.blocks[b]? = some f.blocks[b] := List.getElem?_eq_getElem (by omega)
    rw [placedBlocks, hx, List.map_append, ih (by omega), List.take_succ_eq_append_getElem (by omega), List.flatMap_append, List.map_append, vals_block h (List.getElem_mem ..)]
    simp

theorem vals_params (l : List Int) : (placedParams l.length).map (·.1) = (paramDefs 0 l).map (·.1) := by
  have h1 : ∀ n, (placedParams n).map (·.1) = (List.range n).map fun (k : Nat) => (k : Int) := by
    intro n
    induction n with
    | zero => rfl
    | succ n ih => rw [placedParams, List.map_append, ih, List.range_succ, List.map_append]; rfl
  have h2 : ∀ (l : List Int) (j : Nat), (paramDefs j l).map (·.1) = (List.range l.length).map fun (k : Nat) => ((j + k : Nat) : Int) := by
    intro l
    induction l with
    | nil => intro j; rfl
    | cons a l ih =>
      intro j
      rw [paramDefs, List.map_cons, ih, List.length_cons, List.range_succ_eq_map, List.map_cons, List.map_map]
      congr 1
      apply List.map_congr_left
      intro k _
      simp only [Function.comp]
      omega
  rw [h1, h2]
  apply List.map_congr_left
  intro k _
  simp

theorem placed_ids {f : FuncM} (h : (lookM f).1 = 0) : (placedM f).map (·.1) = (valuesM f).map (·.1) := by
  unfold placedM valuesM
  rw [List.map_append, List.map_append, vals_params, vals_blocks h _ (Nat.le_refl _), List.take_length]

theorem placed_nodup {f : FuncM} (h : (lookM f).1 = 0) : ((placedM f).map (·.1)).Nodup := by
  rw [placed_ids h]
  have := formed_nodup (look_formed h)
  rwa [formed_eq (look_formed h)] at this

/-- the blocks and places of what is placed -/
theorem placedCode_mem {b : Nat} {xs : List InstrM} {d : Int × (Nat × Int)} : ∀ i, d ∈ placedCode b xs i → d.2.1 = b ∧ ∃ (j : Nat) (x : InstrM), xs[j]? = some x ∧ j < i ∧ d.1 = x.id ∧ d.2.2 = (j : Int) ∧ 0 ≤ x.id := by
  intro i
  induction i with
  | zero => intro h; cases h
  | succ i ih =>
    intro h
    rw [placedCode] at h
    rcases List.mem_append.1 h with h | h
    · obtain ⟨h1, j, x, h2, h3, h4⟩ := ih h
      exact ⟨h1, j, x, h2, by omega, h4⟩
    · cases hx : xs[i]? with
      | none => rw [hx] at h; cases h
      | some x =>
        rw [hx] at h
        simp only [placedInstr] at h
        split at h
        · rename_i h0
          rw [List.mem_singleton] at h
          subst h
          exact ⟨rfl, i, x, hx, by omega, rfl, rfl, h0⟩
        · cases h

/-- where a value is made -/
inductive MadeAt (f : FuncM) (id : Int) : Nat → Int → Prop
  | param (h0 : 0 ≤ id) (h : id < f.params.length) : MadeAt f id 0 (-1)
  | phi {b : Nat} {q : BlockM} {p : PhiM} (hq : f.blocks[b]? = some q) (hp : p ∈ q.phis) (h : p.id = id) : MadeAt f id b (-1)
  | instr {b i : Nat} {q : BlockM} {x : InstrM} (hq : f.blocks[b]? = some q) (hx : q.code[i]? = some x) (h : x.id = id) (h0 : 0 ≤ id) : MadeAt f id b (i : Int)

theorem placedBlocks_mem {f : FuncM} {d : Int × (Nat × Int)} : ∀ n, d ∈ placedBlocks f.blocks n → MadeAt f d.1 d.2.1 d.2.2 := by
  intro n
  induction n with
  | zero => intro h; cases h
  | succ n ih =>
    intro h
    rw [placedBlocks] at h
    rcases List.mem_append.1 h with h | h
    · exact ih h
    · cases hq : f.blocks[n]? with
      | none => rw [hq] at h; cases h
      | some q =>
        rw [hq] at h
        simp only [placedBlock] at h
        rcases List.mem_append.1 h with h | h
        · unfold placedPhis at h
          obtain ⟨p, hp, rfl⟩ := List.mem_map.1 h
          exact .phi hq hp rfl
        · obtain ⟨h1, j, x, hx, _, h2, h3, h4⟩ := placedCode_mem _ h
          rw [h1, h3]
          exact .instr hq hx h2.symm (by rw [h2]; exact h4)

theorem placedM_mem {f : FuncM} {id : Int} {b : Nat} {a : Int} (h : (id, (b, a)) ∈ placedM f) : MadeAt f id b a := by
  unfold placedM at h
  rcases List.mem_append.1 h with h | h
  · have hp : ∀ n, (id, (b, a)) ∈ placedParams n → b = 0 ∧ a = -1 ∧ 0 ≤ id ∧ id < n := by
      intro n
      induction n with
      | zero => intro h; cases h
      | succ n ih =>
        intro h
        rw [placedParams] at h
        rcases List.mem_append.1 h with h | h
        · have := ih h; omega
        · rw [List.mem_singleton] at h
          injection h with h1 h2
          injection h2 with h2 h3
          omega
    obtain ⟨rfl, rfl, h0, h1⟩ := hp _ h
    exact .param h0 h1
  · exact placedBlocks_mem _ h

theorem last_made {f : FuncM} {id : Int} {m : Nat × Int} (h : (placedM f).last id = some m) : MadeAt f id m.1 m.2 := by
  unfold Placed.last at h
  rw [Option.map_eq_some_iff] at h
  obtain ⟨d, hd, rfl⟩ := h
  have h1 := List.mem_reverse.1 (List.mem_of_find?_eq_some hd)
  have h2 : d.1 = id := by simpa using List.find?_some hd
  obtain ⟨x, y, z⟩ := d
  simp only at h2
  subst h2
  exact placedM_mem h1

theorem made_lt {f : FuncM} (h0 : 0 < f.blocks.length) {id : Int} {b : Nat} {a : Int} (h : MadeAt f id b a) : b < f.blocks.length := by
  cases h with
  | param => exact h0
  | phi hq => exact (List.getElem?_eq_some_iff.1 hq).1
  | instr hq => exact (List.getElem?_eq_some_iff.1 hq).1

theorem known_of {f : FuncM} (h : (lookM f).1 = 0) (hid : ∀ u ∈ usesM f, I64 u.1) {u : Int × Int} (hu : u ∈ usesM f) : Known f u.1 := by
  have hn := (look_some_block h).1
  have hm : u.1 ∈ (placedM f).map (·.1) := by
    rw [placed_ids h]
    exact look_used h u hu
  refine ⟨hid u hu, ?_⟩
  obtain ⟨d, hd, he⟩ := List.mem_map.1 hm
  obtain ⟨x, y, z⟩ := d
  simp only at he
  subst he
  have hl : (placedM f).last u.1 = some (y, z) := by
    rw [Placed.last_first (placed_nodup h)]
    exact Placed.first_mem (placed_nodup h) hd
  exact ⟨y, z, hl, made_lt hn (last_made hl)⟩

theorem uses_known {f : FuncM} (h : (lookM f).1 = 0) (hid : ∀ u ∈ usesM f, I64 u.1) : UsesKnown f := by
  have hall := (formed_all (look_formed h)).1
  refine ⟨fun b q p i id hq hp hi => ?_, fun b q x id hq hx hi => ?_, fun b q hq ht => ?_⟩
  · have hmq := List.mem_of_getElem? hq
    have hl := look_phi h q hmq p hp
    have hil := (List.getElem?_eq_some_iff.1 hi).1
    obtain ⟨k, hk⟩ : ∃ k, p.fr[i]? = some k := ⟨_, List.getElem?_eq_getElem (by omega)⟩
    have hon := (hall q hmq).1 p hp
    unfold phiB at hon
    simp only [Bool.and_eq_true] at hon
    have hr := (once_nodup _ _ hon.2.2).2.1 k (List.mem_of_getElem? hk)
    obtain ⟨kn, rfl⟩ : ∃ kn : Nat, k = (kn : Int) := ⟨k.toNat, by omega⟩
    obtain ⟨j, hj⟩ := List.getElem?_of_mem hp
    exact ⟨kn, f.blocks[kn]'(by omega), hk, List.getElem?_eq_getElem _, known_of h hid (each3.mem_phi hq hj hi)⟩
  · obtain ⟨j, hj⟩ := List.getElem?_of_mem hx
    obtain ⟨m, hm⟩ := List.getElem?_of_mem hi
    have hf := look_form h q (List.mem_of_getElem? hq) x hx
    have hml := (List.getElem?_eq_some_iff.1 hm).1
    obtain ⟨t, ht⟩ : ∃ t, (takesS x.op)[m]? = some t := ⟨_, List.getElem?_eq_getElem (by omega)⟩
    exact known_of h hid (each3.mem_instr hq hj hm ht)
  · rcases ht with ht | ht
    · exact known_of h hid (each3.mem_term (u := (q.term.val, 2)) hq (by unfold usesTerm; rw [if_pos ht]; exact List.mem_singleton.2 rfl))
    · exact known_of h hid (each3.mem_term (u := (q.term.val, 0)) hq (by unfold usesTerm; rw [if_neg (by omega), if_pos ht]; exact List.mem_singleton.2 rfl))

/-- what is made at m comes ahead of a place -/
def aheadP (bs : List BlockM) (o : List Nat) (m : Nat × Int) (ub : Nat) (ua : Int) : Prop := (m.1 = ub ∧ m.2 < ua) ∨ (m.1 ≠ ub ∧ OverP bs o m.1 ub)

def okP (f : FuncM) (o : List Nat) (id : Int) (ub : Nat) (ua : Int) : Prop := ∀ m, (placedM f).last id = some m → aheadP f.blocks o m ub ua

structure UsesP (f : FuncM) (o : List Nat) (b : Nat) (q : BlockM) : Prop where
  phi : ∀ p ∈ q.phis, ∀ (i : Nat) (id : Int) (fr : Nat) (q' : BlockM), p.vals[i]? = some id → p.fr[i]? = some (fr : Int) → f.blocks[fr]? = some q' → okP f o id fr q'.code.length
  arg : ∀ (i : Nat) (x : InstrM), q.code[i]? = some x → ∀ id ∈ x.args, okP f o id b i
  term : q.term.op = 2 ∨ q.term.op = 3 → okP f o q.term.val b q.code.length

def usesPR (f : FuncM) (o : List Nat) (b : Nat) : Prop := ∀ q, f.blocks[b]? = some q → UsesP f o b q

/-- what Check of strict form answers -/
def CheckIs (f : FuncM) (r : Int × Int) : Prop :=
  ((lookM f).1 ≠ 0 ∧ r = (0, (lookM f).1)) ∨ ((lookM f).1 = 0 ∧ ∃ o, OrderIs f.blocks o ∧ FaultIs f.blocks.length (· ∈ o) (phisR f) (usesPR f o) r)

theorem CheckIs.one {f : FuncM} {r s : Int × Int} (h : CheckIs f r) (k : CheckIs f s) : r = s := by
  rcases h with ⟨h1, rfl⟩ | ⟨h1, o, ho, hf⟩
  · rcases k with ⟨_, rfl⟩ | ⟨k1, _⟩
    · rfl
    · exact absurd k1 h1
  · rcases k with ⟨k1, _⟩ | ⟨_, o', ho', kf⟩
    · exact absurd h1 k1
    · have := ho.one ho'
      subst this
      exact hf.one (fun _ _ => Iff.rfl) (fun _ _ => Iff.rfl) (fun _ _ _ => Iff.rfl) kf

theorem okAt_iff {f : FuncM} {o : List Nat} {pl : Nat → Nat} {par : Nat → Option Nat} {F L : Nat → Int} (hn : 0 < f.blocks.length) (hO : Ord (succM f.blocks) o pl) (hD : Done (succM f.blocks) o pl par) (hN : Numbered o par F L) (hall : ∀ b, b < f.blocks.length → b ∈ o)
    {id : Int} {ub : Nat} {ua : Int} (hub : ub < f.blocks.length) : okAt f F L id ub ua ↔ okP f o id ub ua := by
  unfold okAt okP
  refine forall_congr' fun m => forall_congr' fun hm => ?_
  have hml := made_lt hn (last_made hm)
  have hd : domB F L m.1 ub = true ↔ OverP f.blocks o m.1 ub := by
    unfold domB
    rw [over_anc hO hD (hall ub hub), Bool.and_eq_true, decide_eq_true_iff, decide_eq_true_iff]
    exact hN.over m.1 (hall _ hml) ub (hall ub hub)
  unfold aheadB aheadP
  by_cases h : m.1 = ub
  · rw [if_pos h, decide_eq_true_iff]
    exact ⟨fun k => .inl ⟨h, k⟩, fun k => k.elim (fun k => k.2) (fun k => absurd h k.1)⟩
  · rw [if_neg h, hd]
    exact ⟨fun k => .inr ⟨h, k⟩, fun k => k.elim (fun k => absurd k.1 h) (fun k => k.2)⟩

theorem usesR_iff {f : FuncM} {o : List Nat} {pl : Nat → Nat} {par : Nat → Option Nat} {F L : Nat → Int} (hn : 0 < f.blocks.length) (hO : Ord (succM f.blocks) o pl) (hD : Done (succM f.blocks) o pl par) (hN : Numbered o par F L) (hall : ∀ b, b < f.blocks.length → b ∈ o)
    {b : Nat} (hb : b < f.blocks.length) : usesR f F L b ↔ usesPR f o b := by
  refine forall_congr' fun q => forall_congr' fun hq => ?_
  have H := @okAt_iff f o pl par F L hn hO hD hN hall
  constructor
  · rintro ⟨h1, h2, h3⟩
    exact ⟨fun p hp i id fr q' a b c => (H (List.getElem?_eq_some_iff.1 c).1).1 (h1 p hp i id fr q' a b c), fun i x a id c => (H hb).1 (h2 i x a id c), fun a => (H hb).1 (h3 a)⟩
  · rintro ⟨h1, h2, h3⟩
    exact ⟨fun p hp i id fr q' a b c => (H (List.getElem?_eq_some_iff.1 c).1).2 (h1 p hp i id fr q' a b c), fun i x a id c => (H hb).2 (h2 i x a id c), fun a => (H hb).2 (h3 a)⟩

theorem FaultIs.change {n : Nat} {R0 R1 R2 S2 : Nat → Prop} (h2 : (∀ b, b < n → R0 b) → ∀ b, b < n → (R2 b ↔ S2 b)) {r : Int × Int} (h : FaultIs n R0 R1 R2 r) : FaultIs n R0 R1 S2 r := by
  rcases h with h | h | ⟨a0, a1, b, ⟨hb, hn, hl⟩, rfl⟩ | ⟨a0, a1, a2, rfl⟩
  · exact .inl h
  · exact .inr (.inl h)
  · exact .inr (.inr (.inl ⟨a0, a1, b, ⟨hb, fun h => hn ((h2 a0 b hb).2 h), fun a ha => (h2 a0 a (by omega)).1 (hl a ha)⟩, rfl⟩))
  · exact .inr (.inr (.inr ⟨a0, a1, fun b hb => (h2 a0 b hb).1 (a2 b hb), rfl⟩))

def CheckPost (f : FuncM) (w : World) (e : Ending) (w' : World) : Prop := ∃ x y : Int, e = .returned (.tuple #[.int .i64 x, .int .i64 y]) ∧ CheckIs f (x, y) ∧ Below w.heap.size w w'

set_option maxRecDepth 100000 in
set_option maxHeartbeats 2000000 in
theorem sCheck_any (f : FuncM) (B : Nat) (pv bv : Value) (w : World) (hpv : Ints w B pv f.params) (hbv : BlocksR w B bv f.blocks) (hB : B ≤ w.heap.size) (hid : ∀ u ∈ usesM f, I64 u.1) :
    Calls Tryz.prog 29 #[.agg #[pv, .int .i64 f.arrays, .int .i64 f.cells, bv]] w (CheckPost f w) := by
  have HP := hideI hpv
  have HBL := hideI hbv
  have HID := hideI hid
  obtain ⟨P, pc, rfl, _⟩ := hpv
  obtain ⟨A, c, rfl, hbm, _⟩ := hbv
  have HB0 : Hid (Below w.heap.size w (w.alloc (.cells #[.slice P f.params.length pc, .int .i64 f.arrays, .int .i64 f.cells, .slice A f.blocks.length c] 25))) := (Below.refl _ w).alloc (Nat.le_refl _) _
  have HF := hideI (functionOf_any f B _ _ (w.alloc (.cells #[.slice P f.params.length pc, .int .i64 f.arrays, .int .i64 f.cells, .slice A f.blocks.length c] 25)) (HP.out.keeps (Keeps.of_below (HB0.out.mono hB))) (HBL.out.keeps (Keeps.of_below (HB0.out.mono hB))) (by simp; omega) HID.out)
  clear hid
  by_cases h0 : (lookM f).1 = 0
  · have H0 := hideI h0
    have hnb := look_some_block h0
    have hn5 := hnb.2
    have hn0 := hnb.1
    clear h0 hnb
    go_enter Tryz.func29, Tryz.ntmps29
    go_wp2_with (first
      | (go_at_call 50; go_must (refine HF.out.mono ?_); rintro e w1 (⟨hbad, _⟩ | ⟨_, o, pl, par, capo, gF, gL, gp, M, F, L, rfl, hfs, hdone, hnum, hsf, hb1⟩); (exact absurd H0.out hbad); have HFS := hideI hfs; have HDONE := hideI hdone; have HNUM := hideI hnum; have HSF := hideI hsf; have HB1 := hideI (HB0.out.trans (hb1.mono (by simp))); clear hfs hdone hnum hsf hb1)
      | (go_at_call 51; go_must (refine (fault_any f o par w1.heap.size (.slice P f.params.length pc) (.slice A f.blocks.length c) gF gL gp M F L _ (HSF.out.kept ((Below.refl _ _).alloc (Nat.le_refl _) _)) (by simp) hn5 (uses_known H0.out HID.out) HNUM.out P _ _ rfl).mono ?_); rintro e w2 ⟨x, y, rfl, hfi, hb2⟩; have HFI := hideI hfi; have HB2 := hideI ((HB1.out.alloc HB1.out.size _).trans (hb2.mono (by have := HB1.out.size; simp; omega))); clear hfi hb2))
    go_ret2
    exact ⟨x, y, rfl, .inr ⟨H0.out, o, HFS.out.order, HFI.out.change (fun hall b hb => usesR_iff hn0 HFS.out.ord HDONE.out HNUM.out hall hb)⟩, HB2.out⟩
  · have H0 := hideI h0
    have hb : ((lookM f).1 != 0) = true := by simpa using h0
    clear h0
    go_enter Tryz.func29, Tryz.ntmps29
    go_wp2_with (go_at_call 50; go_must (refine HF.out.mono ?_); rintro e w1 (⟨_, rfl, hb1⟩ | ⟨hbad, _⟩); rotate_left; (exact absurd hbad H0.out); have HB1 := hideI (HB0.out.trans (hb1.mono (by simp))); clear hb1)
    go_ret2
    exact ⟨_, _, rfl, .inl ⟨H0.out, rfl⟩, HB1.out.alloc HB1.out.size _⟩

end Go.Proofs.YtncmnbchkabgaaaGreat

namespace Go.Proofs.YtncmnbchkabgaaaGreat
open Go.RowKit Go.Maps

/-- a trace, as it lies -/
def TraceAt (base : Nat) (w : World) (v : Value) (s : StM) (en : EndM) : Prop :=
  ∃ (nv : Nat) (val : MVals), v = .agg #[.int .i64 en.1, .int .i64 en.2.1, .int .i64 en.2.2, val .out, val .arrs, .int .i64 s.steps, .int .i64 s.checks, val .vis] ∧ ∀ t d, mRow s nv val t = some d → w.ownsRow base d.elem 1 (val t) d.len d.cells

theorem owns_from {w : World} {b base : Nat} {e : TypeId} {size : Nat} {v : Value} {n : Nat} {xs : List Value} (h : w.ownsRow b e size v n xs) (hg : ∀ g, v.ownBlock = some g → base ≤ g) : w.ownsRow base e size v n xs := by
  refine ⟨h.1, ?_⟩
  rcases h.2 with h2 | ⟨g, cap, cur, hv, _, r⟩
  · exact .inl h2
  · exact .inr ⟨g, cap, cur, hv, hg g (by rw [hv]; rfl), r⟩

/-- what Run answers -/
def RunIs (f : FuncM) (I : InM) (F : Nat) (w : World) (e : Ending) (w' : World) : Prop :=
  ∃ v s en, e = .returned v ∧ EndIs f I (min F 200000) s en ∧ TraceAt w.heap.size w' v s en ∧ Below w.heap.size w w'

theorem row_form {w : World} {base : Nat} {e : TypeId} {size : Nat} {v : Value} {n : Nat} {xs : List Value} (h : w.ownsRow base e size v n xs) : ∃ A cp, v = .slice A n cp := by
  rcases h.2 with ⟨e, e0⟩ | ⟨g, cap, cur, e, _⟩
  · exact ⟨none, 0, by rw [e, e0]⟩
  · exact ⟨_, _, e⟩

/-- a trace is laid -/
theorem eight_set {w : World} {g : Nat} {a0 a1 a2 a3 a4 a5 a6 a7 : Value} {T : TypeId} (h : w.heap[g]? = some (.cells #[a0, a1, a2, a3, a4, a5, a6, a7] T (0, 0))) (v0 v1 v2 v3 v4 v5 v6 v7 : Value) {W : World}
    (hW : W = (((((((w.setCell ⟨g, 0, none⟩ v0).setCell ⟨g, 1, none⟩ v1).setCell ⟨g, 2, none⟩ v2).setCell ⟨g, 3, none⟩ v3).setCell ⟨g, 4, none⟩ v4).setCell ⟨g, 5, none⟩ v5).setCell ⟨g, 6, none⟩ v6).setCell ⟨g, 7, none⟩ v7) :
    W.heap[g]? = some (.cells #[v0, v1, v2, v3, v4, v5, v6, v7] T (0, 0)) ∧ (∀ b, b ≠ g → W.heap[b]? = w.heap[b]?) ∧ (∀ B, B ≤ g → Below B w W) := by
  subst hW
  have h0 := heap_setCell_same w g 0 _ _ v0 h
  have h1 := heap_setCell_same _ g 1 _ _ v1 h0
  have h2 := heap_setCell_same _ g 2 _ _ v2 h1
  have h3 := heap_setCell_same _ g 3 _ _ v3 h2
  have h4 := heap_setCell_same _ g 4 _ _ v4 h3
  have h5 := heap_setCell_same _ g 5 _ _ v5 h4
  have h6 := heap_setCell_same _ g 6 _ _ v6 h5
  have h7 := heap_setCell_same _ g 7 _ _ v7 h6
  refine ⟨h7.trans (by simp), fun b hb => ?_, fun B hB => ?_⟩
  · rw [Below.heap_setCell _ _ _ _ (by exact hb), Below.heap_setCell _ _ _ _ (by exact hb), Below.heap_setCell _ _ _ _ (by exact hb), Below.heap_setCell _ _ _ _ (by exact hb), Below.heap_setCell _ _ _ _ (by exact hb), Below.heap_setCell _ _ _ _ (by exact hb), Below.heap_setCell _ _ _ _ (by exact hb), Below.heap_setCell _ _ _ _ (by exact hb)]
  · exact ((((((((Below.refl B w).setCell (p := ⟨g, 0, none⟩) hB v0).setCell (p := ⟨g, 1, none⟩) hB v1).setCell (p := ⟨g, 2, none⟩) hB v2).setCell (p := ⟨g, 3, none⟩) hB v3).setCell (p := ⟨g, 4, none⟩) hB v4).setCell (p := ⟨g, 5, none⟩) hB v5).setCell (p := ⟨g, 6, none⟩) hB v6).setCell (p := ⟨g, 7, none⟩) hB v7

set_option maxRecDepth 100000 in
set_option maxHeartbeats 4000000 in
theorem irun_yes (f : FuncM) (I : InM) (B : Nat) (pv bv av rv : Value) (F : Nat) (w : World) (hpv : Ints w B pv f.params) (hbv : BlocksR w B bv f.blocks) (hB : B ≤ w.heap.size) (hid : ∀ u ∈ usesM f, I64 u.1)
    (hstr : CheckIs f (0, 0)) (hok : FOk f (roomM f).toNat) (hfit : Fit f (startS f I))
    (hr : ∀ x ∈ idsOut f, 0 ≤ x ∧ x ≤ 1048575) (hpar : f.params.length ≤ 16 ∧ (f.params.length : Int) ≤ roomM f) (hcel : 0 ≤ f.cells ∧ f.cells ≤ 64) (harr : 0 ≤ f.arrays ∧ f.arrays ≤ 8) (hnb : f.blocks.length ≤ 512)
    (ha : Ints w B av I.args) (hT : ∀ W, Keeps B w W → TakeArrs f I B W rv) (A2 : Option Addr) (rl rc : Nat) (hrv : rv = .slice A2 rl rc) :
    Calls Tryz.prog 10 #[.agg #[pv, .int .i64 f.arrays, .int .i64 f.cells, bv], .agg #[av, rv], .int .i64 F] w (RunIs f I F w) := by
  have HPV := hideI hpv
  have HBV := hideI hbv
  have HAV := hideI ha
  obtain ⟨P, pc, rfl, _, _⟩ := hpv
  obtain ⟨A, cc, rfl, _, _⟩ := hbv
  obtain ⟨A1, ac, rfl, _, _⟩ := ha
  subst hrv
  obtain ⟨np, hnp⟩ : ∃ n : Nat, n = f.params.length := ⟨_, rfl⟩
  obtain ⟨nb, hnbN⟩ : ∃ n : Nat, n = f.blocks.length := ⟨_, rfl⟩
  obtain ⟨ni, hni⟩ : ∃ n : Nat, n = I.args.length := ⟨_, rfl⟩
  obtain ⟨W1, hW1⟩ : ∃ W1, W1 = ((w.alloc (.cells #[.slice P np pc, .int .i64 f.arrays, .int .i64 f.cells, .slice A nb cc] 25)).alloc (.cells #[.slice A1 ni ac, .slice A2 rl rc] 28)).alloc (.cells #[.int .i64 0, .int .i64 0, .int .i64 0, .slice none 0 0, .slice none 0 0, .int .i64 0, .int .i64 0, .slice none 0 0] 32) := ⟨_, rfl⟩
  have hb1 : Below w.heap.size w W1 := by rw [hW1]; exact (((Below.refl _ w).alloc (Nat.le_refl _) _).alloc (by simp) _).alloc (by simp; omega) _
  have hs1 : W1.heap.size = w.heap.size + 3 := by rw [hW1]; simp
  have hf0 : W1.heap[w.heap.size]? = some (.cells #[.slice P np pc, .int .i64 f.arrays, .int .i64 f.cells, .slice A nb cc] 25 (0, 0)) := by
    rw [hW1, Below.heap_alloc _ _ _ (by simp; omega), Below.heap_alloc _ _ _ (by simp)]
    exact heap_alloc_new w _
  have hi0 : W1.heap[w.heap.size + 1]? = some (.cells #[.slice A1 ni ac, .slice A2 rl rc] 28 (0, 0)) := by
    rw [hW1, Below.heap_alloc _ _ _ (by simp)]
    have := heap_alloc_new (w.alloc (.cells #[.slice P np pc, .int .i64 f.arrays, .int .i64 f.cells, .slice A nb cc] 25)) (.cells #[.slice A1 ni ac, .slice A2 rl rc] 28)
    simpa using this
  have ht0 : W1.heap[w.heap.size + 2]? = some (.cells #[.int .i64 0, .int .i64 0, .int .i64 0, .slice none 0 0, .slice none 0 0, .int .i64 0, .int .i64 0, .slice none 0 0] 32 (0, 0)) := by
    rw [hW1]
    have := heap_alloc_new ((w.alloc (.cells #[.slice P np pc, .int .i64 f.arrays, .int .i64 f.cells, .slice A nb cc] 25)).alloc (.cells #[.slice A1 ni ac, .slice A2 rl rc] 28)) (.cells #[.int .i64 0, .int .i64 0, .int .i64 0, .slice none 0 0, .slice none 0 0, .int .i64 0, .int .i64 0, .slice none 0 0] 32)
    simpa using this
  have HBX : Hid (∀ W, Below W1.heap.size W1 W → (W.cell? ⟨w.heap.size, 0, none⟩ = some (.slice P np pc) ∧ W.cell? ⟨w.heap.size, 1, none⟩ = some (.int .i64 f.arrays) ∧ W.cell? ⟨w.heap.size, 2, none⟩ = some (.int .i64 f.cells) ∧ W.cell? ⟨w.heap.size, 3, none⟩ = some (.slice A nb cc)) ∧ W.cell? ⟨w.heap.size + 1, 0, none⟩ = some (.slice A1 ni ac) ∧ W.cell? ⟨w.heap.size + 1, 1, none⟩ = some (.slice A2 rl rc)) := hideI fun W hW => by
    have hx := row_cells hf0 (hW.block _ (by omega))
    have hy := row_cells hi0 (hW.block _ (by omega))
    exact ⟨⟨hx 0, hx 1, hx 2, hx 3⟩, hy 0, hy 1⟩
  have hk1 : Keeps B w W1 := Keeps.of_below (hb1.mono hB)
  have HKW : Hid (∀ W, Below W1.heap.size W1 W → Keeps B w W) := hideI fun W hW => hk1.trans (Keeps.of_below (hW.mono (by omega)))
  have HCHK : Hid (Calls Tryz.prog 29 #[.agg #[.slice P np pc, .int .i64 f.arrays, .int .i64 f.cells, .slice A nb cc]] W1 fun e w' => e = .returned (.tuple #[.int .i64 0, .int .i64 0]) ∧ Below W1.heap.size W1 w') := hideI (by
    have h := sCheck_any f B _ _ W1 (HPV.out.keeps hk1) (HBV.out.keeps hk1) (by omega) hid
    rw [← hnp, ← hnbN] at h
    refine h.mono ?_
    rintro e w' ⟨x, y, rfl, hc, hb⟩
    have h1 := hc.one hstr
    injection h1 with h1 h2
    subst h1 h2
    exact ⟨rfl, hb⟩)
  obtain ⟨F2, hF2⟩ : ∃ F2 : Nat, F2 = min F 200000 := ⟨_, rfl⟩
  have HMO : Hid (∀ W, Below W1.heap.size W1 W → Calls Tryz.prog 30 #[.agg #[.slice P np pc, .int .i64 f.arrays, .int .i64 f.cells, .slice A nb cc], .agg #[.slice A1 ni ac, .slice A2 rl rc], .int .i64 F2] W (MachPost f I B (.slice A nb cc) F2 W)) := hideI fun W hW => by
    have hk := HKW.out W hW
    have h := machineOf_any f I B _ _ _ _ F2 W (HPV.out.keeps hk) (HBV.out.keeps hk) (by have := hW.size; omega) hid hr hpar hcel harr hnb (HAV.out.keeps hk) (hT W hk) A2 rl rc rfl
    rw [← hnp, ← hnbN, ← hni] at h
    exact h
  have HRUN : Hid (∀ (c : MachC) (W : World) (val : MVals), c.f = f → c.nv = (roomM f).toNat → c.fuel = F2 → MachR c (fun b => b < W1.heap.size ∨ b = c.M) W val (startS f I) → Calls Tryz.prog 31 #[.pointer (some ⟨c.m, 0, none⟩)] W (RunPost c (fun b => b < W1.heap.size ∨ b = c.M) I F2 W)) := hideI fun c W val h1 h2 h3 h4 => by
    subst h1
    exact run_any h4 I F2 h3 (by omega) (by rw [h2]; exact hok) hfit rfl
  have HW1 := hideI hW1
  have HB1 := hideI hb1
  have HS1 := hideI hs1
  have HT0 := hideI ht0
  have HF2 := hideI hF2
  have hbx := HBX.out W1 (Below.refl _ _)
  obtain ⟨⟨q0, q1, q2, q3⟩, q4, q5⟩ := hbx
  have hlt0 : w.heap.size < W1.heap.size := by omega
  have hlt1 : w.heap.size + 1 < W1.heap.size := by omega
  have hlt2 : w.heap.size + 2 < W1.heap.size := by omega
  have hfu : decide ((F : Int) < 0) = false := by simp
  have hmin : min (F : Int) 200000 = (F2 : Int) := by have := hF2; omega
  rw [← hnp, ← hnbN, ← hni]
  clear hnp hnbN hni hb1 hs1 hf0 hi0 ht0 hk1 hstr hok hfit hr hpar hcel harr hnb hT hF2 hW1 hid
  go_enter Tryz.func10, Tryz.ntmps10
  go_upto_region 1 with fail
  rw [← HW1.out]
  go_upto_region 4 with (first
    | (go_at_call 29; refine HCHK.out.mono ?_; rintro e w2 ⟨rfl, hb2⟩; have HB2 := hideI hb2; clear hb2 q0 q1 q2 q3 q4 q5; have qq := HBX.out w2 HB2.out; obtain ⟨⟨q0, q1, q2, q3⟩, q4, q5⟩ := qq))
  have hkf5 : ∀ b, b < B → b < W1.heap.size := fun b hb => by omega
  have HKF5 := hideI hkf5
  rw [← hmin] at HMO
  have HMIN := hideI hmin
  clear hmin hkf5
  go_wp2_with (first
      | (go_at_call 30; go_must (refine (HMO.out _ HB2.out).mono ?_); rintro e w3 ⟨c, val, rfl, hcf, hcB, hcn, hcF, hm, hb3⟩; have HB3 := hideI (HB2.out.trans (hb3.mono HB2.out.size)); have HM3 : Hid (MachR c (fun b => b < W1.heap.size ∨ b = c.M) w3 val (startS f I)) := hideI (hm.less (fun b hb => by rcases hb with hb | hb; exact .inl (Nat.lt_of_lt_of_le hb HB2.out.size); exact .inr hb) (fun b hb => .inl (HKF5.out b (by rw [← hcB]; exact hb))) (.inr rfl)); have HCF := hideI (And.intro hcf (And.intro hcn hcF)); clear hm hb3 hcf hcB hcn hcF q0 q1 q2 q3 q4 q5)
      | (go_at_call 31; go_must (refine (HRUN.out c _ val HCF.out.1 HCF.out.2.1 HCF.out.2.2 HM3.out).mono ?_); rintro e w4 ⟨rfl, val4, s4, en4, hend, hdone, hoff, hkf⟩; have HOFF := hideI hoff; have HEND := hideI hend; have HDONE := hideI hdone; have HB4 := hideI (HB3.out.trans (hkf.below (fun b hb => .inl hb))); have hmne := HM3.out.offm; clear hend hkf hoff; obtain ⟨⟨o8, o9, o10, o11, o12, hblk⟩, hrows⟩ := hdone; have hx := row_cells hblk rfl; have x0 := hx 0; have x1 := hx 1; have x2 := hx 2; have x3 := hx 3; have x4 := hx 4; have x5 := hx 5; have x6 := hx 6; have x7 := hx 7; obtain ⟨Ao, co, ho⟩ := row_form (hrows .out _ rfl); obtain ⟨Aa, ca, ha⟩ := row_form (hrows .arrs _ rfl); obtain ⟨Av, cv, hv⟩ := row_form (hrows .vis _ rfl); have ho : val4 .out = .slice Ao s4.out.length co := ho; have hv : val4 .vis = .slice Av s4.vis.length cv := hv; rw [ho] at x3; rw [ha] at x4; rw [hv] at x7; have HVV := hideI (And.intro ho (And.intro ha hv)); clear ho ha hv; have hbt := (HB4.out.block (w.heap.size + 1 + 1) (by omega)).trans HT0.out; have hy := row_cells hbt rfl; have hz := fun o => frozen_of_row w4 (w.heap.size + 1 + 1) o _ _ hbt; have y0 := hy 0; have y1 := hy 1; have y2 := hy 2; have y3 := hy 3; have y4 := hy 4; have y5 := hy 5; have y6 := hy 6; have y7 := hy 7; have z0 := hz 0; have z1 := hz 1; have z2 := hz 2; have z3 := hz 3; have z4 := hz 4; have z5 := hz 5; have z6 := hz 6; have z7 := hz 7; have HBT := hideI hbt; clear hx hy hz hblk hrows hbt))
  obtain ⟨W8, hW8⟩ : ∃ W8, W8 = (((((((w4.setCell ⟨w.heap.size + 1 + 1, 0, none⟩ (.int .i64 en4.1)).setCell ⟨w.heap.size + 1 + 1, 1, none⟩ (.int .i64 en4.2.1)).setCell ⟨w.heap.size + 1 + 1, 2, none⟩ (.int .i64 en4.2.2)).setCell ⟨w.heap.size + 1 + 1, 3, none⟩ (.slice Ao s4.out.length co)).setCell ⟨w.heap.size + 1 + 1, 4, none⟩ (.slice Aa s4.arrs.length ca)).setCell ⟨w.heap.size + 1 + 1, 5, none⟩ (.int .i64 s4.steps)).setCell ⟨w.heap.size + 1 + 1, 6, none⟩ (.int .i64 s4.checks)).setCell ⟨w.heap.size + 1 + 1, 7, none⟩ (.slice Av s4.vis.length cv) := ⟨_, rfl⟩
  rw [← hW8]
  obtain ⟨hb8, ho8, hbe8⟩ := eight_set HBT.out _ _ _ _ _ _ _ _ hW8
  have hx := row_cells hb8 rfl
  have s0 := hx 0
  have s1 := hx 1
  have s2 := hx 2
  have s3 := hx 3
  have s4' := hx 4
  have s5 := hx 5
  have s6 := hx 6
  have s7 := hx 7
  clear hx hW8 x0 x1 x2 x3 x4 x5 x6 x7 y0 y1 y2 y3 y4 y5 y6 y7 z0 z1 z2 z3 z4 z5 z6 z7
  refine bodyPost_ret (v := .agg #[.int .i64 en4.1, .int .i64 en4.2.1, .int .i64 en4.2.2, .slice Ao s4.out.length co, .slice Aa s4.arrs.length ca, .int .i64 s4.steps, .int .i64 s4.checks, .slice Av s4.vis.length cv]) (by simp [results, Tryz.results10, go_sem, s0, s1, s2, s3, s4', s5, s6, s7]) rfl ?_
  refine ⟨_, s4, en4, rfl, by rw [← HF2.out]; exact (by have h := HEND.out; rw [HCF.out.1] at h; exact h), ⟨c.nv, val4, by rw [HVV.out.1, HVV.out.2.1, HVV.out.2.2], fun t d ht => ?_⟩, ?_⟩
  · refine owns_from (owns_kept (HDONE.out.rows t d ht) fun g hg => ho8 g (fun e => HOFF.out t d g ht hg (.inl ?_))) fun g hg => Nat.le_of_not_lt fun hlt => HOFF.out t d g ht hg (.inl (by omega))
    rw [e]
    exact hlt2
  · exact HB1.out.trans ((HB4.out.mono (by have := HS1.out; omega)).trans (hbe8 _ (by omega)))
end Go.Proofs.YtncmnbchkabgaaaGreat

namespace Go.Proofs.YtncmnbchkabgaaaGreat
open Go.RowKit Go.Maps

/-- a refused run's trace -/
def refusedV : Value := .agg #[.int .i64 6, .int .i64 0, .int .i64 0, .slice none 0 0, .slice none 0 0, .int .i64 0, .int .i64 0, .slice none 0 0]

set_option maxRecDepth 100000 in
set_option maxHeartbeats 4000000 in
theorem irun_no (f : FuncM) (B : Nat) (pv bv iv jv : Value) (F : Int) (w : World) (hpv : Ints w B pv f.params) (hbv : BlocksR w B bv f.blocks) (hB : B ≤ w.heap.size) (hid : ∀ u ∈ usesM f, I64 u.1)
    (hno : ¬ CheckIs f (0, 0) ∨ F < 0) (A1 A2 : Option Addr) (ni ac rl rc : Nat) (hiv : iv = .slice A1 ni ac) (hjv : jv = .slice A2 rl rc) :
    Calls Tryz.prog 10 #[.agg #[pv, .int .i64 f.arrays, .int .i64 f.cells, bv], .agg #[iv, jv], .int .i64 F] w fun e w' => e = .returned refusedV ∧ Below w.heap.size w w' := by
  have HPV := hideI hpv
  have HBV := hideI hbv
  obtain ⟨P, pc, rfl, _, _⟩ := hpv
  obtain ⟨A, cc, rfl, _, _⟩ := hbv
  subst hiv hjv
  obtain ⟨np, hnp⟩ : ∃ n : Nat, n = f.params.length := ⟨_, rfl⟩
  obtain ⟨nb, hnbN⟩ : ∃ n : Nat, n = f.blocks.length := ⟨_, rfl⟩
  obtain ⟨W1, hW1⟩ : ∃ W1, W1 = ((w.alloc (.cells #[.slice P np pc, .int .i64 f.arrays, .int .i64 f.cells, .slice A nb cc] 25)).alloc (.cells #[.slice A1 ni ac, .slice A2 rl rc] 28)).alloc (.cells #[.int .i64 0, .int .i64 0, .int .i64 0, .slice none 0 0, .slice none 0 0, .int .i64 0, .int .i64 0, .slice none 0 0] 32) := ⟨_, rfl⟩
  have hb1 : Below w.heap.size w W1 := by rw [hW1]; exact (((Below.refl _ w).alloc (Nat.le_refl _) _).alloc (by simp) _).alloc (by simp; omega) _
  have hs1 : W1.heap.size = w.heap.size + 3 := by rw [hW1]; simp
  have hf0 : W1.heap[w.heap.size]? = some (.cells #[.slice P np pc, .int .i64 f.arrays, .int .i64 f.cells, .slice A nb cc] 25 (0, 0)) := by
    rw [hW1, Below.heap_alloc _ _ _ (by simp; omega), Below.heap_alloc _ _ _ (by simp)]
    exact heap_alloc_new w _
  have hi0 : W1.heap[w.heap.size + 1]? = some (.cells #[.slice A1 ni ac, .slice A2 rl rc] 28 (0, 0)) := by
    rw [hW1, Below.heap_alloc _ _ _ (by simp)]
    have := heap_alloc_new (w.alloc (.cells #[.slice P np pc, .int .i64 f.arrays, .int .i64 f.cells, .slice A nb cc] 25)) (.cells #[.slice A1 ni ac, .slice A2 rl rc] 28)
    simpa using this
  have ht0 : W1.heap[w.heap.size + 2]? = some (.cells #[.int .i64 0, .int .i64 0, .int .i64 0, .slice none 0 0, .slice none 0 0, .int .i64 0, .int .i64 0, .slice none 0 0] 32 (0, 0)) := by
    rw [hW1]
    have := heap_alloc_new ((w.alloc (.cells #[.slice P np pc, .int .i64 f.arrays, .int .i64 f.cells, .slice A nb cc] 25)).alloc (.cells #[.slice A1 ni ac, .slice A2 rl rc] 28)) (.cells #[.int .i64 0, .int .i64 0, .int .i64 0, .slice none 0 0, .slice none 0 0, .int .i64 0, .int .i64 0, .slice none 0 0] 32)
    simpa using this
  have HBX : Hid (∀ W, Below W1.heap.size W1 W → (W.cell? ⟨w.heap.size, 0, none⟩ = some (.slice P np pc) ∧ W.cell? ⟨w.heap.size, 1, none⟩ = some (.int .i64 f.arrays) ∧ W.cell? ⟨w.heap.size, 2, none⟩ = some (.int .i64 f.cells) ∧ W.cell? ⟨w.heap.size, 3, none⟩ = some (.slice A nb cc)) ∧ W.cell? ⟨w.heap.size + 1, 0, none⟩ = some (.slice A1 ni ac) ∧ W.cell? ⟨w.heap.size + 1, 1, none⟩ = some (.slice A2 rl rc)) := hideI fun W hW => by
    have hx := row_cells hf0 (hW.block _ (by omega))
    have hy := row_cells hi0 (hW.block _ (by omega))
    exact ⟨⟨hx 0, hx 1, hx 2, hx 3⟩, hy 0, hy 1⟩
  have hk1 : Keeps B w W1 := Keeps.of_below (hb1.mono hB)
  have HKW : Hid (∀ W, Below W1.heap.size W1 W → Keeps B w W) := hideI fun W hW => hk1.trans (Keeps.of_below (hW.mono (by omega)))
  have HCHK : Hid (Calls Tryz.prog 29 #[.agg #[.slice P np pc, .int .i64 f.arrays, .int .i64 f.cells, .slice A nb cc]] W1 fun e w' => ∃ x y : Int, e = .returned (.tuple #[.int .i64 x, .int .i64 y]) ∧ (y = 0 → F < 0) ∧ Below W1.heap.size W1 w') := hideI (by
    have h := sCheck_any f B _ _ W1 (HPV.out.keeps hk1) (HBV.out.keeps hk1) (by omega) hid
    rw [← hnp, ← hnbN] at h
    refine h.mono ?_
    rintro e w' ⟨x, y, rfl, hc, hb⟩
    refine ⟨x, y, rfl, fun e => ?_, hb⟩
    subst e
    rcases hno with hn | hn
    · refine absurd ?_ hn
      rcases hc with ⟨h1, h2⟩ | ⟨h0, o, ho, hf⟩
      · exact absurd (Prod.mk.inj h2).2.symm h1
      · rcases hf with ⟨b, _, e⟩ | ⟨_, b, _, e⟩ | ⟨_, _, b, _, e⟩ | ⟨a0, a1, a2, e⟩
        · exact absurd (Prod.mk.inj e).2 (by decide)
        · exact absurd (Prod.mk.inj e).2 (by decide)
        · exact absurd (Prod.mk.inj e).2 (by decide)
        · exact .inr ⟨h0, o, ho, .inr (.inr (.inr ⟨a0, a1, a2, rfl⟩))⟩
    · exact hn)
  have HW1 := hideI hW1
  have HB1 := hideI hb1
  have HS1 := hideI hs1
  have HT0 := hideI ht0
  have hbx := HBX.out W1 (Below.refl _ _)
  obtain ⟨⟨q0, q1, q2, q3⟩, q4, q5⟩ := hbx
  have hlt0 : w.heap.size < W1.heap.size := by omega
  have hlt1 : w.heap.size + 1 < W1.heap.size := by omega
  have hlt2 : w.heap.size + 2 < W1.heap.size := by omega
  rw [← hnp, ← hnbN]
  clear hnp hnbN hb1 hs1 hf0 hi0 ht0 hk1 hno hW1 hid
  go_enter Tryz.func10, Tryz.ntmps10
  go_upto_region 1 with fail
  rw [← HW1.out]
  go_upto_region 4 with (first
    | (go_at_call 29; refine HCHK.out.mono ?_; rintro e w2 ⟨x, y, rfl, hy, hb2⟩; have HB2 := hideI hb2; have HY := hideI hy; clear hb2 hy q0 q1 q2 q3 q4 q5; have qq := HBX.out w2 HB2.out; obtain ⟨⟨q0, q1, q2, q3⟩, q4, q5⟩ := qq; have hbt := (HB2.out.block (w.heap.size + 1 + 1) (by omega)).trans HT0.out; have hyy := row_cells hbt rfl; have hz := fun o => frozen_of_row w2 (w.heap.size + 1 + 1) o _ _ hbt; have y0 := hyy 0; have y1 := hyy 1; have y2 := hyy 2; have y3 := hyy 3; have y4 := hyy 4; have y5 := hyy 5; have y6 := hyy 6; have y7 := hyy 7; have z0 := hz 0; have z1 := hz 1; have z2 := hz 2; have z3 := hz 3; have z4 := hz 4; have z5 := hz 5; have z6 := hz 6; have z7 := hz 7; have HBT := hideI hbt; clear hyy hz hbt))
  all_goals first
    | (exfalso; have h1 := HY.out ‹y = 0›; have h2 := ‹0 ≤ F›; omega)
    | skip
  all_goals
    obtain ⟨W8, hW8⟩ : ∃ W8, W8 = (((((((w2.setCell ⟨w.heap.size + 1 + 1, 0, none⟩ (.int .i64 6)).setCell ⟨w.heap.size + 1 + 1, 1, none⟩ (.int .i64 0)).setCell ⟨w.heap.size + 1 + 1, 2, none⟩ (.int .i64 0)).setCell ⟨w.heap.size + 1 + 1, 3, none⟩ (.slice none 0 0)).setCell ⟨w.heap.size + 1 + 1, 4, none⟩ (.slice none 0 0)).setCell ⟨w.heap.size + 1 + 1, 5, none⟩ (.int .i64 0)).setCell ⟨w.heap.size + 1 + 1, 6, none⟩ (.int .i64 0)).setCell ⟨w.heap.size + 1 + 1, 7, none⟩ (.slice none 0 0) := ⟨_, rfl⟩
    rw [← hW8]
    obtain ⟨hb8, _, hbe8⟩ := eight_set HBT.out _ _ _ _ _ _ _ _ hW8
    have hx := row_cells hb8 rfl
    have s0 := hx 0
    have s1 := hx 1
    have s2 := hx 2
    have s3 := hx 3
    have s4 := hx 4
    have s5 := hx 5
    have s6 := hx 6
    have s7 := hx 7
    clear hx hW8 y0 y1 y2 y3 y4 y5 y6 y7 z0 z1 z2 z3 z4 z5 z6 z7
    refine bodyPost_ret (v := refusedV) (by simp [results, Tryz.results10, go_sem, s0, s1, s2, s3, s4, s5, s6, s7, refusedV]) rfl ?_
    exact ⟨rfl, HB1.out.trans ((HB2.out.mono (by have := HS1.out; omega)).trans (hbe8 _ (by omega)))⟩
end Go.Proofs.YtncmnbchkabgaaaGreat

namespace Go.Proofs.YtncmnbchkabgaaaGreat
open Go.RowKit Go.Maps

theorem check_zero {f : FuncM} (h : CheckIs f (0, 0)) : (lookM f).1 = 0 ∧ (∀ b, b < f.blocks.length → phisR f b) := by
  rcases h with ⟨h1, h2⟩ | ⟨h0, o, ho, hf⟩
  · exact absurd (Prod.mk.inj h2).2.symm h1
  · rcases hf with ⟨b, _, e⟩ | ⟨_, b, _, e⟩ | ⟨_, _, b, _, e⟩ | ⟨a0, a1, a2, e⟩
    · exact absurd (Prod.mk.inj e).2 (by decide)
    · exact absurd (Prod.mk.inj e).2 (by decide)
    · exact absurd (Prod.mk.inj e).2 (by decide)
    · exact ⟨h0, a1⟩

/-- a value's number lies below the room -/
theorem value_room {f : FuncM} (h : (lookM f).1 = 0) {x : Int} (hx : x ∈ (valuesM f).map (·.1)) : 0 ≤ x ∧ x < ((roomM f).toNat : Int) := by
  have hv := formed_eq (look_formed h)
  rw [← hv] at hx
  obtain ⟨d, hd, rfl⟩ := List.mem_map.1 hx
  have h0 := ((formed_keys (look_formed h)).1 d hd).1
  have hm := idsS_mem.2 hx
  have hr : roomM f = match (idsS f).getLast? with | some x => x + 1 | none => 0 := by
    unfold roomM idsOut
    rw [if_pos h]
    rfl
  cases hl : (idsS f).getLast? with
  | none =>
    rw [List.getLast?_eq_none_iff] at hl
    rw [hl] at hm
    cases hm
  | some y =>
    have := last_max (idsS_sorted f) hl _ hm
    rw [hl] at hr
    simp only at hr
    omega

theorem used_room {f : FuncM} (h : (lookM f).1 = 0) {u : Int × Int} (hu : u ∈ usesM f) : 0 ≤ u.1 ∧ u.1 < ((roomM f).toNat : Int) := value_room h (look_used h u hu)

theorem takes_few (op : Int) : (takesS op).length ≤ 3 := by
  rcases op_cases op with h | h | h
  · rcases h with rfl | rfl | rfl | rfl | rfl | rfl | rfl | rfl | rfl | rfl | rfl | rfl | rfl <;> decide
  · rcases h with rfl | rfl | rfl | rfl | rfl | rfl | rfl | rfl | rfl | rfl | rfl | rfl <;> decide
  · unfold takesS
    rw [shapeS_none h]
    decide

theorem phi_value {f : FuncM} {q : BlockM} (hq : q ∈ f.blocks) {p : PhiM} (hp : p ∈ q.phis) : p.id ∈ (valuesM f).map (·.1) :=
  List.mem_map.2 ⟨(p.id, p.typ), List.mem_append.2 (.inr (List.mem_flatMap.2 ⟨q, hq, List.mem_append.2 (.inl (List.mem_map.2 ⟨p, hp, rfl⟩))⟩)), rfl⟩

theorem instr_value {f : FuncM} {q : BlockM} (hq : q ∈ f.blocks) {x : InstrM} (hx : x ∈ q.code) (h : makesS x.op ≠ 0) : x.id ∈ (valuesM f).map (·.1) := by
  refine List.mem_map.2 ⟨(x.id, makesS x.op), List.mem_append.2 (.inr (List.mem_flatMap.2 ⟨q, hq, List.mem_append.2 (.inr (List.mem_flatMap.2 ⟨x, hx, ?_⟩))⟩)), rfl⟩
  unfold valuesInstr
  rcases makes_cases x.op with hm | hm
  · exact absurd hm h
  · rw [if_pos hm]
    exact List.mem_singleton.2 rfl

theorem just_mem {fr ps : List Int} (h1 : fr.Nodup) (h : justB fr ps = true) {x : Int} (hx : x ∈ ps) : x ∈ fr := by
  unfold justB at h
  rw [Bool.and_eq_true, beq_iff_eq, List.all_eq_true] at h
  by_cases hxa : x ∈ fr
  · exact hxa
  · have := sub_len (x :: fr) ps (List.nodup_cons.2 ⟨hxa, h1⟩) (fun y hy => by rcases List.mem_cons.1 hy with rfl | hy; exact hx; exact of_decide_eq_true (h.2 y hy))
    rw [List.length_cons] at this
    omega

theorem size_block {bs : List BlockM} {q : BlockM} (hq : q ∈ bs) : q.phis.length + q.code.length + 1 ≤ (bs.map sizeB).sum := by
  induction bs with
  | nil => cases hq
  | cons a l ih =>
    rw [List.map_cons, List.sum_cons]
    rcases List.mem_cons.1 hq with rfl | hq
    · show _ ≤ sizeB q + _
      unfold sizeB
      omega
    · have := ih hq
      omega

theorem limits_of {f : FuncM} (h : (lookM f).1 = 0) : limitsB f = true := by
  have hr := look_right h
  unfold formedR at hr
  simp only [Bool.and_eq_true] at hr
  exact hr.1

theorem code_ok {f : FuncM} (h : (lookM f).1 = 0) {q : BlockM} (hq : q ∈ f.blocks) {x : InstrM} (hx : x ∈ q.code) : CodeOk f.arrays.toNat f.cells.toNat (roomM f).toNat x := by
  have hb := right_blockR h hq
  unfold blockR at hb
  simp only [Bool.and_eq_true, List.all_eq_true] at hb
  have hi := hb.2.1 x hx
  unfold instrR at hi
  rw [Bool.and_eq_true, Bool.and_eq_true, Bool.and_eq_true, beq_iff_eq] at hi
  obtain ⟨ho, hl, _, hf⟩ := hi
  obtain ⟨k, hk⟩ := List.getElem?_of_mem hq
  obtain ⟨j, hj⟩ := List.getElem?_of_mem hx
  refine ⟨fun i hi => ?_, hl, ho, fun e => ?_, fun e => ?_, fun e => value_room h (instr_value hq hx e), by rw [hl]; exact takes_few _⟩
  · obtain ⟨m, hm⟩ := List.getElem?_of_mem hi
    have hml := (List.getElem?_eq_some_iff.1 hm).1
    obtain ⟨t, ht⟩ : ∃ t, (takesS x.op)[m]? = some t := ⟨_, List.getElem?_eq_getElem (by omega)⟩
    exact used_room h (each3.mem_instr hk hj hm ht)
  · unfold fitsR at hf
    rw [e, if_neg (by decide), Bool.and_eq_true, decide_eq_true_iff, decide_eq_true_iff] at hf
    have : mostR f 3 = f.arrays - 1 := rfl
    omega
  · unfold fitsR at hf
    rw [e, if_neg (by decide), Bool.and_eq_true, decide_eq_true_iff, decide_eq_true_iff] at hf
    have : mostR f 4 = f.cells - 1 := rfl
    omega

theorem term_ok {f : FuncM} (h : (lookM f).1 = 0) {q : BlockM} (hq : q ∈ f.blocks) : TermOk (roomM f).toNat q.term := by
  have ht := look_term h q hq
  obtain ⟨k, hk⟩ := List.getElem?_of_mem hq
  unfold termB at ht
  rw [Bool.and_eq_true] at ht
  constructor
  · have ht := ht.2
    by_cases e1 : q.term.op = 1
    · simp [e1] at ht
      exact .inl ⟨e1, ht.1⟩
    · by_cases e2 : q.term.op = 2
      · simp [e2] at ht
        exact .inr (.inl ⟨e2, ht.1⟩)
      · by_cases e3 : q.term.op = 3
        · simp [e3] at ht
          exact .inr (.inr (.inl ⟨e3, by rw [ht.1]; rfl⟩))
        · by_cases e4 : q.term.op = 4
          · simp [e4] at ht
            exact .inr (.inr (.inr ⟨e4, by rw [ht.1]; rfl⟩))
          · simp [e1, e2, e3, e4] at ht
  · rintro (e | e)
    · exact used_room (u := (q.term.val, 2)) h (each3.mem_term hk (by unfold usesTerm; rw [if_pos e]; exact List.mem_singleton.2 rfl))
    · exact used_room (u := (q.term.val, 0)) h (each3.mem_term hk (by unfold usesTerm; rw [if_neg (by omega), if_pos e]; exact List.mem_singleton.2 rfl))

/-- a strict function may be run -/
theorem strict_fok {f : FuncM} (hs : CheckIs f (0, 0)) : FOk f (roomM f).toNat := by
  obtain ⟨h, hph⟩ := check_zero hs
  have hall := (formed_all (look_formed h)).1
  have hl := limits_bd (limits_of h)
  have hsz : ∀ (b : Nat) (q : BlockM), f.blocks[b]? = some q → q.phis.length + q.code.length + 1 ≤ 4096 := fun b q hq => by
    have := size_block (List.mem_of_getElem? hq)
    omega
  refine ⟨fun b q hq x hx => code_ok h (List.mem_of_getElem? hq) hx, fun b q hq => term_ok h (List.mem_of_getElem? hq), fun b q hq t ht => ?_, fun b q hq => by have := hsz b q hq; omega, fun b q hq => by have := hsz b q hq; omega, (look_some_block h).1, fun q hq => ?_⟩
  · have hin := term_in rfl (look_term h q (List.mem_of_getElem? hq)) t ht
    obtain ⟨tn, rfl⟩ : ∃ n : Nat, t = (n : Int) := ⟨t.toNat, by omega⟩
    refine ⟨tn, rfl, by omega, fun q' hq' p hp => ?_⟩
    have hmq := List.mem_of_getElem? hq'
    obtain ⟨j, hj⟩ := List.getElem?_of_mem hp
    have hon := (hall q' hmq).1 p hp
    unfold phiB at hon
    simp only [Bool.and_eq_true] at hon
    have hnd := (once_nodup _ _ hon.2.2).1
    have hjust : justB p.fr (predsI f.blocks tn) = true := by
      have := hph tn (by omega) q' hq'
      unfold phisFitB at this
      rw [List.all_eq_true] at this
      exact this p hp
    have hbn := (List.getElem?_eq_some_iff.1 hq).1
    refine ⟨just_mem hnd hjust ?_, look_phi h q' hmq p hp, fun v hv => ?_, value_room h (phi_value hmq hp)⟩
    · unfold predsI predsTo
      refine List.mem_map.2 ⟨b, List.mem_filter.2 ⟨List.mem_range.2 hbn, decide_eq_true ?_⟩, rfl⟩
      unfold succM
      rw [hq]
      exact List.mem_map.2 ⟨_, ht, rfl⟩
    · obtain ⟨m, hm⟩ := List.getElem?_of_mem hv
      exact used_room h (each3.mem_phi hq' hj hm)
  · have hr := look_right h
    unfold formedR headR at hr
    simp only [Bool.and_eq_true] at hr
    have := hr.2.2.1
    rw [List.headD_eq_head?_getD, List.head?_eq_getElem?, hq] at this
    simpa using this

theorem start_fit (f : FuncM) (I : InM) : Fit f (startS f I) := by
  unfold startS
  exact ⟨by simp, by simp, by simp, by simp⟩

/-- what else a strict function keeps -/
theorem strict_bounds {f : FuncM} (hs : CheckIs f (0, 0)) : (∀ x ∈ idsOut f, 0 ≤ x ∧ x ≤ 1048575) ∧ (f.params.length ≤ 16 ∧ (f.params.length : Int) ≤ roomM f) ∧ (0 ≤ f.cells ∧ f.cells ≤ 64) ∧ (0 ≤ f.arrays ∧ f.arrays ≤ 8) ∧ f.blocks.length ≤ 512 := by
  obtain ⟨h, _⟩ := check_zero hs
  have hl := limits_bd (limits_of h)
  have hk := formed_keys (look_formed h)
  refine ⟨fun x hx => ?_, ⟨hl.1, ?_⟩, ⟨hl.2.2.2.1, hl.2.2.2.2.1⟩, ⟨hl.2.1, hl.2.2.1⟩, hl.2.2.2.2.2.2.1⟩
  · unfold idsOut at hx
    rw [if_pos h] at hx
    obtain ⟨d, hd, rfl⟩ := List.mem_map.1 (idsS_mem.1 hx)
    exact hk.1 d hd
  · rcases Nat.eq_zero_or_pos f.params.length with e | e
    · rw [e]
      unfold roomM
      cases hg : (idsOut f).getLast? with
      | none => simp
      | some y =>
        have := (fun hx => by
          unfold idsOut at hx
          rw [if_pos h] at hx
          obtain ⟨d, hd, rfl⟩ := List.mem_map.1 (idsS_mem.1 hx)
          exact (hk.1 d hd).1 : y ∈ idsOut f → 0 ≤ y) (List.mem_of_getLast? hg)
        simp only
        omega
    · have := hk.2 (f.params.length - 1) (by omega)
      rw [formed_eq (look_formed h)] at this
      have := value_room h this
      omega

end Go.Proofs.YtncmnbchkabgaaaGreat

namespace Go.Proofs.YtncmnbchkabgaaaGreat
open Go.RowKit Go.Maps

theorem ArrsR.keeps {w W : World} {B : Nat} {v : Value} {xs : List (List Int)} (h : ArrsR w B v xs) (k : Keeps B w W) : ArrsR W B v xs := by
  obtain ⟨A, c, rfl, hl, h⟩ := h
  refine ⟨A, c, rfl, hl, fun i l hi => ?_⟩
  obtain ⟨b, off, lv, ha, hb, hc, hi, hn⟩ := h i l hi
  exact ⟨b, off, lv, ha, hb, (k b _ hb).trans hc, hi.keeps k, hn⟩

/-- what Run answers, of any function -/
def RunAny (f : FuncM) (I : InM) (F : Int) (w : World) (e : Ending) (w' : World) : Prop :=
  (CheckIs f (0, 0) ∧ 0 ≤ F ∧ RunIs f I F.toNat w e w') ∨ ((¬ CheckIs f (0, 0) ∨ F < 0) ∧ e = .returned refusedV ∧ Below w.heap.size w w')

theorem irun_any (f : FuncM) (I : InM) (B : Nat) (pv bv av rv : Value) (F : Int) (w : World) (hpv : Ints w B pv f.params) (hbv : BlocksR w B bv f.blocks) (hB : B ≤ w.heap.size) (hid : ∀ u ∈ usesM f, I64 u.1)
    (ha : Ints w B av I.args) (hr : ArrsR w B rv I.arrs) :
    Calls Tryz.prog 10 #[.agg #[pv, .int .i64 f.arrays, .int .i64 f.cells, bv], .agg #[av, rv], .int .i64 F] w (RunAny f I F w) := by
  by_cases hs : CheckIs f (0, 0) ∧ 0 ≤ F
  · obtain ⟨hs, hF⟩ := hs
    obtain ⟨h1, h2, h3, h4, h5⟩ := strict_bounds hs
    obtain ⟨A2, c2, hrv, _, _⟩ := id hr
    obtain ⟨Fn, rfl⟩ : ∃ n : Nat, F = (n : Int) := ⟨F.toNat, by omega⟩
    refine (irun_yes f I B pv bv av rv Fn w hpv hbv hB hid hs (strict_fok hs) (start_fit f I) h1 h2 h3 h4 h5 ha (fun W hW => takeArrays_any f I B W rv (hr.keeps hW) h4) A2 _ c2 hrv).mono ?_
    intro e w' h
    exact .inl ⟨hs, hF, by simpa using h⟩
  · obtain ⟨A1, c1, hav, _, _⟩ := ha
    obtain ⟨A2, c2, hrv, _, _⟩ := hr
    have hno : ¬ CheckIs f (0, 0) ∨ F < 0 := by
      by_cases hc : CheckIs f (0, 0)
      · exact .inr (by have : ¬ 0 ≤ F := fun h => hs ⟨hc, h⟩; omega)
      · exact .inl hc
    exact (irun_no f B pv bv av rv F w hpv hbv hB hid hno A1 A2 _ c1 _ c2 hav hrv).mono fun e w' h => .inr ⟨hno, h⟩
end Go.Proofs.YtncmnbchkabgaaaGreat

namespace Go.Proofs.YtncmnbchkabgaaaGreat
open Go.RowKit Go.Maps

/-- what is kept from step to step -/
structure KeepM (f : FuncM) (I : InM) (s : StM) : Prop where
  fit : Fit f s
  lens : s.arrs.map List.length = (startS f I).arrs.map List.length
  told : 0 ≤ s.checks ∧ (s.out.length : Int) + s.checks ≤ s.steps

theorem lookS_arrs (op : Int) (s : StM) : (lookS op s).arrs = s.arrs := by unfold lookS; split <;> rfl
theorem lookS_out (op : Int) (s : StM) : (lookS op s).out = s.out := by unfold lookS; split <;> rfl
theorem lookS_checks (op : Int) (s : StM) (h : 0 ≤ s.checks ∧ s.checks < 4294967296) : s.checks ≤ (lookS op s).checks ∧ (lookS op s).checks ≤ s.checks + 1 := by
  unfold lookS
  split
  · simp only
    rw [show wrap64 (s.checks + 1) = s.checks + 1 by unfold wrap64; omega]
    omega
  · omega

theorem made_arrs (x : InstrM) (a : List Int) (s : StM) : (madeM x a s).1.arrs = s.arrs ∧ (madeM x a s).1.out = s.out ∧ ((madeM x a s).1 = s ∨ (madeM x a s).1 = lookS x.op s) := by
  unfold madeM
  repeat' split
  all_goals first | exact ⟨rfl, rfl, .inl rfl⟩ | exact ⟨lookS_arrs _ _, lookS_out _ _, .inr rfl⟩

/-- what an instruction tells and looks at -/
theorem done_told (x : InstrM) (s : StM) (h : 0 ≤ s.checks ∧ s.checks < 4294967296) :
    (doM x s).1.arrs.map List.length = s.arrs.map List.length ∧ s.checks ≤ (doM x s).1.checks ∧ ((doM x s).1.out.length : Int) + (doM x s).1.checks ≤ s.out.length + s.checks + 1 := by
  have hl := lookS_checks x.op s h
  have ha := lookS_arrs x.op s
  have ho := lookS_out x.op s
  obtain ⟨m1, m2, m3⟩ := made_arrs x (x.args.map s.val) s
  have hm : s.checks ≤ (madeM x (x.args.map s.val) s).1.checks ∧ (madeM x (x.args.map s.val) s).1.checks ≤ s.checks + 1 := by
    rcases m3 with e | e
    · rw [e]; omega
    · rw [e]; omega
  unfold doM
  simp only
  split
  · split
    · refine ⟨?_, hl.1, by show ((lookS x.op s).out.length : Int) + (lookS x.op s).checks ≤ _; rw [ho]; omega⟩
      simp only
      apply List.ext_getElem?
      intro i
      rw [List.getElem?_map, List.getElem?_map]
      by_cases e : x.n.toNat = i
      · subst e
        by_cases hi : x.n.toNat < s.arrs.length
        · rw [List.getElem?_set_self hi]
          unfold arrM
          rw [List.getD_eq_getElem?_getD, List.getElem?_eq_getElem hi]
          simp
        · rw [List.getElem?_eq_none (by rw [List.length_set]; omega), List.getElem?_eq_none (by omega)]
      · rw [List.getElem?_set_ne e]
    · exact ⟨by rw [ha], hl.1, by show ((lookS x.op s).out.length : Int) + (lookS x.op s).checks ≤ _; rw [ho]; omega⟩
  · split
    · split
      · exact ⟨rfl, by simp, by simp; omega⟩
      · exact ⟨rfl, by simp, by simp; omega⟩
    · split
      · exact ⟨rfl, by simp, by simp; omega⟩
      · split
        · rename_i h5
          rw [h5] at m1 m2 hm
          simp only at m1 m2 hm ⊢
          exact ⟨by rw [m1], hm.1, by rw [m2]; omega⟩
        · rename_i h5
          rw [h5] at m1 m2 hm
          simp only at m1 m2 hm ⊢
          exact ⟨by rw [m1], hm.1, by rw [m2]; omega⟩

theorem leave_keeps {f : FuncM} {b k : Nat} {s : StM} (h : Fit f s) : Fit f (leaveM f b k s).s ∧ (leaveM f b k s).s.arrs = s.arrs ∧ (leaveM f b k s).s.out = s.out ∧ (leaveM f b k s).s.checks = s.checks ∧ (leaveM f b k s).s.steps = s.steps := by
  unfold leaveM enterM
  simp only
  split
  · exact ⟨h, rfl, rfl, rfl, rfl⟩
  · split
    · exact ⟨h, rfl, rfl, rfl, rfl⟩
    · exact ⟨h.arrive _ _, rfl, rfl, rfl, rfl⟩

theorem go_keeps {f : FuncM} {I : InM} {c : CfgM} (h : KeepM f I c.s) (hs : c.s.steps < 4294967295) : KeepM f I (goM f c).s := by
  have ht := h.told
  unfold goM
  cases c.fin with
  | some e => exact h
  | none =>
    simp only
    split
    · rename_i x hx
      obtain ⟨d1, d2, d3⟩ := done_told x (tickM c.s) (by show 0 ≤ c.s.checks ∧ c.s.checks < 4294967296; omega)
      have d4 := doM_steps x (tickM c.s)
      simp only [tickM] at d1 d2 d3 d4
      refine ⟨h.fit.tick.done x, d1.trans h.lens, ?_, ?_⟩
      · show 0 ≤ (doM x (tickM c.s)).1.checks
        simp only [tickM]
        omega
      · show ((doM x (tickM c.s)).1.out.length : Int) + (doM x (tickM c.s)).1.checks ≤ (doM x (tickM c.s)).1.steps
        simp only [tickM]
        rw [d4]
        omega
    · obtain ⟨l1, l2, l3, l4, l5⟩ := leave_keeps (b := c.b) (k := c.k) h.fit.tick
      refine ⟨l1, by rw [l2]; exact h.lens, by rw [l4]; exact ht.1, ?_⟩
      rw [l3, l4, l5]
      simp only [tickM]
      omega

theorem go_steps_le (f : FuncM) (c : CfgM) : (goM f c).s.steps ≤ c.s.steps + 1 := by
  cases h : c.fin with
  | some e => rw [goM_fin (by rw [h]; simp)]; omega
  | none => rw [goM_steps h]; omega

theorem start_keeps (f : FuncM) (I : InM) (hfit : Fit f (startS f I)) : KeepM f I (startM f I).s := by
  unfold startM enterM
  refine ⟨hfit.arrive 0 (-1), rfl, ?_⟩
  simp [arriveM, startS]

theorem goN_keeps {f : FuncM} {I : InM} (hfit : Fit f (startS f I)) : ∀ n, n ≤ 200000 → KeepM f I (goN f n (startM f I)).s ∧ (goN f n (startM f I)).s.steps ≤ n
  | 0, _ => ⟨start_keeps f I hfit, Nat.le_refl _⟩
  | n + 1, hn => by
    obtain ⟨h1, h2⟩ := goN_keeps hfit n (by omega)
    refine ⟨go_keeps h1 (by omega), ?_⟩
    have := go_steps_le f (goN f n (startM f I))
    show (goM f (goN f n (startM f I))).s.steps ≤ n + 1
    omega

theorem start_lens (f : FuncM) (I : InM) : ∀ l ∈ (startS f I).arrs, l.length ≤ 4096 := by
  intro l hl
  unfold startS at hl
  obtain ⟨i, _, rfl⟩ := List.mem_map.1 hl
  rw [List.length_take]
  omega

theorem KeepM.short {f : FuncM} {I : InM} {s : StM} (h : KeepM f I s) : ∀ l ∈ s.arrs, l.length ≤ 4096 := by
  intro l hl
  have : l.length ∈ s.arrs.map List.length := List.mem_map.2 ⟨l, hl, rfl⟩
  rw [h.lens] at this
  obtain ⟨l2, h2, e⟩ := List.mem_map.1 this
  rw [← e]
  exact start_lens f I l2 h2

/-- what stands of a run that is done -/
theorem end_keeps {f : FuncM} {I : InM} {F : Nat} {s : StM} {en : EndM} (hfit : Fit f (startS f I)) (h : EndIs f I (min F 200000) s en) : KeepM f I s ∧ s.steps ≤ min F 200000 := by
  obtain ⟨rfl, _⟩ := h
  exact goN_keeps hfit _ (by omega)

end Go.Proofs.YtncmnbchkabgaaaGreat

namespace Go.Proofs.YtncmnbchkabgaaaGreat
open Go.RowKit Go.Maps

/-- the reference's lists: those of blocks before t are done; of t, what comes from the first b -/
def predsRow (bs : List BlockM) (n t b : Nat) : List (List Nat) := (List.range n).map fun u => if u < t then predsTo bs n u else if u = t then predsTo bs b u else []

theorem predsRow_at {bs : List BlockM} {n t b u : Nat} (h : u < n) : (predsRow bs n t b)[u]? = some (if u < t then predsTo bs n u else if u = t then predsTo bs b u else []) := by
  unfold predsRow
  rw [List.getElem?_map, List.getElem?_eq_getElem (by simpa using h)]
  simp

theorem predsRow_zero (bs : List BlockM) (n : Nat) : predsRow bs n 0 0 = (List.range n).map fun _ => [] := by
  unfold predsRow
  apply List.map_congr_left
  intro u _
  rw [if_neg (by omega)]
  split
  · simp [predsTo]
  · rfl

theorem predsRow_skip {bs : List BlockM} {n t b : Nat} (h : t ∉ succM bs b) : predsRow bs n t (b + 1) = predsRow bs n t b := by
  unfold predsRow
  apply List.map_congr_left
  intro u _
  by_cases e : u = t
  · subst e
    rw [predsTo_succ, if_neg h, List.append_nil]
  · simp [e]

theorem predsRow_push {bs : List BlockM} {n t b : Nat} (h : t ∈ succM bs b) (_htn : t < n) : (predsRow bs n t b).set t (predsTo bs b t ++ [b]) = predsRow bs n t (b + 1) := by
  apply List.ext_getElem?
  intro u
  by_cases hu : u < n
  · rw [predsRow_at hu]
    by_cases e : t = u
    · subst e
      rw [List.getElem?_set_self (by unfold predsRow; simpa using hu), if_neg (by omega), if_pos rfl, predsTo_succ, if_pos h]
    · rw [List.getElem?_set_ne e, predsRow_at hu]
      have e' : ¬ u = t := fun x => e x.symm
      simp [e']
  · rw [List.getElem?_eq_none (by rw [List.length_set]; unfold predsRow; simp; omega), List.getElem?_eq_none (by unfold predsRow; simp; omega)]

theorem predsRow_next (bs : List BlockM) (n t : Nat) : predsRow bs n t n = predsRow bs n (t + 1) 0 := by
  unfold predsRow
  apply List.map_congr_left
  intro u _
  by_cases h1 : u < t
  · rw [if_pos h1, if_pos (by omega)]
  · rw [if_neg h1]
    by_cases h2 : u = t
    · subst h2
      rw [if_pos rfl, if_pos (by omega)]
    · rw [if_neg h2, if_neg (by omega)]
      split
      · simp [predsTo]
      · rfl

theorem predsRow_last (bs : List BlockM) (n : Nat) : predsRow bs n n 0 = predsAt bs n n 0 := by
  unfold predsRow predsAt
  apply List.map_congr_left
  intro u hu
  rw [if_pos (by simpa using hu)]
  simp

theorem mem_to {bs : List BlockM} {q : BlockM} {b t : Nat} (hin : EndsIn bs) (hq : bs[b]? = some q) : ((t : Int) ∈ q.term.to) ↔ t ∈ succM bs b := by
  unfold succM
  rw [hq]
  simp only [List.mem_map]
  constructor
  · exact fun h => ⟨(t : Int), h, by simp⟩
  · rintro ⟨x, hx, he⟩
    have := hin q (List.mem_of_getElem? hq) x hx
    have e : x = (t : Int) := by omega
    exact e ▸ hx

set_option maxRecDepth 100000 in
set_option maxHeartbeats 4000000 in
theorem refPreds_any (bs : List BlockM) (B : Nat) (pv av cv bv : Value) (w : World) (hbv : BlocksR w B bv bs) (hB : B ≤ w.heap.size) (hn5 : bs.length ≤ 512) (hin : EndsIn bs) :
    Calls Tryz.prog 36 #[.agg #[pv, av, cv, bv]] w (PredsPost bs w) := by
  have HBL := hideI hbv
  have HIN := hideI hin
  obtain ⟨A, c, rfl, hbm, _⟩ := hbv
  obtain ⟨i0, hix, hz0, hz1, hz2⟩ := info_parts ints_info
  clear hin
  go_enter Tryz.func36, Tryz.ntmps36
  go_wp2_with (first
    | (at_make; go_must (refine wpList_make_full _ rfl _ _ 26 rfl (w.heap.size + 1) 22 i0 (.slice none 0 0) 1 Tryz.underlying26 hix hz0 hz1 .i64 .i64 _ _ bs.length rfl rfl rfl rfl (by rw [hz2]; omega) (by unfold maxLen; omega) (by simp) ?_); intro w1 hown1 hg1; rw [World.size_alloc] at hown1; go_must (have HL1 := hideI (Lists.made hown1); have HGB := hideI ((hg1.block w.heap.size (by simp) (by simp)).trans (heap_alloc_new w _)); have HB0 : Hid (Below w.heap.size w w1) := ((Below.refl _ _).alloc (Nat.le_refl _) _).grown hg1 (by simp) (by simp); clear hown1 hg1)))
  clear hix hz0 hz1 hz2
  rw [← predsRow_zero bs bs.length] at HL1
  go_loopw [4] (fun u wr => ∃ (t : Nat) (vs : List Value), t ≤ bs.length ∧ u = .int .i64 t ∧ Hid (Lists wr (w.heap.size + 1) (w.heap.size + 1) bs.length vs (predsRow bs bs.length t 0)) ∧ Hid (Below w.heap.size w wr) ∧ Hid (Below (w.heap.size + 1) w1 wr)) (fun u _ => bs.length - (intOf u).toNat)
  case atStart => exact ⟨0, _, Nat.zero_le _, rfl, HL1, HB0, hideI (Below.refl _ _)⟩
  case round =>
    obtain ⟨t, vs, ht, rfl, HL, HBr, HBo⟩ := hrel
    have hxr := row_cells HGB.out (HBo.out.block w.heap.size (by omega))
    have g3 := hxr 3
    clear hxr
    by_cases hlt : t < bs.length
    · go_wp2
      clear g3
      obtain ⟨wo, rfl⟩ : ∃ wo : World, wo = wr := ⟨_, rfl⟩
      go_loopw [5] (fun u wr => ∃ (b : Nat) (vs : List Value), b ≤ bs.length ∧ u = .int .i64 b ∧ Hid (Lists wr (w.heap.size + 1) (w.heap.size + 1) bs.length vs (predsRow bs bs.length t b)) ∧ Hid (Below (w.heap.size + 1) wo wr)) (fun u _ => bs.length - (intOf u).toNat)
      case atStart => exact ⟨0, vs, Nat.zero_le _, rfl, HL, hideI (Below.refl _ _)⟩
      case round =>
        obtain ⟨b, vs2, hb, rfl, HLi, HBi⟩ := hrel
        have hxr := row_cells HGB.out ((HBo.out.trans HBi.out).block w.heap.size (by omega))
        have g3 := hxr 3
        clear hxr
        by_cases hltb : b < bs.length
        · obtain ⟨q, hq⟩ : ∃ q, bs[b]? = some q := ⟨_, List.getElem?_eq_getElem hltb⟩
          obtain ⟨A', c', e0, _, hbx⟩ := (HBL.out.more' hB).keeps (Keeps.of_below (HBr.out.trans (HBi.out.mono (Nat.le_succ _))))
          cases e0
          obtain ⟨ab, off, pq, cq, tv, rfl, hab, x0, x1, x2, x3, x4, x5, _, _, htv, _⟩ := hbx b q hq
          have HTV := hideI htv
          have HMEM := hideI (mem_to (t := t) HIN.out hq)
          obtain ⟨TA, tc, rfl, htm, _⟩ := htv
          obtain ⟨v, hv⟩ : ∃ v, vs2[t]? = some v := ⟨_, List.getElem?_eq_getElem (by rw [HLi.out.vl]; exact hlt)⟩
          obtain ⟨l, hl0⟩ : ∃ l, l = predsTo bs b t := ⟨_, rfl⟩
          have hl : (predsRow bs bs.length t b)[t]? = some l := by rw [predsRow_at hlt, if_neg (by omega), if_pos rfl, hl0]
          have hll : l.length ≤ 1000 := by have := predsTo_len bs b t; rw [hl0]; omega
          have q1 : wr.cell? ⟨w.heap.size + 1, t, none⟩ = some v := by rw [World.ownsRow.cellAt HLi.out.row t (by omega)]; exact hv
          have HOWN := hideI (HLi.out.own t v l hv hl)
          have hsz := HLi.out.lt.2
          have HV := hideI hv
          have HLL := hideI hl
          have HL0 := hideI hl0
          obtain ⟨tl, htl⟩ : ∃ tl, tl = q.term.to := ⟨_, rfl⟩
          rw [← htl] at HTV HMEM x4 htm
          clear hbx hq x0 x1 x2 x3 x5 hv hl hl0 htl
          by_cases hin2 : (t : Int) ∈ tl
          · have HC : Hid (decide ((t : Int) ∈ tl) = true) := by show _ = _; simpa using hin2
            have HIN2 := hideI (HMEM.out.1 hin2)
            obtain ⟨i1, hjx, hy0, hy1, hy2⟩ := info_parts int_info
            clear hin2
            go_wp2_with (first
              | (go_at_call 22; go_must (refine (has_any _ _ _ _ _ HTV.out).mono ?_); rw [HC.out]; rintro e w2 ⟨rfl, rfl⟩)
              | (at_builtin; go_must (refine wpList_append_lies _ rfl _ _ _ rfl (w.heap.size + 1 + 1) 3 i1 (.int .i64 0) 1 8 Tryz.underlying22 hjx hy0 hy1 hy2 rfl (by decide) _ _ _ rfl (HOWN.out.alloc _) ⟨wr.heap.size, 0, none⟩ 1 1 [.int .i64 b] rfl rfl (one_new wr _) (by simp [Value.oneCell']) (by decide) (by simp only [maxLen]; omega) (by omega) (by simp; omega) _ rfl ?_); intro g1 cap1 w3 hown1 hgrow1 hor1 _; go_must (have HP := hideI (HLi.out.push HV.out HLL.out hown1 hgrow1 hor1); have HPB := hideI (HLi.out.pushed (u := .slice (some ⟨g1, 0, none⟩) (l.length + 1) cap1) HV.out HLL.out hgrow1 HBi.out (Nat.le_refl _)); obtain ⟨hc4, hf4⟩ := HLi.out.held HV.out HLL.out hgrow1; clear hown1 hgrow1 hor1 q1)))
            go_roundw
            case rel => exact ⟨b + 1, _, by omega, by go_num, by rw [← predsRow_push HIN2.out hlt, ← HL0.out]; exact HP, HPB⟩
            case measure => simp [intOf]; omega
          · have HC : Hid (decide ((t : Int) ∈ tl) = false) := by show _ = _; simpa using hin2
            have HIN2 := hideI (fun h => hin2 (HMEM.out.2 h))
            clear hin2
            go_wp2_with (first
              | (go_at_call 22; go_must (refine (has_any _ _ _ _ _ HTV.out).mono ?_); rw [HC.out]; rintro e w2 ⟨rfl, rfl⟩))
            go_roundw
            case rel => exact ⟨b + 1, vs2, by omega, by go_num, by rw [predsRow_skip HIN2.out]; exact HLi, HBi⟩
            case measure => simp [intOf]; omega
        · have hbn : b = bs.length := by omega
          rw [hbn, predsRow_next] at HLi
          clear hbn
          go_wp2
          go_roundw
          case rel => exact ⟨t + 1, vs2, by omega, by go_num, HLi, hideI (HBr.out.trans (HBi.out.mono (Nat.le_succ _))), hideI (HBo.out.trans HBi.out)⟩
          case measure => simp [intOf]; omega
    · have hkn : t = bs.length := by omega
      rw [hkn, predsRow_last] at HL
      clear hkn
      go_wp2
      go_ret
      exact ⟨_, vs, rfl, ⟨HL.out.vl, HL.out.ll, World.ownsRow.mono HL.out.row (by omega), HL.out.own, HL.out.apart⟩, HBr.out⟩

set_option maxRecDepth 100000 in
set_option maxHeartbeats 2000000 in
/-- two lists of lists that are the same -/
theorem sameLists_yes (w : World) (b1 b2 g1 g2 n : Nat) (vs us : List Value) (ls : List (List Nat)) (h1 : Lists w b1 g1 n vs ls) (h2 : Lists w b2 g2 n us ls) (hl : ∀ l ∈ ls, l.length ≤ 1000) (hn5 : n ≤ 100000) :
    Calls Tryz.prog 14 #[.slice (some ⟨g1, 0, none⟩) n n, .slice (some ⟨g2, 0, none⟩) n n] w fun e w' => e = .returned (.bool true) ∧ ∃ m, w' = w.drewN m := by
  have H1 := hideI h1
  have H2 := hideI h2
  have HL := hideI hl
  clear h1 h2 hl
  go_enter Tryz.func14, Tryz.ntmps14
  go_wp2
  go_loopw [5] (fun u wr => ∃ k m : Nat, k ≤ n ∧ u = .int .i64 k ∧ wr = w.drewN m) (fun u _ => n - (intOf u).toNat)
  case atStart => exact ⟨0, 0, Nat.zero_le _, rfl, rfl⟩
  case round =>
    obtain ⟨k, m, hk, rfl, hwr⟩ := hrel
    have HWR := hideI hwr
    have R1 : Hid (Lists wr b1 g1 n vs ls) := by show Lists _ _ _ _ _ _; rw [hwr]; exact ⟨H1.out.vl, H1.out.ll, H1.out.row, H1.out.own, H1.out.apart⟩
    have R2 : Hid (Lists wr b2 g2 n us ls) := by show Lists _ _ _ _ _ _; rw [hwr]; exact ⟨H2.out.vl, H2.out.ll, H2.out.row, H2.out.own, H2.out.apart⟩
    clear hwr
    by_cases hlt : k < n
    · obtain ⟨v, hv⟩ : ∃ v, vs[k]? = some v := ⟨_, List.getElem?_eq_getElem (by rw [H1.out.vl]; exact hlt)⟩
      obtain ⟨u, hu⟩ : ∃ u, us[k]? = some u := ⟨_, List.getElem?_eq_getElem (by rw [H2.out.vl]; exact hlt)⟩
      obtain ⟨l, hl⟩ : ∃ l, ls[k]? = some l := ⟨_, List.getElem?_eq_getElem (by rw [H1.out.ll]; exact hlt)⟩
      have hll := HL.out l (List.mem_of_getElem? hl)
      have d1 : wr.cell? ⟨g1, k, none⟩ = some v := by rw [World.ownsRow.cellAt R1.out.row k (by omega)]; exact hv
      have d2 : wr.cell? ⟨g2, k, none⟩ = some u := by rw [World.ownsRow.cellAt R2.out.row k (by omega)]; exact hu
      have HI1 := hideI (nat_ints (R1.out.own k v l hv hl) (by omega))
      have HI2 := hideI (nat_ints (R2.out.own k u l hu hl) (by omega))
      have HC : Hid (∀ a, Calls Tryz.prog 28 #[v, u] (wr.drewN a) fun e w' => e = .returned (.bool true) ∧ ∃ m, w' = (wr.drewN a).drewN m) := fun a =>
        (sameInts_any (wr.drewN a) wr.heap.size _ _ _ _ (HI1.out.keeps (Keeps.heap' (Keeps.refl _) rfl)) (HI2.out.keeps (Keeps.heap' (Keeps.refl _) rfl))).mono fun e w' ⟨h1, h2⟩ => ⟨by rw [h1, beq_self_eq_true], h2⟩
      clear hv hu hl
      go_wp2
      go_quiet ((go_at_call 28; exact Calls.quiet_of (HC.out _)))
      go_wp2
      go_roundw
      case rel => exact ⟨k + 1, _, by omega, by go_num, by rw [HWR.out]; exact World.drewN_drewN ..⟩
      case measure => simp [intOf]; omega
    · go_wp2
      go_ret
      exact ⟨rfl, m, HWR.out⟩

end Go.Proofs.YtncmnbchkabgaaaGreat

namespace Go.Proofs.YtncmnbchkabgaaaGreat
open Go.RowKit Go.Maps

/-- a trace, as it is read -/
def TraceR (w : World) (B : Nat) (v : Value) (s : StM) (en : EndM) : Prop :=
  ∃ ov av vv, v = .agg #[.int .i64 en.1, .int .i64 en.2.1, .int .i64 en.2.2, ov, av, .int .i64 s.steps, .int .i64 s.checks, vv] ∧ Ints w B ov s.out ∧ ArrsR w B av s.arrs ∧ Ints w B vv s.vis

theorem TraceR.keeps {w W : World} {B : Nat} {v : Value} {s : StM} {en : EndM} (h : TraceR w B v s en) (k : Keeps B w W) : TraceR W B v s en := by
  obtain ⟨ov, av, vv, e, h1, h2, h3⟩ := h
  exact ⟨ov, av, vv, e, h1.keeps k, h2.keeps k, h3.keeps k⟩

theorem row_cap {w : World} {base : Nat} {e : TypeId} {size : Nat} {v : Value} {n : Nat} {xs : List Value} (h : w.ownsRow base e size v n xs) : ∀ A2 n2 c2, v = .slice A2 n2 c2 → n2 ≤ c2 := by
  intro A2 n2 c2 e2
  rcases h.2 with ⟨e1, e0⟩ | ⟨g, cap, cur, e1, _, _, hx, _⟩
  · rw [e1] at e2
    injection e2 with _ a b
    omega
  · rw [e1] at e2
    injection e2 with _ a b
    omega

theorem TraceAt.reads {base : Nat} {w : World} {v : Value} {s : StM} {en : EndM} (h : TraceAt base w v s en) (ho : s.out.length ≤ 140737488351232) (ha : s.arrs.length ≤ 140737488351232) (hl : ∀ l ∈ s.arrs, l.length ≤ 140737488351232) (hv : s.vis.length ≤ 140737488351232) : TraceR w w.heap.size v s en := by
  obtain ⟨nv, val, e, hr⟩ := h
  refine ⟨_, _, _, e, ints_own (hr .out _ rfl) ho, ?_, ints_own (hr .vis _ rfl) hv⟩
  have hrow := hr .arrs _ rfl
  obtain ⟨A, cp, ea⟩ := row_form hrow
  refine ⟨A, cp, ea, ha, fun k l hk => ?_⟩
  have hkl := (List.getElem?_eq_some_iff.1 hk).1
  obtain ⟨g, cap, ev, _, hg⟩ := World.ownsRow.form hrow (by show 0 < s.arrs.length; omega)
  rw [ev] at ea
  injection ea with e1 _ e3
  have hc := World.ownsRow.cellAt (by rw [ev] at hrow; exact hrow) k (by show k < s.arrs.length * 1; omega)
  refine ⟨g, 0, val (.arr k), e1.symm, hg, ?_, ?_, ?_⟩
  · rw [Nat.zero_add]
    rw [hc, List.getElem?_map, List.getElem?_range hkl]
    rfl
  · exact ints_own (hr (.arr k) (intRow l) (by show s.arrs[k]?.map intRow = _; rw [hk]; rfl)) (hl l (List.mem_of_getElem? hk))
  · exact row_cap (hr (.arr k) (intRow l) (by show s.arrs[k]?.map intRow = _; rw [hk]; rfl))

/-- a trace whose rows lie in these blocks -/
def TraceIn (lo hi : Nat) (w : World) (v : Value) (s : StM) (en : EndM) : Prop :=
  ∃ (nv : Nat) (val : MVals), v = .agg #[.int .i64 en.1, .int .i64 en.2.1, .int .i64 en.2.2, val .out, val .arrs, .int .i64 s.steps, .int .i64 s.checks, val .vis] ∧ ∀ t d, mRow s nv val t = some d → w.ownsRow lo d.elem 1 (val t) d.len d.cells ∧ ∀ g, (val t).ownBlock = some g → g < hi

theorem TraceAt.within {base : Nat} {w : World} {v : Value} {s : StM} {en : EndM} (h : TraceAt base w v s en) : TraceIn base w.heap.size w v s en := by
  obtain ⟨nv, val, e, h⟩ := h
  exact ⟨nv, val, e, fun t d ht => ⟨h t d ht, fun g hg => ((h t d ht).lt g hg).2⟩⟩

theorem TraceIn.at {lo hi : Nat} {w : World} {v : Value} {s : StM} {en : EndM} (h : TraceIn lo hi w v s en) : TraceAt lo w v s en := by
  obtain ⟨nv, val, e, h⟩ := h
  exact ⟨nv, val, e, fun t d ht => (h t d ht).1⟩

theorem TraceIn.kept {lo hi : Nat} {w W : World} {v : Value} {s : StM} {en : EndM} (h : TraceIn lo hi w v s en) (hk : ∀ b, lo ≤ b → b < hi → W.heap[b]? = w.heap[b]?) : TraceIn lo hi W v s en := by
  obtain ⟨nv, val, e, h⟩ := h
  exact ⟨nv, val, e, fun t d ht => ⟨owns_kept (h t d ht).1 fun g hg => hk g ((h t d ht).1.lt g hg).1 ((h t d ht).2 g hg), (h t d ht).2⟩⟩

end Go.Proofs.YtncmnbchkabgaaaGreat

namespace Go.Proofs.YtncmnbchkabgaaaGreat
open Go.RowKit Go.Maps

structure EndOk (en : EndM) : Prop where
  lo : 1 ≤ en.1
  hi : en.1 ≤ 5
  trap : en.1 = 2 ∨ en.2.2 = 0
  value : en.1 = 1 ∨ en.2.1 = 0

theorem miss_ok (op : Int) : EndOk (missM op) ∧ (missM op).1 ≠ 3 := by
  unfold missM
  split <;> exact ⟨⟨by decide, by decide, by decide, by decide⟩, by decide⟩

theorem made_ok (x : InstrM) (a : List Int) (s : StM) : ∀ e, (madeM x a s).2 = .inr e → EndOk e ∧ e.1 ≠ 3 := by
  intro e h
  unfold madeM at h
  repeat' split at h
  all_goals first
    | (cases h; done)
    | (injection h with h; subst h; first | exact miss_ok _ | exact ⟨⟨by decide, by decide, by decide, by decide⟩, by decide⟩)

theorem done_ok (x : InstrM) (s : StM) : ∀ e, (doM x s).2 = some e → EndOk e ∧ e.1 ≠ 3 := by
  intro e h
  have hm := made_ok x (x.args.map s.val) s
  unfold doM at h
  simp only at h
  split at h
  · split at h
    · cases h
    · injection h with h
      subst h
      exact miss_ok _
  · split at h
    · split at h
      · injection h with h
        subst h
        exact ⟨⟨by decide, by decide, by decide, by decide⟩, by decide⟩
      · cases h
    · split at h
      · cases h
      · split at h
        · cases h
        · rename_i h5
          injection h with h
          subst h
          exact hm _ (by rw [h5])

theorem leave_ok (f : FuncM) (b k : Nat) (s : StM) : ∀ e, (leaveM f b k s).fin = some e → EndOk e ∧ e.1 ≠ 3 := by
  intro e h
  unfold leaveM at h
  simp only at h
  split at h
  · injection h with h
    subst h
    exact ⟨⟨by show (1 : Int) ≤ 1; decide, by show (1 : Int) ≤ 5; decide, .inr rfl, .inl rfl⟩, by show (1 : Int) ≠ 3; decide⟩
  · split at h
    · injection h with h
      subst h
      exact ⟨⟨by show (1 : Int) ≤ 2; decide, by show (2 : Int) ≤ 5; decide, .inl rfl, .inr rfl⟩, by show (2 : Int) ≠ 3; decide⟩
    · cases h

theorem goN_ok (f : FuncM) (I : InM) : ∀ n e, (goN f n (startM f I)).fin = some e → EndOk e ∧ e.1 ≠ 3
  | 0, e, h => by cases h
  | n + 1, e, h => by
    cases h0 : (goN f n (startM f I)).fin with
    | some e2 =>
      rw [show goN f (n + 1) (startM f I) = goM f (goN f n (startM f I)) from rfl, goM_fin (by rw [h0]; simp)] at h
      exact goN_ok f I n e h
    | none =>
      rw [show goN f (n + 1) (startM f I) = goM f (goN f n (startM f I)) from rfl] at h
      unfold goM at h
      rw [h0] at h
      simp only at h
      split at h
      · exact done_ok _ _ e h
      · exact leave_ok _ _ _ _ e h

theorem end_ok {f : FuncM} {I : InM} {F : Nat} {s : StM} {en : EndM} (h : EndIs f I F s en) : EndOk en := by
  obtain ⟨_, rfl⟩ := h
  unfold finM
  cases h0 : (goN f F (startM f I)).fin with
  | none => exact ⟨by decide, by decide, by decide, by decide⟩
  | some e => exact (goN_ok f I F e h0).1

/-- a run that ends for want of fuel took all of it; one that ends by itself does so with more, too -/
theorem end_more {f : FuncM} {I : InM} {a b : Nat} {s t : StM} {en em : EndM} (hab : a ≤ b) (h : EndIs f I a s en) (k : EndIs f I b t em) (hne : en.1 ≠ 3) : s = t ∧ en = em := by
  obtain ⟨rfl, rfl⟩ := h
  obtain ⟨rfl, rfl⟩ := k
  cases h0 : (goN f a (startM f I)).fin with
  | none => exact absurd (by unfold finM; rw [h0]; rfl) hne
  | some e =>
    have := goN_ended hab (by rw [h0]; simp)
    rw [this]
    exact ⟨rfl, rfl⟩

theorem end_none {f : FuncM} {I : InM} {a : Nat} {s : StM} {en : EndM} (h : EndIs f I a s en) (h3 : en.1 = 3) : s.steps = a ∧ en = (3, 0, 0) := by
  obtain ⟨rfl, rfl⟩ := h
  cases h0 : (goN f a (startM f I)).fin with
  | none => exact ⟨goN_steps h0, by unfold finM; rw [h0]; rfl⟩
  | some e =>
    unfold finM at h3
    rw [h0] at h3
    exact absurd h3 (goN_ok f I a e h0).2

/-- what a longer run has told and looked at -/
theorem done_prefix (x : InstrM) (s : StM) : s.out <+: (doM x s).1.out := by
  have ho := lookS_out x.op s
  obtain ⟨_, m2, _⟩ := made_arrs x (x.args.map s.val) s
  unfold doM
  simp only
  split
  · split
    · show s.out <+: (lookS x.op s).out
      rw [ho]
      exact List.prefix_rfl
    · show s.out <+: (lookS x.op s).out
      rw [ho]
      exact List.prefix_rfl
  · split
    · split
      · exact List.prefix_rfl
      · exact List.prefix_append _ _
    · split
      · exact List.prefix_rfl
      · split
        · rename_i h5
          rw [h5] at m2
          show s.out <+: _
          simp only at m2 ⊢
          rw [m2]
          exact List.prefix_rfl
        · rename_i h5
          rw [h5] at m2
          simp only at m2 ⊢
          rw [m2]
          exact List.prefix_rfl

theorem go_prefix {f : FuncM} {c : CfgM} (h : 0 ≤ c.s.checks ∧ c.s.checks < 4294967296) : c.s.out <+: (goM f c).s.out ∧ c.s.checks ≤ (goM f c).s.checks ∧ c.s.steps ≤ (goM f c).s.steps := by
  unfold goM
  cases c.fin with
  | some e => exact ⟨List.prefix_rfl, Int.le_refl _, Nat.le_refl _⟩
  | none =>
    simp only
    split
    · rename_i x hx
      have d1 := done_prefix x (tickM c.s)
      have d2 := (done_told x (tickM c.s) h).2.1
      have d4 := doM_steps x (tickM c.s)
      refine ⟨d1, d2, ?_⟩
      rw [d4]
      simp only [tickM]
      omega
    · unfold leaveM enterM
      simp only
      split
      · exact ⟨List.prefix_rfl, Int.le_refl _, by simp only [tickM]; omega⟩
      · split
        · exact ⟨List.prefix_rfl, Int.le_refl _, by simp only [tickM]; omega⟩
        · exact ⟨List.prefix_rfl, Int.le_refl _, by simp only [tickM, arriveM]; omega⟩

theorem goN_prefix {f : FuncM} {I : InM} (hfit : Fit f (startS f I)) (a : Nat) : ∀ d, a + d ≤ 200000 → (goN f a (startM f I)).s.out <+: (goN f (a + d) (startM f I)).s.out ∧ (goN f a (startM f I)).s.checks ≤ (goN f (a + d) (startM f I)).s.checks ∧ (goN f a (startM f I)).s.steps ≤ (goN f (a + d) (startM f I)).s.steps
  | 0, _ => ⟨List.prefix_rfl, Int.le_refl _, Nat.le_refl _⟩
  | d + 1, hd => by
    obtain ⟨h1, h2, h3⟩ := goN_prefix hfit a d (by omega)
    obtain ⟨hk, hs⟩ := goN_keeps (f := f) (I := I) hfit (a + d) (by omega)
    have ht := hk.told
    obtain ⟨g1, g2, g3⟩ := go_prefix (f := f) (c := goN f (a + d) (startM f I)) (by omega)
    exact ⟨h1.trans g1, Int.le_trans h2 g2, Nat.le_trans h3 g3⟩

theorem end_prefix {f : FuncM} {I : InM} {a b : Nat} {s t : StM} {en em : EndM} (hfit : Fit f (startS f I)) (hab : a ≤ b) (hb : b ≤ 200000) (h : EndIs f I a s en) (k : EndIs f I b t em) : s.out <+: t.out ∧ s.checks ≤ t.checks ∧ s.steps ≤ t.steps := by
  obtain ⟨rfl, _⟩ := h
  obtain ⟨rfl, _⟩ := k
  obtain ⟨d, rfl⟩ : ∃ d, b = a + d := ⟨b - a, by omega⟩
  exact goN_prefix hfit a d hb

theorem end_one {f : FuncM} {I : InM} {a : Nat} {s t : StM} {en em : EndM} (h : EndIs f I a s en) (k : EndIs f I a t em) : s = t ∧ en = em := by
  obtain ⟨rfl, rfl⟩ := h
  obtain ⟨rfl, rfl⟩ := k
  exact ⟨rfl, rfl⟩

end Go.Proofs.YtncmnbchkabgaaaGreat

namespace Go.Proofs.YtncmnbchkabgaaaGreat
open Go.RowKit Go.Maps

/-- nothing was done -/
def noS : StM := ⟨fun _ => 0, [], [], [], 0, 0, []⟩

/-- how a run of any function ends -/
def Runs (f : FuncM) (I : InM) (F : Nat) (s : StM) (en : EndM) : Prop := (CheckIs f (0, 0) ∧ EndIs f I (min F 200000) s en) ∨ (¬ CheckIs f (0, 0) ∧ s = noS ∧ en = (6, 0, 0))

/-- what Run answers, as it is read -/
def RunR (f : FuncM) (I : InM) (F : Nat) (w : World) (e : Ending) (w' : World) : Prop := ∃ v s en, e = .returned v ∧ Runs f I F s en ∧ TraceR w' w'.heap.size v s en ∧ Below w.heap.size w w'

theorem noS_read (w : World) (B : Nat) : TraceR w B refusedV noS (6, 0, 0) := ⟨_, _, _, rfl, Ints.nil _ _, ⟨none, 0, rfl, by simp [noS], fun k l h => by simp [noS] at h⟩, Ints.nil _ _⟩

theorem noS_at (base : Nat) (w : World) : TraceAt base w refusedV noS (6, 0, 0) := by
  refine ⟨0, fun _ => .slice none 0 0, rfl, fun t d ht => ?_⟩
  cases t with
  | arr k => cases ht
  | _ => injection ht with ht; subst ht; exact World.ownsRow_nil _ _ _ _

theorem EndIs.bounds {f : FuncM} {I : InM} {F : Nat} {s : StM} {en : EndM} (_hs : CheckIs f (0, 0)) (h : EndIs f I (min F 200000) s en) : KeepM f I s ∧ s.steps ≤ min F 200000 := end_keeps (start_fit f I) h

/-- what Run answers, as it lies -/
def RunT (f : FuncM) (I : InM) (F : Nat) (w : World) (e : Ending) (w' : World) : Prop := ∃ v s en, e = .returned v ∧ Runs f I F s en ∧ TraceAt w.heap.size w' v s en ∧ Below w.heap.size w w'

theorem irun_laid (f : FuncM) (I : InM) (B : Nat) (pv bv av rv : Value) (F : Nat) (w : World) (hpv : Ints w B pv f.params) (hbv : BlocksR w B bv f.blocks) (hB : B ≤ w.heap.size) (hid : ∀ u ∈ usesM f, I64 u.1)
    (ha : Ints w B av I.args) (hr : ArrsR w B rv I.arrs) :
    Calls Tryz.prog 10 #[.agg #[pv, .int .i64 f.arrays, .int .i64 f.cells, bv], .agg #[av, rv], .int .i64 F] w (RunT f I F w) := by
  refine (irun_any f I B pv bv av rv F w hpv hbv hB hid ha hr).mono ?_
  rintro e w' (⟨hs, _, v, s, en, rfl, hend, htr, hb⟩ | ⟨hn, rfl, hb⟩)
  · rw [Int.toNat_natCast] at hend
    exact ⟨v, s, en, rfl, .inl ⟨hs, hend⟩, htr, hb⟩
  · have hn : ¬ CheckIs f (0, 0) := by
      rcases hn with h | h
      · exact h
      · omega
    exact ⟨_, noS, _, rfl, .inr ⟨hn, rfl, rfl⟩, noS_at _ _, hb⟩

theorem Runs.short {f : FuncM} {I : InM} {F : Nat} {s : StM} {en : EndM} (h : Runs f I F s en) : s.out.length ≤ 4096 ∧ s.arrs.length ≤ 8 ∧ (∀ l ∈ s.arrs, l.length ≤ 4096) ∧ s.vis.length ≤ 512 ∧ s.steps ≤ min F 200000 ∧ 0 ≤ s.checks ∧ (s.out.length : Int) + s.checks ≤ s.steps := by
  rcases h with ⟨hs, hend⟩ | ⟨_, rfl, _⟩
  · obtain ⟨hk, hst⟩ := hend.bounds hs
    obtain ⟨_, _, _, h8, h5⟩ := strict_bounds hs
    have hf := hk.fit
    exact ⟨hf.out, by have := hf.arrs; omega, hk.short, by have := hf.vis; omega, hst, hk.told.1, hk.told.2⟩
  · exact ⟨Nat.zero_le _, Nat.zero_le _, fun l hl => by simp [noS] at hl, Nat.zero_le _, Nat.zero_le _, Int.le_refl _, Int.le_refl _⟩

theorem Runs.reads {f : FuncM} {I : InM} {F : Nat} {s : StM} {en : EndM} {base : Nat} {w : World} {v : Value} (h : Runs f I F s en) (ht : TraceAt base w v s en) : TraceR w w.heap.size v s en := by
  obtain ⟨h1, h2, h3, h4, _⟩ := h.short
  exact ht.reads (by omega) (by omega) (fun l hl => by have := h3 l hl; omega) (by omega)

theorem irun_read (f : FuncM) (I : InM) (B : Nat) (pv bv av rv : Value) (F : Nat) (w : World) (hpv : Ints w B pv f.params) (hbv : BlocksR w B bv f.blocks) (hB : B ≤ w.heap.size) (hid : ∀ u ∈ usesM f, I64 u.1)
    (ha : Ints w B av I.args) (hr : ArrsR w B rv I.arrs) :
    Calls Tryz.prog 10 #[.agg #[pv, .int .i64 f.arrays, .int .i64 f.cells, bv], .agg #[av, rv], .int .i64 F] w (RunR f I F w) := by
  refine (irun_laid f I B pv bv av rv F w hpv hbv hB hid ha hr).mono ?_
  rintro e w' ⟨v, s, en, rfl, h1, h2, h3⟩
  exact ⟨v, s, en, rfl, h1, h1.reads h2, h3⟩

theorem Runs.more {f : FuncM} {I : InM} {a b : Nat} {s t : StM} {en em : EndM} (hab : a ≤ b) (hb : b ≤ 200000) (h : Runs f I a s en) (k : Runs f I b t em) :
    (en.1 ≠ 3 → s = t ∧ en = em) ∧ (en.1 = 3 → s.steps = a ∧ a ≤ t.steps ∧ s.out <+: t.out ∧ s.checks ≤ t.checks) := by
  rcases h with ⟨hs, h⟩ | ⟨hn, rfl, rfl⟩
  · rcases k with ⟨_, k⟩ | ⟨kn, _⟩
    · rw [Nat.min_eq_left (by omega)] at h k
      refine ⟨fun hne => end_more hab h k hne, fun h3 => ?_⟩
      have h1 := (end_none h h3).1
      obtain ⟨p1, p2, p3⟩ := end_prefix (start_fit f I) hab hb h k
      exact ⟨h1, by omega, p1, p2⟩
    · exact absurd hs kn
  · rcases k with ⟨ks, _⟩ | ⟨_, rfl, rfl⟩
    · exact absurd ks hn
    · exact ⟨fun _ => ⟨rfl, rfl⟩, fun h => absurd h (by decide)⟩

end Go.Proofs.YtncmnbchkabgaaaGreat
