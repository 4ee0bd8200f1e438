/- What LoopsEnds rests on, part 11: SCheckM, AwakeM, AwakeN, AwakeS, RunM, ICalc0, IPairs, ICalc, IMach, IStep, IFind. -/
import Derived.Test.YtglbepdjahddmaaGreatPkLoopsEnds10
import Derived.Deep.QuietTactic
import Derived.BigQuiet
import Derived.Laws.OwnMore
import Derived.OneCell
import Derived.Deep.Onto
import Derived.Deep.AppendLies
import Derived.WalkSmall
import Derived.Deep.RegionWith
import Derived.BigRegion

namespace Go.Proofs.YtglbepdjahddmaaGreat
open Go.RowKit Go.Maps

theorem look_right {f : FuncM} (h : (lookM f).1 = 0) : formedR f = true := by
  cases hr : formedR f
  · have := formed_no hr
    rw [look_formed h] at this
    cases this
  · rfl

theorem right_blockR {f : FuncM} (h : (lookM f).1 = 0) {q : BlockM} (hq : q ∈ f.blocks) : blockR f q = true := by
  have hr := look_right h
  unfold formedR at hr
  simp only [Bool.and_eq_true, List.all_eq_true] at hr
  exact hr.2.2.2 q hq

theorem look_id {f : FuncM} (h : (lookM f).1 = 0) {q : BlockM} (hq : q ∈ f.blocks) {x : InstrM} (hx : x ∈ q.code) : makesS x.op = 0 → x.id = -1 := by
  have hb := right_blockR h hq
  unfold blockR at hb
  simp only [Bool.and_eq_true, List.all_eq_true] at hb
  have hi := hb.2.1 x hx
  unfold instrR at hi
  simp only [Bool.and_eq_true, Bool.not_eq_true', Bool.and_eq_false_iff, beq_eq_false_iff_ne, bne_eq_false_iff_eq] at hi
  intro hm
  rcases hi.2.2.1 with h1 | h1
  · exact absurd hm h1
  · exact h1

theorem look_used {f : FuncM} (h : (lookM f).1 = 0) (u : Int × Int) (hu : u ∈ usesM f) : u.1 ∈ (valuesM f).map (·.1) := by
  rw [← at_some]
  have he := look_eq (look_formed h)
  rw [h, formed_eq (look_formed h)] at he
  cases hx : unknownB (valuesM f) (usesM f)
  · unfold unknownB at hx
    rw [List.any_eq_false] at hx
    have := hx u hu
    simpa [Option.isSome_iff_ne_none] using this
  · rw [hx] at he
    simp at he

theorem vals_instr {f : FuncM} (h : (lookM f).1 = 0) {q : BlockM} (hq : q ∈ f.blocks) {x : InstrM} (hx : x ∈ q.code) (b i : Nat) : (placedInstr b i x).map (·.1) = (valuesInstr x).map (·.1) := by
  unfold placedInstr valuesInstr
  rcases makes_cases x.op with hm | hm
  · have := look_id h hq hx hm
    rw [if_neg (by omega), if_neg (by omega)]
    rfl
  · have hk := (formed_keys (look_formed h)).1
    have hv := formed_eq (look_formed h)
    have hmem : (x.id, makesS x.op) ∈ (lookM f).2 := by
      rw [hv]
      unfold valuesM valuesBlock
      refine List.mem_append.2 (.inr (List.mem_flatMap.2 ⟨q, hq, List.mem_append.2 (.inr (List.mem_flatMap.2 ⟨x, hx, ?_⟩))⟩))
      unfold valuesInstr
      rw [if_pos hm]
      exact List.mem_singleton.2 rfl
    have h0 := (hk _ hmem).1
    rw [if_pos h0, if_pos hm]
    rfl

theorem vals_code {f : FuncM} (h : (lookM f).1 = 0) {q : BlockM} (hq : q ∈ f.blocks) (b : Nat) : ∀ i, i ≤ q.code.length → (placedCode b q.code i).map (·.1) = ((q.code.take i).flatMap valuesInstr).map (·.1) := by
  intro i
  induction i with
  | zero => intro _; rfl
  | succ i ih =>
    intro hi
    have hx : q.code[i]? = some q.code[i] := List.getElem?_eq_getElem (by omega)
    rw [placedCode, hx, List.map_append, ih (by omega), List.take_succ_eq_append_getElem (by omega), List.flatMap_append, List.map_append, vals_instr h hq (List.getElem_mem ..)]
    simp

theorem vals_block {f : FuncM} (h : (lookM f).1 = 0) {q : BlockM} (hq : q ∈ f.blocks) (b : Nat) : (placedBlock b q).map (·.1) = (valuesBlock q).map (·.1) := by
  unfold placedBlock valuesBlock
  rw [List.map_append, List.map_append, vals_code h hq b _ (Nat.le_refl _), List.take_length]
  congr 1
  unfold placedPhis
  rw [List.map_map, List.map_map]
  rfl

theorem vals_blocks {f : FuncM} (h : (lookM f).1 = 0) : ∀ b, b ≤ f.blocks.length → (placedBlocks f.blocks b).map (·.1) = ((f.blocks.take b).flatMap valuesBlock).map (·.1) := by
  intro b
  induction b with
  | zero => intro _; rfl
  | succ b ih =>
    intro hb
    have hx : f.blocks[b]? = some f.blocks[b] := List.getElem?_eq_getElem (by omega)
    rw [placedBlocks, hx, List.map_append, ih (by omega), List.take_succ_eq_append_getElem (by omega), List.flatMap_append, List.map_append, vals_block h (List.getElem_mem ..)]
    simp

theorem vals_params (l : List Int) : (placedParams l.length).map (·.1) = (paramDefs 0 l).map (·.1) := by
  have h1 : ∀ n, (placedParams n).map (·.1) = (List.range n).map fun (k : Nat) => (k : Int) := by
    intro n
    induction n with
    | zero => rfl
    | succ n ih => rw [placedParams, List.map_append, ih, List.range_succ, List.map_append]; rfl
  have h2 : ∀ (l : List Int) (j : Nat), (paramDefs j l).map (·.1) = (List.range l.length).map fun (k : Nat) => ((j + k : Nat) : Int) := by
    intro l
    induction l with
    | nil => intro j; rfl
    | cons a l ih =>
      intro j
      rw [paramDefs, List.map_cons, ih, List.length_cons, List.range_succ_eq_map, List.map_cons, List.map_map]
      congr 1
      apply List.map_congr_left
      intro k _
      simp only [Function.comp]
      omega
  rw [h1, h2]
  apply List.map_congr_left
  intro k _
  simp

theorem placed_ids {f : FuncM} (h : (lookM f).1 = 0) : (placedM f).map (·.1) = (valuesM f).map (·.1) := by
  unfold placedM valuesM
  rw [List.map_append, List.map_append, vals_params, vals_blocks h _ (Nat.le_refl _), List.take_length]

theorem placed_nodup {f : FuncM} (h : (lookM f).1 = 0) : ((placedM f).map (·.1)).Nodup := by
  rw [placed_ids h]
  have := formed_nodup (look_formed h)
  rwa [formed_eq (look_formed h)] at this

/-- the blocks and places of what is placed -/
theorem placedCode_mem {b : Nat} {xs : List InstrM} {d : Int × (Nat × Int)} : ∀ i, d ∈ placedCode b xs i → d.2.1 = b ∧ ∃ (j : Nat) (x : InstrM), xs[j]? = some x ∧ j < i ∧ d.1 = x.id ∧ d.2.2 = (j : Int) ∧ 0 ≤ x.id := by
  intro i
  induction i with
  | zero => intro h; cases h
  | succ i ih =>
    intro h
    rw [placedCode] at h
    rcases List.mem_append.1 h with h | h
    · obtain ⟨h1, j, x, h2, h3, h4⟩ := ih h
      exact ⟨h1, j, x, h2, by omega, h4⟩
    · cases hx : xs[i]? with
      | none => rw [hx] at h; cases h
      | some x =>
        rw [hx] at h
        simp only [placedInstr] at h
        split at h
        · rename_i h0
          rw [List.mem_singleton] at h
          subst h
          exact ⟨rfl, i, x, hx, by omega, rfl, rfl, h0⟩
        · cases h

/-- where a value is made -/
inductive MadeAt (f : FuncM) (id : Int) : Nat → Int → Prop
  | param (h0 : 0 ≤ id) (h : id < f.params.length) : MadeAt f id 0 (-1)
  | phi {b : Nat} {q : BlockM} {p : PhiM} (hq : f.blocks[b]? = some q) (hp : p ∈ q.phis) (h : p.id = id) : MadeAt f id b (-1)
  | instr {b i : Nat} {q : BlockM} {x : InstrM} (hq : f.blocks[b]? = some q) (hx : q.code[i]? = some x) (h : x.id = id) (h0 : 0 ≤ id) : MadeAt f id b (i : Int)

theorem placedBlocks_mem {f : FuncM} {d : Int × (Nat × Int)} : ∀ n, d ∈ placedBlocks f.blocks n → MadeAt f d.1 d.2.1 d.2.2 := by
  intro n
  induction n with
  | zero => intro h; cases h
  | succ n ih =>
    intro h
    rw [placedBlocks] at h
    rcases List.mem_append.1 h with h | h
    · exact ih h
    · cases hq : f.blocks[n]? with
      | none => rw [hq] at h; cases h
      | some q =>
        rw [hq] at h
        simp only [placedBlock] at h
        rcases List.mem_append.1 h with h | h
        · unfold placedPhis at h
          obtain ⟨p, hp, rfl⟩ := List.mem_map.1 h
          exact .phi hq hp rfl
        · obtain ⟨h1, j, x, hx, _, h2, h3, h4⟩ := placedCode_mem _ h
          rw [h1, h3]
          exact .instr hq hx h2.symm (by rw [h2]; exact h4)

theorem placedM_mem {f : FuncM} {id : Int} {b : Nat} {a : Int} (h : (id, (b, a)) ∈ placedM f) : MadeAt f id b a := by
  unfold placedM at h
  rcases List.mem_append.1 h with h | h
  · have hp : ∀ n, (id, (b, a)) ∈ placedParams n → b = 0 ∧ a = -1 ∧ 0 ≤ id ∧ id < n := by
      intro n
      induction n with
      | zero => intro h; cases h
      | succ n ih =>
        intro h
        rw [placedParams] at h
        rcases List.mem_append.1 h with h | h
        · have := ih h; omega
        · rw [List.mem_singleton] at h
          injection h with h1 h2
          injection h2 with h2 h3
          omega
    obtain ⟨rfl, rfl, h0, h1⟩ := hp _ h
    exact .param h0 h1
  · exact placedBlocks_mem _ h

theorem last_made {f : FuncM} {id : Int} {m : Nat × Int} (h : (placedM f).last id = some m) : MadeAt f id m.1 m.2 := by
  unfold Placed.last at h
  rw [Option.map_eq_some_iff] at h
  obtain ⟨d, hd, rfl⟩ := h
  have h1 := List.mem_reverse.1 (List.mem_of_find?_eq_some hd)
  have h2 : d.1 = id := by simpa using List.find?_some hd
  obtain ⟨x, y, z⟩ := d
  simp only at h2
  subst h2
  exact placedM_mem h1

theorem made_lt {f : FuncM} (h0 : 0 < f.blocks.length) {id : Int} {b : Nat} {a : Int} (h : MadeAt f id b a) : b < f.blocks.length := by
  cases h with
  | param => exact h0
  | phi hq => exact (List.getElem?_eq_some_iff.1 hq).1
  | instr hq => exact (List.getElem?_eq_some_iff.1 hq).1

theorem known_of {f : FuncM} (h : (lookM f).1 = 0) (hid : ∀ u ∈ usesM f, I64 u.1) {u : Int × Int} (hu : u ∈ usesM f) : Known f u.1 := by
  have hn := (look_some_block h).1
  have hm : u.1 ∈ (placedM f).map (·.1) := by
    rw [placed_ids h]
    exact look_used h u hu
  refine ⟨hid u hu, ?_⟩
  obtain ⟨d, hd, he⟩ := List.mem_map.1 hm
  obtain ⟨x, y, z⟩ := d
  simp only at he
  subst he
  have hl : (placedM f).last u.1 = some (y, z) := by
    rw [Placed.last_first (placed_nodup h)]
    exact Placed.first_mem (placed_nodup h) hd
  exact ⟨y, z, hl, made_lt hn (last_made hl)⟩

theorem uses_known {f : FuncM} (h : (lookM f).1 = 0) (hid : ∀ u ∈ usesM f, I64 u.1) : UsesKnown f := by
  have hall := (formed_all (look_formed h)).1
  refine ⟨fun b q p i id hq hp hi => ?_, fun b q x id hq hx hi => ?_, fun b q hq ht => ?_⟩
  · have hmq := List.mem_of_getElem? hq
    have hl := look_phi h q hmq p hp
    have hil := (List.getElem?_eq_some_iff.1 hi).1
    obtain ⟨k, hk⟩ : ∃ k, p.fr[i]? = some k := ⟨_, List.getElem?_eq_getElem (by omega)⟩
    have hon := (hall q hmq).1 p hp
    unfold phiB at hon
    simp only [Bool.and_eq_true] at hon
    have hr := (once_nodup _ _ hon.2.2).2.1 k (List.mem_of_getElem? hk)
    obtain ⟨kn, rfl⟩ : ∃ kn : Nat, k = (kn : Int) := ⟨k.toNat, by omega⟩
    obtain ⟨j, hj⟩ := List.getElem?_of_mem hp
    exact ⟨kn, f.blocks[kn]'(by omega), hk, List.getElem?_eq_getElem _, known_of h hid (each3.mem_phi hq hj hi)⟩
  · obtain ⟨j, hj⟩ := List.getElem?_of_mem hx
    obtain ⟨m, hm⟩ := List.getElem?_of_mem hi
    have hf := look_form h q (List.mem_of_getElem? hq) x hx
    have hml := (List.getElem?_eq_some_iff.1 hm).1
    obtain ⟨t, ht⟩ : ∃ t, (takesS x.op)[m]? = some t := ⟨_, List.getElem?_eq_getElem (by omega)⟩
    exact known_of h hid (each3.mem_instr hq hj hm ht)
  · rcases ht with ht | ht
    · exact known_of h hid (each3.mem_term (u := (q.term.val, 2)) hq (by unfold usesTerm; rw [if_pos ht]; exact List.mem_singleton.2 rfl))
    · exact known_of h hid (each3.mem_term (u := (q.term.val, 0)) hq (by unfold usesTerm; rw [if_neg (by omega), if_pos ht]; exact List.mem_singleton.2 rfl))

/-- what is made at m comes ahead of a place -/
def aheadP (bs : List BlockM) (o : List Nat) (m : Nat × Int) (ub : Nat) (ua : Int) : Prop := (m.1 = ub ∧ m.2 < ua) ∨ (m.1 ≠ ub ∧ OverP bs o m.1 ub)

def okP (f : FuncM) (o : List Nat) (id : Int) (ub : Nat) (ua : Int) : Prop := ∀ m, (placedM f).last id = some m → aheadP f.blocks o m ub ua

structure UsesP (f : FuncM) (o : List Nat) (b : Nat) (q : BlockM) : Prop where
  phi : ∀ p ∈ q.phis, ∀ (i : Nat) (id : Int) (fr : Nat) (q' : BlockM), p.vals[i]? = some id → p.fr[i]? = some (fr : Int) → f.blocks[fr]? = some q' → okP f o id fr q'.code.length
  arg : ∀ (i : Nat) (x : InstrM), q.code[i]? = some x → ∀ id ∈ x.args, okP f o id b i
  term : q.term.op = 2 ∨ q.term.op = 3 → okP f o q.term.val b q.code.length

def usesPR (f : FuncM) (o : List Nat) (b : Nat) : Prop := ∀ q, f.blocks[b]? = some q → UsesP f o b q

/-- what Check of strict form answers -/
def CheckIs (f : FuncM) (r : Int × Int) : Prop :=
  ((lookM f).1 ≠ 0 ∧ r = (0, (lookM f).1)) ∨ ((lookM f).1 = 0 ∧ ∃ o, OrderIs f.blocks o ∧ FaultIs f.blocks.length (· ∈ o) (phisR f) (usesPR f o) r)

theorem CheckIs.one {f : FuncM} {r s : Int × Int} (h : CheckIs f r) (k : CheckIs f s) : r = s := by
  rcases h with ⟨h1, rfl⟩ | ⟨h1, o, ho, hf⟩
  · rcases k with ⟨_, rfl⟩ | ⟨k1, _⟩
    · rfl
    · exact absurd k1 h1
  · rcases k with ⟨k1, _⟩ | ⟨_, o', ho', kf⟩
    · exact absurd h1 k1
    · have := ho.one ho'
      subst this
      exact hf.one (fun _ _ => Iff.rfl) (fun _ _ => Iff.rfl) (fun _ _ _ => Iff.rfl) kf

theorem okAt_iff {f : FuncM} {o : List Nat} {pl : Nat → Nat} {par : Nat → Option Nat} {F L : Nat → Int} (hn : 0 < f.blocks.length) (hO : Ord (succM f.blocks) o pl) (hD : Done (succM f.blocks) o pl par) (hN : Numbered o par F L) (hall : ∀ b, b < f.blocks.length → b ∈ o)
    {id : Int} {ub : Nat} {ua : Int} (hub : ub < f.blocks.length) : okAt f F L id ub ua ↔ okP f o id ub ua := by
  unfold okAt okP
  refine forall_congr' fun m => forall_congr' fun hm => ?_
  have hml := made_lt hn (last_made hm)
  have hd : domB F L m.1 ub = true ↔ OverP f.blocks o m.1 ub := by
    unfold domB
    rw [over_anc hO hD (hall ub hub), Bool.and_eq_true, decide_eq_true_iff, decide_eq_true_iff]
    exact hN.over m.1 (hall _ hml) ub (hall ub hub)
  unfold aheadB aheadP
  by_cases h : m.1 = ub
  · rw [if_pos h, decide_eq_true_iff]
    exact ⟨fun k => .inl ⟨h, k⟩, fun k => k.elim (fun k => k.2) (fun k => absurd h k.1)⟩
  · rw [if_neg h, hd]
    exact ⟨fun k => .inr ⟨h, k⟩, fun k => k.elim (fun k => absurd k.1 h) (fun k => k.2)⟩

theorem usesR_iff {f : FuncM} {o : List Nat} {pl : Nat → Nat} {par : Nat → Option Nat} {F L : Nat → Int} (hn : 0 < f.blocks.length) (hO : Ord (succM f.blocks) o pl) (hD : Done (succM f.blocks) o pl par) (hN : Numbered o par F L) (hall : ∀ b, b < f.blocks.length → b ∈ o)
    {b : Nat} (hb : b < f.blocks.length) : usesR f F L b ↔ usesPR f o b := by
  refine forall_congr' fun q => forall_congr' fun hq => ?_
  have H := @okAt_iff f o pl par F L hn hO hD hN hall
  constructor
  · rintro ⟨h1, h2, h3⟩
    exact ⟨fun p hp i id fr q' a b c => (H (List.getElem?_eq_some_iff.1 c).1).1 (h1 p hp i id fr q' a b c), fun i x a id c => (H hb).1 (h2 i x a id c), fun a => (H hb).1 (h3 a)⟩
  · rintro ⟨h1, h2, h3⟩
    exact ⟨fun p hp i id fr q' a b c => (H (List.getElem?_eq_some_iff.1 c).1).2 (h1 p hp i id fr q' a b c), fun i x a id c => (H hb).2 (h2 i x a id c), fun a => (H hb).2 (h3 a)⟩

theorem FaultIs.change {n : Nat} {R0 R1 R2 S2 : Nat → Prop} (h2 : (∀ b, b < n → R0 b) → ∀ b, b < n → (R2 b ↔ S2 b)) {r : Int × Int} (h : FaultIs n R0 R1 R2 r) : FaultIs n R0 R1 S2 r := by
  rcases h with h | h | ⟨a0, a1, b, ⟨hb, hn, hl⟩, rfl⟩ | ⟨a0, a1, a2, rfl⟩
  · exact .inl h
  · exact .inr (.inl h)
  · exact .inr (.inr (.inl ⟨a0, a1, b, ⟨hb, fun h => hn ((h2 a0 b hb).2 h), fun a ha => (h2 a0 a (by omega)).1 (hl a ha)⟩, rfl⟩))
  · exact .inr (.inr (.inr ⟨a0, a1, fun b hb => (h2 a0 b hb).1 (a2 b hb), rfl⟩))

def CheckPost (f : FuncM) (w : World) (e : Ending) (w' : World) : Prop := ∃ x y : Int, e = .returned (.tuple #[.int .i64 x, .int .i64 y]) ∧ CheckIs f (x, y) ∧ Below w.heap.size w w'

set_option maxRecDepth 100000 in
set_option maxHeartbeats 2000000 in
theorem sCheck_any (f : FuncM) (B : Nat) (pv bv : Value) (w : World) (hpv : Ints w B pv f.params) (hbv : BlocksR w B bv f.blocks) (hB : B ≤ w.heap.size) (hid : ∀ u ∈ usesM f, I64 u.1) :
    Calls Tryz.prog 41 #[.agg #[pv, .int .i64 f.arrays, .int .i64 f.cells, bv]] w (CheckPost f w) := by
  have HP := hideI hpv
  have HBL := hideI hbv
  have HID := hideI hid
  obtain ⟨P, pc, rfl, _⟩ := hpv
  obtain ⟨A, c, rfl, hbm, _⟩ := hbv
  have HB0 : Hid (Below w.heap.size w (w.alloc (.cells #[.slice P f.params.length pc, .int .i64 f.arrays, .int .i64 f.cells, .slice A f.blocks.length c] 25))) := (Below.refl _ w).alloc (Nat.le_refl _) _
  have HF := hideI (functionOf_any f B _ _ (w.alloc (.cells #[.slice P f.params.length pc, .int .i64 f.arrays, .int .i64 f.cells, .slice A f.blocks.length c] 25)) (HP.out.keeps (Keeps.of_below (HB0.out.mono hB))) (HBL.out.keeps (Keeps.of_below (HB0.out.mono hB))) (by simp; omega) HID.out)
  clear hid
  by_cases h0 : (lookM f).1 = 0
  · have H0 := hideI h0
    have hnb := look_some_block h0
    have hn5 := hnb.2
    have hn0 := hnb.1
    clear h0 hnb
    go_enter Tryz.func41, Tryz.ntmps41
    go_wp2_with (first
      | (go_at_call 72; go_must (refine HF.out.mono ?_); rintro e w1 (⟨hbad, _⟩ | ⟨_, o, pl, par, capo, gF, gL, gp, M, F, L, rfl, hfs, hdone, hnum, hsf, hb1⟩); (exact absurd H0.out hbad); have HFS := hideI hfs; have HDONE := hideI hdone; have HNUM := hideI hnum; have HSF := hideI hsf; have HB1 := hideI (HB0.out.trans (hb1.mono (by simp))); clear hfs hdone hnum hsf hb1)
      | (go_at_call 73; go_must (refine (fault_any f o par w1.heap.size (.slice P f.params.length pc) (.slice A f.blocks.length c) gF gL gp M F L _ (HSF.out.kept ((Below.refl _ _).alloc (Nat.le_refl _) _)) (by simp) hn5 (uses_known H0.out HID.out) HNUM.out P _ _ rfl).mono ?_); rintro e w2 ⟨x, y, rfl, hfi, hb2⟩; have HFI := hideI hfi; have HB2 := hideI ((HB1.out.alloc HB1.out.size _).trans (hb2.mono (by have := HB1.out.size; simp; omega))); clear hfi hb2))
    go_ret2
    exact ⟨x, y, rfl, .inr ⟨H0.out, o, HFS.out.order, HFI.out.change (fun hall b hb => usesR_iff hn0 HFS.out.ord HDONE.out HNUM.out hall hb)⟩, HB2.out⟩
  · have H0 := hideI h0
    have hb : ((lookM f).1 != 0) = true := by simpa using h0
    clear h0
    go_enter Tryz.func41, Tryz.ntmps41
    go_wp2_with (go_at_call 72; go_must (refine HF.out.mono ?_); rintro e w1 (⟨_, rfl, hb1⟩ | ⟨hbad, _⟩); rotate_left; (exact absurd hbad H0.out); have HB1 := hideI (HB0.out.trans (hb1.mono (by simp))); clear hb1)
    go_ret2
    exact ⟨_, _, rfl, .inl ⟨H0.out, rfl⟩, HB1.out.alloc HB1.out.size _⟩

end Go.Proofs.YtglbepdjahddmaaGreat

namespace Go.Proofs.YtglbepdjahddmaaGreat
open Go.RowKit Go.Maps

def awakeF : FuncM := ⟨[], 0, 0, [⟨[], [⟨1, 0, [], 5⟩], ⟨3, 0, [], 0⟩⟩]⟩

theorem awake_look : lookM awakeF = (0, [(0, 1)]) := by decide
theorem awake_size : sizeM awakeF = 2 := by decide

theorem awake_reads (w W : World) (h0 : W.heap[w.heap.size]? = some (.cells #[.int .i64 1, .int .i64 0, .slice none 0 0, .int .i64 5] 89 (0, 0)))
    (h1 : W.heap[w.heap.size + 1]? = some (.cells #[.slice none 0 0, .slice (some ⟨w.heap.size, 0, none⟩) 1 1, .int .i64 3, .int .i64 0, .slice none 0 0, .int .i64 0] 59 (0, 0))) :
    BlocksR W (w.heap.size + 2) (.slice (some ⟨w.heap.size + 1, 0, none⟩) 1 1) awakeF.blocks := by
  have c0 := row_cells h0 (rfl : W.heap[w.heap.size]? = W.heap[w.heap.size]?)
  have c1 := row_cells h1 (rfl : W.heap[w.heap.size + 1]? = W.heap[w.heap.size + 1]?)
  refine ⟨_, _, rfl, by decide, fun k q hk => ?_⟩
  have hq : k = 0 ∧ q = ⟨[], [⟨1, 0, [], 5⟩], ⟨3, 0, [], 0⟩⟩ := by
    rcases k with _ | k
    · simp [awakeF] at hk
      exact ⟨rfl, hk.symm⟩
    · simp [awakeF] at hk
  obtain ⟨rfl, rfl⟩ := hq
  refine ⟨_, 0, _, _, _, rfl, by omega, c1 _, c1 _, c1 _, c1 _, c1 _, c1 _, ⟨none, 0, rfl, by decide, fun k p hp => by simp at hp⟩, ⟨_, _, rfl, by decide, fun k x hx => ?_⟩, Ints.nil _ _, by unfold I64; decide, by unfold I64; decide, by unfold I64; decide⟩
  have hx' : k = 0 ∧ x = ⟨1, 0, [], 5⟩ := by
    rcases k with _ | k
    · simp at hx
      exact ⟨rfl, hx.symm⟩
    · simp at hx
  obtain ⟨rfl, rfl⟩ := hx'
  exact ⟨_, 0, _, rfl, by omega, c0 _, c0 _, c0 _, c0 _, Ints.nil _ _, by unfold I64; decide, by unfold I64; decide, by unfold I64; decide⟩

end Go.Proofs.YtglbepdjahddmaaGreat

namespace Go.Proofs.YtglbepdjahddmaaGreat
open Go.RowKit Go.Maps

theorem awake_order {o : List Nat} (h : OrderIs awakeF.blocks o) : o = [0] := by
  refine h.one ⟨[0], [], ?_, rfl⟩
  have : succM awakeF.blocks 0 = [] := rfl
  rw [this]
  exact .nil _

theorem awake_uses : ∀ u ∈ usesM awakeF, I64 u.1 := by
  intro u hu
  simp [usesM, awakeF, usesBlock, usesInstr, usesTerm, takesS, shapeS] at hu
  subst hu
  unfold I64
  decide

/-- the simplest function, made anew -/
def awakeMade (w : World) : World := (w.alloc (.cells #[.int .i64 1, .int .i64 0, .slice none 0 0, .int .i64 5] 89)).alloc (.cells #[.slice none 0 0, .slice (some ⟨w.heap.size, 0, none⟩) 1 1, .int .i64 3, .int .i64 0, .slice none 0 0, .int .i64 0] 59)

theorem awakeMade_facts (w : World) : BlocksR (awakeMade w) (w.heap.size + 2) (.slice (some ⟨w.heap.size + 1, 0, none⟩) 1 1) awakeF.blocks ∧ (awakeMade w).heap.size = w.heap.size + 2 ∧ Below w.heap.size w (awakeMade w) := by
  have hsz : (awakeMade w).heap.size = w.heap.size + 2 := by unfold awakeMade; simp
  have hBl : Below w.heap.size w (awakeMade w) := by unfold awakeMade; exact (((Below.refl _ w).alloc (Nat.le_refl _) _).alloc (by simp) _)
  have h0 : (awakeMade w).heap[w.heap.size]? = some (.cells #[.int .i64 1, .int .i64 0, .slice none 0 0, .int .i64 5] 89 (0, 0)) := by
    unfold awakeMade
    rw [Below.heap_alloc _ _ _ (by simp)]
    exact heap_alloc_new w _
  have h1 : (awakeMade w).heap[w.heap.size + 1]? = some (.cells #[.slice none 0 0, .slice (some ⟨w.heap.size, 0, none⟩) 1 1, .int .i64 3, .int .i64 0, .slice none 0 0, .int .i64 0] 59 (0, 0)) := by
    unfold awakeMade
    have := heap_alloc_new (w.alloc (.cells #[.int .i64 1, .int .i64 0, .slice none 0 0, .int .i64 5] 89)) (.cells #[.slice none 0 0, .slice (some ⟨w.heap.size, 0, none⟩) 1 1, .int .i64 3, .int .i64 0, .slice none 0 0, .int .i64 0] 59)
    simpa using this
  exact ⟨awake_reads w _ h0 h1, hsz, hBl⟩

theorem awake_orderIs : OrderIs awakeF.blocks [0] := by
  refine ⟨[0], [], ?_, rfl⟩
  have : succM awakeF.blocks 0 = [] := rfl
  rw [this]
  exact .nil _

end Go.Proofs.YtglbepdjahddmaaGreat

namespace Go.Proofs.YtglbepdjahddmaaGreat
open Go.RowKit Go.Maps

theorem awake_placed : placedM awakeF = [(0, (0, 0))] := by decide

theorem awake_checkIs : CheckIs awakeF (0, 0) := by
  refine .inr ⟨congrArg Prod.fst awake_look, [0], awake_orderIs, .inr (.inr (.inr ⟨?_, ?_, ?_, rfl⟩))⟩
  · intro b hb
    have : b = 0 := by have : b < 1 := hb; omega
    subst this
    simp
  · intro b hb q hq
    have : b = 0 := by have : b < 1 := hb; omega
    subst this
    simp [awakeF] at hq
    subst hq
    rfl
  · intro b hb q hq
    have : b = 0 := by have : b < 1 := hb; omega
    subst this
    simp [awakeF] at hq
    subst hq
    refine ⟨fun p hp => by simp at hp, fun i x hx => ?_, fun _ => ?_⟩
    · rcases i with _ | i
      · simp at hx
        subst hx
        intro id hid
        simp at hid
      · simp at hx
    · intro m hm
      rw [awake_placed] at hm
      have : m = (0, 0) := by
        have h2 : Placed.last [(0, (0, 0))] 0 = some (0, 0) := by decide
        exact (Option.some.inj (h2.symm.trans hm)).symm
      subst this
      exact .inl ⟨rfl, by simp⟩

end Go.Proofs.YtglbepdjahddmaaGreat

namespace Go.Proofs.YtglbepdjahddmaaGreat
open Go.RowKit

/-- how far a run has come -/
structure StM where
  val : Int → Int
  cells : List Int
  arrs : List (List Int)
  out : List Int
  steps : Nat
  checks : Int
  vis : List Int

/-- how a run ended: End, Value, Trap -/
abbrev EndM := Int × Int × Int

/-- a place in a run: in block 'b', ahead of its instruction (or end) 'k' -/
structure CfgM where
  s : StM
  b : Nat
  k : Nat
  fin : Option EndM

def noBlock : BlockM := ⟨[], [], ⟨0, 0, [], 0⟩⟩
def blkM (f : FuncM) (b : Nat) : BlockM := f.blocks.getD b noBlock

def setV (g : Int → Int) (id v : Int) : Int → Int := fun x => if x = id then v else g x
def setAll (g : Int → Int) : List (Int × Int) → Int → Int
  | [] => g
  | p :: r => setAll (setV g p.1 p.2) r

/-- bits of numbers -/
def bitsS (op : BinOp) (x y : Int) : Int := bits op .i64 x y
def u64 (x : Int) : Int := x % 18446744073709551616
def flagM (b : Bool) : Int := if b then 1 else 0

/-- what a pure operation makes of numbers -/
def calcM (op : Int) (a : List Int) : Int :=
  let x := a.getD 0 0
  let y := a.getD 1 0
  if op = 3 then wrap64 (x + y) else
  if op = 4 then wrap64 (x - y) else
  if op = 5 then wrap64 (x * y) else
  if op = 6 then bitsS .and x y else
  if op = 7 then bitsS .or x y else
  if op = 8 then bitsS .xor x y else
  if op = 9 then wrap64 (x * 2 ^ (u64 y % 64).toNat) else
  if op = 10 then wrap64 (u64 x / 2 ^ (u64 y % 64).toNat) else
  if op = 11 then wrap64 (x.tdiv y) else
  if op = 12 then x.tmod y else
  if op = 13 then flagM (decide (x = y)) else
  if op = 14 then flagM (decide (x < y)) else
  if op = 15 then flagM (decide (u64 x < u64 y)) else
  if op = 16 then flagM (decide (x = 0)) else
  if x = 0 then a.getD 2 0 else y

def divZero (op : Int) (a : List Int) : Bool := (decide (op = 11) || decide (op = 12)) && decide (a.getD 1 0 = 0)

def arrM (s : StM) (n : Int) : List Int := s.arrs.getD n.toNat []
def inArr (s : StM) (n i : Int) : Bool := decide (0 ≤ i) && decide (i < (arrM s n).length)

/-- the look at an element: Checks, and how the run ends if it is not there -/
def lookS (op : Int) (s : StM) : StM := if op = 19 ∨ op = 20 then { s with checks := wrap64 (s.checks + 1) } else s
def missM (op : Int) : EndM := if op = 19 ∨ op = 20 then (2, 0, -2) else (5, 0, 0)

/-- what an instruction makes that makes something -/
def madeM (x : InstrM) (a : List Int) (s : StM) : StM × (Int ⊕ EndM) :=
  if x.op = 1 ∨ x.op = 2 then (s, .inl x.n) else
  if x.op = 18 then (s, .inl (arrM s x.n).length) else
  if x.op = 19 ∨ x.op = 21 then
    if inArr s x.n (a.getD 0 0) then (lookS x.op s, .inl ((arrM s x.n).getD (a.getD 0 0).toNat 0)) else (lookS x.op s, .inr (missM x.op)) else
  if x.op = 24 then (s, .inl (s.cells.getD x.n.toNat 0)) else
  if divZero x.op a then (s, .inr (2, 0, -1)) else (s, .inl (calcM x.op a))

def doM (x : InstrM) (s : StM) : StM × Option EndM :=
  let a := x.args.map s.val
  if x.op = 20 ∨ x.op = 22 then
    if inArr s x.n (a.getD 0 0) then ({ lookS x.op s with arrs := s.arrs.set x.n.toNat ((arrM s x.n).set (a.getD 0 0).toNat (a.getD 1 0)) }, none) else (lookS x.op s, some (missM x.op)) else
  if x.op = 23 then
    if s.out.length = 4096 then (s, some (4, 0, 0)) else ({ s with out := s.out ++ [a.getD 0 0] }, none) else
  if x.op = 25 then ({ s with cells := s.cells.set x.n.toNat (a.getD 0 0) }, none) else
  match madeM x a s with
  | (s1, .inl v) => ({ s1 with val := setV s1.val x.id v }, none)
  | (s1, .inr e) => (s1, some e)

def phiGets (g : Int → Int) (fr : Int) (p : PhiM) : Int := g (p.vals.getD (p.fr.idxOf fr) 0)

/-- a block is come to -/
def arriveM (f : FuncM) (b : Nat) (fr : Int) (s : StM) : StM :=
  { s with vis := s.vis.set b (wrap64 (s.vis.getD b 0 + 1)), val := setAll s.val ((blkM f b).phis.map fun p => (p.id, phiGets s.val fr p)) }

def enterM (f : FuncM) (b : Nat) (fr : Int) (s : StM) : CfgM := ⟨arriveM f b fr s, b, 0, none⟩

def tickM (s : StM) : StM := { s with steps := s.steps + 1 }

def nextM (t : TermM) (s : StM) : Int := if t.op = 2 ∧ s.val t.val = 0 then t.to.getD 1 0 else t.to.getD 0 0

def leaveM (f : FuncM) (b k : Nat) (s : StM) : CfgM :=
  let t := (blkM f b).term
  if t.op = 3 then ⟨s, b, k, some (1, s.val t.val, 0)⟩ else
  if t.op = 4 then ⟨s, b, k, some (2, 0, t.n)⟩ else enterM f (nextM t s).toNat b s

/-- one step -/
def goM (f : FuncM) (c : CfgM) : CfgM :=
  match c.fin with
  | some _ => c
  | none =>
    match (blkM f c.b).code[c.k]? with
    | some x => ⟨(doM x (tickM c.s)).1, c.b, c.k + 1, (doM x (tickM c.s)).2⟩
    | none => leaveM f c.b c.k (tickM c.s)

def goN (f : FuncM) : Nat → CfgM → CfgM
  | 0, c => c
  | n + 1, c => goM f (goN f n c)

/-- an input -/
structure InM where
  args : List Int
  arrs : List (List Int)

def argM (f : FuncM) (I : InM) (i : Nat) : Int :=
  if i < f.params.length ∧ i < I.args.length then
    if f.params.getD i 0 = 2 ∧ I.args.getD i 0 ≠ 0 then 1 else I.args.getD i 0
  else 0

def startS (f : FuncM) (I : InM) : StM where
  val := fun x => if 0 ≤ x then argM f I x.toNat else 0
  cells := List.replicate f.cells.toNat 0
  arrs := (List.range f.arrays.toNat).map fun i => (I.arrs.getD i []).take 4096
  out := []
  steps := 0
  checks := 0
  vis := List.replicate f.blocks.length 0

def startM (f : FuncM) (I : InM) : CfgM := enterM f 0 (-1) (startS f I)

def finM (c : CfgM) : EndM := c.fin.getD (3, 0, 0)

/-- the run, with so much fuel -/
def runM (f : FuncM) (I : InM) (fuel : Nat) : CfgM := goN f (min fuel 200000) (startM f I)

/-! what a run is like -/

theorem goM_fin {f : FuncM} {c : CfgM} (h : c.fin ≠ none) : goM f c = c := by
  unfold goM
  cases hf : c.fin with
  | none => exact absurd hf h
  | some e => rfl

theorem goN_add (f : FuncM) (m : Nat) : ∀ (n : Nat) (c : CfgM), goN f (n + m) c = goN f n (goN f m c)
  | 0, c => by rw [Nat.zero_add]; rfl
  | n + 1, c => by rw [show n + 1 + m = (n + m) + 1 by omega]; show goM f (goN f (n + m) c) = goM f (goN f n (goN f m c)); rw [goN_add f m n c]

theorem goN_fin {f : FuncM} {c : CfgM} (h : c.fin ≠ none) : ∀ n, goN f n c = c
  | 0 => rfl
  | n + 1 => by show goM f (goN f n c) = c; rw [goN_fin h n, goM_fin h]

/-- a run that has ended stays so -/
theorem goN_ended {f : FuncM} {c : CfgM} {m n : Nat} (hmn : m ≤ n) (h : (goN f m c).fin ≠ none) : goN f n c = goN f m c := by
  obtain ⟨d, rfl⟩ : ∃ d, n = d + m := ⟨n - m, by omega⟩
  rw [goN_add, goN_fin h]

theorem madeM_steps (x : InstrM) (a : List Int) (s : StM) : (madeM x a s).1.steps = s.steps := by
  unfold madeM lookS
  repeat' split
  all_goals rfl

theorem lookS_steps (op : Int) (s : StM) : (lookS op s).steps = s.steps := by
  unfold lookS
  split <;> rfl

theorem doM_steps (x : InstrM) (s : StM) : (doM x s).1.steps = s.steps := by
  have hm := madeM_steps x (x.args.map s.val) s
  have hl := lookS_steps x.op s
  unfold doM
  simp only
  repeat' split
  all_goals first | rfl | exact hl | (rename_i h; rw [h] at hm; exact hm)

theorem arriveM_steps (f : FuncM) (b : Nat) (fr : Int) (s : StM) : (arriveM f b fr s).steps = s.steps := rfl

theorem leaveM_steps (f : FuncM) (b k : Nat) (s : StM) : (leaveM f b k s).s.steps = s.steps := by
  unfold leaveM enterM
  simp only
  repeat' split
  all_goals rfl

theorem goM_steps {f : FuncM} {c : CfgM} (h : c.fin = none) : (goM f c).s.steps = c.s.steps + 1 := by
  unfold goM
  rw [h]
  simp only
  split
  · exact (doM_steps _ _).trans rfl
  · exact (leaveM_steps _ _ _ _).trans rfl

/-- a run that goes on has done as many steps as it took -/
theorem goN_steps {f : FuncM} {I : InM} : ∀ {n : Nat}, (goN f n (startM f I)).fin = none → (goN f n (startM f I)).s.steps = n
  | 0, _ => rfl
  | n + 1, h => by
    have h0 : (goN f n (startM f I)).fin = none := by
      cases hf : (goN f n (startM f I)).fin with
      | none => rfl
      | some e =>
        have h1 : goM f (goN f n (startM f I)) = goN f n (startM f I) := goM_fin (by rw [hf]; exact fun h => by cases h)
        rw [show goN f (n + 1) (startM f I) = goM f (goN f n (startM f I)) from rfl, h1, hf] at h
        cases h
    show (goM f (goN f n (startM f I))).s.steps = n + 1
    rw [goM_steps h0, goN_steps h0]

end Go.Proofs.YtglbepdjahddmaaGreat

namespace Go.Proofs.YtglbepdjahddmaaGreat
open Go.RowKit

theorem num_add (x y : Int) (w : World) : Calls Tryz.prog 82 #[.int .i64 x, .int .i64 y] w fun e w' => e = .returned (.int .i64 (wrap64 (x + y))) ∧ w' = w := by
  go_enter Tryz.func82, Tryz.ntmps82
  go_wp2
  go_ret
  exact ⟨rfl, rfl⟩
theorem num_sub (x y : Int) (w : World) : Calls Tryz.prog 83 #[.int .i64 x, .int .i64 y] w fun e w' => e = .returned (.int .i64 (wrap64 (x - y))) ∧ w' = w := by
  go_enter Tryz.func83, Tryz.ntmps83
  go_wp2
  go_ret
  exact ⟨rfl, rfl⟩
theorem num_mul (x y : Int) (w : World) : Calls Tryz.prog 84 #[.int .i64 x, .int .i64 y] w fun e w' => e = .returned (.int .i64 (wrap64 (x * y))) ∧ w' = w := by
  go_enter Tryz.func84, Tryz.ntmps84
  go_wp2
  go_ret
  exact ⟨rfl, rfl⟩
theorem num_and (x y : Int) (w : World) : Calls Tryz.prog 85 #[.int .i64 x, .int .i64 y] w fun e w' => e = .returned (.int .i64 (bitsS .and x y)) ∧ w' = w := by
  go_enter Tryz.func85, Tryz.ntmps85
  go_wp2
  go_ret
  exact ⟨rfl, rfl⟩
theorem num_or (x y : Int) (w : World) : Calls Tryz.prog 86 #[.int .i64 x, .int .i64 y] w fun e w' => e = .returned (.int .i64 (bitsS .or x y)) ∧ w' = w := by
  go_enter Tryz.func86, Tryz.ntmps86
  go_wp2
  go_ret
  exact ⟨rfl, rfl⟩
theorem num_xor (x y : Int) (w : World) : Calls Tryz.prog 87 #[.int .i64 x, .int .i64 y] w fun e w' => e = .returned (.int .i64 (bitsS .xor x y)) ∧ w' = w := by
  go_enter Tryz.func87, Tryz.ntmps87
  go_wp2
  go_ret
  exact ⟨rfl, rfl⟩
theorem num_div (x y : Int) (w : World) (hy : ¬ y = 0) : Calls Tryz.prog 90 #[.int .i64 x, .int .i64 y] w fun e w' => e = .returned (.int .i64 (wrap64 (x.tdiv y))) ∧ w' = w := by
  go_enter Tryz.func90, Tryz.ntmps90
  go_wp2
  go_ret
  exact ⟨rfl, rfl⟩
theorem num_rem (x y : Int) (w : World) (hy : ¬ y = 0) : Calls Tryz.prog 91 #[.int .i64 x, .int .i64 y] w fun e w' => e = .returned (.int .i64 (x.tmod y)) ∧ w' = w := by
  go_enter Tryz.func91, Tryz.ntmps91
  go_wp2
  go_ret
  exact ⟨rfl, rfl⟩
theorem flagOf_any (b : Bool) (w : World) : Calls Tryz.prog 95 #[.bool b] w fun e w' => e = .returned (.int .i64 (flagM b)) ∧ w' = w := by
  cases b
  · go_enter Tryz.func95, Tryz.ntmps95
    go_wp2
    go_ret
    exact ⟨rfl, rfl⟩
  · go_enter Tryz.func95, Tryz.ntmps95
    go_wp2
    go_ret
    exact ⟨rfl, rfl⟩
theorem num_eq (x y : Int) (w : World) : Calls Tryz.prog 92 #[.int .i64 x, .int .i64 y] w fun e w' => e = .returned (.int .i64 (flagM (decide (x = y)))) ∧ w' = w := by
  go_enter Tryz.func92, Tryz.ntmps92
  go_wp2_with (go_at_call 95; refine (flagOf_any _ _).mono ?_; rintro e w1 ⟨rfl, rfl⟩)
  go_ret
  exact ⟨by congr 2, rfl⟩
theorem num_lt (x y : Int) (w : World) : Calls Tryz.prog 93 #[.int .i64 x, .int .i64 y] w fun e w' => e = .returned (.int .i64 (flagM (decide (x < y)))) ∧ w' = w := by
  go_enter Tryz.func93, Tryz.ntmps93
  go_wp2_with (go_at_call 95; refine (flagOf_any _ _).mono ?_; rintro e w1 ⟨rfl, rfl⟩)
  go_ret
  exact ⟨rfl, rfl⟩
theorem num_below (x y : Int) (w : World) : Calls Tryz.prog 94 #[.int .i64 x, .int .i64 y] w fun e w' => e = .returned (.int .i64 (flagM (decide (u64 x < u64 y)))) ∧ w' = w := by
  go_enter Tryz.func94, Tryz.ntmps94
  go_wp2_with (go_at_call 95; refine (flagOf_any _ _).mono ?_; rintro e w1 ⟨rfl, rfl⟩)
  go_ret
  exact ⟨rfl, rfl⟩
theorem u64_wrap (y : Int) : IntKind.u64.wrap y = u64 y := by
  unfold u64
  simp [IntKind.wrap, IntKind.bits, IntKind.signed]

theorem u64_pos (y : Int) : 0 ≤ u64 y := by unfold u64; omega

theorem u64_tmod (y : Int) : (IntKind.u64.wrap y).tmod 64 = u64 y % 64 := by
  rw [u64_wrap, Int.tmod_eq_emod_of_nonneg (u64_pos y)]

theorem shift_l (P : Program) (x y : Int) (w : World) : (Op.shift .shl .i64 x .u64 ((IntKind.u64.wrap y).tmod 64)).run P w = .ok (.int .i64 (wrap64 (x * 2 ^ (u64 y % 64).toNat))) w := by
  have h0 : ¬ (u64 y % 64 < 0) := by omega
  have h1 : min (u64 y % 64).toNat IntKind.i64.bits = (u64 y % 64).toNat := by
    have : IntKind.i64.bits = 64 := rfl
    rw [this]; omega
  rw [u64_tmod]
  unfold Op.shift
  rw [if_neg h0]
  simp only [h1]
  show (Sem.run P (pure (Value.int IntKind.i64 (IntKind.i64.wrap (x * 2 ^ (u64 y % 64).toNat)))) w) = _
  rw [show IntKind.i64.wrap (x * 2 ^ (u64 y % 64).toNat) = wrap64 (x * 2 ^ (u64 y % 64).toNat) from (by rw [IntKind.wrap_i64]; unfold wrap64; rfl)]
  rfl

theorem shift_r (P : Program) (x y : Int) (w : World) : (Op.shift .shr .u64 (IntKind.u64.wrap x) .u64 ((IntKind.u64.wrap y).tmod 64)).run P w = .ok (.int .u64 (u64 x / 2 ^ (u64 y % 64).toNat)) w := by
  have h0 : ¬ (u64 y % 64 < 0) := by omega
  have h1 : min (u64 y % 64).toNat IntKind.u64.bits = (u64 y % 64).toNat := by
    have : IntKind.u64.bits = 64 := rfl
    rw [this]; omega
  rw [u64_tmod, u64_wrap]
  unfold Op.shift
  rw [if_neg h0]
  simp only [h1]
  rw [← Int.fdiv_eq_ediv_of_nonneg _ (by exact Int.le_of_lt (Int.pow_pos (by decide)))]
  rfl

theorem num_shl (x y : Int) (w : World) : Calls Tryz.prog 88 #[.int .i64 x, .int .i64 y] w fun e w' => e = .returned (.int .i64 (wrap64 (x * 2 ^ (u64 y % 64).toNat))) ∧ w' = w := by
  have hs := shift_l Tryz.prog x y
  go_enter Tryz.func88, Tryz.ntmps88
  go_wp2
  go_ret
  exact ⟨rfl, rfl⟩
theorem num_shr (x y : Int) (w : World) : Calls Tryz.prog 89 #[.int .i64 x, .int .i64 y] w fun e w' => e = .returned (.int .i64 (wrap64 (u64 x / 2 ^ (u64 y % 64).toNat))) ∧ w' = w := by
  have hs := shift_r Tryz.prog x y
  go_enter Tryz.func89, Tryz.ntmps89
  go_wp2
  go_ret
  exact ⟨rfl, rfl⟩

/-- the function's number, by its operation -/
def fnOf (op : Int) : Nat :=
  if op = 3 then 82 else
  if op = 4 then 83 else
  if op = 5 then 84 else
  if op = 6 then 85 else
  if op = 7 then 86 else
  if op = 8 then 87 else
  if op = 9 then 88 else
  if op = 10 then 89 else
  if op = 11 then 90 else
  if op = 12 then 91 else
  if op = 13 then 92 else
  if op = 14 then 93 else 94

theorem num_any (op : Int) (h1 : 3 ≤ op) (h2 : op ≤ 15) (x y : Int) (r : List Int) (hd : divZero op (x :: y :: r) = false) (w : World) :
    Calls Tryz.prog (fnOf op) #[.int .i64 x, .int .i64 y] w fun e w' => e = .returned (.int .i64 (calcM op (x :: y :: r))) ∧ w' = w := by
  have hy : (op = 11 ∨ op = 12) → ¬ y = 0 := by
    rintro ho rfl
    unfold divZero at hd
    rcases ho with rfl | rfl <;> simp at hd
  obtain rfl | rfl | rfl | rfl | rfl | rfl | rfl | rfl | rfl | rfl | rfl | rfl | rfl : op = 3 ∨ op = 4 ∨ op = 5 ∨ op = 6 ∨ op = 7 ∨ op = 8 ∨ op = 9 ∨ op = 10 ∨ op = 11 ∨ op = 12 ∨ op = 13 ∨ op = 14 ∨ op = 15 := by omega
  · exact num_add x y w
  · exact num_sub x y w
  · exact num_mul x y w
  · exact num_and x y w
  · exact num_or x y w
  · exact num_xor x y w
  · exact num_shl x y w
  · exact num_shr x y w
  · exact num_div x y w (hy (.inl rfl))
  · exact num_rem x y w (hy (.inr rfl))
  · exact num_eq x y w
  · exact num_lt x y w
  · exact num_below x y w
end Go.Proofs.YtglbepdjahddmaaGreat

namespace Go.Proofs.YtglbepdjahddmaaGreat
open Go.RowKit Go.Maps

/-- how a function reads -/
def fnElem : Value → Option (DataW Unit × List MemPlace)
  | .func (.func n) fs cs => if fs.size = 0 ∧ cs.size = 0 then some (.lit (.int .i64 n), []) else none
  | .nilFunc => some (.nil, [])
  | _ => none

theorem fnElem_mk (n : Nat) : fnElem (.func (.func n) #[] #[]) = some (.lit (.int .i64 n), []) := rfl

theorem fnElem_inv {v : Value} {n : Nat} {ps : List MemPlace} (h : fnElem v = some (.lit (.int .i64 n), ps)) : v = .func (.func n) #[] #[] := by
  unfold fnElem at h
  split at h
  · rename_i m fs cs
    split at h
    · rename_i hc
      have h4 : ((m : Nat) : Int) = ((n : Nat) : Int) := by simpa using congrArg Prod.fst (Option.some.inj h)
      have h3 : m = n := Int.ofNat.inj h4
      have h1 : fs = #[] := Array.eq_empty_of_size_eq_zero hc.1
      have h2 : cs = #[] := Array.eq_empty_of_size_eq_zero hc.2
      rw [h1, h2, h3]
    · cases h
  · cases h
  · cases h

/-- an entry of a map's literal -/
theorem wpList_insert_own {H : Type} {P : Program} (w : World) {ops : Array Oper} {rest : List Oper} {o : Oper} {a : Act} {Q : Exit → Act → World → Prop}
    (hg : o.guard = none) (m x v : Operand) (t : TypeId) (hop : o.op = Op.insert t m x v)
    (k e : TypeId) (K : Keyed P k) (ht : P.underlying t = some (.map k e)) (R : Value → Option (DataW H × List MemPlace)) (b n : Nat) (D : DataW H)
    (hm : a.eval m = .map (some b)) (hown : w.ownsMap P k R b n D) (hn : n < maxLen) (key val : Value) (kl : Lit) (hx : a.eval x = key) (hv : a.eval v = val) (hkey : keyOf P k key = some kl)
    (d : DataW H) (ps : List MemPlace) (hval : R val = some (d, ps))
    (hK : ∀ w', w'.ownsMap P k R b (n + 1) (D.put kl d) → w.grownBy w' (some b) → wpList P ops Q rest (a.put o.dst undef) w') :
    wpList P ops Q (o :: rest) a w := by
  refine wpList_plain hg fun K' hK' => ?_
  obtain ⟨w', hrun, r1, r2⟩ := hown.update K ht hn hkey hval
  unfold Oper.wp
  simp [execOp, hop, hm, hx, hv, hrun, Result.andThen]
  exact hK' _ _ (hK w' r1 r2)

/-- block M is the map of the operations' functions -/
def OpsAt (w : World) (M : Nat) : Prop :=
  ∃ D : DataW Unit, w.ownsMap Tryz.prog 3 fnElem M 13 D ∧ ∀ op : Int, 3 ≤ op → op ≤ 15 → ∀ z, D.atKey (.int .i64 op) z = .lit (.int .i64 (fnOf op))

theorem OpsAt.below {w w' : World} {M B : Nat} (h : OpsAt w M) (hb : Below B w w') (hM : M < B) : OpsAt w' M := by
  obtain ⟨D, ⟨es, clock, hg, r⟩, q⟩ := h
  exact ⟨D, ⟨es, clock, (hb.block M hM).trans hg, r⟩, q⟩

theorem OpsAt.lt {w : World} {M : Nat} (h : OpsAt w M) : M < w.heap.size := by
  obtain ⟨D, h, _⟩ := h
  exact h.lt

theorem OpsAt.heap {w w' : World} {M : Nat} (h : OpsAt w M) (hb : w'.heap[M]? = w.heap[M]?) : OpsAt w' M := by
  obtain ⟨D, ⟨es, clock, hg, r⟩, q⟩ := h
  exact ⟨D, ⟨es, clock, hb.trans hg, r⟩, q⟩

def PairsPost (w : World) (e : Ending) (w' : World) : Prop := e = .returned (.map (some w.heap.size)) ∧ OpsAt w' w.heap.size ∧ Below w.heap.size w w'

theorem pairs_end {w w' : World} (h : w'.ownsMap Tryz.prog 3 fnElem w.heap.size 13 ((((((((((((((.map [] : DataW Unit).put (.int .i64 3) (.lit (.int .i64 82))).put (.int .i64 4) (.lit (.int .i64 83))).put (.int .i64 5) (.lit (.int .i64 84))).put (.int .i64 6) (.lit (.int .i64 85))).put (.int .i64 7) (.lit (.int .i64 86))).put (.int .i64 8) (.lit (.int .i64 87))).put (.int .i64 9) (.lit (.int .i64 88))).put (.int .i64 10) (.lit (.int .i64 89))).put (.int .i64 11) (.lit (.int .i64 90))).put (.int .i64 12) (.lit (.int .i64 91))).put (.int .i64 13) (.lit (.int .i64 92))).put (.int .i64 14) (.lit (.int .i64 93))).put (.int .i64 15) (.lit (.int .i64 94))))
    (hb : Below w.heap.size w w') : PairsPost w (.returned (.map (some w.heap.size))) w' := by
  refine ⟨rfl, ⟨_, h, fun op h1 h2 z => ?_⟩, hb⟩
  obtain rfl | rfl | rfl | rfl | rfl | rfl | rfl | rfl | rfl | rfl | rfl | rfl | rfl : op = 3 ∨ op = 4 ∨ op = 5 ∨ op = 6 ∨ op = 7 ∨ op = 8 ∨ op = 9 ∨ op = 10 ∨ op = 11 ∨ op = 12 ∨ op = 13 ∨ op = 14 ∨ op = 15 := by omega
  all_goals rfl

set_option maxRecDepth 100000 in
set_option maxHeartbeats 2000000 in
theorem pairs_any (w : World) : Calls Tryz.prog 47 #[] w (PairsPost w) := by
  have hmm := @run_makeMap Tryz.prog
  have hown := World.ownsMap_made w Tryz.prog 3 fnElem
  have hb : Below w.heap.size w (w.alloc (.map #[] 0)) := (Below.refl w.heap.size w).alloc (Nat.le_refl _) _
  go_enter Tryz.func47, Tryz.ntmps47
  go_wp2_with (refine wpList_insert_own _ rfl _ _ _ 95 rfl 3 146 lawInt Tryz.underlying95 fnElem _ _ _ rfl hown (by unfold maxLen; omega) _ _ _ rfl rfl (keyOf_int_mk Tryz.underlying3 (by decide)) _ [] (fnElem_mk _) ?_; clear hown; intro w1 hown hg1; replace hb := hb.grown hg1 hb.size (fun j hj => by cases hj; exact Nat.le_refl _); clear hg1)
  go_ret
  exact pairs_end hown hb

end Go.Proofs.YtglbepdjahddmaaGreat

namespace Go.Proofs.YtglbepdjahddmaaGreat
open Go.RowKit Go.Maps

theorem zeroFn (w : World) : (zeroValue 146).run Tryz.prog w = .ok .nilFunc w := by kernel_rfl

theorem OpsAt.get {w : World} {M : Nat} (h : OpsAt w M) {op : Int} (h1 : 3 ≤ op) (h2 : op ≤ 15) :
    (Instr.lookup 95 (.map (some M)) (.int .i64 op) false).run Tryz.prog w = .ok (.func (.func (fnOf op)) #[] #[]) w := by
  obtain ⟨D, hown, hat⟩ := h
  obtain ⟨v, ps, hrun, hv⟩ := hown.lookup lawInt Tryz.underlying95 (zeroFn w) (rfl : fnElem .nilFunc = some (.nil, [])) (keyOf_int_mk Tryz.underlying3 (WalkArith.wf_i64 (by omega)) : keyOf Tryz.prog 3 (.int .i64 op) = some (.int .i64 op))
  rw [hat op h1 h2] at hv
  rw [fnElem_inv hv] at hrun
  exact hrun

theorem enter_fn (op : Int) (h1 : 3 ≤ op) (h2 : op ≤ 15) (args : Array Value) (W : World) : (callFunc (fnOf op) args).run Tryz.prog W = .ok (.enter (fnOf op) args) W := by
  obtain rfl | rfl | rfl | rfl | rfl | rfl | rfl | rfl | rfl | rfl | rfl | rfl | rfl : op = 3 ∨ op = 4 ∨ op = 5 ∨ op = 6 ∨ op = 7 ∨ op = 8 ∨ op = 9 ∨ op = 10 ∨ op = 11 ∨ op = 12 ∨ op = 13 ∨ op = 14 ∨ op = 15 := by omega
  all_goals kernel_rfl

set_option maxRecDepth 100000 in
set_option maxHeartbeats 2000000 in
theorem calc_pair (op : Int) (h1 : 3 ≤ op) (h2 : op ≤ 15) (x y : Int) (r : List Int) (hd : divZero op (x :: y :: r) = false) (M g off n c : Nat) (w : World) (hops : OpsAt w M) (hn : 2 ≤ n) (hn2 : n < 4611686018427387904) (c0 : w.cell? ⟨g, off, none⟩ = some (.int .i64 x)) (c1 : w.cell? ⟨g, off + 1, none⟩ = some (.int .i64 y)) :
    Calls Tryz.prog 48 #[.map (some M), .int .i64 op, .slice (some ⟨g, off, none⟩) n c] w fun e w' => e = .returned (.int .i64 (calcM op (x :: y :: r))) ∧ ∃ m, w' = w.drewN m := by
  obtain ⟨F, hF⟩ : ∃ F, F = fnOf op := ⟨_, rfl⟩
  have hc : ∀ W : World, Calls Tryz.prog F #[.int .i64 x, .int .i64 y] W fun e w' => e = .returned (.int .i64 (calcM op (x :: y :: r))) ∧ w' = W := fun W => by rw [hF]; exact num_any op h1 h2 x y r hd W
  have hl : ∀ k : Nat, (Instr.lookup 95 (.map (some M)) (.int .i64 op) false).run Tryz.prog (w.drewN k) = .ok (.func (.func F) #[] #[]) (w.drewN k) := fun k => by
    rw [hF]
    exact (hops.heap (w' := w.drewN k) rfl).get h1 h2
  have hcf : ∀ (args : Array Value) (W : World), (callFunc F args).run Tryz.prog W = .ok (.enter F args) W := fun args W => by rw [hF]; exact enter_fn op h1 h2 args W
  have d16 : (op == 16) = false := by rw [beq_eq_false_iff_ne]; omega
  have d17 : (op == 17) = false := by rw [beq_eq_false_iff_ne]; omega
  have g0 : (0 : Int) < (n : Int) := by omega
  have g1 : (1 : Int) < (n : Int) := by omega
  have g2 : 0 < n := by omega
  have g3 : 1 < n := by omega
  have g4 : ¬ n = 0 := by omega
  clear hF hops hd
  generalize calcM op (x :: y :: r) = R at hc ⊢
  go_enter Tryz.func48, Tryz.ntmps48
  go_wp2
  go_quiet (refine Calls.quiet_of_same (hc _))
  go_wp2
  go_ret
  exact ⟨rfl, _, rfl⟩

set_option maxRecDepth 100000 in
set_option maxHeartbeats 2000000 in
theorem calc_not (x : Int) (r : List Int) (M : Value) (g off n c : Nat) (w : World) (hn : 1 ≤ n) (c0 : w.cell? ⟨g, off, none⟩ = some (.int .i64 x)) :
    Calls Tryz.prog 48 #[M, .int .i64 16, .slice (some ⟨g, off, none⟩) n c] w fun e w' => e = .returned (.int .i64 (calcM 16 (x :: r))) ∧ ∃ m, w' = w.drewN m := by
  have g2 : 0 < n := by omega
  have g4 : ¬ n = 0 := by omega
  have he : calcM 16 (x :: r) = flagM (x == 0) := by
    unfold calcM
    simp
    congr 1
  rw [he]
  have hc : ∀ W : World, Calls Tryz.prog 95 #[.bool (x == 0)] W fun e w' => e = .returned (.int .i64 (flagM (x == 0))) ∧ w' = W := fun W => flagOf_any _ W
  clear he
  obtain ⟨R, hR⟩ : ∃ R, flagM (x == 0) = R := ⟨_, rfl⟩
  rw [hR] at hc ⊢
  clear hR
  go_enter Tryz.func48, Tryz.ntmps48
  go_wp2_with (go_at_call 95; refine (hc _).mono ?_; rintro e w1 ⟨rfl, rfl⟩)
  go_ret
  exact ⟨rfl, 0, rfl⟩

set_option maxRecDepth 100000 in
set_option maxHeartbeats 2000000 in
theorem calc_sel (x y z : Int) (M : Value) (g off n c : Nat) (w : World) (hn : 3 ≤ n) (c0 : w.cell? ⟨g, off, none⟩ = some (.int .i64 x)) (c1 : w.cell? ⟨g, off + 1, none⟩ = some (.int .i64 y)) (c2 : w.cell? ⟨g, off + 2, none⟩ = some (.int .i64 z)) :
    Calls Tryz.prog 48 #[M, .int .i64 17, .slice (some ⟨g, off, none⟩) n c] w fun e w' => e = .returned (.int .i64 (calcM 17 [x, y, z])) ∧ ∃ m, w' = w.drewN m := by
  have g2 : 0 < n := by omega
  have g4 : ¬ n = 0 := by omega
  have g3 : 1 < n := by omega
  have g5 : 2 < n := by omega
  by_cases hx : x = 0
  · have he : calcM 17 [x, y, z] = z := by unfold calcM; simp [hx]
    rw [he]
    clear he
    have hx1 : (x != 0) = false := by simpa using hx
    clear hx
    go_enter Tryz.func48, Tryz.ntmps48
    go_wp2
    go_ret
    exact ⟨rfl, 0, rfl⟩
  · have he : calcM 17 [x, y, z] = y := by unfold calcM; simp [hx]
    rw [he]
    clear he
    have hx1 : (x != 0) = true := by simpa using hx
    clear hx
    go_enter Tryz.func48, Tryz.ntmps48
    go_wp2
    go_ret
    exact ⟨rfl, 0, rfl⟩

theorem takes_two {op : Int} (h1 : 3 ≤ op) (h2 : op ≤ 15) : (takesS op).length = 2 := by
  obtain rfl | rfl | rfl | rfl | rfl | rfl | rfl | rfl | rfl | rfl | rfl | rfl | rfl : op = 3 ∨ op = 4 ∨ op = 5 ∨ op = 6 ∨ op = 7 ∨ op = 8 ∨ op = 9 ∨ op = 10 ∨ op = 11 ∨ op = 12 ∨ op = 13 ∨ op = 14 ∨ op = 15 := by omega
  all_goals rfl

/-- what operations make, by the map -/
theorem calc_any (op : Int) (h1 : 3 ≤ op) (h2 : op ≤ 17) (xs : List Int) (hl : xs.length = (takesS op).length) (hd : divZero op xs = false) (M B : Nat) (av : Value) (w : World) (hops : OpsAt w M) (ha : Ints w B av xs) :
    Calls Tryz.prog 48 #[.map (some M), .int .i64 op, av] w fun e w' => e = .returned (.int .i64 (calcM op xs)) ∧ ∃ m, w' = w.drewN m := by
  obtain ⟨A, c, rfl, _, hat⟩ := ha
  by_cases h15 : op ≤ 15
  · rw [takes_two h1 h15] at hl
    obtain ⟨x, y, rfl⟩ : ∃ x y, xs = [x, y] := by
      match xs, hl with
      | [x, y], _ => exact ⟨x, y, rfl⟩
    obtain ⟨g, off, rfl, _, c0⟩ := hat 0 (by simp)
    obtain ⟨_, _, e, _, c1⟩ := hat 1 (by simp)
    cases e
    exact calc_pair op h1 h15 x y [] hd M g off 2 c w hops (by omega) (by omega) (by simpa using c0) (by simpa using c1)
  · obtain rfl | rfl : op = 16 ∨ op = 17 := by omega
    · have hl1 : xs.length = 1 := hl
      obtain ⟨x, rfl⟩ : ∃ x, xs = [x] := by
        match xs, hl1 with
        | [x], _ => exact ⟨x, rfl⟩
      obtain ⟨g, off, rfl, _, c0⟩ := hat 0 (by simp)
      exact calc_not x [] _ g off 1 c w (by omega) (by simpa using c0)
    · have hl1 : xs.length = 3 := hl
      obtain ⟨x, y, z, rfl⟩ : ∃ x y z, xs = [x, y, z] := by
        match xs, hl1 with
        | [x, y, z], _ => exact ⟨x, y, z, rfl⟩
      obtain ⟨g, off, rfl, _, c0⟩ := hat 0 (by simp)
      obtain ⟨_, _, e, _, c1⟩ := hat 1 (by simp)
      cases e
      obtain ⟨_, _, e, _, c2⟩ := hat 2 (by simp)
      cases e
      exact calc_sel x y z _ g off 3 c w (by omega) (by simpa using c0) (by simpa using c1) (by simpa using c2)

set_option maxRecDepth 100000 in
theorem divZero_any (op : Int) (xs : List Int) (hl : (op = 11 ∨ op = 12) → 2 ≤ xs.length) (B : Nat) (av : Value) (w : World) (ha : Ints w B av xs) :
    Calls Tryz.prog 46 #[.int .i64 op, av] w fun e w' => e = .returned (.bool (divZero op xs)) ∧ w' = w := by
  obtain ⟨A, c, rfl, _, hat⟩ := ha
  by_cases h11 : op = 11
  · have hl2 := hl (.inl h11)
    subst h11
    obtain ⟨g, off, rfl, _, c1⟩ := hat 1 (by omega)
    have g3 : 1 < xs.length := by omega
    have he : divZero 11 xs = (xs[1]?.getD 0 == 0) := by unfold divZero; simp [List.getD_eq_getElem?_getD]; rfl
    rw [he]
    clear he hat hl hl2
    obtain ⟨n, hn⟩ : ∃ n, xs.length = n := ⟨_, rfl⟩
    rw [hn] at g3 ⊢
    generalize xs[1]?.getD 0 = y at c1 ⊢
    clear hn
    go_enter Tryz.func46, Tryz.ntmps46
    go_wp2
    go_ret
    exact ⟨rfl, rfl⟩
  · by_cases h12 : op = 12
    · have hl2 := hl (.inr h12)
      subst h12
      obtain ⟨g, off, rfl, _, c1⟩ := hat 1 (by omega)
      have g3 : 1 < xs.length := by omega
      have he : divZero 12 xs = (xs[1]?.getD 0 == 0) := by unfold divZero; simp [List.getD_eq_getElem?_getD]; rfl
      rw [he]
      clear he hat hl hl2
      obtain ⟨n, hn⟩ : ∃ n, xs.length = n := ⟨_, rfl⟩
      rw [hn] at g3 ⊢
      generalize xs[1]?.getD 0 = y at c1 ⊢
      clear hn
      go_enter Tryz.func46, Tryz.ntmps46
      go_wp2
      go_ret
      exact ⟨rfl, rfl⟩
    · have he : divZero op xs = false := by unfold divZero; simp [h11, h12]
      rw [he]
      have d1 : (op == 11) = false := by simpa using h11
      have d2 : (op == 12) = false := by simpa using h12
      clear he hat hl h11 h12
      go_enter Tryz.func46, Tryz.ntmps46
      go_wp2
      go_ret
      exact ⟨rfl, rfl⟩
end Go.Proofs.YtglbepdjahddmaaGreat

namespace Go.Proofs.YtglbepdjahddmaaGreat
open Go.RowKit Go.Maps

inductive MTag
  | vals
  | cells
  | vis
  | arrs
  | out
  | arr (i : Nat)
  deriving DecidableEq

structure MRow where
  elem : TypeId
  len : Nat
  cells : List Value

abbrev MVals := MTag → Value

def intRow (xs : List Int) : MRow := ⟨3, xs.length, xs.map (Value.int .i64)⟩

def mRow (s : StM) (nv : Nat) (val : MVals) : MTag → Option MRow
  | .vals => some (intRow ((List.range nv).map fun (i : Nat) => s.val i))
  | .cells => some (intRow s.cells)
  | .vis => some (intRow s.vis)
  | .out => some (intRow s.out)
  | .arrs => some ⟨22, s.arrs.length, (List.range s.arrs.length).map fun i => val (.arr i)⟩
  | .arr i => s.arrs[i]?.map intRow

/-- what does not change in a run -/
structure MachC where
  f : FuncM
  B : Nat
  m : Nat
  M : Nat
  nv : Nat
  bv : Value
  fuel : Int

def machCells (c : MachC) (val : MVals) (s : StM) : Array Value :=
  #[.int .i64 0, .int .i64 0, .int .i64 0, val .out, val .arrs, .int .i64 s.steps, .int .i64 s.checks, val .vis, .map (some c.M), c.bv, .int .i64 c.fuel, val .vals, val .cells]

/-- what is kept: the blocks K, and the streams -/
structure KF (K : Nat → Prop) (w w' : World) : Prop where
  os : w'.os = w.os
  tape : w'.tape = w.tape
  output : w'.output = w.output
  size : w.heap.size ≤ w'.heap.size
  block : ∀ b, K b → w'.heap[b]? = w.heap[b]?

section
variable {K K' : Nat → Prop} {w w' w2 : World}
theorem KF.refl (w : World) : KF K w w := ⟨rfl, rfl, rfl, Nat.le_refl _, fun _ _ => rfl⟩
theorem KF.trans (h : KF K w w') (k : KF K w' w2) : KF K w w2 :=
  ⟨k.os.trans h.os, k.tape.trans h.tape, k.output.trans h.output, Nat.le_trans h.size k.size, fun b hb => (k.block b hb).trans (h.block b hb)⟩
theorem KF.mono (h : KF K w w') (hk : ∀ b, K' b → K b) : KF K' w w' := ⟨h.os, h.tape, h.output, h.size, fun b hb => h.block b (hk b hb)⟩
theorem KF.drewN (h : KF K w w') (n : Nat) : KF K w (w'.drewN n) := ⟨h.os, h.tape, h.output, h.size, h.block⟩
theorem KF.of_below (h : Below w.heap.size w w') (hl : ∀ b, K b → b < w.heap.size) : KF K w w' := ⟨h.os, h.tape, h.output, h.size, fun b hb => h.block b (hl b hb)⟩
theorem KF.alloc (h : KF K w w') (hl : ∀ b, K b → b < w.heap.size) (o : Obj) : KF K w (w'.alloc o) :=
  h.trans ⟨rfl, rfl, rfl, by simp, fun b hb => Below.heap_alloc _ _ _ (Nat.lt_of_lt_of_le (hl b hb) h.size)⟩
theorem KF.setCell (h : KF K w w') {a : Addr} (ha : ¬ K a.block) (u : Value) : KF K w (w'.setCell a u) :=
  h.trans ⟨rfl, rfl, rfl, by simp, fun b hb => Below.heap_setCell _ _ _ _ (fun e => ha (e ▸ hb))⟩
theorem KF.row {g : Nat} {cs : Array Value} {t : TypeId} (h : KF K w w') (hg : w.heap[g]? = some (.cells cs t (0, 0))) (hK : K g) : ∀ o, w'.cell? ⟨g, o, none⟩ = cs[o]? := row_cells hg (h.block g hK)
theorem KF.blk {g : Nat} {o : Obj} (h : KF K w w') (hg : w.heap[g]? = some o) (hK : K g) : w'.heap[g]? = some o := (h.block g hK).trans hg
theorem KF.keeps {B : Nat} (h : KF K w w') (hB : ∀ b, b < B → K b) : Keeps B w w' := fun b o hb => World.cell?_of_block (a := ⟨b, o, none⟩) (h.block b (hB b hb))
theorem KF.below {B : Nat} (h : KF K w w') (hB : ∀ b, b < B → K b) : Below B w w' := ⟨h.os, h.tape, h.output, h.size, fun b hb => h.block b (hB b hb)⟩
end

/-- the machine at 's' -/
structure MachR (c : MachC) (K : Nat → Prop) (w : World) (val : MVals) (s : StM) : Prop where
  blk : w.heap[c.m]? = some (.cells (machCells c val s) 97 (0, 0))
  rows : ∀ t d, mRow s c.nv val t = some d → w.ownsRow 0 d.elem 1 (val t) d.len d.cells
  apart : ∀ t t' d d' g, mRow s c.nv val t = some d → mRow s c.nv val t' = some d' → (val t).ownBlock = some g → (val t').ownBlock = some g → t = t'
  off : ∀ t d g, mRow s c.nv val t = some d → (val t).ownBlock = some g → g ≠ c.m ∧ ¬ K g
  offm : ¬ K c.m
  low : ∀ b, K b → b < w.heap.size
  kB : ∀ b, b < c.B → K b
  kM : K c.M
  ops : OpsAt w c.M
  blks : BlocksR w c.B c.bv c.f.blocks

section
variable {c : MachC} {K K' : Nat → Prop} {w w' : World} {val val' : MVals} {s s' : StM}

theorem MachR.own_lt (h : MachR c K w val s) {t : MTag} {d : MRow} {g : Nat} (ht : mRow s c.nv val t = some d) (hg : (val t).ownBlock = some g) : g < w.heap.size := ((h.rows t d ht).lt g hg).2

theorem MachR.m_lt (h : MachR c K w val s) : c.m < w.heap.size := (Array.getElem?_eq_some_iff.1 h.blk).1

theorem owns_kept {base : Nat} {e : TypeId} {size : Nat} {v : Value} {n : Nat} {xs : List Value} (h : w.ownsRow base e size v n xs) (hk : ∀ g, v.ownBlock = some g → w'.heap[g]? = w.heap[g]?) : w'.ownsRow base e size v n xs := by
  refine ⟨h.1, ?_⟩
  rcases h.2 with h2 | ⟨g, cap, cur, hv, hb, hg, r⟩
  · exact .inl h2
  · exact .inr ⟨g, cap, cur, hv, hb, (hk g (by rw [hv]; rfl)).trans hg, r⟩

theorem MachR.kept (h : MachR c K w val s) (hk : KF K w w') (hm : w'.heap[c.m]? = w.heap[c.m]?) (ho : ∀ t d g, mRow s c.nv val t = some d → (val t).ownBlock = some g → w'.heap[g]? = w.heap[g]?) : MachR c K w' val s :=
  ⟨hm.trans h.blk, fun t d ht => owns_kept (h.rows t d ht) fun g hg => ho t d g ht hg, h.apart, h.off, h.offm, fun b hb => Nat.lt_of_lt_of_le (h.low b hb) hk.size, h.kB, h.kM, h.ops.heap (hk.block _ h.kM), h.blks.keeps (hk.keeps h.kB)⟩

theorem MachR.below (h : MachR c K w val s) (hb : Below w.heap.size w w') : MachR c K w' val s :=
  h.kept (KF.of_below hb h.low) (hb.block _ h.m_lt) fun _ _ _ ht hg => hb.block _ (h.own_lt ht hg)

theorem MachR.drewN (h : MachR c K w val s) (n : Nat) : MachR c K (w.drewN n) val s := h.below (below_drewN (Below.refl _ w) n)

/-- less is kept -/
theorem MachR.less (h : MachR c K w val s) (hk : ∀ b, K' b → K b) (hB : ∀ b, b < c.B → K' b) (hM : K' c.M) : MachR c K' w val s :=
  ⟨h.blk, h.rows, h.apart, fun t d g ht hg => ⟨(h.off t d g ht hg).1, fun e => (h.off t d g ht hg).2 (hk _ e)⟩, fun e => h.offm (hk _ e), fun b hb => h.low b (hk b hb), hB, hM, h.ops, h.blks⟩

/-- a new block is kept, too -/
theorem MachR.add (h : MachR c K w val s) (o : Obj) : MachR c (fun b => K b ∨ b = w.heap.size) (w.alloc o) val s := by
  have h1 := h.below ((Below.refl w.heap.size w).alloc (Nat.le_refl _) o)
  refine ⟨h1.blk, h1.rows, h1.apart, fun t d g ht hg => ⟨(h.off t d g ht hg).1, fun e => ?_⟩, fun e => ?_, fun b hb => ?_, fun b hb => .inl (h.kB b hb), .inl h.kM, h1.ops, h1.blks⟩
  · rcases e with e | e
    · exact (h.off t d g ht hg).2 e
    · have := h.own_lt ht hg; omega
  · rcases e with e | e
    · exact h.offm e
    · have := h.m_lt; omega
  · rcases hb with hb | hb
    · exact h1.low b hb
    · subst hb; simp

/-- all new blocks of a call are kept, too -/
theorem MachR.adds (h : MachR c K w val s) (hb : Below w.heap.size w w') : MachR c (fun b => K b ∨ (w.heap.size ≤ b ∧ b < w'.heap.size)) w' val s := by
  have h1 := h.below hb
  refine ⟨h1.blk, h1.rows, h1.apart, fun t d g ht hg => ⟨(h.off t d g ht hg).1, fun e => ?_⟩, fun e => ?_, fun b hb => ?_, fun b hb => .inl (h.kB b hb), .inl h.kM, h1.ops, h1.blks⟩
  · rcases e with e | e
    · exact (h.off t d g ht hg).2 e
    · have := h.own_lt ht hg; omega
  · rcases e with e | e
    · exact h.offm e
    · have := h.m_lt; omega
  · rcases hb with hb | hb
    · exact h1.low b hb
    · exact hb.2

theorem MachR.cells (h : MachR c K w val s) : ∀ o, w.cell? ⟨c.m, o, none⟩ = (machCells c val s)[o]? := row_cells h.blk rfl
theorem MachR.free (h : MachR c K w val s) (o : Nat) : w.frozen? ⟨c.m, o, none⟩ = false := frozen_of_row w c.m o _ _ h.blk

theorem MachR.slice (h : MachR c K w val s) {t : MTag} {d : MRow} (ht : mRow s c.nv val t = some d) (h0 : 0 < d.len) : ∃ g cap, val t = .slice (some ⟨g, 0, none⟩) d.len cap := by
  obtain ⟨g, cap, hv, _⟩ := (h.rows t d ht).form h0
  exact ⟨g, cap, hv⟩

theorem MachR.cell (h : MachR c K w val s) {t : MTag} {d : MRow} {g cap : Nat} (ht : mRow s c.nv val t = some d) (hv : val t = .slice (some ⟨g, 0, none⟩) d.len cap) {j : Nat} (hj : j < d.len) :
    w.cell? ⟨g, j, none⟩ = d.cells[j]? ∧ w.frozen? ⟨g, j, none⟩ = false := by
  have h0 := h.rows t d ht
  rw [hv] at h0
  exact ⟨World.ownsRow.cellAt h0 j (by omega), World.ownsRow.frozenAt h0 j⟩

/-- an element of a row is written -/
theorem MachR.store (h : MachR c K w val s) {t : MTag} {d : MRow} {g cap j : Nat} {u : Value} (ht : mRow s c.nv val t = some d) (hv : val t = .slice (some ⟨g, 0, none⟩) d.len cap)
    (h1 : mRow s' c.nv val t = some { d with cells := d.cells.set j u }) (h2 : ∀ t', t' ≠ t → mRow s' c.nv val t' = mRow s c.nv val t') (hs : s'.steps = s.steps) (hc : s'.checks = s.checks) :
    MachR c K (w.setCell ⟨g, j, none⟩ u) val s' ∧ KF K w (w.setCell ⟨g, j, none⟩ u) := by
  have hown : (val t).ownBlock = some g := by rw [hv]; rfl
  have hoff := h.off t d g ht hown
  have h0 := h.rows t d ht
  rw [hv] at h0
  have hst := World.ownsRow.stored h0 j u
  have hk : KF K w (w.setCell ⟨g, j, none⟩ u) := (KF.refl w).setCell hoff.2 u
  have back : ∀ t' d', mRow s' c.nv val t' = some d' → ∃ d2, mRow s c.nv val t' = some d2 := fun t' d' hd' => by
    by_cases e : t' = t
    · subst e; exact ⟨d, ht⟩
    · exact ⟨d', by rw [← h2 t' e]; exact hd'⟩
  refine ⟨⟨?_, fun t' d' hd' => ?_, fun t1 t2 d1 d2 g1 e1 e2 => ?_, fun t' d' g' hd' hg' => ?_, h.offm, fun b hb => by simpa using h.low b hb, h.kB, h.kM, h.ops.heap (hk.block _ h.kM), h.blks.keeps (hk.keeps h.kB)⟩, hk⟩
  · rw [Below.heap_setCell _ _ _ _ (fun e => hoff.1 e.symm)]
    have e : machCells c val s' = machCells c val s := by unfold machCells; rw [hs, hc]
    rw [e]
    exact h.blk
  · by_cases e : t' = t
    · subst e
      rw [h1] at hd'
      cases hd'
      rw [hv]
      exact hst.1
    · rw [h2 t' e] at hd'
      exact ownsRow_setCell_other (h.rows t' d' hd') (fun e2 => e (h.apart t' t d' d g hd' ht e2 hown)) u
  · obtain ⟨x1, hx1⟩ := back t1 d1 e1
    obtain ⟨x2, hx2⟩ := back t2 d2 e2
    exact h.apart t1 t2 x1 x2 g1 hx1 hx2
  · obtain ⟨x1, hx1⟩ := back t' d' hd'
    exact h.off t' x1 g' hx1 hg'

/-- a field of the machine is written -/
theorem MachR.field (h : MachR c K w val s) {j : Nat} {u : Value} (hr : ∀ t, mRow s' c.nv val t = mRow s c.nv val t) (hc : (machCells c val s).setIfInBounds j u = machCells c val s') :
    MachR c K (w.setCell ⟨c.m, j, none⟩ u) val s' ∧ KF K w (w.setCell ⟨c.m, j, none⟩ u) := by
  have hk : KF K w (w.setCell ⟨c.m, j, none⟩ u) := (KF.refl w).setCell h.offm u
  refine ⟨⟨?_, fun t d ht => ?_, fun t1 t2 d1 d2 g1 e1 e2 => ?_, fun t d g ht hg => ?_, h.offm, fun b hb => by simpa using h.low b hb, h.kB, h.kM, h.ops.heap (hk.block _ h.kM), h.blks.keeps (hk.keeps h.kB)⟩, hk⟩
  · rw [heap_setCell_same w c.m j _ _ u h.blk, hc]
  · rw [hr] at ht
    exact ownsRow_setCell_other (h.rows t d ht) (fun e => (h.off t d _ ht e).1 rfl) u
  · rw [hr] at e1 e2
    exact h.apart t1 t2 d1 d2 g1 e1 e2
  · rw [hr] at ht
    exact h.off t d g ht hg

theorem MachR.tick (h : MachR c K w val s) : MachR c K (w.setCell ⟨c.m, 5, none⟩ (.int .i64 ((s.steps : Int) + 1))) val (tickM s) ∧ KF K w (w.setCell ⟨c.m, 5, none⟩ (.int .i64 ((s.steps : Int) + 1))) :=
  h.field (fun t => by cases t <;> rfl) (by unfold machCells tickM; simp)

theorem MachR.look (h : MachR c K w val s) {op : Int} (ho : op = 19 ∨ op = 20) : MachR c K (w.setCell ⟨c.m, 6, none⟩ (.int .i64 (wrap64 (s.checks + 1)))) val (lookS op s) ∧ KF K w (w.setCell ⟨c.m, 6, none⟩ (.int .i64 (wrap64 (s.checks + 1)))) := by
  have e : lookS op s = { s with checks := wrap64 (s.checks + 1) } := by unfold lookS; rw [if_pos ho]
  rw [e]
  exact h.field (fun t => by cases t <;> rfl) (by unfold machCells; simp)

/-- a number is told -/
theorem MachR.told (h : MachR c K w val s) {w1 : World} {v' : Value} {n : Int} {g1 cap1 : Nat} (hg : w.grownBy w1 (val .out).ownBlock) (hv : v' = .slice (some ⟨g1, 0, none⟩) (s.out.length + 1) cap1)
    (hown : w1.ownsRow 0 3 1 v' (s.out.length + 1) (s.out.map (Value.int .i64) ++ [.int .i64 n])) (hnew : (val .out).ownBlock = some g1 ∨ w.heap.size ≤ g1) :
    MachR c K (w1.setCell ⟨c.m, 3, none⟩ v') (fun t => if t = .out then v' else val t) { s with out := s.out ++ [n] } ∧ KF K w (w1.setCell ⟨c.m, 3, none⟩ v') := by
  have ho : mRow s c.nv val .out = some (intRow s.out) := rfl
  have hk1 : KF K w w1 := ⟨hg.os, hg.tape, hg.output, hg.size, fun b hb => hg.block b (h.low b hb) (fun e => (h.off .out _ b ho e.symm).2 hb)⟩
  have hm1 : w1.heap[c.m]? = w.heap[c.m]? := hg.block c.m h.m_lt (fun e => (h.off .out _ c.m ho e.symm).1 rfl)
  have hk : KF K w (w1.setCell ⟨c.m, 3, none⟩ v') := hk1.setCell h.offm v'
  have hv1 : v'.ownBlock = some g1 := by rw [hv]; rfl
  have hgm : g1 ≠ c.m := by
    rcases hnew with e | e
    · exact (h.off .out _ g1 ho e).1
    · have := h.m_lt; omega
  have row : ∀ t, t ≠ .out → mRow { s with out := s.out ++ [n] } c.nv (fun t => if t = .out then v' else val t) t = mRow s c.nv val t := fun t ht => by
    cases t with
    | out => exact absurd rfl ht
    | arrs => simp [mRow]
    | _ => rfl
  have away : ∀ t d, t ≠ .out → mRow s c.nv val t = some d → (val t).ownBlock ≠ some g1 := fun t d ht hd e => by
    rcases hnew with e2 | e2
    · exact ht (h.apart t .out d _ g1 hd ho e e2)
    · have := h.own_lt hd e; omega
  refine ⟨⟨?_, fun t d hd => ?_, fun t1 t2 d1 d2 g e1 e2 f1 f2 => ?_, fun t d g hd hg2 => ?_, h.offm, fun b hb => by have := h.low b hb; have := hg.size; simp; omega, h.kB, h.kM, h.ops.heap (hk.block _ h.kM), h.blks.keeps (hk.keeps h.kB)⟩, hk⟩
  · rw [heap_setCell_same w1 c.m 3 _ _ v' (hm1.trans h.blk)]
    congr 2
  · by_cases e : t = .out
    · subst e
      rw [if_pos rfl]
      have : d = intRow (s.out ++ [n]) := by injection hd with hd; exact hd.symm
      subst this
      have h2 := ownsRow_setCell_other hown (a := ⟨c.m, 3, none⟩) (by rw [hv1]; intro e; exact hgm (Option.some.inj e)) v'
      unfold intRow
      simp only [List.length_append, List.length_cons, List.length_nil, List.map_append, List.map_cons, List.map_nil]
      exact h2
    · rw [if_neg e]
      rw [row t e] at hd
      refine owns_kept (h.rows t d hd) fun g hg2 => ?_
      rw [Below.heap_setCell _ _ _ _ (h.off t d g hd hg2).1]
      exact hg.block g (h.own_lt hd hg2) (fun e2 => e (h.apart t .out d _ g hd ho hg2 e2.symm))
  · by_cases x1 : t1 = .out
    · by_cases x2 : t2 = .out
      · rw [x1, x2]
      · rw [if_pos x1, hv1] at f1
        rw [if_neg x2] at f2
        rw [row t2 x2] at e2
        exact absurd (by rw [f2, ← f1]) (away t2 d2 x2 e2)
    · by_cases x2 : t2 = .out
      · rw [if_pos x2, hv1] at f2
        rw [if_neg x1] at f1
        rw [row t1 x1] at e1
        exact absurd (by rw [f1, ← f2]) (away t1 d1 x1 e1)
      · rw [if_neg x1] at f1
        rw [if_neg x2] at f2
        rw [row t1 x1] at e1
        rw [row t2 x2] at e2
        exact h.apart t1 t2 d1 d2 g e1 e2 f1 f2
  · by_cases x : t = .out
    · rw [if_pos x, hv1] at hg2
      obtain rfl := Option.some.inj hg2
      refine ⟨hgm, fun hK => ?_⟩
      rcases hnew with e | e
      · exact (h.off .out _ g1 ho e).2 hK
      · have := h.low g1 hK; omega
    · rw [if_neg x] at hg2
      rw [row t x] at hd
      exact h.off t d g hd hg2
end

/-- how a run ends, as the machine says it -/
def endV (e : EndM) : Value := .iface 141 (.agg #[.int .i64 e.1, .int .i64 e.2.1, .int .i64 e.2.2])
def endE (e : EndM) : Ending := .panicked [{ v := endV e, recovered := false }]

end Go.Proofs.YtglbepdjahddmaaGreat

namespace Go.Proofs.YtglbepdjahddmaaGreat
open Go.RowKit Go.Maps

section
variable {c : MachC} {K : Nat → Prop} {w : World} {val : MVals} {s : StM}

theorem trap_any (p : Value) (n : Int) (w : World) : Calls Tryz.prog 123 #[p, .int .i64 n] w fun e w' => e = endE (2, 0, n) ∧ w' = w := by
  go_enter Tryz.func123, Tryz.ntmps123
  go_wp2
  exact ⟨rfl, rfl, rfl⟩

set_option maxRecDepth 100000 in
theorem step_go (h : MachR c K w val s) (hf : (s.steps : Int) ≠ c.fuel) (hs : s.steps < 1000000) :
    Calls Tryz.prog 79 #[.pointer (some ⟨c.m, 0, none⟩)] w fun e w' => e = .returned (.tuple #[]) ∧ MachR c K w' val (tickM s) ∧ KF K w w' := by
  have H := hideI h
  have HM := hideI (h.m_lt)
  have hx0 := h.cells
  have c5 := hx0 5
  have c10 := hx0 10
  have fr := h.free 5
  have hne : ((s.steps : Int) == c.fuel) = false := by simpa using hf
  have hw : IntKind.i64.wrap ((s.steps : Int) + 1) = (s.steps : Int) + 1 := IntWalk.i64_in _ (by omega)
  clear hx0 h hf hs
  obtain ⟨z, hz⟩ : ∃ z : Int, z = (s.steps : Int) := ⟨_, rfl⟩
  simp only [machCells] at c5 c10
  rw [← hz] at c5 hne hw
  have HZ := hideI hz
  clear hz
  go_enter Tryz.func79, Tryz.ntmps79
  go_wp2
  go_quiet (fail)
  go_wp2
  go_end0
  have h2 := (H.out.drewN nq).tick
  rw [← HZ.out] at h2
  exact ⟨rfl, h2.1, (KF.refl _).trans ((KF.drewN (KF.refl _) nq).trans h2.2)⟩

set_option maxRecDepth 100000 in
theorem step_stop (h : MachR c K w val s) (hf : (s.steps : Int) = c.fuel) :
    Calls Tryz.prog 79 #[.pointer (some ⟨c.m, 0, none⟩)] w fun e w' => e = endE (3, 0, 0) ∧ MachR c K w' val s ∧ KF K w w' := by
  have H := hideI h
  have hx0 := h.cells
  have c5 := hx0 5
  have c10 := hx0 10
  clear hx0 h
  simp only [machCells] at c5 c10
  rw [hf] at c5
  clear hf
  have hne : (c.fuel == c.fuel) = true := by simp
  go_enter Tryz.func79, Tryz.ntmps79
  go_wp2
  go_quiet (fail)
  go_wp2
  exact ⟨rfl, rfl, H.out.drewN nq, KF.drewN (KF.refl _) nq⟩

set_option maxRecDepth 100000 in
theorem tell_full (h : MachR c K w val s) (hf : s.out.length = 4096) (n : Int) :
    Calls Tryz.prog 121 #[.pointer (some ⟨c.m, 0, none⟩), .int .i64 n] w fun e w' => e = endE (4, 0, 0) ∧ MachR c K w' val s ∧ KF K w w' := by
  have H := hideI h
  have hx0 := h.cells
  have c3 := hx0 3
  obtain ⟨g, cap, hv⟩ := h.slice (t := .out) (d := intRow s.out) rfl (by show 0 < s.out.length; omega)
  have hl : (intRow s.out).len = 4096 := hf
  rw [hl] at hv
  simp only [machCells] at c3
  rw [hv] at c3
  clear hx0 h hv hl hf
  go_enter Tryz.func121, Tryz.ntmps121
  go_wp2
  exact ⟨rfl, rfl, H.out, KF.refl _⟩

theorem one_newI (w : World) (x : Int) : ∀ j u, [Value.int .i64 x][j]? = some u → (w.alloc (.cells #[.int .i64 x] 3)).cell? ((⟨w.heap.size, 0, none⟩ : Addr).add j) = some u :=
  World.news_of_block (heap_alloc_new w _)

set_option maxRecDepth 100000 in
set_option maxHeartbeats 1000000 in
theorem tell_go (h : MachR c K w val s) (hf : s.out.length < 4096) (n : Int) :
    Calls Tryz.prog 121 #[.pointer (some ⟨c.m, 0, none⟩), .int .i64 n] w fun e w' => e = .returned (.tuple #[]) ∧ ∃ val', MachR c K w' val' { s with out := s.out ++ [n] } ∧ KF K w w' := by
  obtain ⟨i1, hjx, hj2⟩ : ∃ i, Tryz.prog.info? 3 = some i ∧ i.zero = some (.int .i64 0) ∧ i.size = 1 ∧ i.bytes = 8 := ⟨_, rfl, rfl, rfl, rfl⟩
  obtain ⟨hy0, hy1, hy2⟩ := hj2
  have H := hideI h
  have HL := hideI hf
  have hx0 := h.cells
  have c3 := hx0 3
  have fr := h.free 3
  have hrow : w.ownsRow 0 3 1 (val .out) s.out.length (s.out.map (Value.int .i64)) := h.rows .out _ rfl
  have hlt : ((s.out.length : Int) == 4096) = false := by rw [beq_eq_false_iff_ne]; omega
  have HM := hideI h.m_lt
  have hml := h.m_lt
  have hown : ∃ v, val .out = v := ⟨_, rfl⟩
  obtain ⟨v, hv⟩ := hown
  obtain ⟨A, cp, hA⟩ : ∃ A cp, v = .slice A s.out.length cp := by
    rw [← hv]
    rcases hrow.2 with ⟨e, e0⟩ | ⟨g, cap, cur, e, _⟩
    · exact ⟨none, 0, by rw [e, e0]⟩
    · exact ⟨_, _, e⟩
  subst hA
  simp only [machCells] at c3
  rw [hv] at c3 hrow
  have HV := hideI hv
  have HROW := hideI hrow
  have HMAP : Hid (s.out.map (Value.int .i64) = s.out.map (Value.int .i64)) := rfl
  obtain ⟨L, hL⟩ : ∃ L, L = s.out.length := ⟨_, rfl⟩
  rw [← hL] at hlt c3 HV HROW HL
  have HLL := hideI hL
  clear hx0 h hv hrow hf hL
  go_enter Tryz.func121, Tryz.ntmps121
  go_wp2_with (at_builtin; go_must (refine wpList_append_lies _ rfl _ _ _ rfl 0 3 i1 (.int .i64 0) 1 8 Tryz.underlying22 hjx hy0 hy1 hy2 rfl (by decide) _ _ _ rfl (HROW.out.alloc _) ⟨w.heap.size, 0, none⟩ 1 1 [.int .i64 n] rfl rfl (one_newI w _) (by simp [Value.oneCell']) (by decide) (by have := HL.out; unfold maxLen; omega) (by have := HL.out; omega) (Nat.zero_le _) _ rfl ?_); intro g1 cap1 w1 hown1 hg1 hat1 hlt1; have hg2 : (w.alloc (.cells #[.int .i64 n] 3)).grownBy w1 (Value.slice A L cp).ownBlock := hg1; have hat2 : (Value.slice A L cp).ownBlock = some g1 ∨ g1 = (w.alloc (.cells #[.int .i64 n] 3)).heap.size := hat1; clear hg1 hat1; have HG := hideI hg2; have HAT := hideI hat2; have HOWN := hideI hown1; clear hg2 hat2 hown1 hlt1; have hblk : w1.heap[c.m]? = w.heap[c.m]? := (HG.out.block c.m (by simp; exact Nat.lt_succ_of_lt HM.out) (fun e => (H.out.off .out _ _ rfl (by rw [HV.out]; exact e.symm)).1 rfl)).trans (Below.heap_alloc _ _ _ HM.out); have c3' : w1.cell? ⟨c.m, 3, none⟩ = some (.slice A L cp) := (World.cell?_of_block (a := ⟨c.m, 3, none⟩) hblk).trans c3; have fr' : w1.frozen? ⟨c.m, 3, none⟩ = false := (World.frozen?_of_block (a := ⟨c.m, 3, none⟩) hblk).trans fr; clear hblk)
  go_end0
  have hal := H.out.below ((Below.refl w.heap.size w).alloc (Nat.le_refl _) (.cells #[.int .i64 n] 3))
  have h2 := hal.told (n := n) (g1 := g1) (cap1 := cap1) (by rw [HV.out]; exact HG.out) rfl (by rw [← HLL.out]; exact HOWN.out) (by rw [HV.out]; rcases HAT.out with e | e; exact .inl e; exact .inr (by rw [e]; exact Nat.le_refl _))
  rw [← HLL.out] at h2
  exact ⟨rfl, ⟨_, h2.1⟩, ((KF.refl _).alloc H.out.low _).trans h2.2⟩
end
end Go.Proofs.YtglbepdjahddmaaGreat

namespace Go.Proofs.YtglbepdjahddmaaGreat
open Go.RowKit Go.Maps

section
variable {c : MachC} {K : Nat → Prop} {w : World} {val : MVals} {s : StM}

/-- an array, as it lies -/
structure ArrAt (c : MachC) (w : World) (val : MVals) (s : StM) (k : Nat) (a : List Int) (ga ca : Nat) (A : Option Addr) (cp : Nat) : Prop where
  arrs : val .arrs = .slice (some ⟨ga, 0, none⟩) s.arrs.length ca
  at_ : w.cell? ⟨ga, k, none⟩ = some (.slice A a.length cp)
  own : val (.arr k) = .slice A a.length cp
  ne : ga ≠ c.m
  lt : ga < w.heap.size
  klt : k < s.arrs.length

theorem MachR.arrAt (h : MachR c K w val s) {k : Nat} {a : List Int} (hk : s.arrs[k]? = some a) : ∃ ga ca A cp, ArrAt c w val s k a ga ca A cp := by
  have hlt := (List.getElem?_eq_some_iff.1 hk).1
  have hr : mRow s c.nv val .arrs = some ⟨22, s.arrs.length, (List.range s.arrs.length).map fun i => val (.arr i)⟩ := rfl
  obtain ⟨ga, ca, hv⟩ := h.slice hr (by show 0 < s.arrs.length; omega)
  have hra : mRow s c.nv val (.arr k) = some (intRow a) := by simp [mRow, hk]
  have hrow := h.rows _ _ hra
  obtain ⟨A, cp, hA⟩ : ∃ A cp, val (.arr k) = .slice A a.length cp := by
    rcases hrow.2 with ⟨e, e0⟩ | ⟨g, cap, cur, e, _⟩
    · exact ⟨none, 0, by rw [e]; congr 1; exact e0.symm⟩
    · exact ⟨_, _, e⟩
  have hc := h.cell hr hv (j := k) hlt
  refine ⟨ga, ca, A, cp, hv, ?_, hA, (h.off .arrs _ ga hr (by rw [hv]; rfl)).1, h.own_lt hr (by rw [hv]; rfl), hlt⟩
  rw [hc.1]
  simp [hlt, hA]

theorem miss_no {op : Int} (h1 : ¬ op = 19) (h2 : ¬ op = 20) : missM op = (5, 0, 0) := by
  unfold missM
  rw [if_neg]
  rintro (e | e)
  · exact h1 e
  · exact h2 e

theorem look_no {op : Int} (h1 : ¬ op = 19) (h2 : ¬ op = 20) (s : StM) : lookS op s = s := by
  unfold lookS
  rw [if_neg]
  rintro (e | e)
  · exact h1 e
  · exact h2 e

set_option maxRecDepth 100000 in
set_option maxHeartbeats 1000000 in
theorem find_ok (h : MachR c K w val s) {k : Nat} {a : List Int} (hk : s.arrs[k]? = some a) (op id : Int) (av : Value) (i : Nat) (hi : i < a.length) :
    Calls Tryz.prog 120 #[.pointer (some ⟨c.m, 0, none⟩), .agg #[.int .i64 op, .int .i64 id, av, .int .i64 k], .int .i64 i] w fun e w' => e = .returned (.tuple #[]) ∧ MachR c K w' val (lookS op s) ∧ KF K w w' := by
  obtain ⟨ga, ca, A, cp, X⟩ := h.arrAt hk
  have H := hideI h
  have hml := h.m_lt
  have hx0 := h.cells
  have c4 := hx0 4
  have c6 := hx0 6
  have fr := h.free 6
  simp only [machCells] at c4 c6
  rw [X.arrs] at c4
  have a0 := X.at_
  have a1 := X.ne
  have a1' : c.m ≠ ga := fun e => a1 e.symm
  have a2 := X.lt
  have a3 := X.klt
  obtain ⟨na, hna⟩ : ∃ na, na = s.arrs.length := ⟨_, rfl⟩
  obtain ⟨la, hla⟩ : ∃ la, la = a.length := ⟨_, rfl⟩
  rw [← hna] at c4 a3
  rw [← hla] at a0 hi
  have HAL : Hid (∀ (W : World) (t : StM) (o : Obj) (n : Nat), MachR c K W val t ∧ KF K w W → MachR c K ((W.alloc o).drewN n) val t ∧ KF K w ((W.alloc o).drewN n)) := hideI fun W t o n hW => ⟨(hW.1.below ((Below.refl W.heap.size W).alloc (Nat.le_refl _) o)).drewN n, KF.drewN (hW.2.alloc H.out.low o) n⟩
  clear hx0 h X hk hna hla
  have hi0 : decide ((0 : Int) ≤ (i : Int)) = true := by simp
  by_cases e19 : op = 19
  · subst e19
    go_enter Tryz.func120, Tryz.ntmps120
    go_wp2
    go_quiet (fail)
    go_wp2
    go_end0
    exact ⟨rfl, HAL.out _ _ _ _ (H.out.look (.inl rfl))⟩
  by_cases e20 : op = 20
  · subst e20
    go_enter Tryz.func120, Tryz.ntmps120
    go_wp2
    go_quiet (fail)
    go_wp2
    go_end0
    exact ⟨rfl, HAL.out _ _ _ _ (H.out.look (.inr rfl))⟩
  have d19 : (op == 19) = false := by simpa using e19
  have d20 : (op == 20) = false := by simpa using e20
  have HE : Hid (lookS op s = s) := hideI (look_no e19 e20 s)
  have HE2 : Hid (missM op = (5, 0, 0)) := hideI (miss_no e19 e20)
  clear e19 e20
  go_enter Tryz.func120, Tryz.ntmps120
  go_wp2
  go_quiet (fail)
  go_wp2
  go_end0
  rw [HE.out]
  exact ⟨rfl, HAL.out _ _ _ _ ⟨H.out, KF.refl _⟩⟩

set_option maxRecDepth 100000 in
set_option maxHeartbeats 1000000 in
theorem find_neg (h : MachR c K w val s) {k : Nat} {a : List Int} (hk : s.arrs[k]? = some a) (op id : Int) (av : Value) (i : Int) (hi : ¬ (0 : Int) ≤ i) :
    Calls Tryz.prog 120 #[.pointer (some ⟨c.m, 0, none⟩), .agg #[.int .i64 op, .int .i64 id, av, .int .i64 k], .int .i64 i] w fun e w' => e = endE (missM op) ∧ MachR c K w' val (lookS op s) ∧ KF K w w' := by
  obtain ⟨ga, ca, A, cp, X⟩ := h.arrAt hk
  have H := hideI h
  have hml := h.m_lt
  have hx0 := h.cells
  have c4 := hx0 4
  have c6 := hx0 6
  have fr := h.free 6
  simp only [machCells] at c4 c6
  rw [X.arrs] at c4
  have a0 := X.at_
  have a1 := X.ne
  have a1' : c.m ≠ ga := fun e => a1 e.symm
  have a2 := X.lt
  have a3 := X.klt
  obtain ⟨na, hna⟩ : ∃ na, na = s.arrs.length := ⟨_, rfl⟩
  obtain ⟨la, hla⟩ : ∃ la, la = a.length := ⟨_, rfl⟩
  rw [← hna] at c4 a3
  rw [← hla] at a0
  have HAL : Hid (∀ (W : World) (t : StM) (o : Obj) (n : Nat), MachR c K W val t ∧ KF K w W → MachR c K ((W.alloc o).drewN n) val t ∧ KF K w ((W.alloc o).drewN n)) := hideI fun W t o n hW => ⟨(hW.1.below ((Below.refl W.heap.size W).alloc (Nat.le_refl _) o)).drewN n, KF.drewN (hW.2.alloc H.out.low o) n⟩
  clear hx0 h X hk hna hla
  have hi0 : decide ((0 : Int) ≤ i) = false := by simpa using hi
  clear hi
  by_cases e19 : op = 19
  · subst e19
    go_enter Tryz.func120, Tryz.ntmps120
    go_wp2
    go_quiet (fail)
    go_wp2_with (go_at_call 123; refine (trap_any _ _ _).mono ?_; rintro e w1 ⟨he, rfl⟩; simp only [endE, endV] at he; subst he)
    exact ⟨rfl, rfl, HAL.out _ _ _ _ (H.out.look (.inl rfl))⟩
  by_cases e20 : op = 20
  · subst e20
    go_enter Tryz.func120, Tryz.ntmps120
    go_wp2
    go_quiet (fail)
    go_wp2_with (go_at_call 123; refine (trap_any _ _ _).mono ?_; rintro e w1 ⟨he, rfl⟩; simp only [endE, endV] at he; subst he)
    exact ⟨rfl, rfl, HAL.out _ _ _ _ (H.out.look (.inr rfl))⟩
  have d19 : (op == 19) = false := by simpa using e19
  have d20 : (op == 20) = false := by simpa using e20
  have HE : Hid (lookS op s = s) := hideI (look_no e19 e20 s)
  have HE2 : Hid (missM op = (5, 0, 0)) := hideI (miss_no e19 e20)
  clear e19 e20
  go_enter Tryz.func120, Tryz.ntmps120
  go_wp2
  go_quiet (fail)
  go_wp2
  rw [HE.out, HE2.out]
  exact ⟨rfl, rfl, HAL.out _ _ _ _ ⟨H.out, KF.refl _⟩⟩

set_option maxRecDepth 100000 in
set_option maxHeartbeats 1000000 in
theorem find_far (h : MachR c K w val s) {k : Nat} {a : List Int} (hk : s.arrs[k]? = some a) (op id : Int) (av : Value) (i : Nat) (hi : a.length ≤ i) :
    Calls Tryz.prog 120 #[.pointer (some ⟨c.m, 0, none⟩), .agg #[.int .i64 op, .int .i64 id, av, .int .i64 k], .int .i64 i] w fun e w' => e = endE (missM op) ∧ MachR c K w' val (lookS op s) ∧ KF K w w' := by
  obtain ⟨ga, ca, A, cp, X⟩ := h.arrAt hk
  have H := hideI h
  have hml := h.m_lt
  have hx0 := h.cells
  have c4 := hx0 4
  have c6 := hx0 6
  have fr := h.free 6
  simp only [machCells] at c4 c6
  rw [X.arrs] at c4
  have a0 := X.at_
  have a1 := X.ne
  have a1' : c.m ≠ ga := fun e => a1 e.symm
  have a2 := X.lt
  have a3 := X.klt
  obtain ⟨na, hna⟩ : ∃ na, na = s.arrs.length := ⟨_, rfl⟩
  obtain ⟨la, hla⟩ : ∃ la, la = a.length := ⟨_, rfl⟩
  rw [← hna] at c4 a3
  rw [← hla] at a0 hi
  have HAL : Hid (∀ (W : World) (t : StM) (o : Obj) (n : Nat), MachR c K W val t ∧ KF K w W → MachR c K ((W.alloc o).drewN n) val t ∧ KF K w ((W.alloc o).drewN n)) := hideI fun W t o n hW => ⟨(hW.1.below ((Below.refl W.heap.size W).alloc (Nat.le_refl _) o)).drewN n, KF.drewN (hW.2.alloc H.out.low o) n⟩
  clear hx0 h X hk hna hla
  have hi0 : decide ((0 : Int) ≤ (i : Int)) = true := by simp
  have hi1 : decide ((i : Int) < (la : Int)) = false := by simp; omega
  have hi2 : decide (i < la) = false := by simp; omega
  have hi3 : ¬ i < la := by omega
  clear hi
  by_cases e19 : op = 19
  · subst e19
    go_enter Tryz.func120, Tryz.ntmps120
    go_wp2
    go_quiet (fail)
    go_wp2_with (go_at_call 123; refine (trap_any _ _ _).mono ?_; rintro e w1 ⟨he, rfl⟩; simp only [endE, endV] at he; subst he)
    exact ⟨rfl, rfl, HAL.out _ _ _ _ (H.out.look (.inl rfl))⟩
  by_cases e20 : op = 20
  · subst e20
    go_enter Tryz.func120, Tryz.ntmps120
    go_wp2
    go_quiet (fail)
    go_wp2_with (go_at_call 123; refine (trap_any _ _ _).mono ?_; rintro e w1 ⟨he, rfl⟩; simp only [endE, endV] at he; subst he)
    exact ⟨rfl, rfl, HAL.out _ _ _ _ (H.out.look (.inr rfl))⟩
  have d19 : (op == 19) = false := by simpa using e19
  have d20 : (op == 20) = false := by simpa using e20
  have HE : Hid (lookS op s = s) := hideI (look_no e19 e20 s)
  have HE2 : Hid (missM op = (5, 0, 0)) := hideI (miss_no e19 e20)
  clear e19 e20
  go_enter Tryz.func120, Tryz.ntmps120
  go_wp2
  go_quiet (fail)
  go_wp2
  rw [HE.out, HE2.out]
  exact ⟨rfl, rfl, HAL.out _ _ _ _ ⟨H.out, KF.refl _⟩⟩

/-- findElement, whatever the element -/
theorem element_any (h : MachR c K w val s) {k : Nat} {a : List Int} (hk : s.arrs[k]? = some a) (op id : Int) (av : Value) (i : Int) :
    Calls Tryz.prog 120 #[.pointer (some ⟨c.m, 0, none⟩), .agg #[.int .i64 op, .int .i64 id, av, .int .i64 k], .int .i64 i] w fun e w' =>
      (inArr s k i = true ∧ e = .returned (.tuple #[]) ∨ inArr s k i = false ∧ e = endE (missM op)) ∧ MachR c K w' val (lookS op s) ∧ KF K w w' := by
  have ha : arrM s k = a := by unfold arrM; rw [List.getD_eq_getElem?_getD, Int.toNat_natCast, hk]; rfl
  have hin : inArr s k i = (decide (0 ≤ i) && decide (i < (a.length : Int))) := by unfold inArr; rw [ha]
  rw [hin]
  by_cases h0 : 0 ≤ i
  · obtain ⟨j, rfl⟩ := Int.eq_ofNat_of_zero_le h0
    by_cases hl : j < a.length
    · exact (find_ok h hk op id av j hl).mono fun e w' ⟨e1, e2⟩ => ⟨.inl ⟨by simp [hl], e1⟩, e2⟩
    · exact (find_far h hk op id av j (by omega)).mono fun e w' ⟨e1, e2⟩ => ⟨.inr ⟨by simp; omega, e1⟩, e2⟩
  · exact (find_neg h hk op id av i h0).mono fun e w' ⟨e1, e2⟩ => ⟨.inr ⟨by simp [h0], e1⟩, e2⟩
end
end Go.Proofs.YtglbepdjahddmaaGreat
