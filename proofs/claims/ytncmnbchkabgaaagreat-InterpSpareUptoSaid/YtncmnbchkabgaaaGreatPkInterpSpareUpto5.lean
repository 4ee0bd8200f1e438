/- What InterpSpareUpto rests on, part 5: LookAt, Sizes, CountM, Keys, Facts, GOrder, GReach, GLists, ICome. -/
import Derived.Test.YtncmnbchkabgaaaGreatPkInterpSpareUpto4
import Derived.OwnWalk
import Derived.RegionTactic
import Derived.ChangeAlike
import Derived.BigRegion
import Derived.Outline
import Derived.Laws.OwnMore
import Derived.Laws.EntriesVeiled
import Derived.Deep.Onto

namespace Go.Proofs.YtncmnbchkabgaaaGreat
open Go.RowKit Go.Maps

theorem formed_code {f : FuncM} : ∀ {l : List InstrM} {ds d : Defs}, codeStep f ds l = some d → ∀ x ∈ l, x.args.length = (takesS x.op).length := by
  intro l
  induction l with
  | nil => intro ds d _ x hx; cases hx
  | cons y l ih =>
    intro ds d h x hx
    unfold codeStep at h
    rw [Option.bind_eq_some_iff] at h
    obtain ⟨d1, h1, h2⟩ := h
    rcases List.mem_cons.1 hx with rfl | hx
    · unfold instrStep at h1
      split at h1
      · rename_i hi
        unfold instrB at hi
        simp only [Bool.and_eq_true, beq_iff_eq] at hi
        exact hi.2.1
      · cases h1
    · exact ih h2 x hx

theorem formed_blocks {f : FuncM} : ∀ {l : List BlockM} {ds d : Defs}, blocksStep f ds l = some d → ∀ b ∈ l, ∀ x ∈ b.code, x.args.length = (takesS x.op).length := by
  intro l
  induction l with
  | nil => intro ds d _ x hx; cases hx
  | cons y l ih =>
    intro ds d h x hx
    unfold blocksStep at h
    rw [Option.bind_eq_some_iff] at h
    obtain ⟨d1, h1, h2⟩ := h
    rcases List.mem_cons.1 hx with rfl | hx
    · unfold blockStep at h1
      rw [Option.bind_eq_some_iff] at h1
      obtain ⟨d2, h3, h4⟩ := h1
      rw [Option.bind_eq_some_iff] at h4
      obtain ⟨d3, h5, h6⟩ := h4
      exact formed_code h5
    · exact ih h2 x hx

theorem formed_args {f : FuncM} {ds : Defs} (h : formedM f = some ds) : ∀ b ∈ f.blocks, ∀ x ∈ b.code, x.args.length = (takesS x.op).length := by
  unfold formedM at h
  split at h
  · exact formed_blocks h
  · cases h

theorem look_none {f : FuncM} (h : formedM f = none) : lookM f = (2, []) := by
  unfold lookM
  rw [h]

theorem look_some {f : FuncM} {ds : Defs} (h : formedM f = some ds) : lookM f = if usesErr ds (usesM f) = 0 then (0, ds) else (usesErr ds (usesM f), []) := by
  unfold lookM usesErr
  rw [h]
  cases h1 : unknownB ds (usesM f) <;> cases h2 : unfitB ds (usesM f) <;> simp [h1, h2]

theorem grown_free {w w' : World} {g M : Nat} {cs : Array Value} {t : TypeId} (h : w.heap[g]? = some (.cells cs t (0, 0))) (hg : w.grownBy w' (some M)) (hM : g ≠ M) : ∀ o, w'.frozen? ⟨g, o, none⟩ = false := by
  intro o
  simp [World.frozen?, (hg.block _ (lt_of_heap h) (by simpa using hM)).trans h]

theorem free_row {w w' : World} {g : Nat} {cs : Array Value} {t : TypeId} (h : w.heap[g]? = some (.cells cs t (0, 0))) (hk : w'.heap[g]? = w.heap[g]?) : ∀ o, w'.frozen? ⟨g, o, none⟩ = false := by
  intro o
  simp [World.frozen?, hk.trans h]

/-- what lookAt answers: the function and the map of its values, or an error -/
def LookPost (f : FuncM) (pv bv : Value) (w : World) (e : Ending) (w' : World) : Prop :=
  Below w.heap.size w w' ∧
  ((lookM f).1 = 0 ∧ (∃ M, w.heap.size ≤ M ∧ e = .returned (.tuple #[.agg #[pv, .int .i64 f.arrays, .int .i64 f.cells, bv, .map (some M)], .int .i64 0]) ∧ MapIs w' M (lookM f).2) ∨
   (lookM f).1 ≠ 0 ∧ e = .returned (.tuple #[.agg #[.slice none 0 0, .int .i64 0, .int .i64 0, .slice none 0 0, .map none], .int .i64 (lookM f).1]))

set_option maxHeartbeats 1000000 in
theorem lookAt_any (f : FuncM) (B : Nat) (pv bv : Value) (w : World) (hpv : Ints w B pv f.params) (hbv : BlocksR w B bv f.blocks) (hB : B ≤ w.heap.size) (hid : ∀ u ∈ usesM f, I64 u.1) :
    Calls Tryz.prog 123 #[.agg #[pv, .int .i64 f.arrays, .int .i64 f.cells, bv]] w (LookPost f pv bv w) := by
  have HP := hideI hpv
  have HB := hideI hbv
  have HID := hideI hid
  obtain ⟨P, pc, rfl, _⟩ := hpv
  obtain ⟨A, c, rfl, _⟩ := hbv
  have hmm := @run_makeMap Tryz.prog
  obtain ⟨W4, hW4⟩ : ∃ W4 : World, W4 = (((w.alloc (.cells #[.slice P f.params.length pc, .int .i64 f.arrays, .int .i64 f.cells, .slice A f.blocks.length c] 25)).alloc (.cells #[.slice none 0 0, .int .i64 0, .int .i64 0, .slice none 0 0, .map none] 174)).alloc (.map #[] 0)).alloc (.cells #[.slice P f.params.length pc, .int .i64 f.arrays, .int .i64 f.cells, .slice A f.blocks.length c, .map (some (w.heap.size + 1 + 1))] 174) := ⟨_, rfl⟩
  have hsz : W4.heap.size = w.heap.size + 4 := by rw [hW4]; simp
  have hBl : Below w.heap.size w W4 := by rw [hW4]; exact (((((Below.refl _ w).alloc (Nat.le_refl _) _).alloc (by simp) _).alloc (by simp; omega) _).alloc (by simp; omega) _)
  have h1 : W4.heap[w.heap.size + 1]? = some (.cells #[.slice none 0 0, .int .i64 0, .int .i64 0, .slice none 0 0, .map none] 174 (0, 0)) := by
    rw [hW4, Below.heap_alloc _ _ _ (by simp), Below.heap_alloc _ _ _ (by simp)]
    have := heap_alloc_new (w.alloc (.cells #[.slice P f.params.length pc, .int .i64 f.arrays, .int .i64 f.cells, .slice A f.blocks.length c] 25)) (.cells #[.slice none 0 0, .int .i64 0, .int .i64 0, .slice none 0 0, .map none] 174)
    simpa using this
  have h3 : W4.heap[w.heap.size + 1 + 1 + 1]? = some (.cells #[.slice P f.params.length pc, .int .i64 f.arrays, .int .i64 f.cells, .slice A f.blocks.length c, .map (some (w.heap.size + 1 + 1))] 174 (0, 0)) := by
    rw [hW4]
    have := heap_alloc_new (((w.alloc (.cells #[.slice P f.params.length pc, .int .i64 f.arrays, .int .i64 f.cells, .slice A f.blocks.length c] 25)).alloc (.cells #[.slice none 0 0, .int .i64 0, .int .i64 0, .slice none 0 0, .map none] 174)).alloc (.map #[] 0)) (.cells #[.slice P f.params.length pc, .int .i64 f.arrays, .int .i64 f.cells, .slice A f.blocks.length c, .map (some (w.heap.size + 1 + 1))] 174)
    simpa using this
  have hm : MapIs W4 (w.heap.size + 1 + 1) [] := by
    rw [hW4]
    have := MapIs.new ((w.alloc (.cells #[.slice P f.params.length pc, .int .i64 f.arrays, .int .i64 f.cells, .slice A f.blocks.length c] 25)).alloc (.cells #[.slice none 0 0, .int .i64 0, .int .i64 0, .slice none 0 0, .map none] 174))
    exact MapIs.alloc (by simpa using this) _
  have hk : Keeps B w W4 := Keeps.of_below (hBl.mono hB)
  have HF := hideI (formed_any f B (w.heap.size + 1 + 1) (.slice P f.params.length pc) (.slice A f.blocks.length c) W4 (HP.out.keeps hk) (HB.out.keeps hk) (by omega) hm)
  have HH1 := hideI h1
  have HH3 := hideI h3
  have HSZ := hideI hsz
  have HBl := hideI hBl
  clear hid hsz hBl h1 h3 hm hk
  subst hW4
  cases hf : formedM f with
  | none =>
    have HFM := hideI hf
    clear hf
    go_enter Tryz.func123, Tryz.ntmps123
    go_wp2_with (go_at_call 162; refine HF.out.mono ?_; rintro e w5 ⟨rfl, hg5, _⟩; rw [HFM.out]; have k1 := grown_row HH1.out hg5 (by omega); have k3 := grown_row HH3.out hg5 (by omega); have q1 := grown_free HH1.out hg5 (by omega); have HG5 := hideI hg5; clear hg5)
    refine bodyPost_ret (v := .tuple #[.agg #[.slice none 0 0, .int .i64 0, .int .i64 0, .slice none 0 0, .map none], .int .i64 2]) (by simp [results, Tryz.results123, go_sem, k1]) rfl ?_
    refine ⟨?_, .inr ⟨by rw [look_none HFM.out]; decide, by rw [look_none HFM.out]⟩⟩
    exact (((((HBl.out.grown HG5.out (by rw [HSZ.out]; omega) (by intro k hk; injection hk with hk; omega)).setCell (by simp) _).setCell (by simp) _).setCell (by simp) _).setCell (by simp) _).setCell (by simp) _
  | some ds =>
    have HFM := hideI hf
    clear hf
    cases hc : (usesErr ds (usesM f) != 0)
    · have HC := hideI hc
      go_enter Tryz.func123, Tryz.ntmps123
      go_wp2_with (first
        | (go_at_call 162; refine HF.out.mono ?_; rintro e w5 ⟨rfl, hg5, hm5⟩; rw [HFM.out]; have k1 := grown_row HH1.out hg5 (by omega); have k3 := grown_row HH3.out hg5 (by omega); have q1 := grown_free HH1.out hg5 (by omega); have HG5 := hideI hg5; have HM5 := hideI (hm5 _ HFM.out); have hz5 : w.heap.size + 1 + 1 + 1 < w5.heap.size := (by have := hg5.size; rw [HSZ.out] at this; omega); clear hg5 hm5)
        | (go_at_call 163; refine (checkUses_any f ds B (w.heap.size + 1 + 1) _ _ _ _ _ (HB.out.keeps (Keeps.of_below ((HBl.out.grown HG5.out (by rw [HSZ.out]; omega) (by intro k hk; injection hk with hk; omega)).mono hB))) (by omega) HM5.out (formed_args HFM.out) HID.out).mono ?_; rintro e w6 ⟨rfl, hb6⟩; have k6 := row_cells (HH1.out) ((hb6.block _ (by omega)).trans (HG5.out.block _ (by rw [HSZ.out]; omega) (by simp))); have q6 := free_row HH1.out ((hb6.block _ (by omega)).trans (HG5.out.block _ (by rw [HSZ.out]; omega) (by simp))); have l6 := row_cells (HH3.out) ((hb6.block _ (by omega)).trans (HG5.out.block _ (by rw [HSZ.out]; omega) (by simp))); have HB6 := hideI hb6; clear hb6))
      have h0 : usesErr ds (usesM f) = 0 := by simpa using HC.out
      have hl : lookM f = (0, ds) := by rw [look_some HFM.out, if_pos h0]
      refine bodyPost_ret (v := .tuple #[.agg #[.slice P f.params.length pc, .int .i64 f.arrays, .int .i64 f.cells, .slice A f.blocks.length c, .map (some (w.heap.size + 1 + 1))], .int .i64 0]) (by simp [results, Tryz.results123, go_sem, k6]) rfl ?_
      refine ⟨((((((HBl.out.grown HG5.out (by rw [HSZ.out]; omega) (by intro k hk; injection hk with hk; omega)).trans (HB6.out.mono (by omega))).setCell (by simp) _).setCell (by simp) _).setCell (by simp) _).setCell (by simp) _).setCell (by simp) _, .inl ⟨by rw [hl], w.heap.size + 1 + 1, by omega, rfl, ?_⟩⟩
      rw [hl]
      exact (((((HM5.out.below HB6.out HM5.out.lt).set_ _ (by simp)).set_ _ (by simp)).set_ _ (by simp)).set_ _ (by simp)).set_ _ (by simp)
    · have HC := hideI hc
      go_enter Tryz.func123, Tryz.ntmps123
      go_wp2_with (first
        | (go_at_call 162; refine HF.out.mono ?_; rintro e w5 ⟨rfl, hg5, hm5⟩; rw [HFM.out]; have k1 := grown_row HH1.out hg5 (by omega); have k3 := grown_row HH3.out hg5 (by omega); have q1 := grown_free HH1.out hg5 (by omega); have HG5 := hideI hg5; have HM5 := hideI (hm5 _ HFM.out); have hz5 : w.heap.size + 1 + 1 + 1 < w5.heap.size := (by have := hg5.size; rw [HSZ.out] at this; omega); clear hg5 hm5)
        | (go_at_call 163; refine (checkUses_any f ds B (w.heap.size + 1 + 1) _ _ _ _ _ (HB.out.keeps (Keeps.of_below ((HBl.out.grown HG5.out (by rw [HSZ.out]; omega) (by intro k hk; injection hk with hk; omega)).mono hB))) (by omega) HM5.out (formed_args HFM.out) HID.out).mono ?_; rintro e w6 ⟨rfl, hb6⟩; have k6 := row_cells (HH1.out) ((hb6.block _ (by omega)).trans (HG5.out.block _ (by rw [HSZ.out]; omega) (by simp))); have q6 := free_row HH1.out ((hb6.block _ (by omega)).trans (HG5.out.block _ (by rw [HSZ.out]; omega) (by simp))); have l6 := row_cells (HH3.out) ((hb6.block _ (by omega)).trans (HG5.out.block _ (by rw [HSZ.out]; omega) (by simp))); have HB6 := hideI hb6; clear hb6))
      have h0 : usesErr ds (usesM f) ≠ 0 := by simpa using HC.out
      have hl : lookM f = (usesErr ds (usesM f), []) := by rw [look_some HFM.out, if_neg h0]
      refine bodyPost_ret (v := .tuple #[.agg #[.slice none 0 0, .int .i64 0, .int .i64 0, .slice none 0 0, .map none], .int .i64 (usesErr ds (usesM f))]) (by simp [results, Tryz.results123, go_sem, k6]) rfl ?_
      exact ⟨((((((HBl.out.grown HG5.out (by rw [HSZ.out]; omega) (by intro k hk; injection hk with hk; omega)).trans (HB6.out.mono (by omega))).setCell (by simp) _).setCell (by simp) _).setCell (by simp) _).setCell (by simp) _).setCell (by simp) _, .inr ⟨by rw [hl]; exact h0, by rw [hl]⟩⟩

end Go.Proofs.YtncmnbchkabgaaaGreat

namespace Go.Proofs.YtncmnbchkabgaaaGreat
open Go.RowKit Go.Maps

theorem look_bd {f : FuncM} (h : (lookM f).1 = 0) : f.blocks.length ≤ 512 := by
  cases hf : formedM f with
  | none => rw [look_none hf] at h; cases h
  | some ds =>
    unfold formedM at hf
    split at hf
    · rename_i hl
      simp only [Bool.and_eq_true] at hl
      exact (limits_bd hl.1.1).2.2.2.2.2.2.1
    · cases hf

set_option maxHeartbeats 1000000 in
theorem check_any (f : FuncM) (B : Nat) (pv bv : Value) (w : World) (hpv : Ints w B pv f.params) (hbv : BlocksR w B bv f.blocks) (hB : B ≤ w.heap.size) (hid : ∀ u ∈ usesM f, I64 u.1) :
    Calls Tryz.prog 72 #[.agg #[pv, .int .i64 f.arrays, .int .i64 f.cells, bv]] w fun e w' => e = .returned (.int .i64 (lookM f).1) ∧ Below w.heap.size w w' := by
  have HP := hideI hpv
  have HB := hideI hbv
  have HID := hideI hid
  obtain ⟨P, pc, rfl, _⟩ := hpv
  obtain ⟨A, c, rfl, _⟩ := hbv
  have hk : Keeps B w (w.alloc (.cells #[.slice P f.params.length pc, .int .i64 f.arrays, .int .i64 f.cells, .slice A f.blocks.length c] 25)) := (Keeps.refl w).alloc hB _
  have HL := hideI (lookAt_any f B _ _ _ (HP.out.keeps hk) (HB.out.keeps hk) (by simp; omega) HID.out)
  clear hid hk
  go_enter Tryz.func72, Tryz.ntmps72
  go_wp2_with fail
  refine HL.out.mono ?_
  rintro e w1 ⟨hb1, h | h⟩
  · obtain ⟨h0, M, hM, rfl, hm⟩ := h
    have H0 := hideI h0
    have HB1 := hideI (below_one (hb1.mono (by simp)))
    clear hb1 hm h0
    go_wp2
    go_ret
    exact ⟨by rw [H0.out]; rfl, HB1.out.alloc HB1.out.size _⟩
  · obtain ⟨h0, rfl⟩ := h
    have HB1 := hideI (below_one (hb1.mono (by simp)))
    clear hb1
    go_wp2
    go_ret
    exact ⟨rfl, HB1.out.alloc HB1.out.size _⟩

end Go.Proofs.YtncmnbchkabgaaaGreat

namespace Go.Proofs.YtncmnbchkabgaaaGreat
open Go.RowKit Go.Maps

def cntU (id : Int) (us : List (Int × Int)) : Int := (us.countP fun u => u.1 == id : Nat)

theorem cnt_snoc (id : Int) (us : List (Int × Int)) (k t : Int) : cntU id (us ++ [(k, t)]) = cntU id us + if k = id then 1 else 0 := by
  unfold cntU
  rw [List.countP_append]
  by_cases h : k = id <;> simp [h]

theorem wrap_step (c x : Int) (h : c = wrap64 x) : wrap64 (c + 1) = wrap64 (x + 1) := by
  subst h
  unfold wrap64
  omega

/-- what TypeOf and Uses tell, each beside its error -/
def typeOut (f : FuncM) (id : Int) : Int × Int := if (lookM f).1 = 0 then (match (lookM f).2.at id with | some t => (t, 0) | none => (0, 9)) else (0, (lookM f).1)

def useOut (f : FuncM) (id : Int) : Int × Int := if (lookM f).1 = 0 then (match (lookM f).2.at id with | some _ => (cntU id (usesM f), 0) | none => (0, 9)) else (0, (lookM f).1)

theorem typeOut_err {f : FuncM} {id : Int} (h : (lookM f).1 ≠ 0) : typeOut f id = (0, (lookM f).1) := by unfold typeOut; rw [if_neg h]

theorem typeOut_none {f : FuncM} {id : Int} (h : (lookM f).1 = 0) (hd : (lookM f).2.at id = none) : typeOut f id = (0, 9) := by unfold typeOut; rw [if_pos h, hd]

theorem typeOut_some {f : FuncM} {id t : Int} (h : (lookM f).1 = 0) (hd : (lookM f).2.at id = some t) : typeOut f id = (t, 0) := by unfold typeOut; rw [if_pos h, hd]

theorem useOut_err {f : FuncM} {id : Int} (h : (lookM f).1 ≠ 0) : useOut f id = (0, (lookM f).1) := by unfold useOut; rw [if_neg h]

theorem useOut_none {f : FuncM} {id : Int} (h : (lookM f).1 = 0) (hd : (lookM f).2.at id = none) : useOut f id = (0, 9) := by unfold useOut; rw [if_pos h, hd]

theorem useOut_some {f : FuncM} {id t : Int} (h : (lookM f).1 = 0) (hd : (lookM f).2.at id = some t) : useOut f id = (cntU id (usesM f), 0) := by unfold useOut; rw [if_pos h, hd]

theorem look_formed {f : FuncM} (h : (lookM f).1 = 0) : formedM f = some (lookM f).2 := by
  cases hf : formedM f with
  | none => rw [look_none hf] at h; cases h
  | some ds =>
    rw [look_some hf] at h ⊢
    split at h
    · rename_i hu
      rw [if_pos hu]
    · rename_i hu
      exact absurd h hu

theorem wrap_zero (id : Int) : wrap64 (cntU id []) = 0 := by
  unfold wrap64 cntU
  simp

theorem wrap_cnt (id : Int) (us : List (Int × Int)) (h : us.length < 4611686018427387904) : wrap64 (cntU id us) = cntU id us := by
  have h1 : us.countP (fun u => u.1 == id) ≤ us.length := List.countP_le_length
  unfold wrap64 cntU
  omega

end Go.Proofs.YtncmnbchkabgaaaGreat

namespace Go.Proofs.YtncmnbchkabgaaaGreat
open Go.RowKit Go.Maps

theorem at_some {ds : Defs} {k : Int} : (ds.at k).isSome = true ↔ k ∈ ds.map (·.1) := by
  unfold Defs.at
  rw [Option.isSome_map, List.find?_isSome]
  simp only [List.mem_map, beq_iff_eq]

theorem nodup_snoc {ds : Defs} {id t : Int} (h : (ds.map (·.1)).Nodup) (hn : ds.at id = none) : ((ds ++ [(id, t)]).map (·.1)).Nodup := by
  rw [List.map_append, List.nodup_append]
  refine ⟨h, by simp, ?_⟩
  intro a ha b hb e
  simp at hb
  subst hb e
  have := at_some.2 ha
  rw [hn] at this
  cases this

theorem addDef_nodup {np : Nat} {ds d : Defs} {id t : Int} (h : (ds.map (·.1)).Nodup) (ha : addDef np ds id t = some d) : (d.map (·.1)).Nodup := by
  unfold addDef defB at ha
  split at ha
  · rename_i hc
    injection ha with ha
    subst ha
    simp only [Bool.and_eq_true, Bool.not_eq_true', Option.isSome_eq_false_iff, Option.isNone_iff_eq_none] at hc
    exact nodup_snoc h hc.1
  · cases ha

theorem phisStep_nodup {f : FuncM} : ∀ {l : List PhiM} {ds d : Defs}, (ds.map (·.1)).Nodup → phisStep f ds l = some d → (d.map (·.1)).Nodup := by
  intro l
  induction l with
  | nil => intro ds d hn h; injection h with h; subst h; exact hn
  | cons p l ih =>
    intro ds d hn h
    unfold phisStep at h
    rw [Option.bind_eq_some_iff] at h
    obtain ⟨d1, h1, h2⟩ := h
    refine ih ?_ h2
    unfold phiStep at h1
    split at h1
    · exact addDef_nodup hn h1
    · cases h1

theorem codeStep_nodup {f : FuncM} : ∀ {l : List InstrM} {ds d : Defs}, (ds.map (·.1)).Nodup → codeStep f ds l = some d → (d.map (·.1)).Nodup := by
  intro l
  induction l with
  | nil => intro ds d hn h; injection h with h; subst h; exact hn
  | cons p l ih =>
    intro ds d hn h
    unfold codeStep at h
    rw [Option.bind_eq_some_iff] at h
    obtain ⟨d1, h1, h2⟩ := h
    refine ih ?_ h2
    unfold instrStep at h1
    split at h1
    · split at h1
      · split at h1
        · injection h1 with h1; subst h1; exact hn
        · cases h1
      · exact addDef_nodup hn h1
    · cases h1

theorem blocksStep_nodup {f : FuncM} : ∀ {l : List BlockM} {ds d : Defs}, (ds.map (·.1)).Nodup → blocksStep f ds l = some d → (d.map (·.1)).Nodup := by
  intro l
  induction l with
  | nil => intro ds d hn h; injection h with h; subst h; exact hn
  | cons p l ih =>
    intro ds d hn h
    unfold blocksStep at h
    rw [Option.bind_eq_some_iff] at h
    obtain ⟨d1, h1, h2⟩ := h
    refine ih ?_ h2
    unfold blockStep at h1
    rw [Option.bind_eq_some_iff] at h1
    obtain ⟨d2, h3, h4⟩ := h1
    rw [Option.bind_eq_some_iff] at h4
    obtain ⟨d3, h5, h6⟩ := h4
    split at h6
    · injection h6 with h6
      subst h6
      exact codeStep_nodup (phisStep_nodup hn h3) h5
    · cases h6

theorem paramDefs_ge (l : List Int) : ∀ j, ∀ d ∈ paramDefs j l, (j : Int) ≤ d.1 := by
  induction l with
  | nil => intro j d h; cases h
  | cons a l ih =>
    intro j d h
    rcases List.mem_cons.1 h with rfl | h
    · exact Int.le_refl _
    · have := ih (j + 1) d h
      omega

theorem paramDefs_nodup (l : List Int) : ∀ j, ((paramDefs j l).map (·.1)).Nodup := by
  induction l with
  | nil => intro j; exact List.nodup_nil
  | cons a l ih =>
    intro j
    show (((j : Int), a).1 :: (paramDefs (j + 1) l).map (·.1)).Nodup
    rw [List.nodup_cons]
    refine ⟨fun h => ?_, ih (j + 1)⟩
    obtain ⟨d, hd, he⟩ := List.mem_map.1 h
    have := paramDefs_ge l (j + 1) d hd
    simp only at he
    omega

theorem formed_nodup {f : FuncM} {ds : Defs} (h : formedM f = some ds) : (ds.map (·.1)).Nodup := by
  unfold formedM at h
  split at h
  · exact blocksStep_nodup (paramDefs_nodup _ _) h
  · cases h

/-- all values, rising -/
def idsS (f : FuncM) : List Int := ((lookM f).2.map (·.1)).mergeSort fun x y => decide (x ≤ y)

def idsOut (f : FuncM) : List Int := if (lookM f).1 = 0 then idsS f else []

theorem idsS_len (f : FuncM) : (idsS f).length = (lookM f).2.length := by
  unfold idsS
  rw [List.length_mergeSort, List.length_map]

theorem blocksStep_len {f : FuncM} : ∀ {l : List BlockM} {ds d : Defs}, blocksStep f ds l = some d → d.length ≤ ds.length + (l.map sizeB).sum := by
  intro l
  induction l with
  | nil => intro ds d h; injection h with h; subst h; simp
  | cons p l ih =>
    intro ds d h
    unfold blocksStep at h
    rw [Option.bind_eq_some_iff] at h
    obtain ⟨d1, h1, h2⟩ := h
    have := ih h2
    have := blockStep_len h1
    simp only [List.map_cons, List.sum_cons]
    unfold sizeB
    unfold sizeB at *
    omega

theorem look_len {f : FuncM} (h : (lookM f).1 = 0) : (lookM f).2.length ≤ 4112 := by
  have hf := look_formed h
  unfold formedM at hf
  split at hf
  · rename_i hl
    simp only [Bool.and_eq_true] at hl
    have h1 := limits_bd hl.1.1
    have h2 := blocksStep_len hf
    rw [paramDefs_len] at h2
    omega
  · cases hf

end Go.Proofs.YtncmnbchkabgaaaGreat

namespace Go.Proofs.YtncmnbchkabgaaaGreat
open Go.RowKit

/-- what a step keeps: old values stay, new ones are not below 0 -/
def Grows (ds d : Defs) : Prop := (∀ x ∈ ds, x ∈ d) ∧ ∀ x ∈ d, x ∈ ds ∨ (0 ≤ x.1 ∧ x.1 ≤ 1048575)

theorem Grows.refl (ds : Defs) : Grows ds ds := ⟨fun _ h => h, fun _ h => .inl h⟩
theorem Grows.trans {a b c : Defs} (h : Grows a b) (k : Grows b c) : Grows a c :=
  ⟨fun x hx => k.1 x (h.1 x hx), fun x hx => by rcases k.2 x hx with h1 | h1; exact h.2 x h1; exact .inr h1⟩

theorem addDef_grows {np : Nat} {ds d : Defs} {id t : Int} (h : addDef np ds id t = some d) : Grows ds d := by
  unfold addDef defB at h
  split at h
  · rename_i hc
    injection h with h
    subst h
    simp only [Bool.and_eq_true] at hc
    have := within_bd hc.2
    refine ⟨fun x hx => List.mem_append_left _ hx, fun x hx => ?_⟩
    rcases List.mem_append.1 hx with hx | hx
    · exact .inl hx
    · simp at hx
      subst hx
      exact .inr (by show 0 ≤ id ∧ id ≤ 1048575; omega)
  · cases h

theorem phisStep_grows {f : FuncM} : ∀ {l : List PhiM} {ds d : Defs}, phisStep f ds l = some d → Grows ds d := by
  intro l
  induction l with
  | nil => intro ds d h; injection h with h; subst h; exact Grows.refl _
  | cons p l ih =>
    intro ds d h
    unfold phisStep at h
    rw [Option.bind_eq_some_iff] at h
    obtain ⟨d1, h1, h2⟩ := h
    refine Grows.trans ?_ (ih h2)
    unfold phiStep at h1
    split at h1
    · exact addDef_grows h1
    · cases h1

theorem codeStep_grows {f : FuncM} : ∀ {l : List InstrM} {ds d : Defs}, codeStep f ds l = some d → Grows ds d := by
  intro l
  induction l with
  | nil => intro ds d h; injection h with h; subst h; exact Grows.refl _
  | cons p l ih =>
    intro ds d h
    unfold codeStep at h
    rw [Option.bind_eq_some_iff] at h
    obtain ⟨d1, h1, h2⟩ := h
    refine Grows.trans ?_ (ih h2)
    unfold instrStep at h1
    split at h1
    · split at h1
      · split at h1
        · injection h1 with h1; subst h1; exact Grows.refl _
        · cases h1
      · exact addDef_grows h1
    · cases h1

theorem blocksStep_grows {f : FuncM} : ∀ {l : List BlockM} {ds d : Defs}, blocksStep f ds l = some d → Grows ds d := by
  intro l
  induction l with
  | nil => intro ds d h; injection h with h; subst h; exact Grows.refl _
  | cons p l ih =>
    intro ds d h
    unfold blocksStep at h
    rw [Option.bind_eq_some_iff] at h
    obtain ⟨d1, h1, h2⟩ := h
    refine Grows.trans ?_ (ih h2)
    unfold blockStep at h1
    rw [Option.bind_eq_some_iff] at h1
    obtain ⟨d2, h3, h4⟩ := h1
    rw [Option.bind_eq_some_iff] at h4
    obtain ⟨d3, h5, h6⟩ := h4
    split at h6
    · injection h6 with h6
      subst h6
      exact (phisStep_grows h3).trans (codeStep_grows h5)
    · cases h6

theorem paramDefs_mem (l : List Int) : ∀ (j k : Nat), j ≤ k → k < j + l.length → ∃ d ∈ paramDefs j l, d.1 = (k : Int) := by
  induction l with
  | nil => intro j k h1 h2; simp at h2; omega
  | cons a l ih =>
    intro j k h1 h2
    by_cases e : j = k
    · subst e
      exact ⟨_, List.mem_cons_self .., rfl⟩
    · simp only [List.length_cons] at h2
      obtain ⟨d, hd, he⟩ := ih (j + 1) k (by omega) (by omega)
      exact ⟨d, List.mem_cons_of_mem _ hd, he⟩

theorem paramDefs_lt (l : List Int) : ∀ j, ∀ d ∈ paramDefs j l, d.1 < (j + l.length : Nat) := by
  induction l with
  | nil => intro j d h; cases h
  | cons a l ih =>
    intro j d h
    simp only [List.length_cons]
    rcases List.mem_cons.1 h with rfl | h
    · show (j : Int) < _
      omega
    · have := ih (j + 1) d h
      omega

theorem formed_keys {f : FuncM} {ds : Defs} (h : formedM f = some ds) : (∀ x ∈ ds, 0 ≤ x.1 ∧ x.1 ≤ 1048575) ∧ ∀ k : Nat, k < f.params.length → (k : Int) ∈ ds.map (·.1) := by
  unfold formedM at h
  split at h
  · rename_i hc
    simp only [Bool.and_eq_true] at hc
    have hl := (limits_bd hc.1.1).1
    have hg := blocksStep_grows h
    refine ⟨fun x hx => ?_, fun k hk => ?_⟩
    · rcases hg.2 x hx with h1 | h1
      · have h2 := paramDefs_ge _ _ x h1
        have h3 := paramDefs_lt _ _ x h1
        omega
      · exact h1
    · obtain ⟨d, hd, he⟩ := paramDefs_mem f.params 0 k (by omega) (by omega)
      exact List.mem_map.2 ⟨d, hg.1 d hd, he⟩
  · cases h

/-- the number behind all values -/
def nextId (f : FuncM) : Int := match (idsS f).getLast? with | some x => x + 1 | none => f.params.length

theorem idsS_mem {f : FuncM} {x : Int} : x ∈ idsS f ↔ x ∈ (lookM f).2.map (·.1) := by
  unfold idsS
  exact (List.mergeSort_perm _ _).mem_iff

theorem idsS_sorted (f : FuncM) : (idsS f).Pairwise (· ≤ ·) := by
  have h := List.pairwise_mergeSort (le := fun x y : Int => decide (x ≤ y)) (fun a b c h1 h2 => by simp only [decide_eq_true_eq] at *; omega) (fun a b => by simp only [Bool.or_eq_true, decide_eq_true_eq]; omega) ((lookM f).2.map (·.1))
  exact h.imp (fun h => by simpa using h)

theorem last_max {l : List Int} (h : l.Pairwise (· ≤ ·)) {x : Int} (hx : l.getLast? = some x) : ∀ y ∈ l, y ≤ x := by
  intro y hy
  obtain ⟨r, rfl⟩ : ∃ r, l = r ++ [x] := by
    cases hl : l.reverse with
    | nil => have : l = [] := by simpa using hl
             subst this; cases hx
    | cons a r =>
      have hle : l = r.reverse ++ [a] := by rw [← List.reverse_reverse l, hl, List.reverse_cons]
      rw [hle, List.getLast?_append] at hx
      simp at hx
      subst hx
      exact ⟨_, hle⟩
  rw [List.pairwise_append] at h
  rcases List.mem_append.1 hy with hy | hy
  · exact h.2.2 y hy x (by simp)
  · simp at hy
    omega

theorem next_new {f : FuncM} (h : (lookM f).1 = 0) : (lookM f).2.at (nextId f) = none ∧ (f.params.length : Int) ≤ nextId f := by
  have hk := formed_keys (look_formed h)
  have hnot : nextId f ∉ (lookM f).2.map (·.1) := by
    intro hm
    rw [← idsS_mem] at hm
    unfold nextId at hm
    cases hl : (idsS f).getLast? with
    | none =>
      have : idsS f = [] := List.getLast?_eq_none_iff.1 hl
      rw [this] at hm
      cases hm
    | some x =>
      rw [hl] at hm
      have := last_max (idsS_sorted f) hl _ hm
      simp only at this
      omega
  refine ⟨?_, ?_⟩
  · cases hd : (lookM f).2.at (nextId f) with
    | none => rfl
    | some t => exact absurd (at_some.1 (by rw [hd]; rfl)) hnot
  · unfold nextId
    cases hl : (idsS f).getLast? with
    | none => exact Int.le_refl _
    | some x =>
      simp only
      rcases Nat.eq_zero_or_pos f.params.length with h0 | h0
      · have hx : x ∈ idsS f := List.mem_of_getLast? hl
        rw [idsS_mem] at hx
        obtain ⟨d, hd, rfl⟩ := List.mem_map.1 hx
        have := hk.1 d hd
        omega
      · have h1 := hk.2 (f.params.length - 1) (by omega)
        rw [← idsS_mem] at h1
        have := last_max (idsS_sorted f) hl _ h1
        omega

theorem last_bd {f : FuncM} {x : Int} (h : (lookM f).1 = 0) (hl : (idsS f).getLast? = some x) : 0 ≤ x ∧ x ≤ 1048575 := by
  have hx : x ∈ idsS f := List.mem_of_getLast? hl
  rw [idsS_mem] at hx
  obtain ⟨d, hd, rfl⟩ := List.mem_map.1 hx
  exact (formed_keys (look_formed h)).1 d hd

theorem uses_i64 {f : FuncM} (h : ∀ q ∈ f.blocks, BlockOk q) : ∀ u ∈ usesM f, I64 u.1 := by
  intro u hu
  obtain ⟨q, hq, hu⟩ := List.mem_flatMap.1 hu
  obtain ⟨h1, h2, h3⟩ := h q hq
  rcases List.mem_append.1 hu with hu | hu
  · obtain ⟨p, hp, hu⟩ := List.mem_flatMap.1 hu
    obtain ⟨v, hv, rfl⟩ := List.mem_map.1 hu
    exact (h1 p hp).2 v hv
  · rcases List.mem_append.1 hu with hu | hu
    · obtain ⟨x, hx, hu⟩ := List.mem_flatMap.1 hu
      exact h2 x hx _ (List.of_mem_zip hu).1
    · unfold usesTerm at hu
      split at hu
      · simp at hu; subst hu; exact h3
      · split at hu
        · simp at hu; subst hu; exact h3
        · cases hu

theorem flat_len {α β : Type} (g : α → List β) (M : Nat) : ∀ l : List α, (∀ a ∈ l, (g a).length ≤ M) → (l.flatMap g).length ≤ l.length * M := by
  intro l
  induction l with
  | nil => intro _; simp
  | cons a l ih =>
    intro h
    rw [List.flatMap_cons, List.length_append, List.length_cons, Nat.add_mul]
    have h1 := h a (List.mem_cons_self ..)
    have h2 := ih (fun b hb => h b (List.mem_cons_of_mem _ hb))
    omega

theorem usesBlock_len {q : BlockM} (h : BlockOk q) : (usesBlock q).length ≤ sizeB q * 140737488351232 := by
  unfold usesBlock sizeB
  rw [List.length_append, List.length_append]
  have h1 := flat_len usesPhi 140737488351232 q.phis (fun p hp => by unfold usesPhi; rw [List.length_map]; exact (h.1 p hp).1)
  have h2 := flat_len usesInstr 140737488351232 q.code (fun x _ => by
    unfold usesInstr
    rw [List.length_zip]
    have := shapeS_short x.op
    unfold takesS
    rw [List.length_map]
    omega)
  have h3 : (usesTerm q.term).length ≤ 1 := by
    unfold usesTerm
    split
    · simp
    · split <;> simp
  rw [Nat.add_mul, Nat.add_mul]
  omega

theorem uses_len_le : ∀ l : List BlockM, (∀ q ∈ l, BlockOk q) → (l.flatMap usesBlock).length ≤ (l.map sizeB).sum * 140737488351232 := by
  intro l
  induction l with
  | nil => intro _; simp
  | cons q l ih =>
    intro h
    rw [List.flatMap_cons, List.length_append, List.map_cons, List.sum_cons, Nat.add_mul]
    have h1 := usesBlock_len (h q (List.mem_cons_self ..))
    have h2 := ih (fun b hb => h b (List.mem_cons_of_mem _ hb))
    omega

theorem look_size {f : FuncM} (h : (lookM f).1 = 0) : sizeM f ≤ 4096 := by
  have hf := look_formed h
  unfold formedM at hf
  split at hf
  · rename_i hl
    simp only [Bool.and_eq_true] at hl
    exact (limits_bd hl.1.1).2.2.2.2.2.2.2
  · cases hf

theorem uses_len {f : FuncM} (h : ∀ q ∈ f.blocks, BlockOk q) (h0 : (lookM f).1 = 0) : (usesM f).length < 4611686018427387904 := by
  have h1 := uses_len_le f.blocks h
  have h2 := look_size h0
  unfold sizeM at h2
  unfold usesM
  omega

end Go.Proofs.YtncmnbchkabgaaaGreat

namespace Go.Proofs.YtncmnbchkabgaaaGreat
open Go.RowKit

/-- turned round from both ends, k elements each -/
def RevTo {α : Type} (xs ys : List α) (k : Nat) : Prop :=
  ys.length = xs.length ∧ ∀ p, p < xs.length → ys[p]? = if p < k ∨ xs.length ≤ p + k then xs[xs.length - 1 - p]? else xs[p]?

theorem RevTo.start {α : Type} (xs : List α) : RevTo xs xs 0 := ⟨rfl, fun p hp => by rw [if_neg (by omega)]⟩

theorem RevTo.step {α : Type} {xs ys : List α} {k m : Nat} {a b : α} (h : RevTo xs ys k) (hm : m + k + 1 = xs.length) (hlt : k < m) (ha : ys[k]? = some a) (hb : ys[m]? = some b) : RevTo xs ((ys.set k b).set m a) (k + 1) := by
  refine ⟨by rw [List.length_set, List.length_set, h.1], fun p hp => ?_⟩
  have h1 := h.2 k (by omega)
  have h2 := h.2 m (by omega)
  rw [if_neg (by omega)] at h1 h2
  by_cases e2 : p = m
  · subst e2
    rw [List.getElem?_set_self (by rw [List.length_set, h.1]; omega), if_pos (by omega), ← ha, h1]
    congr 1
    omega
  · rw [List.getElem?_set_ne (by omega)]
    by_cases e1 : p = k
    · subst e1
      rw [List.getElem?_set_self (by rw [h.1]; omega), if_pos (by omega), ← hb, h2]
      congr 1
      omega
    · rw [List.getElem?_set_ne (by omega), h.2 p hp]
      by_cases hc : p < k ∨ xs.length ≤ p + k
      · rw [if_pos hc, if_pos (by omega)]
      · rw [if_neg hc, if_neg (by omega)]

theorem RevTo.last {α : Type} {xs ys : List α} {k m : Nat} (h : RevTo xs ys k) (hm : m + k + 1 = xs.length) (hge : m ≤ k) : ys = xs.reverse := by
  apply List.ext_getElem?
  intro p
  by_cases hp : p < xs.length
  · rw [h.2 p hp, List.getElem?_reverse hp]
    by_cases hc : p < k ∨ xs.length ≤ p + k
    · rw [if_pos hc]
    · rw [if_neg hc]
      congr 1
      omega
  · rw [List.getElem?_eq_none (by rw [h.1]; omega), List.getElem?_eq_none (by rw [List.length_reverse]; omega)]

set_option maxRecDepth 100000 in
set_option maxHeartbeats 2000000 in
theorem reverse_any (base g cap : Nat) (xs : List Int) (w : World) (hn : 0 < xs.length) (hn2 : xs.length ≤ 1000000) (hown : w.ownsRow base 3 1 (.slice (some ⟨g, 0, none⟩) xs.length cap) xs.length (xs.map (Value.int .i64))) :
    Calls Tryz.prog 154 #[.slice (some ⟨g, 0, none⟩) xs.length cap] w fun e w' => e = .returned (.tuple #[]) ∧ w'.ownsRow base 3 1 (.slice (some ⟨g, 0, none⟩) xs.length cap) xs.length (xs.reverse.map (Value.int .i64)) ∧ w.grownBy w' (some g) := by
  have HOWN := hideI hown
  obtain ⟨n, hN⟩ : ∃ n, n = xs.length := ⟨_, rfl⟩
  have HN := hideI hN
  rw [← hN] at hn hn2 ⊢
  clear hown hN
  go_enter Tryz.func154, Tryz.ntmps154
  go_wp2
  go_loopw [2, 3] (fun u v wr => ∃ (k m : Nat) (ys : List Int), m + k + 1 = n ∧ u = .int .i64 k ∧ v = .int .i64 m ∧ Hid (RevTo xs ys k) ∧ Hid (wr.ownsRow base 3 1 (.slice (some ⟨g, 0, none⟩) n cap) n (ys.map (Value.int .i64))) ∧ Hid (w.grownBy wr (some g))) (fun _ v _ => (intOf v).toNat)
  case atStart => exact ⟨0, n - 1, xs, by omega, rfl, by go_num, hideI (RevTo.start xs), (by have := HOWN.out; rw [← HN.out] at this; exact hideI this), hideI (World.grownBy.refl _ _)⟩
  case round =>
    obtain ⟨k, m, ys, hm, rfl, rfl, HR, HO, HG⟩ := hrel
    have hyl : ys.length = n := by rw [HR.out.1, ← HN.out]
    have HM : Hid (m + k + 1 = xs.length) := by show _ = _; rw [← HN.out]; exact hm
    by_cases hlt : k < m
    · obtain ⟨a, ha⟩ : ∃ a, ys[k]? = some a := ⟨_, List.getElem?_eq_getElem (by omega)⟩
      obtain ⟨b, hb⟩ : ∃ b, ys[m]? = some b := ⟨_, List.getElem?_eq_getElem (by omega)⟩
      have q1 : wr.cell? ⟨g, k, none⟩ = some (.int .i64 a) := by rw [World.ownsRow.cellAt HO.out k (by omega), List.getElem?_map, ha]; rfl
      have q2 : wr.cell? ⟨g, m, none⟩ = some (.int .i64 b) := by rw [World.ownsRow.cellAt HO.out m (by omega), List.getElem?_map, hb]; rfl
      have q3 : wr.frozen? ⟨g, k, none⟩ = false := World.ownsRow.frozenAt HO.out k
      have q4 : wr.frozen? ⟨g, m, none⟩ = false := World.ownsRow.frozenAt HO.out m
      have HA := hideI ha
      have HB := hideI hb
      have hkm : k ≠ m := by omega
      have hmk : m ≠ k := by omega
      have hkn : k < n := by omega
      have hmn : m < n := by omega
      obtain ⟨m', rfl⟩ : ∃ m', m = m' + 1 := ⟨m - 1, by omega⟩
      have HM2 : Hid (m' + (k + 1) + 1 = n) := by show _ = _; omega
      clear ha hb hyl hm
      go_wp2
      go_region
      have HS : Hid (((wr.setCell ⟨g, k, none⟩ (.int .i64 b)).setCell ⟨g, m' + 1, none⟩ (.int .i64 a)).drew.ownsRow base 3 1 (.slice (some ⟨g, 0, none⟩) n cap) n (((ys.set k b).set (m' + 1) a).map (Value.int .i64))) := by
        show World.ownsRow _ _ _ _ _ _ _
        rw [List.map_set, List.map_set]
        exact ((World.ownsRow.stored (World.ownsRow.stored HO.out k _).1 (m' + 1) _).1).drew
      have HG2 : Hid (w.grownBy ((wr.setCell ⟨g, k, none⟩ (.int .i64 b)).setCell ⟨g, m' + 1, none⟩ (.int .i64 a)).drew (some g)) :=
        ((HG.out.trans_grown (World.ownsRow.stored HO.out k _).2).trans_grown (World.ownsRow.stored (World.ownsRow.stored HO.out k (.int .i64 b)).1 (m' + 1) _).2).trans_grown ⟨rfl, rfl, rfl, Nat.le_refl _, fun _ _ _ => rfl⟩
      clear q1 q2 q3 q4
      go_wp2
      go_roundw
      case rel => exact ⟨k + 1, m', (ys.set k b).set (m' + 1) a, HM2.out, by go_num, by go_num, HR.out.step HM.out (by omega) HA.out HB.out, HS, HG2⟩
      case measure => simp [intOf]
    · have hge : m ≤ k := by omega
      clear hm hyl
      go_wp2
      go_end0
      refine ⟨rfl, ?_, HG.out⟩
      rw [← HR.out.last HM.out hge]
      exact HO.out

end Go.Proofs.YtncmnbchkabgaaaGreat

namespace Go.Proofs.YtncmnbchkabgaaaGreat
open Go.RowKit Go.Maps

theorem bool_info : (Tryz.prog.info? 4).map (fun i => (i.zero, i.size, i.bytes)) = some (some (.bool false), 1, 1) := by kernel_rfl

/-- a right function's ends go to blocks that are there -/
theorem term_in {nb : Nat} {t : TermM} {f : FuncM} (hn : f.blocks.length = nb) (h : termB f t = true) : ∀ x ∈ t.to, 1 ≤ x ∧ x < nb := by
  unfold termB targetsB at h
  simp only [Bool.and_eq_true, List.all_eq_true] at h
  intro x hx
  have := h.1 x hx
  unfold withinB at this
  simp only [Bool.and_eq_true, decide_eq_true_eq] at this
  omega

theorem blocksStep_term {f : FuncM} : ∀ {l : List BlockM} {ds d : Defs}, blocksStep f ds l = some d → ∀ b ∈ l, termB f b.term = true := by
  intro l
  induction l with
  | nil => intro ds d _ b hb; cases hb
  | cons p l ih =>
    intro ds d h b hb
    unfold blocksStep at h
    rw [Option.bind_eq_some_iff] at h
    obtain ⟨d1, h1, h2⟩ := h
    rcases List.mem_cons.1 hb with rfl | hb
    · unfold blockStep at h1
      rw [Option.bind_eq_some_iff] at h1
      obtain ⟨d2, h3, h4⟩ := h1
      rw [Option.bind_eq_some_iff] at h4
      obtain ⟨d3, h5, h6⟩ := h4
      split at h6
      · assumption
      · cases h6
    · exact ih h2 b hb

theorem look_term {f : FuncM} (h : (lookM f).1 = 0) : ∀ b ∈ f.blocks, termB f b.term = true := by
  have hf := look_formed h
  unfold formedM at hf
  split at hf
  · exact blocksStep_term hf
  · cases hf

theorem look_ends {f : FuncM} (h : (lookM f).1 = 0) : EndsIn f.blocks := by
  intro q hq t ht
  have := term_in rfl (look_term h q hq) t ht
  omega

theorem look_some_block {f : FuncM} (h : (lookM f).1 = 0) : 0 < f.blocks.length ∧ f.blocks.length ≤ 512 := by
  have hf := look_formed h
  unfold formedM at hf
  split at hf
  · rename_i hl
    simp only [Bool.and_eq_true] at hl
    have h1 := hl.1.1
    unfold limitsB withinB at h1
    simp only [Bool.and_eq_true, decide_eq_true_eq] at h1
    omega
  · cases hf

/-- the first state: nothing begun -/
theorem marks_none (n : Nat) : marks n [] = (List.range n).map fun _ => Value.bool false := by
  unfold marks
  apply List.map_congr_left
  intro i _
  simp

theorem marks_made (n : Nat) : (madeCells (Value.bool false).cells (n * 1)).toList = marks n [] := by
  rw [show (Value.bool false).cells = #[Value.bool false] from rfl, toList_madeCells_one, Nat.mul_one, marks_none]
  apply List.ext_getElem?
  intro i
  by_cases h : i < n
  · rw [List.getElem?_replicate, if_pos h, List.getElem?_map, List.getElem?_eq_getElem (by simpa using h)]
    rfl
  · rw [List.getElem?_eq_none (by simp; omega), List.getElem?_eq_none (by simp; omega)]

theorem dfs_new {w w1 : World} {gr : Array Value} {n : Nat} (hown : w1.ownsRow (w.heap.size + 1) 4 1 (.slice (some ⟨w.heap.size + 1, 0, none⟩) n n) n (madeCells (Value.bool false).cells (n * 1)).toList)
    (hg : (w.alloc (.cells gr 154)).grownBy w1 none) :
    Dfs w.heap.size w1.heap.size n gr [] [] (((w1.alloc (.cells #[.slice (some ⟨w.heap.size + 1, 0, none⟩) n n] 75)).alloc (.cells #[.slice none 0 0] 22)).alloc
      (.cells #[.func (.func 153) #[] #[.pointer (some ⟨w1.heap.size, 0, none⟩), .pointer (some ⟨w.heap.size, 0, none⟩), .pointer (some ⟨w1.heap.size + 1 + 1, 0, none⟩), .pointer (some ⟨w1.heap.size + 1, 0, none⟩)]] 133)) := by
  have hlt : w.heap.size + 1 < w1.heap.size := (hown.lt _ rfl).2
  rw [marks_made] at hown
  refine ⟨hlt, ?_, ((hown.alloc _).alloc _).alloc _, ?_, ⟨.slice none 0 0, ?_, ?_⟩, ?_⟩
  · rw [Below.heap_alloc _ _ _ (by simp; omega), Below.heap_alloc _ _ _ (by simp; omega), Below.heap_alloc _ _ _ (by omega), hg.block _ (by simp) (by simp)]
    exact heap_alloc_new w _
  · rw [Below.heap_alloc _ _ _ (by simp; omega), Below.heap_alloc _ _ _ (by simp)]
    exact heap_alloc_new w1 _
  · rw [Below.heap_alloc _ _ _ (by simp)]
    have := heap_alloc_new (w1.alloc (.cells #[.slice (some ⟨w.heap.size + 1, 0, none⟩) n n] 75)) (.cells #[.slice none 0 0] 22)
    simpa using this
  · exact World.ownsRow_nil _ _ _ _
  · have := heap_alloc_new ((w1.alloc (.cells #[.slice (some ⟨w.heap.size + 1, 0, none⟩) n n] 75)).alloc (.cells #[.slice none 0 0] 22)) (.cells #[.func (.func 153) #[] #[.pointer (some ⟨w1.heap.size, 0, none⟩), .pointer (some ⟨w.heap.size, 0, none⟩), .pointer (some ⟨w1.heap.size + 1 + 1, 0, none⟩), .pointer (some ⟨w1.heap.size + 1, 0, none⟩)]] 133)
    simpa using this

theorem dfs_below {w w1 : World} {gr : Array Value} {t : TypeId} {o1 o2 o3 : Obj} (hg : (w.alloc (.cells gr t)).grownBy w1 none) : Below w.heap.size w (((w1.alloc o1).alloc o2).alloc o3) := by
  have h1 : Below w.heap.size w w1 := ((Below.refl _ _).alloc (Nat.le_refl _) _).grown hg (by simp) (by simp)
  have hs := h1.size
  exact ((h1.alloc hs _).alloc (by simp; omega) _).alloc (by simp; omega) _

theorem reverse_nat (base g cap : Nat) (l : List Nat) (w : World) (hn : 0 < l.length) (hn2 : l.length ≤ 1000000) (hown : w.ownsRow base 3 1 (.slice (some ⟨g, 0, none⟩) l.length cap) l.length (natInts l)) :
    Calls Tryz.prog 154 #[.slice (some ⟨g, 0, none⟩) l.length cap] w fun e w' => e = .returned (.tuple #[]) ∧ w'.ownsRow base 3 1 (.slice (some ⟨g, 0, none⟩) l.length cap) l.length (natInts l.reverse) ∧ w.grownBy w' (some g) := by
  have hx : natInts l = (l.map fun (x : Nat) => (x : Int)).map (Value.int .i64) := by unfold natInts; rw [List.map_map]; rfl
  have hy : natInts l.reverse = (l.map fun (x : Nat) => (x : Int)).reverse.map (Value.int .i64) := by unfold natInts; rw [← List.map_reverse, List.map_map]; rfl
  have h := reverse_any base g cap (l.map fun (x : Nat) => (x : Int)) w (by simpa using hn) (by simpa using hn2) (by rw [List.length_map, ← hx]; exact hown)
  rw [List.length_map, ← hy] at h
  exact h

theorem OrderIs.range {bs : List BlockM} {o : List Nat} (h : OrderIs bs o) (hin : EndsIn bs) (h0 : 0 < bs.length) : ∀ x ∈ o, x < bs.length := by
  obtain ⟨bg, dn, v, rfl⟩ := h
  have v2 : Visit (succM bs) [0] ([], []) (bg, dn ++ [0]) := .go (by simp) v (.nil _)
  have hr := visit_range hin.succ v2 (by simpa using h0) (by simp)
  obtain ⟨new, d⟩ := v2.did
  have hd : dn ++ [0] = new := by simpa using d.done
  intro x hx
  rw [hd] at hx
  exact hr x ((d.begun x).2 (.inr (List.mem_reverse.1 hx)))

/-- what order answers -/
def OrdPost (bs : List BlockM) (w : World) (e : Ending) (w' : World) : Prop :=
  ∃ (o : List Nat) (g cap : Nat), e = .returned (.slice (some ⟨g, 0, none⟩) o.length cap) ∧ OrderIs bs o ∧ 0 < o.length ∧ o.length ≤ bs.length ∧ w'.ownsRow w.heap.size 3 1 (.slice (some ⟨g, 0, none⟩) o.length cap) o.length (natInts o) ∧ Below w.heap.size w w'

theorem ord_len {bs : List BlockM} {dn bg l : List Nat} (hin : EndsIn bs) (h0 : 0 < bs.length) (hv : Visit (succM bs) (succM bs 0) ([0], []) (bg, dn)) (hl : l = dn ++ [0]) : 0 < l.length ∧ l.length ≤ bs.length := by
  have ho : OrderIs bs (dn ++ [0]).reverse := ⟨bg, dn, hv, rfl⟩
  have := below_len _ _ ho.facts.2.1 (ho.range hin h0)
  rw [List.length_reverse, ← hl] at this
  exact ⟨by rw [hl]; simp, this⟩

theorem ord_post {bs : List BlockM} {w w' : World} {dn bg l : List Nat} {g cap base : Nat} (hin : EndsIn bs) (h0 : 0 < bs.length) (hv : Visit (succM bs) (succM bs 0) ([0], []) (bg, dn)) (hl : l = dn ++ [0]) (hb : w.heap.size ≤ base)
    (hown : w'.ownsRow base 3 1 (.slice (some ⟨g, 0, none⟩) l.length cap) l.length (natInts l.reverse)) (hB : Below w.heap.size w w') :
    OrdPost bs w (.returned (.slice (some ⟨g, 0, none⟩) l.length cap)) w' := by
  subst hl
  have ho : OrderIs bs (dn ++ [0]).reverse := ⟨bg, dn, hv, rfl⟩
  refine ⟨(dn ++ [0]).reverse, g, cap, by rw [List.length_reverse], ho, by simp, ?_, ?_, hB⟩
  · exact below_len _ _ ho.facts.2.1 (ho.range hin h0)
  · rw [List.length_reverse]
    exact World.ownsRow.mono hown hb

set_option maxRecDepth 100000 in
set_option maxHeartbeats 2000000 in
theorem order_any (bs : List BlockM) (B : Nat) (pv av cv bv : Value) (w : World) (hbv : BlocksR w B bv bs) (hB : B ≤ w.heap.size) (h0 : 0 < bs.length) (hn5 : bs.length ≤ 512) (hin : EndsIn bs) :
    Calls Tryz.prog 112 #[.agg #[pv, av, cv, bv]] w (OrdPost bs w) := by
  have HBL := hideI hbv
  have HIN := hideI hin
  obtain ⟨A, c, rfl, hbm, _⟩ := hbv
  obtain ⟨i0, hix, hz0, hz1, hz2⟩ := info_parts bool_info
  clear hin
  go_enter Tryz.func112, Tryz.ntmps112
  go_wp2_with (first
    | (at_make; go_must (refine wpList_make_full _ rfl _ _ 75 rfl (w.heap.size + 1) 4 i0 (.bool false) 1 Tryz.underlying75 hix hz0 hz1 .i64 .i64 _ _ bs.length rfl rfl rfl rfl (by rw [hz2]; omega) (by unfold maxLen; omega) (by simp) ?_); intro w1 hown1 hg1; rw [World.size_alloc] at hown1; go_must (have HD0 := hideI (dfs_new hown1 hg1); have HB0 : Hid (∀ o1 o2 o3 : Obj, Below w.heap.size w (((w1.alloc o1).alloc o2).alloc o3)) := fun o1 o2 o3 => dfs_below hg1; clear hown1 hg1))
    | (go_at_call 153; go_must (refine (visit_any bs w.heap.size w1.heap.size pv av cv _ hn5 HIN.out bs.length [] [] 0 _ (by simp) (by simp) (by simp) (by simp) h0 (by simp) ((HBL.out.more' hB).keeps (Keeps.of_below (HB0.out _ _ _))) HD0.out).mono ?_); rintro e w2 ⟨bg, dn, rfl, hv, hd, hb⟩; obtain ⟨l, hl⟩ : ∃ l, l = dn ++ [0] := ⟨_, rfl⟩; rw [← hl] at hd; have HL := hideI hl; obtain ⟨hl0, hl1⟩ := ord_len HIN.out h0 hv hl; have HV := hideI hv; have HB2 := hideI ((HB0.out _ _ _).trans hb); have hR := hd.hR; obtain ⟨v, hdv, hown⟩ := hd.done; obtain ⟨g, cap, rfl, hg1, hg2⟩ := hown.form hl0; have hdb := cell_of_one hdv; have HDV := hideI hdv; have HO := hideI hown; clear hv hd hb hdv hown HD0 HB0 hl)
    | (go_at_call 154; go_must (refine (reverse_nat (w1.heap.size + 3) g cap l _ hl0 (by omega) HO.out).mono ?_); rintro e w3 ⟨rfl, ho3, hg3⟩; have HO3 := hideI ho3; have HG3 := hideI hg3; have hdb3 := cell_of_one ((hg3.block (w1.heap.size + 1) (lt_of_block HDV.out) (by simp; omega)).trans HDV.out); clear ho3 hg3 hdb))
  go_ret
  refine ord_post HIN.out h0 HV.out HL.out (by omega) HO3.out (HB2.out.trans ⟨HG3.out.os, HG3.out.tape, HG3.out.output, HG3.out.size, fun b hb => HG3.out.block b (Nat.lt_of_lt_of_le hb HB2.out.size) (by simp; omega)⟩)

end Go.Proofs.YtncmnbchkabgaaaGreat

namespace Go.Proofs.YtncmnbchkabgaaaGreat
open Go.RowKit Go.Maps

theorem marks_congr {n : Nat} {a b : List Nat} (h : ∀ x, x ∈ a ↔ x ∈ b) : marks n a = marks n b := by
  unfold marks
  apply List.map_congr_left
  intro i _
  simp [h]

theorem marks_take {n i x : Nat} {o : List Nat} (h : o[i]? = some x) : marks n (x :: o.take i) = marks n (o.take (i + 1)) := by
  apply marks_congr
  intro y
  rw [List.take_add_one, h]
  simp only [List.mem_cons, List.mem_append, Option.toList_some, List.not_mem_nil, or_false]
  exact or_comm

theorem nat_cell {w : World} {base g n cap i x : Nat} {o : List Nat} (h : w.ownsRow base 3 1 (.slice (some ⟨g, 0, none⟩) n cap) n (natInts o)) (hx : o[i]? = some x) : w.cell? ⟨g, i, none⟩ = some (.int .i64 (x : Int)) := by
  have hl : o.length = n := by have := h.1; unfold natInts at this; simpa using this
  have hi := (List.getElem?_eq_some_iff.1 hx).1
  rw [World.ownsRow.cellAt h i (by omega)]
  unfold natInts
  rw [List.getElem?_map, hx]
  rfl

theorem own_kept_below {base B : Nat} {e : TypeId} {size n : Nat} {v : Value} {xs : List Value} {w w' : World} (h : w.ownsRow base e size v n xs) (hb : Below B w w') (hv : ∀ k, v.ownBlock = some k → k < B) : w'.ownsRow base e size v n xs := by
  refine ⟨h.1, ?_⟩
  rcases h.2 with h2 | ⟨g, cap, cur, rfl, h3, h4, r⟩
  · exact .inl h2
  · exact .inr ⟨g, cap, cur, rfl, h3, (hb.block g (hv g rfl)).trans h4, r⟩

end Go.Proofs.YtncmnbchkabgaaaGreat

namespace Go.Proofs.YtncmnbchkabgaaaGreat
open Go.RowKit

def IdxIs (xs : List Int) (x r : Int) : Prop := (r = -1 ∧ x ∉ xs) ∨ ∃ k : Nat, r = k ∧ xs[k]? = some x ∧ x ∉ xs.take k

theorem IdxIs.mem {xs : List Int} {x r : Int} (h : IdxIs xs x r) : decide (x ∈ xs) = decide (0 ≤ r) := by
  rcases h with ⟨rfl, h⟩ | ⟨k, rfl, h, _⟩
  · simp [h]
  · simp [List.mem_of_getElem? h]

def IdxPost (xs : List Int) (x : Int) (w : World) (e : Ending) (w' : World) : Prop := ∃ r, e = .returned (.int .i64 r) ∧ IdxIs xs x r ∧ w = w'

theorem not_mem_take_succ {xs : List Int} {k : Nat} {x y : Int} (h : x ∉ xs.take k) (hy : xs[k]? = some y) (hne : y ≠ x) : x ∉ xs.take (k + 1) := by
  rw [List.take_add_one, hy]
  simp only [Option.toList_some, List.mem_append, List.mem_singleton, not_or]
  exact ⟨h, fun e => hne e.symm⟩

set_option maxRecDepth 100000 in
set_option maxHeartbeats 1000000 in
theorem index_any (xs : List Int) (B : Nat) (v : Value) (x : Int) (w : World) (hx : Ints w B v xs) :
    Calls Tryz.prog 107 #[v, .int .i64 x] w (IdxPost xs x w) := by
  obtain ⟨A, c, rfl, hm, hcell⟩ := hx
  have HC := hideI hcell
  clear hcell
  go_enter Tryz.func107, Tryz.ntmps107
  go_wp2
  go_loop [8] (fun u => ∃ k : Nat, k ≤ xs.length ∧ u = .int .i64 k ∧ Hid (x ∉ xs.take k)) (fun u => xs.length - (intOf u).toNat)
  case atStart => exact ⟨0, Nat.zero_le _, rfl, by exact hideI (by simp)⟩
  case round =>
    obtain ⟨k, hk, rfl, HN⟩ := hrel
    by_cases hlt : k < xs.length
    · obtain ⟨b, off, rfl, hb, hcell⟩ := HC.out k hlt
      obtain ⟨y, hy⟩ : ∃ y, xs[k]? = some y := ⟨_, List.getElem?_eq_getElem hlt⟩
      rw [hy] at hcell
      simp only [Option.getD_some] at hcell
      have HY := hideI hy
      clear hy
      cases he : x == y
      · have HE := hideI he
        go_wp2
        go_round
        case rel => exact ⟨k + 1, by omega, by go_num, hideI (not_mem_take_succ HN.out HY.out (by have := HE.out; simp at this; exact fun e => this e.symm))⟩
        case measure => simp [intOf]; omega
      · have HE := hideI he
        go_wp2
        go_ret
        exact ⟨k, rfl, .inr ⟨k, rfl, by have := HE.out; simp at this; rw [this]; exact HY.out, HN.out⟩, rfl⟩
    · have HE : Hid (xs.take k = xs) := List.take_of_length_le (by omega)
      rw [HE.out] at HN
      go_wp2
      go_ret
      exact ⟨-1, rfl, .inl ⟨rfl, HN.out⟩, rfl⟩

set_option maxHeartbeats 1000000 in
theorem contains_any (xs : List Int) (B : Nat) (v : Value) (x : Int) (w : World) (hx : Ints w B v xs) :
    Calls Tryz.prog 155 #[v, .int .i64 x] w fun e w' => e = .returned (.bool (decide (x ∈ xs))) ∧ w = w' := by
  have HX := hideI hx
  obtain ⟨A, c, rfl, hm, _⟩ := hx
  go_enter Tryz.func155, Tryz.ntmps155
  go_wp2_with (go_at_call 107; go_must (refine (index_any xs B _ x _ HX.out).mono ?_); rintro e w2 ⟨r, rfl, hr, rfl⟩; have HR := hideI hr; clear hr)
  go_ret
  exact ⟨by rw [HR.out.mem]; rfl, rfl⟩

set_option maxRecDepth 100000 in
set_option maxHeartbeats 1000000 in
theorem has_any (xs : List Int) (B : Nat) (v : Value) (x : Int) (w : World) (hx : Ints w B v xs) :
    Calls Tryz.prog 22 #[v, .int .i64 x] w fun e w' => e = .returned (.bool (decide (x ∈ xs))) ∧ w = w' := by
  obtain ⟨A, c, rfl, hm, hcell⟩ := hx
  have HC := hideI hcell
  clear hcell
  go_enter Tryz.func22, Tryz.ntmps22
  go_wp2
  go_loop [5] (fun u => ∃ k : Nat, k ≤ xs.length ∧ u = .int .i64 k ∧ Hid (x ∉ xs.take k)) (fun u => xs.length - (intOf u).toNat)
  case atStart => exact ⟨0, Nat.zero_le _, rfl, by exact hideI (by simp)⟩
  case round =>
    obtain ⟨k, hk, rfl, HN⟩ := hrel
    by_cases hlt : k < xs.length
    · obtain ⟨b, off, rfl, hb, hcell⟩ := HC.out k hlt
      obtain ⟨y, hy⟩ : ∃ y, xs[k]? = some y := ⟨_, List.getElem?_eq_getElem hlt⟩
      rw [hy] at hcell
      simp only [Option.getD_some] at hcell
      have HY := hideI hy
      clear hy
      cases he : y == x
      · have HE := hideI he
        go_wp2
        go_round
        case rel => exact ⟨k + 1, by omega, by go_num, hideI (not_mem_take_succ HN.out HY.out (by have := HE.out; simpa using this))⟩
        case measure => simp [intOf]; omega
      · have HE := hideI he
        go_wp2
        go_ret
        exact ⟨by have h1 := HE.out; simp at h1; have h2 := List.mem_of_getElem? HY.out; rw [h1] at h2; simp [h2], rfl⟩
    · have HE : Hid (xs.take k = xs) := List.take_of_length_le (by omega)
      rw [HE.out] at HN
      go_wp2
      go_ret
      exact ⟨by have := HN.out; simp [this], rfl⟩

end Go.Proofs.YtncmnbchkabgaaaGreat

namespace Go.Proofs.YtncmnbchkabgaaaGreat
open Go.RowKit Go.Maps

theorem ints_info : (Tryz.prog.info? 22).map (fun i => (i.zero, i.size, i.bytes)) = some (some (.slice none 0 0), 1, 24) := by kernel_rfl

structure Lists (w : World) (base gb n : Nat) (vs : List Value) (ls : List (List Nat)) : Prop where
  vl : vs.length = n
  ll : ls.length = n
  row : w.ownsRow base 22 1 (.slice (some ⟨gb, 0, none⟩) n n) n vs
  own : ∀ (t : Nat) v l, vs[t]? = some v → ls[t]? = some l → w.ownsRow (gb + 1) 3 1 v l.length (natInts l)
  apart : ∀ (t t' : Nat) v v', t ≠ t' → vs[t]? = some v → vs[t']? = some v' → v.ownBlock = none ∨ v.ownBlock ≠ v'.ownBlock

variable {w w1 : World} {base gb n : Nat} {vs : List Value} {ls : List (List Nat)}

theorem Lists.lt (h : Lists w base gb n vs ls) : base ≤ gb ∧ gb < w.heap.size := h.row.lt gb rfl

theorem Lists.made {W : World} (hown : W.ownsRow base 22 1 (.slice (some ⟨gb, 0, none⟩) n n) n (madeCells (Value.slice none 0 0).cells (n * 1)).toList) : Lists W base gb n (List.replicate n (.slice none 0 0)) ((List.range n).map fun _ => []) := by
  rw [show (Value.slice none 0 0).cells = #[Value.slice none 0 0] from rfl, toList_madeCells_one, Nat.mul_one] at hown
  refine ⟨by simp, by simp, hown, fun t v l hv hl => ?_, fun t t' v v' _ hv _ => ?_⟩
  · have e1 := List.mem_of_getElem? hv
    rw [List.mem_replicate] at e1
    obtain ⟨_, rfl⟩ := e1
    have e2 := List.mem_of_getElem? hl
    rw [List.mem_map] at e2
    obtain ⟨_, _, rfl⟩ := e2
    exact World.ownsRow_nil _ _ _ _
  · have e1 := List.mem_of_getElem? hv
    rw [List.mem_replicate] at e1
    obtain ⟨_, rfl⟩ := e1
    exact .inl rfl

theorem Lists.push {t b g' cap' : Nat} {v : Value} {l : List Nat} {o : Obj} (h : Lists w base gb n vs ls) (hv : vs[t]? = some v) (hl : ls[t]? = some l)
    (hown' : w1.ownsRow (gb + 1) 3 1 (.slice (some ⟨g', 0, none⟩) (l.length + 1) cap') (l.length + 1) (natInts l ++ [.int .i64 (b : Int)])) (hg : (w.alloc o).grownBy w1 v.ownBlock) (hor : v.ownBlock = some g' ∨ g' = (w.alloc o).heap.size) :
    Lists (w1.setCell ⟨gb, t, none⟩ (.slice (some ⟨g', 0, none⟩) (l.length + 1) cap')) base gb n (vs.set t (.slice (some ⟨g', 0, none⟩) (l.length + 1) cap')) (ls.set t (l ++ [b])) := by
  have htl : t < vs.length := (List.getElem?_eq_some_iff.1 hv).1
  have htl2 : t < ls.length := (List.getElem?_eq_some_iff.1 hl).1
  have hvo := h.own t v l hv hl
  have hgbv : ∀ k, v.ownBlock = some k → gb + 1 ≤ k := fun k hk => (hvo.lt k hk).1
  have hrow1 : w1.ownsRow base 22 1 (.slice (some ⟨gb, 0, none⟩) n n) n vs := (h.row.alloc o).kept hg (.inr (fun e => by have := hgbv gb e.symm; omega))
  refine ⟨by rw [List.length_set, h.vl], by rw [List.length_set, h.ll], (hrow1.stored t _).1, fun t' v' l' hv' hl' => ?_, fun t1 t2 v1 v2 hne h1 h2 => ?_⟩
  · by_cases e : t = t'
    · subst e
      rw [List.getElem?_set_self htl] at hv'
      rw [List.getElem?_set_self htl2] at hl'
      cases hv'
      cases hl'
      have h1 := ownsRow_setCell_other hown' (a := ⟨gb, t, none⟩) (by
        intro e
        have := (hown'.lt _ e).1
        simp only at this
        omega) (.slice (some ⟨g', 0, none⟩) (l.length + 1) cap')
      simpa [natInts] using h1
    · rw [List.getElem?_set_ne e] at hv' hl'
      have h0 := h.own t' v' l' hv' hl'
      have h1 := (h0.alloc o).kept hg (by
        rcases h.apart t' t v' v (fun x => e x.symm) hv' hv with h2 | h2
        · exact .inl h2
        · exact .inr h2)
      exact ownsRow_setCell_other h1 (by
        intro e
        have := (h1.lt _ e).1
        simp only at this
        omega) _
  · have hlt : ∀ (t : Nat) v k, vs[t]? = some v → v.ownBlock = some k → k < w.heap.size := fun t v k hv hk => by
      have ht : t < ls.length := by rw [h.ll, ← h.vl]; exact (List.getElem?_eq_some_iff.1 hv).1
      exact ((h.own t v _ hv (List.getElem?_eq_getElem ht)).lt k hk).2
    by_cases e1 : t = t1
    · subst e1
      rw [List.getElem?_set_self htl] at h1
      rw [List.getElem?_set_ne hne] at h2
      cases h1
      right
      intro e
      rcases hor with h3 | h3
      · rcases h.apart t2 t v2 v (fun x => hne x.symm) h2 hv with h4 | h4
        · rw [h4] at e; cases e
        · exact h4 (e.symm.trans (by rw [h3]; rfl))
      · have := hlt t2 v2 g' h2 e.symm
        simp at h3
        omega
    · rw [List.getElem?_set_ne e1] at h1
      by_cases e2 : t = t2
      · subst e2
        rw [List.getElem?_set_self htl] at h2
        cases h2
        rcases hor with h3 | h3
        · rcases h.apart t1 t v1 v (fun x => hne x) h1 hv with h4 | h4
          · exact .inl h4
          · exact .inr (fun e => h4 (e.trans (by rw [h3]; rfl)))
        · right
          intro e
          have := hlt t1 v1 g' h1 e
          simp at h3
          omega
      · rw [List.getElem?_set_ne e2] at h2
        exact h.apart t1 t2 v1 v2 hne h1 h2

theorem Lists.pushed {t : Nat} {v : Value} {l : List Nat} {o : Obj} {u : Value} {B : Nat} {w0 : World} (h : Lists w base gb n vs ls) (hv : vs[t]? = some v) (hl : ls[t]? = some l) (hg : (w.alloc o).grownBy w1 v.ownBlock) (hB : Below B w0 w) (hBg : B ≤ gb) :
    Below B w0 (w1.setCell ⟨gb, t, none⟩ u) := by
  have hlt := h.lt
  refine ((hB.alloc (by omega) o).grown hg (by simp; omega) (fun j hj => ?_)).setCell (by simpa using hBg) _
  have := ((h.own t v l hv hl).lt j hj).1
  omega

theorem Lists.held {t : Nat} {v : Value} {l : List Nat} {o : Obj} (h : Lists w base gb n vs ls) (hv : vs[t]? = some v) (hl : ls[t]? = some l) (hg : (w.alloc o).grownBy w1 v.ownBlock) : w1.cell? ⟨gb, t, none⟩ = some v ∧ w1.frozen? ⟨gb, t, none⟩ = false := by
  have hrow1 : w1.ownsRow base 22 1 (.slice (some ⟨gb, 0, none⟩) n n) n vs := (h.row.alloc o).kept hg (.inr (fun e => by have := ((h.own t v l hv hl).lt gb e.symm).1; omega))
  have htl : t < vs.length := (List.getElem?_eq_some_iff.1 hv).1
  have hvl := h.vl
  exact ⟨by rw [World.ownsRow.cellAt hrow1 t (by omega)]; exact hv, World.ownsRow.frozenAt hrow1 t⟩

theorem nat_ints {w : World} {B n : Nat} {v : Value} {l : List Nat} (h : w.ownsRow B 3 1 v n (natInts l)) (hl : l.length ≤ 100000) : Ints w w.heap.size v (l.map fun (x : Nat) => (x : Int)) := by
  refine ints_own (B := B) (n := n) ?_ (by rw [List.length_map]; omega)
  rw [List.map_map]
  exact h

theorem mem_nat {l : List Nat} {k : Nat} : ((k : Int) ∈ l.map fun (x : Nat) => (x : Int)) ↔ k ∈ l := by
  rw [List.mem_map]
  constructor
  · rintro ⟨x, hx, he⟩
    have : x = k := by omega
    exact this ▸ hx
  · exact fun h => ⟨k, h, rfl⟩

/-- who goes to t, of the first k blocks -/
def predsTo (bs : List BlockM) (k t : Nat) : List Nat := (List.range k).filter fun b => decide (t ∈ succM bs b)

theorem predsTo_lt {bs : List BlockM} {k t x : Nat} (h : x ∈ predsTo bs k t) : x < k := by
  unfold predsTo at h
  simpa using (List.mem_filter.1 h).1

theorem predsTo_succ (bs : List BlockM) (k t : Nat) : predsTo bs (k + 1) t = predsTo bs k t ++ if t ∈ succM bs k then [k] else [] := by
  unfold predsTo
  rw [List.range_succ, List.filter_append]
  by_cases h : t ∈ succM bs k <;> simp [h]

theorem predsTo_len (bs : List BlockM) (k t : Nat) : (predsTo bs k t).length ≤ k := by
  unfold predsTo
  have := List.length_filter_le (fun b => decide (t ∈ succM bs b)) (List.range k)
  simpa using this

/-- the lists when k blocks are done, and the first i of the next one's ends -/
def predsAt (bs : List BlockM) (n k i : Nat) : List (List Nat) := (List.range n).map fun t => predsTo bs k t ++ if t ∈ (succM bs k).take i then [k] else []

theorem predsAt_at {bs : List BlockM} {n k i t : Nat} (h : t < n) : (predsAt bs n k i)[t]? = some (predsTo bs k t ++ if t ∈ (succM bs k).take i then [k] else []) := by
  unfold predsAt
  rw [List.getElem?_map, List.getElem?_eq_getElem (by simpa using h)]
  simp

theorem predsAt_zero (bs : List BlockM) (n : Nat) : predsAt bs n 0 0 = (List.range n).map fun _ => [] := by
  unfold predsAt predsTo
  simp

theorem predsAt_next (bs : List BlockM) (n k : Nat) {i : Nat} (hi : (succM bs k).length ≤ i) : predsAt bs n k i = predsAt bs n (k + 1) 0 := by
  unfold predsAt
  apply List.map_congr_left
  intro t _
  rw [predsTo_succ, List.take_of_length_le hi]
  simp

theorem predsAt_skip {bs : List BlockM} {n k i t : Nat} (ht : (succM bs k)[i]? = some t) (hin : t ∈ (succM bs k).take i) : predsAt bs n k (i + 1) = predsAt bs n k i := by
  unfold predsAt
  apply List.map_congr_left
  intro u _
  have : u ∈ (succM bs k).take (i + 1) ↔ u ∈ (succM bs k).take i := by
    rw [List.take_add_one, ht]
    simp only [Option.toList_some, List.mem_append, List.mem_singleton]
    constructor
    · rintro (h | rfl)
      · exact h
      · exact hin
    · exact .inl
  simp only [this]

theorem predsAt_push {bs : List BlockM} {n k i t : Nat} (ht : (succM bs k)[i]? = some t) (_hn : t ∉ (succM bs k).take i) (_htn : t < n) : (predsAt bs n k i).set t (predsTo bs k t ++ [k]) = predsAt bs n k (i + 1) := by
  apply List.ext_getElem?
  intro u
  by_cases hu : u < n
  · rw [predsAt_at hu]
    have hm : u ∈ (succM bs k).take (i + 1) ↔ u ∈ (succM bs k).take i ∨ u = t := by
      rw [List.take_add_one, ht]
      simp
    by_cases e : t = u
    · subst e
      rw [List.getElem?_set_self (by unfold predsAt; simpa using hu)]
      simp [hm]
    · rw [List.getElem?_set_ne e, predsAt_at hu]
      have : u ∈ (succM bs k).take (i + 1) ↔ u ∈ (succM bs k).take i := by rw [hm]; exact ⟨fun h => h.resolve_right (fun x => e x.symm), .inl⟩
      simp only [this]
  · rw [List.getElem?_eq_none (by rw [List.length_set]; unfold predsAt; simp; omega), List.getElem?_eq_none (by unfold predsAt; simp; omega)]

theorem predsAt_mem {bs : List BlockM} {k i t : Nat} : k ∈ predsTo bs k t ++ (if t ∈ (succM bs k).take i then [k] else []) ↔ t ∈ (succM bs k).take i := by
  constructor
  · intro h
    rcases List.mem_append.1 h with h | h
    · have := predsTo_lt h; omega
    · split at h
      · assumption
      · cases h
  · intro h
    rw [if_pos h]
    simp

end Go.Proofs.YtncmnbchkabgaaaGreat

namespace Go.Proofs.YtncmnbchkabgaaaGreat
open Go.RowKit Go.Maps

section
variable {c : MachC} {K : Nat → Prop} {w w' : World} {val : MVals} {s : StM}

/-- a visit counts -/
theorem MachR.setVis (h : MachR c K w val s) {gv cv j : Nat} (hv : val .vis = .slice (some ⟨gv, 0, none⟩) s.vis.length cv) (v : Int) : MachR c K (w.setCell ⟨gv, j, none⟩ (.int .i64 v)) val { s with vis := s.vis.set j v } ∧ KF K w (w.setCell ⟨gv, j, none⟩ (.int .i64 v)) := by
  refine h.store (t := .vis) (d := intRow s.vis) (cap := cv) rfl hv ?_ (fun t ht => ?_) rfl rfl
  · show some (intRow _) = _
    unfold intRow
    congr 2
    · simp
    · exact map_set_ints _ _ _
  · cases t with
    | vis => exact absurd rfl ht
    | _ => rfl

/-- a phi that may stand, come to from 'fr' -/
structure PhiOk (nv : Nat) (fr : Int) (p : PhiM) : Prop where
  mem : fr ∈ p.fr
  len : p.vals.length = p.fr.length
  vals : ∀ v ∈ p.vals, 0 ≤ v ∧ v < nv
  id : 0 ≤ p.id ∧ p.id < nv

theorem idxIs_of {xs : List Int} {x r : Int} (h : IdxIs xs x r) (hm : x ∈ xs) : r = (xs.idxOf x : Nat) ∧ xs.idxOf x < xs.length := by
  rcases h with ⟨_, h⟩ | ⟨k, rfl, hk, hn⟩
  · exact absurd hm h
  · have hlt := (List.getElem?_eq_some_iff.1 hk).1
    have : xs.idxOf x = k := by
      have h1 : xs = xs.take k ++ x :: xs.drop (k + 1) := by
        have := List.getElem_cons_drop hlt
        rw [(List.getElem?_eq_some_iff.1 hk).2] at this
        rw [this, List.take_append_drop]
      rw [h1, List.idxOf_append, if_neg hn, List.idxOf_cons_self]
      simp
      omega
    rw [this]
    exact ⟨rfl, hlt⟩

/-- what is got so far -/
def gotRow (g : Int → Int) (fr : Int) (ps : List PhiM) (i : Nat) : List Value := ((ps.take i).map fun p => .int .i64 (phiGets g fr p)) ++ List.replicate (ps.length - i) (.int .i64 0)

theorem gotRow_zero (g : Int → Int) (fr : Int) (ps : List PhiM) : gotRow g fr ps 0 = List.replicate ps.length (.int .i64 0) := by simp [gotRow]

theorem gotRow_next (g : Int → Int) (fr : Int) (ps : List PhiM) {i : Nat} {p : PhiM} (hi : ps[i]? = some p) : (gotRow g fr ps i).set i (.int .i64 (phiGets g fr p)) = gotRow g fr ps (i + 1) := by
  have hlt := (List.getElem?_eq_some_iff.1 hi).1
  unfold gotRow
  rw [List.set_append_right _ _ (by simp; omega)]
  simp only [List.length_map, List.length_take]
  rw [show i - min i ps.length = 0 by omega, show ps.length - i = (ps.length - (i + 1)) + 1 by omega, List.replicate_succ, List.set_cons_zero, List.take_add_one, hi]
  simp

theorem gotRow_some (g : Int → Int) (fr : Int) (ps : List PhiM) {i j : Nat} (hj : j < ps.length) : ∃ u, (gotRow g fr ps i)[j]? = some u := by
  have : j < (gotRow g fr ps i).length := by unfold gotRow; simp; omega
  exact ⟨_, List.getElem?_eq_getElem this⟩

theorem gotRow_all (g : Int → Int) (fr : Int) (ps : List PhiM) {j : Nat} {p : PhiM} (hj : ps[j]? = some p) : (gotRow g fr ps ps.length)[j]? = some (.int .i64 (phiGets g fr p)) := by
  simp [gotRow, hj]

theorem setAll_append (g : Int → Int) (l : List (Int × Int)) (p : Int × Int) : setAll g (l ++ [p]) = setV (setAll g l) p.1 p.2 := by
  induction l generalizing g with
  | nil => rfl
  | cons a l ih => exact ih _

theorem phi_cells {B : Nat} {pv : Value} {ps : List PhiM} (h : PhisR w B pv ps) : ∃ A pc, pv = .slice A ps.length pc ∧ ps.length ≤ 140737488351232 ∧ ∀ k p, ps[k]? = some p → ∃ b off FA fc VA vc, A = some ⟨b, off, none⟩ ∧ b < B ∧
    w.cell? ⟨b, off + k * 4, none⟩ = some (.int .i64 p.id) ∧ w.cell? ⟨b, off + k * 4 + 1, none⟩ = some (.int .i64 p.typ) ∧ w.cell? ⟨b, off + k * 4 + 2, none⟩ = some (.slice FA p.fr.length fc) ∧ w.cell? ⟨b, off + k * 4 + 3, none⟩ = some (.slice VA p.vals.length vc) ∧
    Ints w B (.slice FA p.fr.length fc) p.fr ∧ Ints w B (.slice VA p.vals.length vc) p.vals := by
  obtain ⟨A, pc, rfl, hl, hat⟩ := h
  refine ⟨A, pc, rfl, hl, fun k p hp => ?_⟩
  obtain ⟨b, off, fv, vv, e, hb, h0, h1, h2, h3, hf, hv, _, _⟩ := hat k p hp
  have hf' := hf
  have hv' := hv
  obtain ⟨FA, fc, rfl, _⟩ := hf
  obtain ⟨VA, vc, rfl, _⟩ := hv
  exact ⟨b, off, FA, fc, VA, vc, e, hb, h0, h1, h2, h3, hf', hv'⟩

set_option maxRecDepth 100000 in
set_option maxHeartbeats 8000000 in
theorem arrive_any (h : MachR c K w val s) (b : Nat) (fr : Int) (q : BlockM) (hq : c.f.blocks[b]? = some q) (hvis : b < s.vis.length) (hp : ∀ p ∈ q.phis, PhiOk c.nv fr p) (hfew : q.phis.length ≤ 4096) :
    Calls Tryz.prog 57 #[.pointer (some ⟨c.m, 0, none⟩), .int .i64 b, .int .i64 fr] w fun e w' => e = .returned (.tuple #[]) ∧ MachR c K w' val (arriveM c.f b fr s) ∧ KF K w w' := by
  obtain ⟨i0, hix, hi2⟩ : ∃ i, Tryz.prog.info? 3 = some i ∧ i.zero = some (.int .i64 0) ∧ i.size = 1 ∧ i.bytes = 8 := ⟨_, rfl, rfl, rfl, rfl⟩
  obtain ⟨hz0, hz1, hz2⟩ := hi2
  have H := hideI h
  have HP := hideI hp
  obtain ⟨A, cc, hbv, _, hbat⟩ := h.blks
  obtain ⟨bb, boff, pv, cv, tv, rfl, hbb, d0, _, _, _, _, _, hphi, _⟩ := hbat b q hq
  obtain ⟨PA, pc, rfl, hpl, hpat⟩ := phi_cells hphi
  have hbn : b < c.f.blocks.length := (List.getElem?_eq_some_iff.1 hq).1
  have HQ : Hid (blkM c.f b = q) := hideI (by unfold blkM; rw [List.getD_eq_getElem?_getD, hq]; rfl)
  have HPAT := hideI hpat
  have hrr : mRow s c.nv val .vis = some (intRow s.vis) := rfl
  obtain ⟨gi, ci, hv⟩ := h.slice hrr (by show 0 < s.vis.length; omega)
  have hrc := h.cell hrr hv (j := b) hvis
  obtain ⟨x0, x1⟩ := hrc
  have e2 : (intRow s.vis).cells[b]? = some (.int .i64 (s.vis.getD b 0)) := by
    show (s.vis.map _)[b]? = _
    rw [List.getElem?_map, List.getD_eq_getElem?_getD, List.getElem?_eq_getElem hvis]
    rfl
  rw [e2] at x0
  have hv : val .vis = .slice (some ⟨gi, 0, none⟩) s.vis.length ci := hv
  have c7 := h.cells 7
  simp only [machCells] at c7
  rw [hv] at c7
  have HV := hideI hv
  obtain ⟨nvis, hnv⟩ : ∃ nvis, nvis = s.vis.length := ⟨_, rfl⟩
  rw [← hnv] at c7 hvis
  obtain ⟨v0, hv0⟩ : ∃ v0, v0 = s.vis.getD b 0 := ⟨_, rfl⟩
  rw [← hv0] at x0
  have HV0 := hideI hv0
  obtain ⟨W1, hW1⟩ : ∃ W1, W1 = w.setCell ⟨gi, b, none⟩ (.int .i64 (wrap64 (v0 + 1))) := ⟨_, rfl⟩
  obtain ⟨s1, hs1⟩ : ∃ s1 : StM, s1 = { s with vis := s.vis.set b (wrap64 (v0 + 1)) } := ⟨_, rfl⟩
  have hm1 : MachR c K W1 val s1 ∧ KF K w W1 := by rw [hW1, hs1]; exact h.setVis hv (wrap64 (v0 + 1))
  have HM1 := hideI hm1.1
  have HF1 := hideI hm1.2
  have HW1 := hideI hW1
  have HS1 := hideI hs1
  obtain ⟨n, hn⟩ : ∃ n, n = q.phis.length := ⟨_, rfl⟩
  rw [← hn] at d0 hpl hfew
  have HN := hideI hn
  obtain ⟨nb, hnb⟩ : ∃ nb, nb = c.f.blocks.length := ⟨_, rfl⟩
  rw [← hnb] at hbv hbn
  have d1 : W1.cell? ⟨bb, boff + b * 6, none⟩ = some (.slice PA n pc) := (World.cell?_of_block (a := ⟨bb, boff + b * 6, none⟩) (hm1.2.block bb (h.kB bb hbb))).trans d0
  have c9 := hm1.1.cells 9
  simp only [machCells] at c9
  rw [hbv] at c9
  clear hm1 hW1 hs1 hnb hn hv0 hnv h hp hbat hq hphi hpat hrr e2 hv hbv d0 hbb
  go_enter Tryz.func57, Tryz.ntmps57
  go_upto_region 1 with fail
  rw [← HW1.out]
  clear c7 x0 x1
  go_wp2_with (first
    | (at_make; go_must (refine wpList_make_full _ rfl _ _ 22 rfl W1.heap.size 3 i0 (.int .i64 0) 1 Tryz.underlying22 hix hz0 hz1 .i64 .i64 _ _ n rfl rfl rfl rfl (by rw [hz2]; omega) (by unfold maxLen; omega) (Nat.le_refl _) ?_); intro w1 hown1 hg1; go_must (have HB1 : Hid (Below W1.heap.size W1 w1) := hideI ((Below.refl _ _).grown hg1 (Nat.le_refl _) (by simp)); have HO1 := hideI hown1; clear hown1 hg1 c9 d1)))
  have hW1n : ∀ g, g < c.B → g < W1.heap.size := fun g hg => HM1.out.low g (HM1.out.kB g hg)
  have HLOW := hideI hW1n
  clear hW1n
  go_loopw [35] (fun u wr => ∃ i : Nat, i ≤ n ∧ u = .int .i64 i ∧ Hid (Below W1.heap.size W1 wr) ∧ Hid (wr.ownsRow W1.heap.size 3 1 (.slice (some ⟨W1.heap.size, 0, none⟩) n n) n (gotRow s.val fr q.phis i))) (fun u _ => n - (intOf u).toNat)
  case atStart => exact ⟨0, Nat.zero_le _, rfl, HB1, hideI (by have h1 := HO1.out; rw [Nat.mul_one, madeRow_zero] at h1; rw [gotRow_zero, ← HN.out]; exact h1)⟩
  case round =>
    obtain ⟨i, hi, rfl, HBr, HOr⟩ := hrel
    have hgl := (HOr.out.lt W1.heap.size rfl).2
    by_cases hlt : i < n
    · obtain ⟨p, hpi⟩ : ∃ p, q.phis[i]? = some p := ⟨_, List.getElem?_eq_getElem (by rw [← HN.out]; exact hlt)⟩
      obtain ⟨gb, goff, FA, fc, VA, vc, rfl, hgb, e0, e1, e2, e3, hfr, hvl⟩ := HPAT.out i p hpi
      have hok := HP.out p (List.mem_of_getElem? hpi)
      have kp : Keeps c.B w wr := (HF1.out.keeps H.out.kB).trans (Keeps.of_below (HBr.out.mono (by
        rcases Nat.lt_or_ge W1.heap.size c.B with h1 | h1
        · have := HLOW.out W1.heap.size h1; omega
        · exact h1)))
      rw [← kp _ _ hgb] at e0 e1 e2 e3
      have hglt := World.block_lt_of_cell? wr _ e0
      obtain ⟨W2, hW2⟩ : ∃ W2, W2 = wr.alloc (.cells #[.int .i64 p.id, .int .i64 p.typ, .slice FA p.fr.length fc, .slice VA p.vals.length vc] 92) := ⟨_, rfl⟩
      have hB2 : Below W1.heap.size W1 W2 := by rw [hW2]; exact HBr.out.alloc HBr.out.size _
      have hB2r : Below wr.heap.size wr W2 := by rw [hW2]; exact (Below.refl _ _).alloc (Nat.le_refl _) _
      have hbox : W2.heap[wr.heap.size]? = some (.cells #[.int .i64 p.id, .int .i64 p.typ, .slice FA p.fr.length fc, .slice VA p.vals.length vc] 92 (0, 0)) := by rw [hW2]; exact heap_alloc_new wr _
      have hm2 := HM1.out.below hB2
      have kp2 : Keeps c.B w W2 := kp.trans (Keeps.of_below (hB2r.mono (by
        rcases Nat.lt_or_ge wr.heap.size c.B with h1 | h1
        · have := HLOW.out wr.heap.size h1; have := HBr.out.size; omega
        · exact h1)))
      obtain ⟨k, hk⟩ : ∃ k, k = p.fr.idxOf fr := ⟨_, rfl⟩
      have hkl : k < p.fr.length := by rw [hk]; exact List.idxOf_lt_length_of_mem hok.mem
      have HIDX : Hid (∀ n, Calls Tryz.prog 107 #[.slice FA p.fr.length fc, .int .i64 fr] (W2.drewN n) fun e w' => e = .returned (.int .i64 k) ∧ w' = W2.drewN n) := hideI fun n =>
        (index_any p.fr c.B _ fr (W2.drewN n) ((hfr.keeps kp2).keeps (fun b o _ => rfl))).mono fun e w' ⟨r, h1, h2, h3⟩ => by
          obtain ⟨h4, _⟩ := idxIs_of h2 hok.mem
          exact ⟨by rw [h1, h4, hk], h3.symm⟩
      obtain ⟨VA', vc', hve, _, hvat⟩ := hvl.keeps kp2
      injection hve with hve1 _ hve3
      subst hve1 hve3
      obtain ⟨vb, voff, rfl, hvb, f0⟩ := hvat k (by rw [hok.len]; exact hkl)
      obtain ⟨a, ha⟩ : ∃ a, p.vals[k]? = some a := ⟨_, List.getElem?_eq_getElem (by rw [hok.len]; exact hkl)⟩
      have hga : phiGets s.val fr p = s.val a := by unfold phiGets; rw [List.getD_eq_getElem?_getD, ← hk, ha]; rfl
      rw [ha] at f0
      have hna := hok.vals a (List.mem_of_getElem? ha)
      obtain ⟨gv, cv, j, rfl, hj, hvv, hvc, _, hgm, hgv⟩ := hm2.valAt hna.1 hna.2
      have hsv : s1.val = s.val := by rw [HS1.out]
      rw [hsv, ← hga] at hvc
      have c11 := hm2.cells 11
      simp only [machCells] at c11
      rw [hvv] at c11
      have hx := row_cells hbox rfl
      have b2 := hx 2
      have b3 := hx 3
      have hOW : W2.ownsRow W1.heap.size 3 1 (.slice (some ⟨W1.heap.size, 0, none⟩) n n) n (gotRow s.val fr q.phis i) := by rw [hW2]; exact HOr.out.alloc _
      have r0 := World.ownsRow.cellAt hOW i (by omega)
      have r1 := World.ownsRow.frozenAt hOW i
      obtain ⟨u0, hu0⟩ := gotRow_some s.val fr q.phis (i := i) (j := i) (by rw [← HN.out]; exact hlt)
      rw [hu0] at r0
      have HW2 := hideI hW2
      have HB2 := hideI hB2
      have HOW := hideI hOW
      have HPI := hideI hpi
      have z1 : ¬ gv = W1.heap.size := fun e => by
        have h1 := HM1.out.own_lt (t := .vals) rfl (show (val .vals).ownBlock = some gv by rw [hvv]; rfl)
        omega
      have z1' : ¬ W1.heap.size = gv := fun e => z1 e.symm
      have z2 : ¬ vb = W1.heap.size := fun e => by have := HLOW.out vb hvb; omega
      have z2' : ¬ W1.heap.size = vb := fun e => z2 e.symm
      have z3 : ¬ c.m = W1.heap.size := fun e => by have := HM1.out.m_lt; omega
      have z3' : ¬ W1.heap.size = c.m := fun e => z3 e.symm
      have z4 : ¬ wr.heap.size = W1.heap.size := fun e => by omega
      have z4' : ¬ W1.heap.size = wr.heap.size := fun e => z4 e.symm
      have hkv : k < p.vals.length := by rw [hok.len]; exact hkl
      obtain ⟨pvl, hpvl⟩ : ∃ pvl, pvl = p.vals.length := ⟨_, rfl⟩
      obtain ⟨pfl, hpfl⟩ : ∃ pfl, pfl = p.fr.length := ⟨_, rfl⟩
      rw [← hpvl] at hkv e3 b3 HW2
      rw [← hpfl] at e2 b2 HW2 HIDX
      obtain ⟨pg, hpg⟩ : ∃ pg, pg = phiGets s.val fr p := ⟨_, rfl⟩
      rw [← hpg] at hvc
      have HPG := hideI hpg
      clear hm2 hbox hB2 hB2r kp kp2 hk hkl hvat ha hga hna hsv hok hfr hx hOW hu0 hpi hW2 hvv hvl hgb hvb hpvl hpfl hpg
      go_wp2
      go_upto_region 6 with fail
      rw [← HW2.out]
      clear e0 e1 e2 e3
      go_region_held3 (fun w' => w'.cell? ⟨c.m, 11, none⟩ = some (.slice (some ⟨gv, 0, none⟩) c.nv cv) ∧ w'.cell? ⟨wr.heap.size, 2, none⟩ = some (.slice FA pfl fc) ∧ w'.cell? ⟨wr.heap.size, 3, none⟩ = some (.slice (some ⟨vb, voff, none⟩) pvl vc) ∧ w'.cell? ⟨vb, voff + k, none⟩ = some (.int .i64 j) ∧ w'.cell? ⟨gv, j, none⟩ = some (.int .i64 pg)) (first | go_keep)
        (first | (go_at_call 107; refine (HIDX.out 1).mono ?_; rintro e w4 ⟨rfl, rfl⟩))
      clear c11 b2 b3 f0 hvc r0 r1
      go_wp2
      go_roundw
      case rel =>
        have h7 : (W2.drewN 1).ownsRow W1.heap.size 3 1 (.slice (some ⟨W1.heap.size, 0, none⟩) n n) n (gotRow s.val fr q.phis i) := HOW.out
        refine ⟨i + 1, by omega, by go_num, hideI ((below_drewN HB2.out 1).setCell (p := ⟨W1.heap.size, i, none⟩) (Nat.le_refl _) _), hideI ?_⟩
        rw [← gotRow_next s.val fr q.phis HPI.out, ← HPG.out]
        exact (World.ownsRow.stored h7 i _).1
      case measure => simp [intOf]; omega
    · have hin : i = n := by omega
      subst hin
      have HM2 := hideI (HM1.out.adds HBr.out)
      have HF2 : Hid (KF K w wr) := hideI (HF1.out.trans (KF.of_below HBr.out HM1.out.low))
      have HGOT : Hid (∀ j p, q.phis[j]? = some p → wr.cell? ⟨W1.heap.size, j, none⟩ = some (.int .i64 (phiGets s.val fr p))) := hideI fun j p hj => by
        have hjl := (List.getElem?_eq_some_iff.1 hj).1
        rw [World.ownsRow.cellAt HOr.out j (by rw [HN.out]; omega), HN.out]
        exact gotRow_all s.val fr q.phis hj
      have hgl2 := hgl
      clear HOr hgl
      go_wp2
      obtain ⟨wo, rfl⟩ : ∃ wo : World, wo = wr := ⟨_, rfl⟩
      have HGL := hideI hgl2
      clear hgl2
      go_loopw [60] (fun u wx => ∃ j : Nat, j ≤ i ∧ u = .int .i64 j ∧ Hid (MachR c (fun b => K b ∨ (W1.heap.size ≤ b ∧ b < wo.heap.size)) wx val { s1 with val := setAll s.val ((q.phis.take j).map fun p => (p.id, phiGets s.val fr p)) }) ∧ Hid (KF (fun b => K b ∨ (W1.heap.size ≤ b ∧ b < wo.heap.size)) wo wx)) (fun u _ => i - (intOf u).toNat)
      case atStart =>
        have e : s1 = { s1 with val := setAll s.val ((q.phis.take 0).map fun p => (p.id, phiGets s.val fr p)) } := by rw [HS1.out]; rfl
        have h1 := HM2.out
        rw [e] at h1
        exact ⟨0, Nat.zero_le _, rfl, hideI h1, hideI (KF.refl _)⟩
      case round =>
        obtain ⟨j, hj, rfl, HMr, HFr⟩ := hrel
        by_cases hjl : j < i
        · obtain ⟨p, hpj⟩ : ∃ p, q.phis[j]? = some p := ⟨_, List.getElem?_eq_getElem (by rw [← HN.out]; exact hjl)⟩
          obtain ⟨gb, goff, FA, fc, VA, vc, rfl, hgb, e0, e1, e2, e3, _, _⟩ := HPAT.out j p hpj
          have hok := HP.out p (List.mem_of_getElem? hpj)
          have kp : Keeps c.B w wr := (HF2.out.keeps H.out.kB).trans (HFr.out.keeps (fun b hb => .inl (H.out.kB b hb)))
          rw [← kp _ _ hgb] at e0 e1 e2 e3
          have hglt := World.block_lt_of_cell? wr _ e0
          have g0 : wr.cell? ⟨W1.heap.size, j, none⟩ = some (.int .i64 (phiGets s.val fr p)) := (World.cell?_of_block (a := ⟨W1.heap.size, j, none⟩) (HFr.out.block _ (.inr ⟨Nat.le_refl _, HGL.out⟩))).trans (HGOT.out j p hpj)
          have hglt2 := World.block_lt_of_cell? wr _ g0
          obtain ⟨W2, hW2⟩ : ∃ W2, W2 = wr.alloc (.cells #[.int .i64 p.id, .int .i64 p.typ, .slice FA p.fr.length fc, .slice VA p.vals.length vc] 92) := ⟨_, rfl⟩
          have hB2r : Below wr.heap.size wr W2 := by rw [hW2]; exact (Below.refl _ _).alloc (Nat.le_refl _) _
          have hbox : W2.heap[wr.heap.size]? = some (.cells #[.int .i64 p.id, .int .i64 p.typ, .slice FA p.fr.length fc, .slice VA p.vals.length vc] 92 (0, 0)) := by rw [hW2]; exact heap_alloc_new wr _
          have hm2 := HMr.out.below hB2r
          obtain ⟨gv, cv, k, hk, hkn, hvv, hvc, hvf, hgm, hgv⟩ := hm2.valAt hok.id.1 hok.id.2
          have c11 := hm2.cells 11
          simp only [machCells] at c11
          rw [hvv] at c11
          have b0 := row_cells hbox rfl 0
          rw [hk] at e0 b0 hW2
          have g1 : W2.cell? ⟨W1.heap.size, j, none⟩ = some (.int .i64 (phiGets s.val fr p)) := (hB2r.cell (p := ⟨W1.heap.size, j, none⟩) hglt2).trans g0
          have HKF : Hid (KF (fun b => K b ∨ (W1.heap.size ≤ b ∧ b < wo.heap.size)) wo W2) := hideI (HFr.out.trans (KF.of_below hB2r HMr.out.low))
          have HM4 := hideI hm2
          have HV := hideI hvv
          have HPJ := hideI hpj
          have HKK := hideI hk
          have HW2 := hideI hW2
          have z1 : ¬ gv = W1.heap.size := fun e => (hm2.off .vals _ gv rfl (by rw [hvv]; rfl)).2 (.inr ⟨by omega, by rw [e]; exact HGL.out⟩)
          have z1' : ¬ W1.heap.size = gv := fun e => z1 e.symm
          have z3 : ¬ c.m = gv := fun e => hgm e.symm
          have z4 : ¬ gv = wr.heap.size := fun e => by
            have h1 := HMr.out.own_lt (t := .vals) rfl (show (val .vals).ownBlock = some gv by rw [hvv]; rfl)
            omega
          have z4' : ¬ wr.heap.size = gv := fun e => z4 e.symm
          obtain ⟨pg, hpg⟩ : ∃ pg, pg = phiGets s.val fr p := ⟨_, rfl⟩
          rw [← hpg] at g1
          have HPG := hideI hpg
          clear hpj hok kp g0 hB2r hbox hm2 hvv hk hgb hpg hW2
          go_wp2
          go_upto_region 11 with fail
          rw [← HW2.out]
          clear e0 e1 e2 e3
          go_region_held3 (fun w' => w'.cell? ⟨c.m, 11, none⟩ = some (.slice (some ⟨gv, 0, none⟩) c.nv cv) ∧ w'.cell? ⟨wr.heap.size, 0, none⟩ = some (.int .i64 k) ∧ w'.cell? ⟨W1.heap.size, j, none⟩ = some (.int .i64 pg)) (first | go_keep) (first | fail)
          clear c11 b0 g1 hvc hvf
          go_wp2
          go_roundw
          case rel =>
            have h5 := HM4.out.setVal HV.out (j := k) pg
            refine ⟨j + 1, by omega, by go_num, hideI ?_, hideI ((HKF.out.trans h5.2).drewN 1)⟩
            have h6 := h5.1.drewN 1
            have e : setAll s.val ((q.phis.take (j + 1)).map fun p => (p.id, phiGets s.val fr p)) = setV (setAll s.val ((q.phis.take j).map fun p => (p.id, phiGets s.val fr p))) (k : Int) pg := by
              rw [List.take_add_one, HPJ.out, Option.toList_some, List.map_append, List.map_cons, List.map_nil, setAll_append, HKK.out, ← HPG.out]
            rw [e]
            exact h6
          case measure => simp [intOf]; omega
        · have hji : j = i := by omega
          subst hji
          go_wp2
          go_end0
          refine ⟨rfl, ?_, HF2.out.trans (HFr.out.mono (fun b hb => .inl hb))⟩
          have h1 := HMr.out.less (fun b hb => .inl hb) (fun b hb => H.out.kB b hb) H.out.kM
          have e : arriveM c.f b fr s = { s1 with val := setAll s.val ((q.phis.take j).map fun p => (p.id, phiGets s.val fr p)) } := by
            unfold arriveM
            rw [HQ.out, HS1.out, HV0.out, HN.out, List.take_length]
          rw [e]
          exact h1
end
end Go.Proofs.YtncmnbchkabgaaaGreat
