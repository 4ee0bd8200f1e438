/- lookAt, Check, Size. -/
import Derived.Test.YtclbhbnidodmdaaUses
namespace Go.Proofs.Ytclbhbnidodmdaa
open Go.RowKit Go.Maps

theorem formed_code {f : FuncM} : ∀ {l : List InstrM} {ds d : Defs}, codeStep f ds l = some d → ∀ x ∈ l, x.args.length = (takesS x.op).length := by
  intro l
  induction l with
  | nil => intro ds d _ x hx; cases hx
  | cons y l ih =>
    intro ds d h x hx
    unfold codeStep at h
    rw [Option.bind_eq_some_iff] at h
    obtain ⟨d1, h1, h2⟩ := h
    rcases List.mem_cons.1 hx with rfl | hx
    · unfold instrStep at h1
      split at h1
      · rename_i hi
        unfold instrB at hi
        simp only [Bool.and_eq_true, beq_iff_eq] at hi
        exact hi.2.1
      · cases h1
    · exact ih h2 x hx

theorem formed_blocks {f : FuncM} : ∀ {l : List BlockM} {ds d : Defs}, blocksStep f ds l = some d → ∀ b ∈ l, ∀ x ∈ b.code, x.args.length = (takesS x.op).length := by
  intro l
  induction l with
  | nil => intro ds d _ x hx; cases hx
  | cons y l ih =>
    intro ds d h x hx
    unfold blocksStep at h
    rw [Option.bind_eq_some_iff] at h
    obtain ⟨d1, h1, h2⟩ := h
    rcases List.mem_cons.1 hx with rfl | hx
    · unfold blockStep at h1
      rw [Option.bind_eq_some_iff] at h1
      obtain ⟨d2, h3, h4⟩ := h1
      rw [Option.bind_eq_some_iff] at h4
      obtain ⟨d3, h5, h6⟩ := h4
      exact formed_code h5
    · exact ih h2 x hx

theorem formed_args {f : FuncM} {ds : Defs} (h : formedM f = some ds) : ∀ b ∈ f.blocks, ∀ x ∈ b.code, x.args.length = (takesS x.op).length := by
  unfold formedM at h
  split at h
  · exact formed_blocks h
  · cases h

theorem look_none {f : FuncM} (h : formedM f = none) : lookM f = (2, []) := by
  unfold lookM
  rw [h]

theorem look_some {f : FuncM} {ds : Defs} (h : formedM f = some ds) : lookM f = if usesErr ds (usesM f) = 0 then (0, ds) else (usesErr ds (usesM f), []) := by
  unfold lookM usesErr
  rw [h]
  cases h1 : unknownB ds (usesM f) <;> cases h2 : unfitB ds (usesM f) <;> simp [h1, h2]

theorem grown_free {w w' : World} {g M : Nat} {cs : Array Value} {t : TypeId} (h : w.heap[g]? = some (.cells cs t (0, 0))) (hg : w.grownBy w' (some M)) (hM : g ≠ M) : ∀ o, w'.frozen? ⟨g, o, none⟩ = false := by
  intro o
  simp [World.frozen?, (hg.block _ (lt_of_heap h) (by simpa using hM)).trans h]

theorem free_row {w w' : World} {g : Nat} {cs : Array Value} {t : TypeId} (h : w.heap[g]? = some (.cells cs t (0, 0))) (hk : w'.heap[g]? = w.heap[g]?) : ∀ o, w'.frozen? ⟨g, o, none⟩ = false := by
  intro o
  simp [World.frozen?, hk.trans h]

/-- what lookAt answers: the function and the map of its values, or an error -/
def LookPost (f : FuncM) (pv bv : Value) (w : World) (e : Ending) (w' : World) : Prop :=
  Below w.heap.size w w' ∧
  ((lookM f).1 = 0 ∧ (∃ M, w.heap.size ≤ M ∧ e = .returned (.tuple #[.agg #[pv, .int .i64 f.arrays, .int .i64 f.cells, bv, .map (some M)], .int .i64 0]) ∧ MapIs w' M (lookM f).2) ∨
   (lookM f).1 ≠ 0 ∧ e = .returned (.tuple #[.agg #[.slice none 0 0, .int .i64 0, .int .i64 0, .slice none 0 0, .map none], .int .i64 (lookM f).1]))

set_option maxHeartbeats 1000000 in
theorem lookAt_any (f : FuncM) (B : Nat) (pv bv : Value) (w : World) (hpv : Ints w B pv f.params) (hbv : BlocksR w B bv f.blocks) (hB : B ≤ w.heap.size) (hid : ∀ u ∈ usesM f, I64 u.1) :
    Calls Try.prog 71 #[.agg #[pv, .int .i64 f.arrays, .int .i64 f.cells, bv]] w (LookPost f pv bv w) := by
  have HP := hideI hpv
  have HB := hideI hbv
  have HID := hideI hid
  obtain ⟨P, pc, rfl, _⟩ := hpv
  obtain ⟨A, c, rfl, _⟩ := hbv
  have hmm := @run_makeMap Try.prog
  obtain ⟨W4, hW4⟩ : ∃ W4 : World, W4 = (((w.alloc (.cells #[.slice P f.params.length pc, .int .i64 f.arrays, .int .i64 f.cells, .slice A f.blocks.length c] 25)).alloc (.cells #[.slice none 0 0, .int .i64 0, .int .i64 0, .slice none 0 0, .map none] 116)).alloc (.map #[] 0)).alloc (.cells #[.slice P f.params.length pc, .int .i64 f.arrays, .int .i64 f.cells, .slice A f.blocks.length c, .map (some (w.heap.size + 1 + 1))] 116) := ⟨_, rfl⟩
  have hsz : W4.heap.size = w.heap.size + 4 := by rw [hW4]; simp
  have hBl : Below w.heap.size w W4 := by rw [hW4]; exact (((((Below.refl _ w).alloc (Nat.le_refl _) _).alloc (by simp) _).alloc (by simp; omega) _).alloc (by simp; omega) _)
  have h1 : W4.heap[w.heap.size + 1]? = some (.cells #[.slice none 0 0, .int .i64 0, .int .i64 0, .slice none 0 0, .map none] 116 (0, 0)) := by
    rw [hW4, Below.heap_alloc _ _ _ (by simp), Below.heap_alloc _ _ _ (by simp)]
    have := heap_alloc_new (w.alloc (.cells #[.slice P f.params.length pc, .int .i64 f.arrays, .int .i64 f.cells, .slice A f.blocks.length c] 25)) (.cells #[.slice none 0 0, .int .i64 0, .int .i64 0, .slice none 0 0, .map none] 116)
    simpa using this
  have h3 : W4.heap[w.heap.size + 1 + 1 + 1]? = some (.cells #[.slice P f.params.length pc, .int .i64 f.arrays, .int .i64 f.cells, .slice A f.blocks.length c, .map (some (w.heap.size + 1 + 1))] 116 (0, 0)) := by
    rw [hW4]
    have := heap_alloc_new (((w.alloc (.cells #[.slice P f.params.length pc, .int .i64 f.arrays, .int .i64 f.cells, .slice A f.blocks.length c] 25)).alloc (.cells #[.slice none 0 0, .int .i64 0, .int .i64 0, .slice none 0 0, .map none] 116)).alloc (.map #[] 0)) (.cells #[.slice P f.params.length pc, .int .i64 f.arrays, .int .i64 f.cells, .slice A f.blocks.length c, .map (some (w.heap.size + 1 + 1))] 116)
    simpa using this
  have hm : MapIs W4 (w.heap.size + 1 + 1) [] := by
    rw [hW4]
    have := MapIs.new ((w.alloc (.cells #[.slice P f.params.length pc, .int .i64 f.arrays, .int .i64 f.cells, .slice A f.blocks.length c] 25)).alloc (.cells #[.slice none 0 0, .int .i64 0, .int .i64 0, .slice none 0 0, .map none] 116))
    exact MapIs.alloc (by simpa using this) _
  have hk : Keeps B w W4 := Keeps.of_below (hBl.mono hB)
  have HF := hideI (formed_any f B (w.heap.size + 1 + 1) (.slice P f.params.length pc) (.slice A f.blocks.length c) W4 (HP.out.keeps hk) (HB.out.keeps hk) (by omega) hm)
  have HH1 := hideI h1
  have HH3 := hideI h3
  have HSZ := hideI hsz
  have HBl := hideI hBl
  clear hid hsz hBl h1 h3 hm hk
  subst hW4
  cases hf : formedM f with
  | none =>
    have HFM := hideI hf
    clear hf
    go_enter Try.func71, Try.ntmps71
    go_wp2_with (go_at_call 86; refine HF.out.mono ?_; rintro e w5 ⟨rfl, hg5, _⟩; rw [HFM.out]; have k1 := grown_row HH1.out hg5 (by omega); have k3 := grown_row HH3.out hg5 (by omega); have q1 := grown_free HH1.out hg5 (by omega); have HG5 := hideI hg5; clear hg5)
    refine bodyPost_ret (v := .tuple #[.agg #[.slice none 0 0, .int .i64 0, .int .i64 0, .slice none 0 0, .map none], .int .i64 2]) (by simp [results, Try.results71, go_sem, k1]) rfl ?_
    refine ⟨?_, .inr ⟨by rw [look_none HFM.out]; decide, by rw [look_none HFM.out]⟩⟩
    exact (((((HBl.out.grown HG5.out (by rw [HSZ.out]; omega) (by intro k hk; injection hk with hk; omega)).setCell (by simp) _).setCell (by simp) _).setCell (by simp) _).setCell (by simp) _).setCell (by simp) _
  | some ds =>
    have HFM := hideI hf
    clear hf
    cases hc : (usesErr ds (usesM f) != 0)
    · have HC := hideI hc
      go_enter Try.func71, Try.ntmps71
      go_wp2_with (first
        | (go_at_call 86; refine HF.out.mono ?_; rintro e w5 ⟨rfl, hg5, hm5⟩; rw [HFM.out]; have k1 := grown_row HH1.out hg5 (by omega); have k3 := grown_row HH3.out hg5 (by omega); have q1 := grown_free HH1.out hg5 (by omega); have HG5 := hideI hg5; have HM5 := hideI (hm5 _ HFM.out); have hz5 : w.heap.size + 1 + 1 + 1 < w5.heap.size := (by have := hg5.size; rw [HSZ.out] at this; omega); clear hg5 hm5)
        | (go_at_call 87; refine (checkUses_any f ds B (w.heap.size + 1 + 1) _ _ _ _ _ (HB.out.keeps (Keeps.of_below ((HBl.out.grown HG5.out (by rw [HSZ.out]; omega) (by intro k hk; injection hk with hk; omega)).mono hB))) (by omega) HM5.out (formed_args HFM.out) HID.out).mono ?_; rintro e w6 ⟨rfl, hb6⟩; have k6 := row_cells (HH1.out) ((hb6.block _ (by omega)).trans (HG5.out.block _ (by rw [HSZ.out]; omega) (by simp))); have q6 := free_row HH1.out ((hb6.block _ (by omega)).trans (HG5.out.block _ (by rw [HSZ.out]; omega) (by simp))); have l6 := row_cells (HH3.out) ((hb6.block _ (by omega)).trans (HG5.out.block _ (by rw [HSZ.out]; omega) (by simp))); have HB6 := hideI hb6; clear hb6))
      have h0 : usesErr ds (usesM f) = 0 := by simpa using HC.out
      have hl : lookM f = (0, ds) := by rw [look_some HFM.out, if_pos h0]
      refine bodyPost_ret (v := .tuple #[.agg #[.slice P f.params.length pc, .int .i64 f.arrays, .int .i64 f.cells, .slice A f.blocks.length c, .map (some (w.heap.size + 1 + 1))], .int .i64 0]) (by simp [results, Try.results71, go_sem, k6]) rfl ?_
      refine ⟨((((((HBl.out.grown HG5.out (by rw [HSZ.out]; omega) (by intro k hk; injection hk with hk; omega)).trans (HB6.out.mono (by omega))).setCell (by simp) _).setCell (by simp) _).setCell (by simp) _).setCell (by simp) _).setCell (by simp) _, .inl ⟨by rw [hl], w.heap.size + 1 + 1, by omega, rfl, ?_⟩⟩
      rw [hl]
      exact (((((HM5.out.below HB6.out HM5.out.lt).set_ _ (by simp)).set_ _ (by simp)).set_ _ (by simp)).set_ _ (by simp)).set_ _ (by simp)
    · have HC := hideI hc
      go_enter Try.func71, Try.ntmps71
      go_wp2_with (first
        | (go_at_call 86; refine HF.out.mono ?_; rintro e w5 ⟨rfl, hg5, hm5⟩; rw [HFM.out]; have k1 := grown_row HH1.out hg5 (by omega); have k3 := grown_row HH3.out hg5 (by omega); have q1 := grown_free HH1.out hg5 (by omega); have HG5 := hideI hg5; have HM5 := hideI (hm5 _ HFM.out); have hz5 : w.heap.size + 1 + 1 + 1 < w5.heap.size := (by have := hg5.size; rw [HSZ.out] at this; omega); clear hg5 hm5)
        | (go_at_call 87; refine (checkUses_any f ds B (w.heap.size + 1 + 1) _ _ _ _ _ (HB.out.keeps (Keeps.of_below ((HBl.out.grown HG5.out (by rw [HSZ.out]; omega) (by intro k hk; injection hk with hk; omega)).mono hB))) (by omega) HM5.out (formed_args HFM.out) HID.out).mono ?_; rintro e w6 ⟨rfl, hb6⟩; have k6 := row_cells (HH1.out) ((hb6.block _ (by omega)).trans (HG5.out.block _ (by rw [HSZ.out]; omega) (by simp))); have q6 := free_row HH1.out ((hb6.block _ (by omega)).trans (HG5.out.block _ (by rw [HSZ.out]; omega) (by simp))); have l6 := row_cells (HH3.out) ((hb6.block _ (by omega)).trans (HG5.out.block _ (by rw [HSZ.out]; omega) (by simp))); have HB6 := hideI hb6; clear hb6))
      have h0 : usesErr ds (usesM f) ≠ 0 := by simpa using HC.out
      have hl : lookM f = (usesErr ds (usesM f), []) := by rw [look_some HFM.out, if_neg h0]
      refine bodyPost_ret (v := .tuple #[.agg #[.slice none 0 0, .int .i64 0, .int .i64 0, .slice none 0 0, .map none], .int .i64 (usesErr ds (usesM f))]) (by simp [results, Try.results71, go_sem, k6]) rfl ?_
      exact ⟨((((((HBl.out.grown HG5.out (by rw [HSZ.out]; omega) (by intro k hk; injection hk with hk; omega)).trans (HB6.out.mono (by omega))).setCell (by simp) _).setCell (by simp) _).setCell (by simp) _).setCell (by simp) _).setCell (by simp) _, .inr ⟨by rw [hl]; exact h0, by rw [hl]⟩⟩

end Go.Proofs.Ytclbhbnidodmdaa
