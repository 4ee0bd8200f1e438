/- formedInstr: an instruction is formed, and its value is written down, if it makes one. -/
import Derived.Test.YtclbhbnidodmdaaPhi
import Derived.Test.YtclbhbnidodmdaaArgs
namespace Go.Proofs.Ytclbhbnidodmdaa
open Go.RowKit Go.Maps

theorem instrStep_no {f : FuncM} {ds : Defs} {x : InstrM} (h : instrB f x = false) : instrStep f ds x = none := by
  unfold instrStep
  rw [h]
  rfl

theorem instrStep_none {f : FuncM} {ds : Defs} {x : InstrM} (h : instrB f x = true) (hm : makesS x.op = 0) : instrStep f ds x = if x.id = -1 then some ds else none := by
  unfold instrStep
  rw [h, if_pos rfl, if_pos hm]

theorem instrStep_ok {f : FuncM} {ds : Defs} {x : InstrM} (h : instrB f x = true) (hm : makesS x.op ≠ 0) : instrStep f ds x = addDef f.params.length ds x.id (makesS x.op) := by
  unfold instrStep
  rw [h, if_pos rfl, if_neg hm]

theorem makesS_wf (op : Int) : I64 (makesS op) := by
  rcases op_cases op with h | h | h
  · rcases h with rfl | rfl | rfl | rfl | rfl | rfl | rfl | rfl | rfl | rfl | rfl | rfl | rfl <;> (unfold I64; decide)
  · rcases h with rfl | rfl | rfl | rfl | rfl | rfl | rfl | rfl | rfl | rfl | rfl | rfl <;> (unfold I64; decide)
  · unfold makesS; rw [shapeS_none h]; unfold I64; decide

theorem len_ne' {a b : Nat} (h : ((a : Int) != b) = true) : (a == b) = false := beq_eq_false_iff_ne.2 fun e => by rw [e] at h; simp at h
theorem len_eq' {a b : Nat} (h : ((a : Int) != b) = false) : (a == b) = true := beq_iff_eq.2 (by have := bne_eq_false_iff_eq.1 h; omega)

theorem two_lt {w w1 : World} {o o2 : Obj} {B : Nat} (hb : Below B ((w.alloc o).alloc o2) w1) : w.heap.size + 1 < w1.heap.size := by
  have := hb.size
  simp at this
  omega

theorem defines_end {M : Nat} {w w1 : World} {r : Option Defs} {b : Bool} (hb : b = r.isSome) (hg : w.grownBy w1 (some M)) (h : ∀ ds, r = some ds → MapIs w1 M ds) : Defines r M w (.returned (.bool b)) w1 := by
  subst hb
  exact ⟨rfl, hg, h⟩

set_option maxHeartbeats 1000000 in
theorem instr_any (f : FuncM) (x : InstrM) (ds : Defs) (P A : Option Addr) (pc c M B : Nat) (av : Value) (w : World) (hav : Ints w B av x.args) (hBM : B ≤ M) (hM : MapIs w M ds)
    (hn : ds.length < 100000) (hi : I64 x.id) (ha : 0 ≤ f.arrays) (ha' : f.arrays ≤ 8) (hc : 0 ≤ f.cells) (hc' : f.cells ≤ 64) :
    Calls Try.prog 105 #[.agg #[.slice P f.params.length pc, .int .i64 f.arrays, .int .i64 f.cells, .slice A f.blocks.length c, .map (some M)], .agg #[.int .i64 x.op, .int .i64 x.id, av, .int .i64 x.n]] w (Defines (instrStep f ds x) M w) := by
  have hMl := hM.lt
  have HM := hideI hM
  have HI := hideI hi
  obtain ⟨AA, ac, hvv, hvm, _⟩ := hav
  subst hvv
  clear hM hi
  -- the call of Args, ahead of all
  cases c1 : isOp x.op
  · have HC := hideI c1
    go_enter Try.func105, Try.ntmps105
    go_wp2_with (go_at_call 107; refine (irArgs_any _ _).mono ?_; rintro e w1 ⟨v, rfl, hv1, hb1⟩; obtain ⟨TA, tc, rfl, _⟩ := hv1; obtain ⟨hcl, hfl⟩ := bcell hb1; have hz1 := two_lt hb1; have hz0 := Nat.lt_of_succ_lt hz1; have HB1 := hideI hb1; clear hb1)
    go_ret
    exact defines_after (instrStep_no (by unfold instrB; rw [HC.out]; rfl)) HB1.out
  have HC := hideI c1
  cases c2 : !((x.args.length : Int) != (takesS x.op).length)
  · simp only [Bool.not_eq_false'] at c2
    have HC2 := hideI c2
    go_enter Try.func105, Try.ntmps105
    go_wp2_with (go_at_call 107; refine (irArgs_any _ _).mono ?_; rintro e w1 ⟨v, rfl, hv1, hb1⟩; obtain ⟨TA, tc, rfl, _⟩ := hv1; obtain ⟨hcl, hfl⟩ := bcell hb1; have hz1 := two_lt hb1; have hz0 := Nat.lt_of_succ_lt hz1; have HB1 := hideI hb1; clear hb1)
    go_ret
    exact defines_after (instrStep_no (by unfold instrB; rw [len_ne' HC2.out]; simp)) HB1.out
  simp only [Bool.not_eq_true'] at c2
  have HC2 := hideI c2
  cases c3 : fitsB f x.op x.n
  · have HC3 := hideI c3
    go_enter Try.func105, Try.ntmps105
    go_wp2_with (first
      | (go_at_call 107; refine (irArgs_any _ _).mono ?_; rintro e w1 ⟨v, rfl, hv1, hb1⟩; obtain ⟨TA, tc, rfl, _⟩ := hv1; obtain ⟨hcl, hfl⟩ := bcell hb1; have hz1 := two_lt hb1; have hz0 := Nat.lt_of_succ_lt hz1; have HB1 := hideI hb1; clear hb1)
      | (go_at_call 110; refine (fitsN_any f _ _ _ _ _ _ ha ha' hc hc' HC.out).mono ?_; rintro e w2 ⟨rfl, hb2⟩; obtain ⟨hcl2, hfl2⟩ := bcell hb2; have HB2 := hideI hb2; clear hb2))
    go_ret
    exact defines_end (by rw [instrStep_no (by unfold instrB; rw [HC3.out]; simp)]; rfl) ((((World.grownBy_alloc _ _ _).trans_grown (World.grownBy_alloc _ _ _)).trans_grown (below_grown HB1.out rfl)).trans_grown (below_grown HB2.out rfl)) (by rw [instrStep_no (by unfold instrB; rw [HC3.out]; simp)]; simp)
  have HC3 := hideI c3
  have hB : instrB f x = true := by unfold instrB; rw [HC.out, len_eq' HC2.out, HC3.out]; rfl
  have HBB := hideI hB
  clear hB
  cases c4 : (makesS x.op == 0)
  · have HC4 := hideI c4
    go_enter Try.func105, Try.ntmps105
    go_wp2_with (first
      | (go_at_call 107; refine (irArgs_any _ _).mono ?_; rintro e w1 ⟨v, rfl, hv1, hb1⟩; obtain ⟨TA, tc, rfl, _⟩ := hv1; obtain ⟨hcl, hfl⟩ := bcell hb1; have hz1 := two_lt hb1; have hz0 := Nat.lt_of_succ_lt hz1; have HB1 := hideI hb1; clear hb1)
      | (go_at_call 110; refine (fitsN_any f _ _ _ _ _ _ ha ha' hc hc' HC.out).mono ?_; rintro e w2 ⟨rfl, hb2⟩; obtain ⟨hcl2, hfl2⟩ := bcell hb2; have HB2 := hideI hb2; clear hb2)
      | (go_at_call 109; refine (define_any _ _ _ _ _ _ M ds _ _ _ ((((HM.out.alloc _).alloc _).below HB1.out (by simp; omega)).below HB2.out (by have := HB1.out.size; simp at this; omega)) hn HI.out (makesS_wf _)).mono ?_; rintro e w3 ⟨rfl, hg3, hm3⟩))
    go_ret
    have hne : makesS x.op ≠ 0 := by simpa using HC4.out
    rw [instrStep_ok HBB.out hne]
    exact ⟨rfl, ((((World.grownBy_alloc _ _ _).trans_grown (World.grownBy_alloc _ _ _)).trans_grown (below_grown HB1.out rfl)).trans_grown (below_grown HB2.out rfl)).trans_grown hg3, hm3⟩
  · have HC4 := hideI c4
    go_enter Try.func105, Try.ntmps105
    go_wp2_with (first
      | (go_at_call 107; refine (irArgs_any _ _).mono ?_; rintro e w1 ⟨v, rfl, hv1, hb1⟩; obtain ⟨TA, tc, rfl, _⟩ := hv1; obtain ⟨hcl, hfl⟩ := bcell hb1; have hz1 := two_lt hb1; have hz0 := Nat.lt_of_succ_lt hz1; have HB1 := hideI hb1; clear hb1)
      | (go_at_call 110; refine (fitsN_any f _ _ _ _ _ _ ha ha' hc hc' HC.out).mono ?_; rintro e w2 ⟨rfl, hb2⟩; obtain ⟨hcl2, hfl2⟩ := bcell hb2; have HB2 := hideI hb2; clear hb2))
    go_ret
    have hz : makesS x.op = 0 := by simpa using HC4.out
    have hm2 := (((HM.out.alloc (.cells #[.slice P f.params.length pc, .int .i64 f.arrays, .int .i64 f.cells, .slice A f.blocks.length c, .map (some M)] 116)).alloc (.cells #[.int .i64 x.op, .int .i64 x.id, .slice AA x.args.length ac, .int .i64 x.n] 86)).below HB1.out (by simp; omega)).below HB2.out (by omega)
    rw [instrStep_none HBB.out hz]
    refine defines_end ?_ ((((World.grownBy_alloc _ _ _).trans_grown (World.grownBy_alloc _ _ _)).trans_grown (below_grown HB1.out rfl)).trans_grown (below_grown HB2.out rfl)) ?_
    · by_cases e : x.id = -1 <;> simp [e]
    · intro ds' h
      by_cases e : x.id = -1
      · rw [if_pos e] at h
        injection h with h
        subst h
        exact hm2
      · rw [if_neg e] at h
        cases h

end Go.Proofs.Ytclbhbnidodmdaa
