/- What is proved: for every function f and every three numbers, in whatever memory they lie, DomMet answers true: what dominates two blocks dominates their meeting, and that dominates both. No condition. -/
import Derived.Test.YtclbhbnidodmdaaDMeet
import Derived.Test.YtclbhbnidodmdaaAwake4
import Derived.Test.YtclbhbnidodmdaaOpen
import Derived.Test.YtclbhbnidodmdaaLaw
import Derived.IntWalk
import Derived.BigQuiet
import Derived.Deep.QuietTactic
namespace Go.Proofs.Ytclbhbnidodmdaa.domMet
open Go.ChangeShapes Go.WideShapes Go.ChangeAt Go.RowKit

theorem ints2 (W : World) (x y : Int) : Ints (W.alloc (.cells #[.int .i64 x, .int .i64 y] 3)) (W.alloc (.cells #[.int .i64 x, .int .i64 y] 3)).heap.size (.slice (some ⟨W.heap.size, 0, none⟩) [x, y].length 2) [x, y] := by
  have hx := row_cells (heap_alloc_new W (.cells #[.int .i64 x, .int .i64 y] 3)) (rfl : (W.alloc (.cells #[.int .i64 x, .int .i64 y] 3)).heap[W.heap.size]? = _)
  refine ⟨_, _, rfl, by simp, fun k hk => ⟨_, 0, rfl, by simp, ?_⟩⟩
  rw [hx, Nat.zero_add]
  rcases k with _ | _ | k
  · rfl
  · rfl
  · simp at hk; omega

theorem ints3 (W : World) (x y z : Int) : Ints (W.alloc (.cells #[.int .i64 x, .int .i64 y, .int .i64 z] 3)) (W.alloc (.cells #[.int .i64 x, .int .i64 y, .int .i64 z] 3)).heap.size (.slice (some ⟨W.heap.size, 0, none⟩) [x, y, z].length 3) [x, y, z] := by
  have hx := row_cells (heap_alloc_new W (.cells #[.int .i64 x, .int .i64 y, .int .i64 z] 3)) (rfl : (W.alloc (.cells #[.int .i64 x, .int .i64 y, .int .i64 z] 3)).heap[W.heap.size]? = _)
  refine ⟨_, _, rfl, by simp, fun k hk => ⟨_, 0, rfl, by simp, ?_⟩⟩
  rw [hx, Nat.zero_add]
  rcases k with _ | _ | _ | k
  · rfl
  · rfl
  · rfl
  · simp at hk; omega

theorem bool_of (p : Prop) : ∃ r : Bool, r = true ↔ p := by
  by_cases h : p
  · exact ⟨true, by simp [h]⟩
  · exact ⟨false, by simp [h]⟩

theorem okB_of {o : List Nat} {n x : Nat} (h : okB o n (x : Int) = true) : x ∈ o := by
  have := (okB_nat h).2.2
  simpa using this

set_option maxRecDepth 100000 in
set_option maxHeartbeats 2000000 in
theorem walk_out (f : FuncM) (pv bv : Value) (a b c : Int) (w : World) (hF : FnIn w f pv bv) (hn : f.blocks.length = 0 ∨ 200 < f.blocks.length) :
    Calls Try.prog 13 #[.agg #[pv, .int .i64 f.arrays, .int .i64 f.cells, bv], .int .u16 a, .int .u16 b, .int .u16 c] w fun e w' => e = .returned (.bool true) ∧ Below w.heap.size w w' := by
  obtain ⟨P, pc, hpv, _⟩ := hF.par
  obtain ⟨A, cc, hbv, hcap⟩ := hF.blk
  subst hpv hbv
  have hbl : f.blocks.length ≤ 140737488351232 := hcap.1
  have HB : Hid (Below w.heap.size w (w.alloc (.cells #[.slice P f.params.length pc, .int .i64 f.arrays, .int .i64 f.cells, .slice A f.blocks.length cc] 25))) := (Below.refl _ w).alloc (Nat.le_refl _) _
  clear hF hcap
  by_cases hz : f.blocks.length = 0
  · have hd1 : ((f.blocks.length : Int) == 0) = true := by rw [hz]; rfl
    clear hz hn
    go_enter Try.func13, Try.ntmps13
    go_wp2_with (first
      | (go_at_call 32; refine (awake4_any _).mono ?_; rintro e w5 ⟨rfl, hb⟩; replace HB := hideI (HB.out.trans (hb.mono HB.out.size)); clear hb))
    go_ret
    exact ⟨rfl, HB.out⟩
  · have hd1 : ((f.blocks.length : Int) == 0) = false := by rw [beq_eq_false_iff_ne]; omega
    have hd2 : decide ((200 : Int) < (f.blocks.length : Int)) = true := by simp; omega
    clear hz hn
    go_enter Try.func13, Try.ntmps13
    go_wp2_with (first
      | (go_at_call 32; refine (awake4_any _).mono ?_; rintro e w5 ⟨rfl, hb⟩; replace HB := hideI (HB.out.trans (hb.mono HB.out.size)); clear hb))
    go_ret
    exact ⟨rfl, HB.out⟩

set_option maxRecDepth 100000 in
set_option maxHeartbeats 4000000 in
theorem walk_in (f : FuncM) (pv bv : Value) (a b c : Nat) (w : World) (hF : FnIn w f pv bv) (hn0 : 0 < f.blocks.length) (hn2 : f.blocks.length ≤ 200) (ha : a < 65536) (hb : b < 65536) (hc : c < 65536) :
    Calls Try.prog 13 #[.agg #[pv, .int .i64 f.arrays, .int .i64 f.cells, bv], .int .u16 a, .int .u16 b, .int .u16 c] w fun e w' => e = .returned (.bool true) ∧ Below w.heap.size w w' := by
  have HF := hideI hF
  have HID := hideI (uses_i64 hF.ok)
  obtain ⟨P, pc, hpv, _⟩ := hF.par
  obtain ⟨A, cc, hbv, hcap⟩ := hF.blk
  subst hpv hbv
  have HB : Hid (Below w.heap.size w (w.alloc (.cells #[.slice P f.params.length pc, .int .i64 f.arrays, .int .i64 f.cells, .slice A f.blocks.length cc] 25))) := (Below.refl _ w).alloc (Nat.le_refl _) _
  have HX := hideI (heap_alloc_new w (.cells #[.slice P f.params.length pc, .int .i64 f.arrays, .int .i64 f.cells, .slice A f.blocks.length cc] 25))
  obtain ⟨n, hn⟩ : ∃ n, n = f.blocks.length := ⟨_, rfl⟩
  obtain ⟨x, hx⟩ : ∃ x, x = a % n := ⟨_, rfl⟩
  obtain ⟨y, hy⟩ : ∃ y, y = b % n := ⟨_, rfl⟩
  obtain ⟨z, hz⟩ : ∃ z, z = c % n := ⟨_, rfl⟩
  have hxl : x < n := by rw [hx]; exact Nat.mod_lt _ (by omega)
  have hyl : y < n := by rw [hy]; exact Nat.mod_lt _ (by omega)
  have hzl : z < n := by rw [hz]; exact Nat.mod_lt _ (by omega)
  have HXL : Hid (x < f.blocks.length ∧ y < f.blocks.length ∧ z < f.blocks.length) := ⟨by omega, by omega, by omega⟩
  have r1 : Int.tmod (a : Int) (f.blocks.length : Int) = (x : Int) := by rw [← hn, hx]; rfl
  have r2 : Int.tmod (b : Int) (f.blocks.length : Int) = (y : Int) := by rw [← hn, hy]; rfl
  have r3 : Int.tmod (c : Int) (f.blocks.length : Int) = (z : Int) := by rw [← hn, hz]; rfl
  have s1 : (a : Int) % (f.blocks.length : Int) = (x : Int) := by rw [← hn, hx]; omega
  have s2 : (b : Int) % (f.blocks.length : Int) = (y : Int) := by rw [← hn, hy]; omega
  have s3 : (c : Int) % (f.blocks.length : Int) = (z : Int) := by rw [← hn, hz]; omega
  have hd1 : ((f.blocks.length : Int) == 0) = false := by rw [beq_eq_false_iff_ne]; omega
  have hd2 : decide ((200 : Int) < (f.blocks.length : Int)) = false := by simp; omega
  clear hF hcap hx hy hz hxl hyl hzl hn
  go_enter Try.func13, Try.ntmps13
  go_wp2_with (first
    | (go_at_call 32; refine (awake4_any _).mono ?_; rintro e w5 ⟨rfl, hb⟩; replace HX := hideI ((hb.block _ (lt_of_heap HX.out)).trans HX.out); have hx := row_cells HX.out rfl; have q0 := hx 0; have q1 := hx 1; have q2 := hx 2; have q3 := hx 3; replace HB := hideI (HB.out.trans (hb.mono HB.out.size)); clear hb hx))
  go_quiet (fail)
  replace HX : Hid ((w5.drewN nq).heap[w.heap.size]? = some (.cells #[.slice P f.params.length pc, .int .i64 f.arrays, .int .i64 f.cells, .slice A f.blocks.length cc] 25 (0, 0))) := HX
  replace HB : Hid (Below w.heap.size w (w5.drewN nq)) := drew_below HB.out nq
  obtain ⟨W, hW⟩ : ∃ W, W = w5.drewN nq := ⟨_, rfl⟩
  rw [← hW] at HX HB
  rw [← hW]
  clear hW
  have hxx := row_cells HX.out rfl
  clear q0 q1 q2 q3 r1 r2 r3 s1 s2 s3
  have q0 := hxx 0
  have q1 := hxx 1
  have q2 := hxx 2
  have q3 := hxx 3
  clear hxx
  have hwW : w.heap.size < W.heap.size := lt_of_heap HX.out
  have HPW : Hid (∀ W2, Below W.heap.size W W2 → Ints W2 w.heap.size (.slice P f.params.length pc) f.params ∧ BlocksR W2 w.heap.size (.slice A f.blocks.length cc) f.blocks ∧ (∀ o, W2.cell? ⟨w.heap.size, o, none⟩ = (#[.slice P f.params.length pc, .int .i64 f.arrays, .int .i64 f.cells, .slice A f.blocks.length cc] : Array Value)[o]?)) := fun W2 hW2 => by
    have h1 : Below w.heap.size w W2 := HB.out.trans (hW2.mono HB.out.size)
    exact ⟨HF.out.par.keeps (Keeps.of_below h1), HF.out.blk.keeps (Keeps.of_below h1), row_cells HX.out (hW2.block _ hwW)⟩
  by_cases h0 : (lookM f).1 = 0
  · have H0 := hideI h0
    clear h0
    go_wp2_with fail
    have HB6a : Hid (Below W.heap.size W (W.alloc (.cells #[.int .i64 x, .int .i64 y] 3))) := (Below.refl _ W).alloc (Nat.le_refl _) _
    refine (domMeet_some f w.heap.size _ _ _ (HPW.out _ HB6a.out).1 (HPW.out _ HB6a.out).2.1 (by simp; omega) HID.out [(x : Int), (y : Int)] _ _ _ _ H0.out (ints2 W x y) (Nat.le_refl _) (by simp) (by simp)).mono ?_
    rintro e w6 ⟨o, ho, hcase⟩
    rcases hcase with ⟨_, rfl, hb6⟩ | ⟨hall, m, rfl, hmo, hmm, hanti, hb6⟩
    · have HB6 : Hid (Below W.heap.size W w6) := HB6a.out.trans (hb6.mono (by simp))
      clear hb6
      go_wp2
      go_ret
      exact ⟨rfl, HB.out.trans (HB6.out.mono HB.out.size)⟩
    · have HB6 : Hid (Below W.heap.size W w6) := HB6a.out.trans (hb6.mono (by simp))
      have HO := hideI ho
      have HXO := hideI (okB_of (hall x (by simp)))
      have HYO := hideI (okB_of (hall y (by simp)))
      have HMO := hideI hmo
      have HMM : Hid (∀ u, OverP f.blocks o u m ↔ OverP f.blocks o u x ∧ OverP f.blocks o u y) := fun u => by have := hmm u; simpa using this
      have HAN := hideI hanti
      have hml : m < f.blocks.length := ho.range (look_ends H0.out) hn0 m hmo
      have hxl := HXL.out.1
      have hyl := HXL.out.2.1
      have hzl := HXL.out.2.2
      have HP1 : Hid (OverP f.blocks o m x) := ((HMM.out m).1 (OverP.refl hmo)).1
      have HP2 : Hid (OverP f.blocks o m y) := ((HMM.out m).1 (OverP.refl hmo)).2
      obtain ⟨r, hr⟩ : ∃ r : Bool, r = true ↔ OverP f.blocks o z x := bool_of _
      obtain ⟨s, hs⟩ : ∃ s : Bool, s = true ↔ OverP f.blocks o z y := bool_of _
      have HR1 := hideI hr
      have HS1 := hideI hs
      have HT1 : Hid ((r && s) = true ↔ OverP f.blocks o z m) := by show _ ↔ _; rw [HMM.out z, Bool.and_eq_true, hr, hs]
      have hx6 := (HPW.out _ HB6.out).2.2
      clear q0 q1 q2 q3
      have q0 := hx6 0
      have q1 := hx6 1
      have q2 := hx6 2
      have q3 := hx6 3
      clear hb6 hx6 ho hall hmo hmm hanti hr hs
      go_wp2_with fail
      refine (dominates_yes f w.heap.size _ _ _ (HPW.out _ HB6.out).1 (HPW.out _ HB6.out).2.1 (Nat.le_trans HB.out.size HB6.out.size) HID.out m x o true H0.out HO.out hml hxl ⟨fun _ => HP1.out, fun _ => rfl⟩).mono ?_
      rintro e w7 ⟨rfl, hb7⟩
      have HB7 := hideI (HB6.out.trans (hb7.mono HB6.out.size))
      clear hb7 q0 q1 q2 q3
      have hx7 := (HPW.out _ HB7.out).2.2
      have q0 := hx7 0
      have q1 := hx7 1
      have q2 := hx7 2
      have q3 := hx7 3
      clear hx7
      go_wp2_with fail
      refine (dominates_yes f w.heap.size _ _ _ (HPW.out _ HB7.out).1 (HPW.out _ HB7.out).2.1 (Nat.le_trans HB.out.size HB7.out.size) HID.out m y o true H0.out HO.out hml hyl ⟨fun _ => HP2.out, fun _ => rfl⟩).mono ?_
      rintro e w8 ⟨rfl, hb8⟩
      have HB8 := hideI (HB7.out.trans (hb8.mono HB7.out.size))
      clear hb8 q0 q1 q2 q3
      have hx8 := (HPW.out _ HB8.out).2.2
      have q0 := hx8 0
      have q1 := hx8 1
      have q2 := hx8 2
      have q3 := hx8 3
      clear hx8
      go_wp2_with fail
      refine (dominates_yes f w.heap.size _ _ _ (HPW.out _ HB8.out).1 (HPW.out _ HB8.out).2.1 (Nat.le_trans HB.out.size HB8.out.size) HID.out z x o r H0.out HO.out hzl hxl HR1.out).mono ?_
      rintro e w9 ⟨rfl, hb9⟩
      have HB9 := hideI (HB8.out.trans (hb9.mono HB8.out.size))
      clear hb9 q0 q1 q2 q3
      have hx9 := (HPW.out _ HB9.out).2.2
      have q0 := hx9 0
      have q1 := hx9 1
      have q2 := hx9 2
      have q3 := hx9 3
      clear hx9
      go_wp2_with fail
      refine (dominates_yes f w.heap.size _ _ _ (HPW.out _ HB9.out).1 (HPW.out _ HB9.out).2.1 (Nat.le_trans HB.out.size HB9.out.size) HID.out z y o s H0.out HO.out hzl hyl HS1.out).mono ?_
      rintro e w10 ⟨rfl, hb10⟩
      have HB10 := hideI (HB9.out.trans (hb10.mono HB9.out.size))
      clear hb10 q0 q1 q2 q3
      have hx10 := (HPW.out _ HB10.out).2.2
      have q0 := hx10 0
      have q1 := hx10 1
      have q2 := hx10 2
      have q3 := hx10 3
      clear hx10
      go_wp2_with fail
      refine (dominates_yes f w.heap.size _ _ _ (HPW.out _ HB10.out).1 (HPW.out _ HB10.out).2.1 (Nat.le_trans HB.out.size HB10.out.size) HID.out z m o (r && s) H0.out HO.out hzl hml HT1.out).mono ?_
      rintro e w11 ⟨rfl, hb11⟩
      have HB11 := hideI (HB10.out.trans (hb11.mono HB10.out.size))
      clear hb11 q0 q1 q2 q3
      have hx11 := (HPW.out _ HB11.out).2.2
      have q0 := hx11 0
      have q1 := hx11 1
      have q2 := hx11 2
      have q3 := hx11 3
      clear hx11
      go_wp2_with fail
      have HB12a : Hid (Below W.heap.size W (w11.alloc (.cells #[.int .i64 y, .int .i64 x, .int .i64 m] 3))) := HB11.out.alloc HB11.out.size _
      refine (domMeet_some f w.heap.size _ _ _ (HPW.out _ HB12a.out).1 (HPW.out _ HB12a.out).2.1 (Nat.le_trans HB.out.size HB12a.out.size) HID.out [(y : Int), (x : Int), (m : Int)] _ _ _ _ H0.out (ints3 w11 y x m) (Nat.le_refl _) (by simp) (by simp)).mono ?_
      rintro e w12 ⟨o2, ho2, hcase⟩
      obtain rfl := HO.out.one ho2
      rcases hcase with ⟨⟨v, hv, hbad⟩, _⟩ | ⟨_, m2, rfl, hmo2, hmm2, _, hb12⟩
      · exfalso
        have hall2 : ∀ k : Nat, k ∈ o → okB o f.blocks.length (k : Int) = true := fun k hk => by
          have := ho2.range (look_ends H0.out) hn0 k hk
          simp [okB, isBlockB, hk]
          omega
        simp only [List.mem_cons, List.not_mem_nil, or_false] at hv
        rcases hv with rfl | rfl | rfl
        · rw [hall2 y HYO.out] at hbad; cases hbad
        · rw [hall2 x HXO.out] at hbad; cases hbad
        · rw [hall2 m HMO.out] at hbad; cases hbad
      · have hmm3 : ∀ u, OverP f.blocks o u m2 ↔ OverP f.blocks o u y ∧ OverP f.blocks o u x ∧ OverP f.blocks o u m := fun u => by have := hmm2 u; simpa using this
        have h1 : OverP f.blocks o m2 m := ((hmm3 m2).1 (OverP.refl hmo2)).2.2
        have h2 : OverP f.blocks o m m2 := (hmm3 m).2 ⟨HP2.out, HP1.out, OverP.refl HMO.out⟩
        obtain rfl := HAN.out m2 m h1 h2
        have HB12 := hideI (HB12a.out.trans (hb12.mono HB12a.out.size))
        have hee : ((m2 : Int) == (m2 : Int)) = true := by simp
        clear hb12 hmm2 hmm3 h1 h2 ho2 hmo2 q0 q1 q2 q3
        cases r <;> cases s <;>
          (go_wp2
           go_ret
           exact ⟨rfl, HB.out.trans (HB12.out.mono HB.out.size)⟩)
  · have H0 := hideI h0
    have hb : ((lookM f).1 != 0) = true := by simpa using h0
    clear h0
    go_wp2_with (first
      | (go_at_call 37; go_must (refine (domMeet_no f w.heap.size _ _ _ (HPW.out _ ((Below.refl _ W).alloc (Nat.le_refl _) _)).1 (HPW.out _ ((Below.refl _ W).alloc (Nat.le_refl _) _)).2.1 (by simp; omega) HID.out _ H0.out).mono ?_); rintro e w6 ⟨rfl, hb6⟩; have HB6 : Hid (Below W.heap.size W w6) := ((Below.refl _ W).alloc (Nat.le_refl _) _).trans (hb6.mono (by simp)); clear hb6))
    go_ret
    exact ⟨rfl, HB.out.trans (HB6.out.mono HB.out.size)⟩

theorem u16_nat {x : Int} (h : (Lit.int .u16 x).wf = true) : ∃ a : Nat, x = (a : Int) ∧ a < 65536 := by
  have h3 : IntKind.u16.min ≤ x ∧ x ≤ IntKind.u16.max := by simpa [Lit.wf] using h
  have h4 : 0 ≤ x ∧ x ≤ 65535 := h3
  exact ⟨x.toNat, by omega, by omega⟩

theorem walk (f : FuncM) (pv bv : Value) (a b c : Nat) (w : World) (hF : FnIn w f pv bv) (ha : a < 65536) (hb : b < 65536) (hc : c < 65536) :
    Calls Try.prog 13 #[.agg #[pv, .int .i64 f.arrays, .int .i64 f.cells, bv], .int .u16 a, .int .u16 b, .int .u16 c] w fun e w' => e = .returned (.bool true) ∧ Below w.heap.size w w' := by
  by_cases h : 0 < f.blocks.length ∧ f.blocks.length ≤ 200
  · exact walk_in f pv bv a b c w hF h.1 h.2 ha hb hc
  · exact walk_out f pv bv a b c w hF (by omega)

set_option maxRecDepth 100000 in
theorem lifted (os : Os) (started : os.Started) (H : Type) (enc : TypeId × Value → H) :
    ReturnsInHanded {} Try.checked os 13 .any (Rows.domMetSpec.pre6 enc Try.prog Try.f13 Rows.domMetRow.domain false) (Rows.domMetSpec.post enc Try.prog Try.f13 false true false false) := by
  refine returnsInHanded_of_change_sized (C := Try.checked) own started (by kernel_rfl) Try.func13
    (ChangeSpec.witness6 (enc := enc) (C := Try.checked) false ⟨#[], #[.agg #[.slice none 0 0, .int .i64 0, .int .i64 0, .slice none 0 0], .int .u16 0, .int .u16 0, .int .u16 0], []⟩ 8 (by kernel_rfl) (by kernel_rfl) (by kernel_rfl) (by kernel_rfl)) ?_
  intro W base args ds gs before hval0 hW hcnd hsz _
  have hval : ∀ (j : Nat) t v, Try.f13.params[j]? = some t → args[j]? = some v → Value.okWide Try.prog W .any base t v := hval0
  have hW' := hW
  obtain ⟨p, q, hA0, hV, rfl, hfz, hnd⟩ := hW
  have hA : DataW.TrodAll enc Try.prog W 0 (fun _ => true) true Try.f13.params.toList args.toList ds p := hA0
  rw [Try.params13] at hA hval
  obtain ⟨v0, vs0, d0, ds0, p0, q0, hargs, rfl, rfl, h0, r0⟩ := trodAll_cons hA
  obtain ⟨v1, vs1, d1, ds1, p1, q1, rfl, rfl, rfl, h1, r1⟩ := trodAll_cons r0
  obtain ⟨v2, vs2, d2, ds2, p2, q2, rfl, rfl, rfl, h2, r2⟩ := trodAll_cons r1
  obtain ⟨v3, vs3, d3, ds3, p3, q3, rfl, rfl, rfl, h3, r3⟩ := trodAll_cons r2
  obtain ⟨rfl, rfl, rfl⟩ := trodAll_nil r3
  obtain rfl : args = #[v0, v1, v2, v3] := by cases args; simp_all
  obtain ⟨rfl, rfl⟩ := trodVars_none hV
  obtain ⟨f, pv, bv, rfl, hF⟩ := open_func (hval 0 25 v0 rfl rfl) h0 hsz (j := 0) rfl rfl
  obtain ⟨x1, rfl, _, _, w1⟩ := open_int Try.underlying48 (hval 1 48 v1 rfl rfl) h1
  obtain ⟨x2, rfl, _, _, w2⟩ := open_int Try.underlying48 (hval 2 48 v2 rfl rfl) h2
  obtain ⟨x3, rfl, _, _, w3⟩ := open_int Try.underlying48 (hval 3 48 v3 rfl rfl) h3
  obtain ⟨a, rfl, ha⟩ := u16_nat w1
  obtain ⟨b, rfl, hb⟩ := u16_nat w2
  obtain ⟨c, rfl, hc⟩ := u16_nat w3
  clear hA0 hval0
  refine (walk f pv bv a b c W hF ha hb hc).mono fun e W' ⟨he, hg⟩ => ?_
  subst he
  exact ⟨_, rfl, law_post (by kernel_rfl) hW' rfl (by kernel_rfl) Try.underlying4 rfl rfl rfl (by rw [Try.params13]; decide +kernel) hg⟩

theorem over : Rows.domMetRow.holds Try.pinned (OpenSpec.ofChange Rows.domMetSpec) :=
  OpenClaim.holds_of_wide 13 Try.f13 rfl rfl rfl rfl rfl rfl rfl ⟨rfl, rfl, rfl, rfl, rfl⟩ rfl rfl rfl rfl rfl (by kernel_rfl) Try.func13 (by kernel_rfl)
    (of_decide_eq_true (by kernel_rfl)) (by unfold Func.isWrapper; first | (rw [if_pos (by decide +kernel)]; kernel_rfl) | (rw [if_neg (by decide +kernel)]; exact ⟨rfl, rfl⟩))
    (fun os started H enc _ => lifted os started H enc)

theorem proved : Rows.DomMetSaid := over
#print axioms proved
end Go.Proofs.Ytclbhbnidodmdaa.domMet
