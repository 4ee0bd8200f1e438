/- (flow).comeTo, (flow).isBlock, (tree).dominates, dom.Dominates. -/
import Derived.Test.YtclbhbnidodmdaaDTreeOf
import Derived.Test.YtclbhbnidodmdaaRWithout
namespace Go.Proofs.Ytclbhbnidodmdaa
open Go.RowKit Go.Maps

/-- a dominates b: each way from block 0 to b goes through a -/
def OverP (bs : List BlockM) (o : List Nat) (a b : Nat) : Prop := a ∈ o ∧ b ∈ o ∧ ¬ ReachW bs (a : Int) b

theorem way_reach {bs : List BlockM} {pl : Nat → Nat} {x b : Nat} : (∃ k, Way (succM bs) pl x b k) ↔ ReachW bs (x : Int) b := by
  constructor
  · rintro ⟨k, w⟩
    induction w with
    | start h => exact .start (by omega)
    | fwd _ e n _ ih => exact .step ih e (by omega)
    | back _ e n _ ih => exact .step ih e (by omega)
  · intro h
    induction h with
    | start h => exact ⟨0, .start (by omega)⟩
    | step _ hx hg ih =>
      obtain ⟨k, w⟩ := ih
      exact w.next hx (by omega)

theorem dom_reach {bs : List BlockM} {pl : Nat → Nat} {x b : Nat} : Dom (succM bs) pl x b ↔ ¬ ReachW bs (x : Int) b := by
  rw [← way_reach (pl := pl)]
  exact ⟨fun h ⟨k, w⟩ => h k w, fun h k w => h ⟨k, w⟩⟩

theorem over_anc {bs : List BlockM} {o : List Nat} {pl : Nat → Nat} {par : Nat → Option Nat} (hO : Ord (succM bs) o pl) (hD : Done (succM bs) o pl par) {a b : Nat} (hb : b ∈ o) : OverP bs o a b ↔ Anc par a b := by
  unfold OverP
  rw [← dom_reach (pl := pl), ← hD.is b hb a]
  exact ⟨fun h => h.2.2, fun h => ⟨hD.tree.anc_mem hO h (hD.grown b hb), hb, h⟩⟩

theorem OverP.refl {bs : List BlockM} {o : List Nat} {a : Nat} (h : a ∈ o) : OverP bs o a a := by
  refine ⟨h, h, fun hr => ?_⟩
  cases hr with
  | start h => exact h rfl
  | step _ _ hg => exact hg rfl

set_option maxRecDepth 100000 in
set_option maxHeartbeats 1000000 in
theorem comeTo_any (bs : List BlockM) (o : List Nat) (pl : Nat → Nat) (B gp go capo gl b : Nat) (vs : List Value) (w : World) (hF : FlowAt w B bs o pl gp vs go capo gl) (hB : B ≤ w.heap.size) (hb : b < bs.length) (hn5 : bs.length ≤ 512) :
    Calls Try.prog 64 #[.agg #[.slice (some ⟨gp, 0, none⟩) bs.length bs.length, .slice (some ⟨go, 0, none⟩) o.length capo, .slice (some ⟨gl, 0, none⟩) bs.length bs.length], .int .i64 b] w fun e w' => e = .returned (.bool (decide (b ∈ o))) ∧ Below w.heap.size w w' := by
  have HB0 : Hid (Below w.heap.size w (w.alloc (.cells #[.slice (some ⟨gp, 0, none⟩) bs.length bs.length, .slice (some ⟨go, 0, none⟩) o.length capo, .slice (some ⟨gl, 0, none⟩) bs.length bs.length] 99))) := (Below.refl _ _).alloc (Nat.le_refl _) _
  have c1 := (hF.kept (HB0.out.mono hB)).at hb
  obtain ⟨z, hz⟩ : ∃ z, z = placeI o pl b := ⟨_, rfl⟩
  rw [← hz] at c1
  have hzb : (z != -1) = decide (b ∈ o) := by
    rw [hz]
    unfold placeI
    by_cases hm : b ∈ o
    · rw [if_pos hm]; simp [hm]; try omega
    · rw [if_neg hm]; simp [hm]
  have HZ := hideI hzb
  clear hF hz hzb
  go_enter Try.func64, Try.ntmps64
  go_wp2
  go_ret
  exact ⟨by rw [HZ.out]; rfl, HB0.out⟩

def isBlockB (n : Nat) (x : Int) : Bool := decide (0 ≤ x) && decide (x < n)

theorem isBlockB_nat {n : Nat} {x : Int} (h : isBlockB n x = true) : ∃ a : Nat, x = (a : Int) ∧ a < n := by
  unfold isBlockB at h
  simp only [Bool.and_eq_true, decide_eq_true_eq] at h
  exact ⟨x.toNat, by omega, by omega⟩

set_option maxRecDepth 100000 in
set_option maxHeartbeats 1000000 in
theorem isBlock_any (n lo : Nat) (x : Int) (gp go capo gl : Nat) (w : World) (hn5 : n ≤ 512) :
    Calls Try.prog 60 #[.agg #[.slice (some ⟨gp, 0, none⟩) n n, .slice (some ⟨go, 0, none⟩) lo capo, .slice (some ⟨gl, 0, none⟩) n n], .int .i64 x] w fun e w' => e = .returned (.bool (isBlockB n x)) ∧ Below w.heap.size w w' := by
  have HB0 : Hid (Below w.heap.size w (w.alloc (.cells #[.slice (some ⟨gp, 0, none⟩) n n, .slice (some ⟨go, 0, none⟩) lo capo, .slice (some ⟨gl, 0, none⟩) n n] 99))) := (Below.refl _ _).alloc (Nat.le_refl _) _
  by_cases h0 : 0 ≤ x
  · by_cases h1 : x < n
    · go_enter Try.func60, Try.ntmps60
      go_wp2
      go_ret
      exact ⟨by simp [isBlockB, h0, h1], HB0.out⟩
    · go_enter Try.func60, Try.ntmps60
      go_wp2
      go_ret
      exact ⟨by simp [isBlockB, h0, h1]; try omega, HB0.out⟩
  · go_enter Try.func60, Try.ntmps60
    go_wp2
    go_ret
    exact ⟨by simp [isBlockB, h0]; try omega, HB0.out⟩

set_option maxRecDepth 100000 in
set_option maxHeartbeats 2000000 in
theorem dominates_any (bs : List BlockM) (o : List Nat) (pl : Nat → Nat) (par : Nat → Option Nat) (B gp go capo gl gi a b : Nat) (vs : List Value) (r : Bool) (w : World) (hT : TreeAt w B bs o pl par gp vs go capo gl gi) (hK : TreeOk bs o pl par) (hD : Done (succM bs) o pl par) (ha : a < bs.length) (hb : b < bs.length) (hr : r = true ↔ OverP bs o a b) :
    Calls Try.prog 61 #[.agg #[.slice (some ⟨gp, 0, none⟩) bs.length bs.length, .slice (some ⟨go, 0, none⟩) o.length capo, .slice (some ⟨gl, 0, none⟩) bs.length bs.length, .slice (some ⟨gi, 0, none⟩) bs.length bs.length], .int .i64 a, .int .i64 b] w fun e w' => e = .returned (.bool r) ∧ Below w.heap.size w w' := by
  have HK := hideI hK
  have HD := hideI hD
  have HR := hideI hr
  obtain ⟨W, hW⟩ : ∃ W : World, W = w.alloc (.cells #[.slice (some ⟨gp, 0, none⟩) bs.length bs.length, .slice (some ⟨go, 0, none⟩) o.length capo, .slice (some ⟨gl, 0, none⟩) bs.length bs.length, .slice (some ⟨gi, 0, none⟩) bs.length bs.length] 101) := ⟨_, rfl⟩
  have HBW : Hid (Below w.heap.size w W) := by show Below _ _ _; rw [hW]; exact (Below.refl _ _).alloc (Nat.le_refl _) _
  have HTW : Hid (TreeAt W B bs o pl par gp vs go capo gl gi) := hT.kept HBW.out
  have HXW : Hid (W.heap[w.heap.size]? = some (.cells #[.slice (some ⟨gp, 0, none⟩) bs.length bs.length, .slice (some ⟨go, 0, none⟩) o.length capo, .slice (some ⟨gl, 0, none⟩) bs.length bs.length, .slice (some ⟨gi, 0, none⟩) bs.length bs.length] 101 (0, 0))) := by show _ = _; rw [hW]; exact heap_alloc_new w _
  have hwW : w.heap.size < W.heap.size := lt_of_heap HXW.out
  have hBW : B ≤ W.heap.size := Nat.le_trans HTW.out.lt.1 (Nat.le_of_lt HTW.out.lt.2)
  have HW0 := hideI hW
  have hn5 := hK.n5
  clear hT hK hD hr hW
  by_cases hma : a ∈ o
  · have HMA : Hid (decide (a ∈ o) = true) := decide_eq_true hma
    have HA := hideI hma
    clear hma
    by_cases hmb : b ∈ o
    · have HMB : Hid (decide (b ∈ o) = true) := decide_eq_true hmb
      have HB := hideI hmb
      clear hmb
      go_enter Try.func61, Try.ntmps61
      go_upto_region 1 with fail
      rw [← HW0.out]
      have hx := row_cells HXW.out rfl
      have q0 := hx 0
      have q1 := hx 1
      have q2 := hx 2
      have q3 := hx 3
      clear hx
      go_wp2_with (first
        | (go_at_call_of 64 (Value.int IntKind.i64 (a : Int)); go_must (refine (comeTo_any bs o pl B gp go capo gl a vs _ HTW.out.flow hBW ha hn5).mono ?_); rw [HMA.out]; rintro e w2 ⟨rfl, hb2⟩; have HB2 := hideI hb2; have HT2 := hideI (HTW.out.kept hb2); have hx2 := row_cells HXW.out (HB2.out.block _ hwW); clear q0 q1 q2 q3; have q0 := hx2 0; have q1 := hx2 1; have q2 := hx2 2; have q3 := hx2 3; clear hb2 hx2)
        | (go_at_call_of 64 (Value.int IntKind.i64 (b : Int)); go_must (refine (comeTo_any bs o pl B gp go capo gl b vs _ HT2.out.flow (Nat.le_trans hBW HB2.out.size) hb hn5).mono ?_); rw [HMB.out]; rintro e w3 ⟨rfl, hb3⟩; have HB3 := hideI (HB2.out.trans (hb3.mono HB2.out.size)); have HT3 := hideI (HT2.out.kept hb3); have hx3 := row_cells HXW.out (HB3.out.block _ hwW); clear q0 q1 q2 q3; have q0 := hx3 0; have q1 := hx3 1; have q2 := hx3 2; have q3 := hx3 3; clear hb3 hx3)
        | (go_at_call 65; go_must (refine (meet_any bs o pl par B gp go capo gl gi a b vs _ HT3.out HK.out (HD.out.grown a HA.out) (HD.out.grown b HB.out)).mono ?_); rintro e w4 ⟨m, rfl, hgm, hm, hb4⟩; have HGM := hideI hgm; have HM := hideI hm; have HB4 := hideI (HB3.out.trans (hb4.mono HB3.out.size)); clear hb4 hgm hm))
      go_ret
      refine ⟨?_, HBW.out.trans (HB4.out.mono HBW.out.size)⟩
      have h1 : ((m : Int) == (a : Int)) = r := by
        cases r with
        | true =>
          have h2 := (over_anc HK.out.ord HD.out HB.out).1 (HR.out.1 rfl)
          have h3 := (HM.out a).2 ⟨.refl, h2⟩
          have h4 := ((HM.out m).1 .refl).1
          have := HK.out.tree.antisymm h3 h4
          simp [this]
        | false =>
          rw [beq_eq_false_iff_ne]
          intro e
          have e2 : m = a := by omega
          subst e2
          have h4 := ((HM.out m).1 .refl).2
          have := HR.out.2 ((over_anc HK.out.ord HD.out HB.out).2 h4)
          cases this
      exact congrArg (fun q => Ending.returned (.bool q)) h1
    · have HMB : Hid (decide (b ∈ o) = false) := decide_eq_false hmb
      have HRF : Hid (r = false) := by show _ = _; cases r with | false => rfl | true => exact absurd (HR.out.1 rfl).2.1 hmb
      clear hmb
      go_enter Try.func61, Try.ntmps61
      go_upto_region 1 with fail
      rw [← HW0.out]
      have hx := row_cells HXW.out rfl
      have q0 := hx 0
      have q1 := hx 1
      have q2 := hx 2
      have q3 := hx 3
      clear hx
      go_wp2_with (first
        | (go_at_call_of 64 (Value.int IntKind.i64 (a : Int)); go_must (refine (comeTo_any bs o pl B gp go capo gl a vs _ HTW.out.flow hBW ha hn5).mono ?_); rw [HMA.out]; rintro e w2 ⟨rfl, hb2⟩; have HB2 := hideI hb2; have HT2 := hideI (HTW.out.kept hb2); have hx2 := row_cells HXW.out (HB2.out.block _ hwW); clear q0 q1 q2 q3; have q0 := hx2 0; have q1 := hx2 1; have q2 := hx2 2; have q3 := hx2 3; clear hb2 hx2)
        | (go_at_call_of 64 (Value.int IntKind.i64 (b : Int)); go_must (refine (comeTo_any bs o pl B gp go capo gl b vs _ HT2.out.flow (Nat.le_trans hBW HB2.out.size) hb hn5).mono ?_); rw [HMB.out]; rintro e w3 ⟨rfl, hb3⟩; have HB3 := hideI (HB2.out.trans (hb3.mono HB2.out.size)); clear hb3))
      go_ret
      exact ⟨by rw [HRF.out]; rfl, HBW.out.trans (HB3.out.mono HBW.out.size)⟩
  · have HMA : Hid (decide (a ∈ o) = false) := decide_eq_false hma
    have HRF : Hid (r = false) := by show _ = _; cases r with | false => rfl | true => exact absurd (HR.out.1 rfl).1 hma
    clear hma
    go_enter Try.func61, Try.ntmps61
    go_upto_region 1 with fail
    rw [← HW0.out]
    have hx := row_cells HXW.out rfl
    have q0 := hx 0
    have q1 := hx 1
    have q2 := hx 2
    have q3 := hx 3
    clear hx
    go_wp2_with (first
      | (go_at_call_of 64 (Value.int IntKind.i64 (a : Int)); go_must (refine (comeTo_any bs o pl B gp go capo gl a vs _ HTW.out.flow hBW ha hn5).mono ?_); rw [HMA.out]; rintro e w2 ⟨rfl, hb2⟩; have HB2 := hideI hb2; have HT2 := hideI (HTW.out.kept hb2); have hx2 := row_cells HXW.out (HB2.out.block _ hwW); clear q0 q1 q2 q3; have q0 := hx2 0; have q1 := hx2 1; have q2 := hx2 2; have q3 := hx2 3; clear hb2 hx2))
    go_ret
    exact ⟨by rw [HRF.out]; rfl, HBW.out.trans (HB2.out.mono HBW.out.size)⟩

end Go.Proofs.Ytclbhbnidodmdaa
