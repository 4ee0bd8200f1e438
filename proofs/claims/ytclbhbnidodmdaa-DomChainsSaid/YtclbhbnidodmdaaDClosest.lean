/- (tree).grown and (tree).closest. -/
import Derived.Test.YtclbhbnidodmdaaDTree
namespace Go.Proofs.Ytclbhbnidodmdaa
open Go.RowKit Go.Maps

def growB (par : Nat → Option Nat) (b : Nat) : Bool := b == 0 || (par b).isSome

theorem growB_yes {par : Nat → Option Nat} {b : Nat} (h : Grown par b) : growB par b = true := by
  unfold growB
  rcases h with rfl | ⟨d, h⟩
  · rfl
  · simp [h]

theorem growB_no {par : Nat → Option Nat} {b : Nat} (h : ¬ Grown par b) : growB par b = false := by
  unfold growB
  cases hp : par b with
  | some d => exact absurd (.inr ⟨d, hp⟩) h
  | none =>
    have : b ≠ 0 := fun e => h (.inl e)
    simp [this]

set_option maxRecDepth 100000 in
set_option maxHeartbeats 1000000 in
theorem grown_any (bs : List BlockM) (o : List Nat) (pl : Nat → Nat) (par : Nat → Option Nat) (B gp go capo gl gi b : Nat) (vs : List Value) (w : World) (hT : TreeAt w B bs o pl par gp vs go capo gl gi) (hb : b < bs.length) (hn5 : bs.length ≤ 512) :
    Calls Try.prog 101 #[.agg #[.slice (some ⟨gp, 0, none⟩) bs.length bs.length, .slice (some ⟨go, 0, none⟩) o.length capo, .slice (some ⟨gl, 0, none⟩) bs.length bs.length, .slice (some ⟨gi, 0, none⟩) bs.length bs.length], .int .i64 b] w fun e w' => e = .returned (.bool (growB par b)) ∧ Below w.heap.size w w' := by
  have HB0 : Hid (Below w.heap.size w (w.alloc (.cells #[.slice (some ⟨gp, 0, none⟩) bs.length bs.length, .slice (some ⟨go, 0, none⟩) o.length capo, .slice (some ⟨gl, 0, none⟩) bs.length bs.length, .slice (some ⟨gi, 0, none⟩) bs.length bs.length] 101))) := (Below.refl _ _).alloc (Nat.le_refl _) _
  have c1 := (hT.kept HB0.out).top hb
  clear hT
  rcases b with _ | b
  · clear c1
    go_enter Try.func101, Try.ntmps101
    go_wp2
    go_ret
    exact ⟨rfl, HB0.out⟩
  · have hd : (((b + 1 : Nat) : Int) == 0) = false := by simp; omega
    cases hp : par (b + 1) with
    | none =>
      rw [hp] at c1
      simp only [topI] at c1
      go_enter Try.func101, Try.ntmps101
      go_wp2
      go_ret
      exact ⟨by simp [growB, hp]; omega, HB0.out⟩
    | some d =>
      rw [hp] at c1
      simp only [topI] at c1
      have hd2 : ((d : Int) != -1) = true := by rw [bne_iff_ne]; omega
      go_enter Try.func101, Try.ntmps101
      go_wp2
      go_ret
      exact ⟨by simp [growB, hp], HB0.out⟩

/-- where those of a list meet that the tree has -/
def PartIs (par : Nat → Option Nat) (l : List Nat) : Option Nat → Prop
  | none => ∀ p ∈ l, ¬ Grown par p
  | some d => Grown par d ∧ ∀ x, Anc par x d ↔ ∀ p ∈ l, Grown par p → Anc par x p

section
variable {par : Nat → Option Nat} {l : List Nat} {k p : Nat} {dd : Option Nat}
theorem PartIs.start : PartIs par (l.take 0) none := by
  intro p hp
  simp at hp

theorem mem_take_one (hy : l[k]? = some p) {x : Nat} : x ∈ l.take (k + 1) ↔ x ∈ l.take k ∨ x = p := by
  rw [List.take_add_one, hy]
  simp

theorem PartIs.skip (h : PartIs par (l.take k) dd) (hy : l[k]? = some p) (hn : ¬ Grown par p) : PartIs par (l.take (k + 1)) dd := by
  cases dd with
  | none =>
    intro x hx
    rcases (mem_take_one hy).1 hx with h1 | h1
    · exact h x h1
    · rw [h1]; exact hn
  | some d =>
    refine ⟨h.1, fun x => (h.2 x).trans ⟨fun h2 q hq hg => ?_, fun h2 q hq hg => h2 q ((mem_take_one hy).2 (.inl hq)) hg⟩⟩
    rcases (mem_take_one hy).1 hq with h1 | h1
    · exact h2 q h1 hg
    · subst h1; exact absurd hg hn

theorem PartIs.first (h : PartIs par (l.take k) none) (hy : l[k]? = some p) (hg : Grown par p) : PartIs par (l.take (k + 1)) (some p) := by
  refine ⟨hg, fun x => ⟨fun h2 q hq hgq => ?_, fun h2 => h2 p ((mem_take_one hy).2 (.inr rfl)) hg⟩⟩
  rcases (mem_take_one hy).1 hq with h1 | h1
  · exact absurd hgq (h q h1)
  · rw [h1]; exact h2

theorem PartIs.meet {d m : Nat} (h : PartIs par (l.take k) (some d)) (hy : l[k]? = some p) (hg : Grown par p) (hm : Meets par d p m) (hgm : Grown par m) : PartIs par (l.take (k + 1)) (some m) := by
  refine ⟨hgm, fun x => (hm x).trans ⟨fun h2 q hq hgq => ?_, fun h2 => ⟨(h.2 x).2 fun q hq hgq => h2 q ((mem_take_one hy).2 (.inl hq)) hgq, h2 p ((mem_take_one hy).2 (.inr rfl)) hg⟩⟩⟩
  rcases (mem_take_one hy).1 hq with h1 | h1
  · exact (h.2 x).1 h2.1 q h1 hgq
  · rw [h1]; exact h2.2

theorem mem_preds {bs : List BlockM} {b p : Nat} : p ∈ predsTo bs bs.length b ↔ p < bs.length ∧ b ∈ succM bs p := by
  unfold predsTo
  rw [List.mem_filter, List.mem_range]
  simp

theorem PartIs.closest {bs : List BlockM} {o : List Nat} {pl : Nat → Nat} {b : Nat} (hK : TreeOk bs o pl par) (h : PartIs par (predsTo bs bs.length b) dd) (he : ∃ p, Grown par p ∧ b ∈ succM bs p) : ∃ d, dd = some d ∧ Closest (succM bs) par b d := by
  cases dd with
  | none =>
    obtain ⟨p, hg, hs⟩ := he
    exact absurd hg (h p (mem_preds.2 ⟨hK.range p (hK.tree.mem hK.ord hg), hs⟩))
  | some d =>
    refine ⟨d, rfl, fun x => (h.2 x).trans ⟨fun h2 p hg hs => h2 p (mem_preds.2 ⟨hK.range p (hK.tree.mem hK.ord hg), hs⟩) hg, fun h2 p hp hg => h2 p hg (mem_preds.1 hp).2⟩⟩
end

def ClosestPost (bs : List BlockM) (par : Nat → Option Nat) (b : Nat) (w : World) (e : Ending) (w' : World) : Prop :=
  ∃ d : Nat, e = .returned (.int .i64 d) ∧ Closest (succM bs) par b d ∧ Below w.heap.size w w'

set_option maxRecDepth 100000 in
set_option maxHeartbeats 2000000 in
theorem closest_any (bs : List BlockM) (o : List Nat) (pl : Nat → Nat) (par : Nat → Option Nat) (B gp go capo gl gi b : Nat) (vs : List Value) (w : World) (hT : TreeAt w B bs o pl par gp vs go capo gl gi) (hK : TreeOk bs o pl par) (hb : b < bs.length) (he : ∃ p, Grown par p ∧ b ∈ succM bs p) :
    Calls Try.prog 93 #[.agg #[.slice (some ⟨gp, 0, none⟩) bs.length bs.length, .slice (some ⟨go, 0, none⟩) o.length capo, .slice (some ⟨gl, 0, none⟩) bs.length bs.length, .slice (some ⟨gi, 0, none⟩) bs.length bs.length], .int .i64 b] w (ClosestPost bs par b w) := by
  have HK := hideI hK
  have HE := hideI he
  obtain ⟨W, hW⟩ : ∃ W : World, W = w.alloc (.cells #[.slice (some ⟨gp, 0, none⟩) bs.length bs.length, .slice (some ⟨go, 0, none⟩) o.length capo, .slice (some ⟨gl, 0, none⟩) bs.length bs.length, .slice (some ⟨gi, 0, none⟩) bs.length bs.length] 101) := ⟨_, rfl⟩
  have HBW : Hid (Below w.heap.size w W) := by show Below _ _ _; rw [hW]; exact (Below.refl _ _).alloc (Nat.le_refl _) _
  have HTW : Hid (TreeAt W B bs o pl par gp vs go capo gl gi) := hT.kept HBW.out
  have HXW : Hid (W.heap[w.heap.size]? = some (.cells #[.slice (some ⟨gp, 0, none⟩) bs.length bs.length, .slice (some ⟨go, 0, none⟩) o.length capo, .slice (some ⟨gl, 0, none⟩) bs.length bs.length, .slice (some ⟨gi, 0, none⟩) bs.length bs.length] 101 (0, 0))) := by show _ = _; rw [hW]; exact heap_alloc_new w _
  have hwW : w.heap.size < W.heap.size := lt_of_heap HXW.out
  have hx := row_cells HXW.out rfl
  have q0 := hx 0
  obtain ⟨v, hc, hown⟩ := HTW.out.flow.list hb
  obtain ⟨l, hl⟩ : ∃ l, l = predsTo bs bs.length b := ⟨_, rfl⟩
  rw [← hl] at hown
  have hll : l.length ≤ 512 := by rw [hl]; exact Nat.le_trans (predsTo_len _ _ _) hK.n5
  have HL := hideI hl
  have HINT := hideI (nat_ints hown (by omega))
  obtain ⟨PA, pc2, e1, _, hpx⟩ := HINT.out
  rw [List.length_map] at e1 hpx
  subst e1
  have HPX := hideI hpx
  have hn5 := hK.n5
  rw [hW] at hc q0
  have HW0 := hideI hW
  clear hT hK he hx hl hpx hown hW
  go_enter Try.func93, Try.ntmps93
  go_wp2
  rw [← HW0.out]
  clear HW0 q0 hc
  go_loopw [5, 15] (fun u v wr => ∃ (k : Nat) (dd : Option Nat), k ≤ l.length ∧ u = .int .i64 (topI dd) ∧ v = .int .i64 k ∧ Hid (PartIs par (l.take k) dd) ∧ Hid (Below W.heap.size W wr)) (fun _ v _ => l.length - (intOf v).toNat)
  case atStart => exact ⟨0, none, Nat.zero_le _, rfl, rfl, hideI PartIs.start, hideI (Below.refl _ _)⟩
  case round =>
    obtain ⟨k, dd, hk, rfl, rfl, HP, HBr⟩ := hrel
    by_cases hlt : k < l.length
    · obtain ⟨p, hp⟩ : ∃ p, l[k]? = some p := ⟨_, List.getElem?_eq_getElem hlt⟩
      have hpl : p < bs.length := by
        have := List.mem_of_getElem? hp
        rw [HL.out] at this
        exact (mem_preds.1 this).1
      obtain ⟨pb, po, rfl, hpb, d1⟩ := HPX.out k hlt
      rw [List.getElem?_map, hp] at d1
      simp only [Option.map_some, Option.getD_some] at d1
      have d2 := (HBr.out.cell (p := ⟨pb, po + k, none⟩) hpb).trans d1
      have hx := row_cells HXW.out (HBr.out.block _ hwW)
      have q0 := hx 0
      have q1 := hx 1
      have q2 := hx 2
      have q3 := hx 3
      have HTr := hideI (HTW.out.kept HBr.out)
      have HPP := hideI hp
      clear d1 hx hp
      by_cases hg : Grown par p
      · have HG := hideI hg
        have HGB := hideI (growB_yes hg)
        clear hg
        cases dd with
        | none =>
          simp only [topI]
          go_wp2_with (go_at_call 101; go_must (refine (grown_any bs o pl par B gp go capo gl gi p vs _ HTr.out hpl hn5).mono ?_); rw [HGB.out]; rintro e w2 ⟨rfl, hb2⟩; have HB2 := hideI (HBr.out.trans (hb2.mono HBr.out.size)); clear hb2)
          go_roundw
          case rel => exact ⟨k + 1, some p, by omega, rfl, by go_num, hideI (HP.out.first HPP.out HG.out), HB2⟩
          case measure => simp [intOf]; omega
        | some d =>
          simp only [topI]
          have hd : ((d : Int) == -1) = false := by rw [beq_eq_false_iff_ne]; omega
          go_wp2_with (first
            | (go_at_call 101; go_must (refine (grown_any bs o pl par B gp go capo gl gi p vs _ HTr.out hpl hn5).mono ?_); rw [HGB.out]; rintro e w2 ⟨rfl, hb2⟩; have HB2 := hideI (HBr.out.trans (hb2.mono HBr.out.size)); have HT2 := hideI (HTr.out.kept hb2); have hx2 := row_cells HXW.out (HB2.out.block _ hwW); have r0 := hx2 0; have r1 := hx2 1; have r2 := hx2 2; have r3 := hx2 3; clear hb2 hx2 q0 q1 q2 q3 d2)
            | (go_at_call 65; go_must (refine (meet_any bs o pl par B gp go capo gl gi d p vs _ HT2.out HK.out HP.out.1 HG.out).mono ?_); rintro e w3 ⟨m, rfl, hgm, hm, hb3⟩; have HGM := hideI hgm; have HM := hideI hm; have HB3 := hideI (HB2.out.trans (hb3.mono HB2.out.size)); clear hb3 hgm hm))
          go_roundw
          case rel => exact ⟨k + 1, some m, by omega, rfl, by go_num, hideI (HP.out.meet HPP.out HG.out HM.out HGM.out), HB3⟩
          case measure => simp [intOf]; omega
      · have HG := hideI hg
        have HGB := hideI (growB_no hg)
        clear hg
        go_wp2_with (go_at_call 101; go_must (refine (grown_any bs o pl par B gp go capo gl gi p vs _ HTr.out hpl hn5).mono ?_); rw [HGB.out]; rintro e w2 ⟨rfl, hb2⟩; have HB2 := hideI (HBr.out.trans (hb2.mono HBr.out.size)); clear hb2)
        go_roundw
        case rel => exact ⟨k + 1, dd, by omega, rfl, by go_num, hideI (HP.out.skip HPP.out HG.out), HB2⟩
        case measure => simp [intOf]; omega
    · have hkl : k = l.length := by omega
      have HP2 : Hid (PartIs par (predsTo bs bs.length b) dd) := by
        have h1 := HP.out
        rw [hkl, List.take_of_length_le (Nat.le_refl _), HL.out] at h1
        exact h1
      obtain ⟨d, rfl, hcl⟩ := HP2.out.closest HK.out HE.out
      have HCL := hideI hcl
      simp only [topI]
      clear hkl hcl
      go_wp2
      go_ret
      exact ⟨d, rfl, HCL.out, HBW.out.trans (HBr.out.mono HBW.out.size)⟩

end Go.Proofs.Ytclbhbnidodmdaa
