/- (tree).grow: round by round, until nothing changes. -/
import Derived.Test.YtclbhbnidodmdaaDClosest
import Derived.Deep.LoopGhost
namespace Go.Proofs.Ytclbhbnidodmdaa
open Go.RowKit Go.Maps

/-- the order as far as it is done stands right -/
def FixTo (bs : List BlockM) (o : List Nat) (par : Nat → Option Nat) (j : Nat) : Prop := ∀ m x, 0 < m → m < j → o[m]? = some x → Fixed (succM bs) par x

theorem FixTo.all {bs : List BlockM} {o : List Nat} {pl : Nat → Nat} {par : Nat → Option Nat} (O : Ord (succM bs) o pl) (h : FixTo bs o par o.length) : ∀ b ∈ o, b ≠ 0 → Fixed (succM bs) par b := by
  intro b hb h0
  have h1 := O.at hb
  have : pl b ≠ 0 := fun e => h0 (O.of_pl_zero hb e)
  exact h (pl b) b (by omega) (O.lt hb) h1

theorem FixTo.start (bs : List BlockM) (o : List Nat) (par : Nat → Option Nat) : FixTo bs o par 1 := fun m x h1 h2 => by omega

theorem FixTo.step {bs : List BlockM} {o : List Nat} {par : Nat → Option Nat} {j x : Nat} (h : FixTo bs o par j) (hx : o[j]? = some x) (hf : Fixed (succM bs) par x) : FixTo bs o par (j + 1) := by
  intro m y h1 h2 hy
  by_cases e : m = j
  · subst e; rw [hx] at hy; cases hy; exact hf
  · exact h m y h1 (by omega) hy

theorem grown_of_below {w w' : World} {r : Option Nat} (h : Below w.heap.size w w') : w.grownBy w' r := ⟨h.os, h.tape, h.output, h.size, fun b hb _ => h.block b hb⟩

/-- the world and the tree, in the middle of a round -/
structure Mid (bs : List BlockM) (o : List Nat) (pl : Nat → Nat) (N r j : Nat) (par : Nat → Option Nat) (ch : Bool) : Prop where
  st : St (succM bs) o pl par r j
  yes : ch = true → r ≤ N
  no : ch = false → FixTo bs o par j

/-- ahead of a round -/
structure Head (bs : List BlockM) (o : List Nat) (pl : Nat → Nat) (N r : Nat) (par : Nat → Option Nat) (ch : Bool) : Prop where
  st : St (succM bs) o pl par r 1
  yes : ch = true → r ≤ N + 1
  no : ch = false → 0 < r ∧ FixTo bs o par o.length

theorem Mid.head {bs : List BlockM} {o : List Nat} {pl : Nat → Nat} {N r : Nat} {par : Nat → Option Nat} {ch : Bool} (O : Ord (succM bs) o pl) (h : Mid bs o pl N r o.length par ch) : Head bs o pl N (r + 1) par ch :=
  ⟨h.st.round O, fun e => by have := h.yes e; omega, fun e => ⟨by omega, h.no e⟩⟩

theorem Mid.same {bs : List BlockM} {o : List Nat} {pl : Nat → Nat} {N r j b d : Nat} {par : Nat → Option Nat} {ch : Bool} (O : Ord (succM bs) o pl) (h : Mid bs o pl N r j par ch) (hj : 0 < j) (hb : o[j]? = some b) (hc : Closest (succM bs) par b d) (e : par b = some d) : Mid bs o pl N r (j + 1) par ch := by
  refine ⟨?_, h.yes, fun e2 => (h.no e2).step hb (hc.fixed e)⟩
  have := h.st.step O hj hb hc
  rwa [putP_self par e] at this

theorem Mid.turn {bs : List BlockM} {o : List Nat} {pl : Nat → Nat} {N r j b d : Nat} {par : Nat → Option Nat} {ch : Bool} (O : Ord (succM bs) o pl) (hN : ∀ x ∈ o, ∀ c ∈ o, ∀ k, Way (succM bs) pl x c k → ∃ k', k' ≤ N ∧ Way (succM bs) pl x c k') (h : Mid bs o pl N r j par ch) (hj : 0 < j) (hb : o[j]? = some b) (hc : Closest (succM bs) par b d) (e : par b ≠ some d) : Mid bs o pl N r (j + 1) (putP par b d) true := by
  refine ⟨h.st.step O hj hb hc, fun _ => ?_, fun e2 => by cases e2⟩
  by_cases hr : N < r
  · exact absurd (h.st.late O hN hr hj hb hc) e
  · omega

theorem Mid.pred {bs : List BlockM} {o : List Nat} {pl : Nat → Nat} {N r j b : Nat} {par : Nat → Option Nat} {ch : Bool} (O : Ord (succM bs) o pl) (h : Mid bs o pl N r j par ch) (hj : 0 < j) (hb : o[j]? = some b) : ∃ p, Grown par p ∧ b ∈ succM bs p := by
  obtain ⟨i, y, hi, hy, hs⟩ := O.ahead j b hj hb
  exact ⟨y, h.st.grown y (Ord.mem hy) (.inr (by rw [O.place i y hy]; exact hi)), hs⟩

def GrowPost (bs : List BlockM) (o : List Nat) (pl : Nat → Nat) (B gp go capo gl gi : Nat) (vs : List Value) (w : World) (e : Ending) (w' : World) : Prop :=
  ∃ par, e = .returned (.tuple #[]) ∧ Done (succM bs) o pl par ∧ TreeAt w' B bs o pl par gp vs go capo gl gi ∧ w.grownBy w' (some gi)

set_option maxRecDepth 100000 in
set_option maxHeartbeats 4000000 in
theorem grow_any (bs : List BlockM) (o : List Nat) (pl : Nat → Nat) (B gp go capo gl gi : Nat) (vs : List Value) (w : World) (hT : TreeAt w B bs o pl (fun _ => none) gp vs go capo gl gi) (hO : Ord (succM bs) o pl) (hR : ∀ x ∈ o, x < bs.length) (hn5 : bs.length ≤ 512) (hol : o.length ≤ bs.length) (hcap : o.length ≤ capo) (hcm : capo ≤ maxLen) :
    Calls Try.prog 84 #[.agg #[.slice (some ⟨gp, 0, none⟩) bs.length bs.length, .slice (some ⟨go, 0, none⟩) o.length capo, .slice (some ⟨gl, 0, none⟩) bs.length bs.length, .slice (some ⟨gi, 0, none⟩) bs.length bs.length]] w (GrowPost bs o pl B gp go capo gl gi vs w) := by
  have HO := hideI hO
  have HR := hideI hR
  obtain ⟨N, hN⟩ := enough (succM bs) o pl
  have HN := hideI hN
  replace hcm : capo ≤ 9223372036854775807 := hcm
  have hol0 : 0 < o.length := (List.getElem?_eq_some_iff.1 hO.zero).1
  obtain ⟨W, hW⟩ : ∃ W : World, W = w.alloc (.cells #[.slice (some ⟨gp, 0, none⟩) bs.length bs.length, .slice (some ⟨go, 0, none⟩) o.length capo, .slice (some ⟨gl, 0, none⟩) bs.length bs.length, .slice (some ⟨gi, 0, none⟩) bs.length bs.length] 101) := ⟨_, rfl⟩
  have HBW : Hid (Below w.heap.size w W) := by show Below _ _ _; rw [hW]; exact (Below.refl _ _).alloc (Nat.le_refl _) _
  have HTW : Hid (TreeAt W B bs o pl (fun _ => none) gp vs go capo gl gi) := hT.kept HBW.out
  have HXW : Hid (W.heap[w.heap.size]? = some (.cells #[.slice (some ⟨gp, 0, none⟩) bs.length bs.length, .slice (some ⟨go, 0, none⟩) o.length capo, .slice (some ⟨gl, 0, none⟩) bs.length bs.length, .slice (some ⟨gi, 0, none⟩) bs.length bs.length] 101 (0, 0))) := by show _ = _; rw [hW]; exact heap_alloc_new w _
  have hgi : gi ≠ w.heap.size := by have := hT.lt.2; omega
  have HGI := hideI hgi
  have hwW : w.heap.size < W.heap.size := lt_of_heap HXW.out
  have HW0 := hideI hW
  clear hT hO hR hN hW hgi
  go_enter Try.func84, Try.ntmps84
  go_wp2
  rw [← HW0.out]
  clear HW0
  go_loopg [2] (N + 3) (fun gk c wr => ∃ (r : Nat) (par : Nat → Option Nat) (ch : Bool), c = .bool ch ∧ gk + r = N + 3 ∧ Hid (Head bs o pl N r par ch) ∧ Hid (TreeAt wr B bs o pl par gp vs go capo gl gi) ∧ Hid (W.grownBy wr (some gi)))
  case atStart => exact ⟨0, _, true, rfl, by omega, hideI ⟨St.start HO.out, (fun _ => by omega), (fun e => by cases e)⟩, HTW, hideI (World.grownBy.refl _ _)⟩
  case round =>
    obtain ⟨r, par, ch, rfl, hgk, HH, HT, HG⟩ := hrel
    cases ch with
    | false =>
      go_wp2
      go_end0
      exact ⟨par, rfl, HH.out.st.done HO.out (HH.out.no rfl).1 ((HH.out.no rfl).2.all HO.out), HT.out, (grown_of_below HBW.out).trans HG.out⟩
    | true =>
      have hr := HH.out.yes rfl
      have HM0 : Hid (Mid bs o pl N r 1 par false) := hideI ⟨HH.out.st, (fun e => by cases e), fun _ => FixTo.start _ _ _⟩
      have hx := row_cells HXW.out (HG.out.block _ hwW (fun e => HGI.out (Option.some.inj e).symm))
      have q1 := hx 1
      clear hx
      have HT0 := HT
      have HG0 := HG
      by_cases hc1 : capo = 1
      · have hol1 : o.length = 1 := by omega
        have HOL : Hid (o.length = 1) := hol1
        have hb1 : o.length - 1 = 0 := by omega
        clear hol1
        go_wp2
        obtain ⟨wo, rfl⟩ : ∃ wo : World, wo = wr := ⟨_, rfl⟩
        go_loopw [2, 12] (fun c u wr => c = .bool false ∧ u = .int .i64 0 ∧ wr = wo) (fun _ _ _ => 0)
        case atStart => exact ⟨rfl, rfl, rfl⟩
        case round =>
          obtain ⟨rfl, rfl, rfl⟩ := hrel
          go_wp2
          go_roundg (gk - 1)
          case measure => omega
          case rel => exact ⟨r + 1, par, false, rfl, by omega, hideI (Mid.head HO.out (by rw [HOL.out]; exact HM0.out)), HT0, HG0⟩
      · go_wp2
        go_loopw [2, 12] (fun c u wr => ∃ (i : Nat) (par : Nat → Option Nat) (ch : Bool), i ≤ o.length - 1 ∧ c = .bool ch ∧ u = .int .i64 i ∧ Hid (Mid bs o pl N r (1 + i) par ch) ∧ Hid (TreeAt wr B bs o pl par gp vs go capo gl gi) ∧ Hid (W.grownBy wr (some gi))) (fun _ u _ => o.length - (intOf u).toNat)
        case atStart => exact ⟨0, par, false, Nat.zero_le _, rfl, rfl, HM0, HT, HG⟩
        case round =>
          clear HT0 HG0 HT HG HH HM0 q1
          obtain ⟨i, par, ch, hi, rfl, rfl, HM, HT, HG⟩ := hrel
          by_cases hlt : i < o.length - 1
          · obtain ⟨b, hb⟩ : ∃ b, o[1 + i]? = some b := ⟨_, List.getElem?_eq_getElem (by omega)⟩
            have c1 := nat_cell HT.out.flow.order hb
            have hbl := HR.out b (List.mem_of_getElem? hb)
            have HE := hideI (HM.out.pred HO.out (by omega) hb)
            have HB := hideI hb
            have HK : Hid (TreeOk bs o pl par) := hideI ⟨HO.out, HM.out.st.tree, HR.out, hn5⟩
            have hx := row_cells HXW.out (HG.out.block _ hwW (fun e => HGI.out (Option.some.inj e).symm))
            have q0 := hx 0
            have q1 := hx 1
            have q2 := hx 2
            have q3 := hx 3
            clear hb hx
            go_wp2_with (go_at_call 93; go_must (refine (closest_any bs o pl par B gp go capo gl gi b vs _ HT.out HK.out hbl HE.out).mono ?_); rintro e w2 ⟨d, rfl, hcl, hb2⟩; have HCL := hideI hcl; have HG2 := hideI (HG.out.trans (grown_of_below hb2)); have HT2 := hideI (HT.out.kept hb2); obtain ⟨T, hTT⟩ : ∃ T, T = topI (par b) := ⟨_, rfl⟩; have c2 := HT2.out.top hbl; rw [← hTT] at c2; have HTT := hideI hTT; have c3 := HT2.out.free b; have hx2 := row_cells HXW.out (HG2.out.block _ hwW (fun e => HGI.out (Option.some.inj e).symm)); have r3 := hx2 3; clear hcl hb2 hx2 hTT q0 q1 q2 q3 c1)
            · have hne : (d : Int) ≠ T := by have h := ‹((d : Int) != T) = true›; simpa using h
              have HNE : Hid (par b ≠ some d) := fun e => hne (by rw [HTT.out, e]; rfl)
              have HT3 := hideI (HT2.out.set (b := b) (d := d))
              have HG3 := hideI (HG2.out.trans (World.ownsRow.stored HT2.out.idoms b (.int .i64 (d : Int))).2)
              go_roundw
              case rel => exact ⟨i + 1, _, true, by omega, rfl, by go_num, hideI (HM.out.turn (j := 1 + i) HO.out HN.out (by omega) HB.out HCL.out HNE.out), HT3, HG3⟩
              case measure => simp [intOf]; omega
            · have hne : (d : Int) = T := by have h := ‹((d : Int) != T) = false›; simpa using h
              have HEQ : Hid (par b = some d) := by
                show _ = _
                have h := HTT.out
                rw [← hne] at h
                cases hp : par b with
                | none => rw [hp] at h; simp only [topI] at h; omega
                | some d2 => rw [hp] at h; simp only [topI] at h; congr 1; omega
              clear hne
              go_roundw
              case rel => exact ⟨i + 1, par, ch, by omega, rfl, by go_num, hideI (HM.out.same (j := 1 + i) HO.out (by omega) HB.out HCL.out HEQ.out), HT2, HG2⟩
              case measure => simp [intOf]; omega
          · go_wp2
            go_roundg (gk - 1)
            case measure => omega
            case rel => exact ⟨r + 1, par, ch, rfl, by omega, hideI (Mid.head HO.out (by have h1 := HM.out; rw [show 1 + i = o.length by omega] at h1; exact h1)), HT, HG⟩

end Go.Proofs.Ytclbhbnidodmdaa
