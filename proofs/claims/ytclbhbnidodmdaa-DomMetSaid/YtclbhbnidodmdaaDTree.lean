/- How a tree of dominance lies in memory; where two blocks meet. -/
import Derived.Test.YtclbhbnidodmdaaDomM
import Derived.Test.YtclbhbnidodmdaaGLists
import Derived.Test.YtclbhbnidodmdaaGOutP
import Derived.IntWalk
namespace Go.Proofs.Ytclbhbnidodmdaa
open Go.RowKit Go.Maps

/-- a number, or -1 -/
def topI : Option Nat → Int
  | some d => (d : Int)
  | none => -1
def placeI (o : List Nat) (pl : Nat → Nat) (b : Nat) : Int := if b ∈ o then (pl b : Int) else -1

def tops (n : Nat) (par : Nat → Option Nat) : List Value := (List.range n).map fun b => .int .i64 (topI (par b))
def places (n : Nat) (o : List Nat) (pl : Nat → Nat) : List Value := (List.range n).map fun b => .int .i64 (placeI o pl b)

theorem tops_at {n b : Nat} {par : Nat → Option Nat} (h : b < n) : (tops n par)[b]? = some (.int .i64 (topI (par b))) := by
  unfold tops
  rw [List.getElem?_map, List.getElem?_eq_getElem (by simpa using h)]
  simp

theorem places_at {n b : Nat} {o : List Nat} {pl : Nat → Nat} (h : b < n) : (places n o pl)[b]? = some (.int .i64 (placeI o pl b)) := by
  unfold places
  rw [List.getElem?_map, List.getElem?_eq_getElem (by simpa using h)]
  simp

theorem tops_set {n b d : Nat} {par : Nat → Option Nat} : (tops n par).set b (.int .i64 (d : Int)) = tops n (putP par b d) := by
  unfold tops
  apply List.ext_getElem?
  intro i
  by_cases hi : i < n
  · by_cases e : b = i
    · subst e
      rw [List.getElem?_set_self (by simpa using hi), List.getElem?_map, List.getElem?_eq_getElem (by simpa using hi)]
      simp [putP, topI]
    · rw [List.getElem?_set_ne e, List.getElem?_map, List.getElem?_map, List.getElem?_eq_getElem (by simpa using hi)]
      simp only [Option.map_some, List.getElem_range]
      rw [show putP par b d i = par i by unfold putP; rw [if_neg (fun h => e h.symm)]]
  · rw [List.getElem?_eq_none (by simp; omega), List.getElem?_eq_none (by simp; omega)]

theorem tops_none (n : Nat) : tops n (fun _ => none) = List.replicate n (.int .i64 (-1)) := by
  unfold tops
  apply List.ext_getElem?
  intro i
  by_cases hi : i < n
  · rw [List.getElem?_map, List.getElem?_eq_getElem (by simpa using hi), List.getElem?_replicate, if_pos hi]
    rfl
  · rw [List.getElem?_eq_none (by simp; omega), List.getElem?_eq_none (by simp; omega)]

theorem topI_none {x : Option Nat} (h : topI x = -1) : x = none := by
  cases x with
  | none => rfl
  | some d => simp only [topI] at h; omega

/-- where the graph lies: below block B -/
structure FlowAt (w : World) (B : Nat) (bs : List BlockM) (o : List Nat) (pl : Nat → Nat) (gp : Nat) (vs : List Value) (go capo gl : Nat) : Prop where
  preds : Lists w 0 gp bs.length vs (predsAt bs bs.length bs.length 0)
  order : w.ownsRow 0 3 1 (.slice (some ⟨go, 0, none⟩) o.length capo) o.length (natInts o)
  place : w.ownsRow 0 3 1 (.slice (some ⟨gl, 0, none⟩) bs.length bs.length) bs.length (places bs.length o pl)
  gp : gp < B
  go : go < B
  gl : gl < B
  apart : ∀ (t : Nat) v k, vs[t]? = some v → v.ownBlock = some k → k < B

structure TreeAt (w : World) (B : Nat) (bs : List BlockM) (o : List Nat) (pl : Nat → Nat) (par : Nat → Option Nat) (gp : Nat) (vs : List Value) (go capo gl gi : Nat) : Prop where
  flow : FlowAt w B bs o pl gp vs go capo gl
  idoms : w.ownsRow B 3 1 (.slice (some ⟨gi, 0, none⟩) bs.length bs.length) bs.length (tops bs.length par)

section
variable {w w' : World} {B B' : Nat} {bs : List BlockM} {o : List Nat} {pl : Nat → Nat} {par : Nat → Option Nat} {gp : Nat} {vs : List Value} {go capo gl gi : Nat}

theorem Lists.keptB (h : Lists w 0 gp bs.length vs (predsAt bs bs.length bs.length 0)) (hb : Below B w w') (hgp : gp < B) (ha : ∀ (t : Nat) v k, vs[t]? = some v → v.ownBlock = some k → k < B) : Lists w' 0 gp bs.length vs (predsAt bs bs.length bs.length 0) :=
  ⟨h.vl, h.ll, own_kept_below h.row hb (fun k hk => by cases hk; exact hgp), fun t v l hv hl => own_kept_below (h.own t v l hv hl) hb (fun k hk => ha t v k hv hk), h.apart⟩

theorem FlowAt.kept (h : FlowAt w B bs o pl gp vs go capo gl) (hb : Below B w w') : FlowAt w' B bs o pl gp vs go capo gl :=
  ⟨h.preds.keptB hb h.gp h.apart, own_kept_below h.order hb (fun k hk => by cases hk; exact h.go), own_kept_below h.place hb (fun k hk => by cases hk; exact h.gl), h.gp, h.go, h.gl, h.apart⟩

theorem FlowAt.more (h : FlowAt w B bs o pl gp vs go capo gl) (hB : B ≤ B') : FlowAt w B' bs o pl gp vs go capo gl :=
  ⟨h.preds, h.order, h.place, Nat.lt_of_lt_of_le h.gp hB, Nat.lt_of_lt_of_le h.go hB, Nat.lt_of_lt_of_le h.gl hB, fun t v k hv hk => Nat.lt_of_lt_of_le (h.apart t v k hv hk) hB⟩

theorem TreeAt.lt (h : TreeAt w B bs o pl par gp vs go capo gl gi) : B ≤ gi ∧ gi < w.heap.size := h.idoms.lt gi rfl

theorem TreeAt.kept (h : TreeAt w B bs o pl par gp vs go capo gl gi) (hb : Below w.heap.size w w') : TreeAt w' B bs o pl par gp vs go capo gl gi := by
  have hl := h.lt
  exact ⟨h.flow.kept (hb.mono (by omega)), own_kept_below h.idoms hb (fun k hk => by cases hk; exact hl.2)⟩

theorem TreeAt.set {b d : Nat} (h : TreeAt w B bs o pl par gp vs go capo gl gi) : TreeAt (w.setCell ⟨gi, b, none⟩ (.int .i64 (d : Int))) B bs o pl (putP par b d) gp vs go capo gl gi := by
  have hl := h.lt
  refine ⟨h.flow.kept ((Below.refl _ _).setCell (by simpa using hl.1) _), ?_⟩
  have := (World.ownsRow.stored h.idoms b (.int .i64 (d : Int))).1
  rwa [tops_set] at this

theorem TreeAt.top (h : TreeAt w B bs o pl par gp vs go capo gl gi) {b : Nat} (hb : b < bs.length) : w.cell? ⟨gi, b, none⟩ = some (.int .i64 (topI (par b))) := by
  rw [World.ownsRow.cellAt h.idoms b (by omega)]; exact tops_at hb

theorem TreeAt.free (h : TreeAt w B bs o pl par gp vs go capo gl gi) (b : Nat) : w.frozen? ⟨gi, b, none⟩ = false := World.ownsRow.frozenAt h.idoms b

theorem FlowAt.at (h : FlowAt w B bs o pl gp vs go capo gl) {b : Nat} (hb : b < bs.length) : w.cell? ⟨gl, b, none⟩ = some (.int .i64 (placeI o pl b)) := by
  rw [World.ownsRow.cellAt h.place b (by omega)]; exact places_at hb

theorem FlowAt.list (h : FlowAt w B bs o pl gp vs go capo gl) {b : Nat} (hb : b < bs.length) : ∃ v, w.cell? ⟨gp, b, none⟩ = some v ∧ w.ownsRow 0 3 1 v (predsTo bs bs.length b).length (natInts (predsTo bs bs.length b)) := by
  obtain ⟨v, hv⟩ : ∃ v, vs[b]? = some v := ⟨_, List.getElem?_eq_getElem (by rw [h.preds.vl]; exact hb)⟩
  have hl : (predsAt bs bs.length bs.length 0)[b]? = some (predsTo bs bs.length b) := by rw [predsAt_at hb]; simp
  exact ⟨v, by rw [World.ownsRow.cellAt h.preds.row b (by omega)]; exact hv, World.ownsRow.mono (h.preds.own b v _ hv hl) (Nat.zero_le _)⟩
end

theorem drew_below {B : Nat} {w w' : World} (h : Below B w w') (m : Nat) : Below B w (w'.drewN m) := ⟨h.os, h.tape, h.output, h.size, h.block⟩

/-- where a tree stands: its order, and that its blocks are blocks -/
structure TreeOk (bs : List BlockM) (o : List Nat) (pl : Nat → Nat) (par : Nat → Option Nat) : Prop where
  ord : Ord (succM bs) o pl
  tree : Tree o pl par
  range : ∀ x ∈ o, x < bs.length
  n5 : bs.length ≤ 512

def MeetPost (par : Nat → Option Nat) (a b : Nat) (w : World) (e : Ending) (w' : World) : Prop :=
  ∃ m : Nat, e = .returned (.int .i64 m) ∧ Grown par m ∧ Meets par a b m ∧ Below w.heap.size w w'

set_option maxRecDepth 100000 in
set_option maxHeartbeats 2000000 in
theorem meet_any (bs : List BlockM) (o : List Nat) (pl : Nat → Nat) (par : Nat → Option Nat) (B gp go capo gl gi a b : Nat) (vs : List Value) (w : World) (hT : TreeAt w B bs o pl par gp vs go capo gl gi) (hK : TreeOk bs o pl par) (ha : Grown par a) (hb : Grown par b) :
    Calls Try.prog 65 #[.agg #[.slice (some ⟨gp, 0, none⟩) bs.length bs.length, .slice (some ⟨go, 0, none⟩) o.length capo, .slice (some ⟨gl, 0, none⟩) bs.length bs.length, .slice (some ⟨gi, 0, none⟩) bs.length bs.length], .int .i64 a, .int .i64 b] w (MeetPost par a b w) := by
  have HK := hideI hK
  have HA := hideI ha
  have HB := hideI hb
  obtain ⟨W, hW⟩ : ∃ W : World, W = w.alloc (.cells #[.slice (some ⟨gp, 0, none⟩) bs.length bs.length, .slice (some ⟨go, 0, none⟩) o.length capo, .slice (some ⟨gl, 0, none⟩) bs.length bs.length, .slice (some ⟨gi, 0, none⟩) bs.length bs.length] 101) := ⟨_, rfl⟩
  have HBW : Hid (Below w.heap.size w W) := by show Below _ _ _; rw [hW]; exact (Below.refl _ _).alloc (Nat.le_refl _) _
  have HTW : Hid (TreeAt W B bs o pl par gp vs go capo gl gi) := hT.kept HBW.out
  have HXW : Hid (W.heap[w.heap.size]? = some (.cells #[.slice (some ⟨gp, 0, none⟩) bs.length bs.length, .slice (some ⟨go, 0, none⟩) o.length capo, .slice (some ⟨gl, 0, none⟩) bs.length bs.length, .slice (some ⟨gi, 0, none⟩) bs.length bs.length] 101 (0, 0))) := by show _ = _; rw [hW]; exact heap_alloc_new w _
  clear hT hK ha hb
  go_enter Try.func65, Try.ntmps65
  go_wp2
  rw [← hW]
  clear hW
  go_loopw [1, 2] (fun u v wr => ∃ (a' b' m : Nat), u = .int .i64 a' ∧ v = .int .i64 b' ∧ wr = W.drewN m ∧ Hid (Grown par a') ∧ Hid (Grown par b') ∧ Hid (∀ x, (Anc par x a' ∧ Anc par x b') ↔ (Anc par x a ∧ Anc par x b))) (fun u v _ => pl (intOf u).toNat + pl (intOf v).toNat)
  case atStart => exact ⟨a, b, 0, rfl, rfl, rfl, HA, HB, hideI (fun x => Iff.rfl)⟩
  case round =>
    obtain ⟨a', b', m, rfl, rfl, rfl, HA', HB', HS⟩ := hrel
    have ham := HK.out.tree.mem HK.out.ord HA'.out
    have hbm := HK.out.tree.mem HK.out.ord HB'.out
    have hal := HK.out.range a' ham
    have hbl := HK.out.range b' hbm
    have hn5 := HK.out.n5
    have hx := row_cells HXW.out rfl
    have q2 := hx 2
    have q3 := hx 3
    by_cases he : a' = b'
    · subst he
      have hd : ((a' : Int) != (a' : Int)) = false := by simp
      clear hx q2 q3
      go_wp2
      go_ret
      exact ⟨a', rfl, HA'.out, fun x => by have := HS.out x; exact ⟨fun h => this.1 ⟨h, h⟩, fun h => (this.2 h).1⟩, drew_below HBW.out m⟩
    · have hd : ((a' : Int) != (b' : Int)) = true := by simp; omega
      have c1 := HTW.out.flow.at hal
      have c2 := HTW.out.flow.at hbl
      rw [show placeI o pl a' = (pl a' : Int) by unfold placeI; rw [if_pos ham]] at c1
      rw [show placeI o pl b' = (pl b' : Int) by unfold placeI; rw [if_pos hbm]] at c2
      have hne : pl a' ≠ pl b' := fun e => he (HK.out.ord.inj ham hbm e)
      have HAM := hideI ham
      have HBM := hideI hbm
      clear hx ham hbm he
      by_cases hlt : pl b' < pl a'
      · obtain ⟨d, hpd⟩ : ∃ d, par a' = some d := by
          rcases HA'.out with h0 | h0
          · subst h0; rw [HK.out.ord.pl_zero] at hlt; omega
          · exact h0
        have hup := HK.out.tree.up a' d hpd
        have c3 := HTW.out.top hal
        rw [hpd] at c3
        simp only [topI] at c3
        have hdl := hup.2.2.1
        have HG2 := hideI hup.2.2.2
        have HC := hideI (HK.out.tree.climb hlt hpd)
        clear hpd hup hne
        go_wp2
        go_quiet (fail)
        go_wp2
        go_roundw
        case rel => exact ⟨d, b', _, rfl, rfl, rfl, HG2, HB', hideI (fun x => (HC.out x).symm.trans (HS.out x))⟩
        case measure => simp [intOf]; omega
      · obtain ⟨d, hpd⟩ : ∃ d, par b' = some d := by
          rcases HB'.out with h0 | h0
          · subst h0
            rw [HK.out.ord.pl_zero] at hlt hne
            omega
          · exact h0
        have hlt2 : pl a' < pl b' := by omega
        have hup := HK.out.tree.up b' d hpd
        have c3 := HTW.out.top hbl
        rw [hpd] at c3
        simp only [topI] at c3
        have hdl := hup.2.2.1
        have HG2 := hideI hup.2.2.2
        have HC := hideI (HK.out.tree.climb hlt2 hpd)
        clear hpd hup hne
        go_wp2
        go_quiet (fail)
        go_wp2
        go_roundw
        case rel => exact ⟨a', d, _, rfl, rfl, rfl, HA', HG2, hideI (fun x => by have := HC.out x; have h2 := HS.out x; constructor <;> intro h <;> (first | exact h2.1 ⟨h.1, (this.2 ⟨h.2, h.1⟩).1⟩ | exact (by have h3 := h2.2 h; have h4 := this.1 ⟨h3.2, h3.1⟩; exact ⟨h4.2, h4.1⟩)))⟩
        case measure => simp [intOf]; omega

end Go.Proofs.Ytclbhbnidodmdaa
