/- formedPhi: a phi is formed, and its value is written down. -/
import Derived.Test.YtclbhbnidodmdaaOnce
import Derived.Test.YtclbhbnidodmdaaDefine
namespace Go.Proofs.Ytclbhbnidodmdaa
open Go.RowKit Go.Maps

theorem bcell {B : Nat} {W w1 : World} (hb : Below B W w1) : (∀ b o, b < B → w1.cell? ⟨b, o, none⟩ = W.cell? ⟨b, o, none⟩) ∧ (∀ b o, b < B → w1.frozen? ⟨b, o, none⟩ = W.frozen? ⟨b, o, none⟩) :=
  ⟨fun b o h => hb.cell (p := ⟨b, o, none⟩) h, fun b o h => hb.frozen (p := ⟨b, o, none⟩) h⟩

theorem below_grown {B : Nat} {w w' : World} {M : Nat} (h : Below B w w') (hB : B = w.heap.size) : w.grownBy w' (some M) :=
  ⟨h.os, h.tape, h.output, h.size, fun k hk _ => h.block k (by omega)⟩

theorem MapIs.below {w w' : World} {M B : Nat} {ds : Defs} (h : MapIs w M ds) (hb : Below B w w') (hM : M < B) : MapIs w' M ds := by
  obtain ⟨D, ⟨es, clock, hg, r⟩, q⟩ := h
  exact ⟨D, ⟨es, clock, (hb.block M hM).trans hg, r⟩, q⟩

theorem MapIs.alloc {w : World} {M : Nat} {ds : Defs} (h : MapIs w M ds) (o : Obj) : MapIs (w.alloc o) M ds := h.below ((Below.refl w.heap.size w).alloc (Nat.le_refl _) o) h.lt

theorem Ints.alloc {w : World} {B : Nat} {v : Value} {xs : List Int} (h : Ints w B v xs) (hB : B ≤ w.heap.size) (o : Obj) : Ints (w.alloc o) B v xs := h.keep ((Below.refl B w).alloc hB o)

theorem phiStep_no {f : FuncM} {ds : Defs} {p : PhiM} (h : phiB f p = false) : phiStep f ds p = none := by
  unfold phiStep
  rw [h]
  rfl

theorem phiStep_ok {f : FuncM} {ds : Defs} {p : PhiM} (h : phiB f p = true) : phiStep f ds p = addDef f.params.length ds p.id p.typ := by
  unfold phiStep
  rw [h]
  rfl

theorem defines_box2 {M : Nat} {w : World} {r : Option Defs} {o o2 : Obj} (h : r = none) : Defines r M w (.returned (.bool false)) ((w.alloc o).alloc o2) := by
  subst h
  exact ⟨rfl, (World.grownBy_alloc _ _ _).trans_grown (World.grownBy_alloc _ _ _), by simp⟩

theorem defines_after {M : Nat} {w w1 : World} {r : Option Defs} {o o2 : Obj} (h : r = none) (hb : Below ((w.alloc o).alloc o2).heap.size ((w.alloc o).alloc o2) w1) : Defines r M w (.returned (.bool false)) w1 := by
  subst h
  exact ⟨rfl, ((World.grownBy_alloc _ _ _).trans_grown (World.grownBy_alloc _ _ _)).trans_grown (below_grown hb rfl), by simp⟩

theorem len_ne {a b : Nat} (h : ((a : Int) == b) = false) : (a == b) = false := beq_eq_false_iff_ne.2 fun e => by rw [e] at h; simp at h
theorem len_eq {a b : Nat} (h : ((a : Int) == b) = true) : (a == b) = true := beq_iff_eq.2 (by have := beq_iff_eq.1 h; omega)

set_option maxHeartbeats 1000000 in
theorem phi_any (f : FuncM) (p : PhiM) (ds : Defs) (P A : Option Addr) (pc c M B : Nat) (frv vav : Value) (w : World) (hfr : Ints w B frv p.fr) (hva : Ints w B vav p.vals) (hBM : B ≤ M) (hM : MapIs w M ds)
    (hn : ds.length < 100000) (hi : I64 p.id) (ht : I64 p.typ) (h1 : 1 ≤ f.blocks.length) (h2 : f.blocks.length ≤ 512) :
    Calls Try.prog 104 #[.agg #[.slice P f.params.length pc, .int .i64 f.arrays, .int .i64 f.cells, .slice A f.blocks.length c, .map (some M)], .agg #[.int .i64 p.id, .int .i64 p.typ, frv, vav]] w (Defines (phiStep f ds p) M w) := by
  have hMl := hM.lt
  have HM := hideI hM
  have HF := hideI hfr
  have HI := hideI hi
  have HT := hideI ht
  obtain ⟨FA, fc, hfv, hfm, _⟩ := hfr
  obtain ⟨VA, vc, hvv, hvm, _⟩ := hva
  subst hfv hvv
  clear hM hi ht
  cases c1 : isTypeB p.typ
  · have HC := hideI c1
    go_enter Try.func104, Try.ntmps104
    go_wp2_with (go_at_call 103; refine (isType_any _ _).mono ?_; rintro e w' ⟨rfl, rfl⟩)
    go_ret
    exact defines_box2 (phiStep_no (by unfold phiB; rw [HC.out]; rfl))
  have HC := hideI c1
  cases c2 : ((p.vals.length : Int) == p.fr.length)
  · have HC2 := hideI c2
    go_enter Try.func104, Try.ntmps104
    go_wp2_with (go_at_call 103; refine (isType_any _ _).mono ?_; rintro e w' ⟨rfl, rfl⟩)
    go_ret
    exact defines_box2 (phiStep_no (by unfold phiB; rw [len_ne HC2.out]; simp))
  have HC2 := hideI c2
  cases c3 : onceB f.blocks.length [] p.fr
  · have HC3 := hideI c3
    go_enter Try.func104, Try.ntmps104
    go_wp2_with (first
      | (go_at_call 103; refine (isType_any _ _).mono ?_; rintro e w' ⟨rfl, rfl⟩)
      | (go_at_call 108; refine (once_any _ _ _ _ _ _ _ _ _ _ (((HF.out.alloc (by omega) _).alloc (by simp; omega) _).more (by simp; omega)) h1 h2).mono ?_; rintro e w1 ⟨rfl, hb1⟩))
    go_ret
    exact defines_after (phiStep_no (by unfold phiB; rw [HC3.out]; simp)) hb1
  · have HC3 := hideI c3
    go_enter Try.func104, Try.ntmps104
    go_wp2_with (first
      | (go_at_call 103; refine (isType_any _ _).mono ?_; rintro e w' ⟨rfl, rfl⟩)
      | (go_at_call 108; refine (once_any _ _ _ _ _ _ _ _ _ _ (((HF.out.alloc (by omega) _).alloc (by simp; omega) _).more (by simp; omega)) h1 h2).mono ?_; rintro e w1 ⟨rfl, hb1⟩; obtain ⟨hcl, hfl⟩ := bcell hb1; have HB1 := hideI hb1; clear hb1)
      | (go_at_call 109; refine (define_any _ _ _ _ _ _ M ds _ _ _ (((HM.out.alloc _).alloc _).below HB1.out (by simp; omega)) hn HI.out HT.out).mono ?_; rintro e w2 ⟨rfl, hg2, hm2⟩))
    go_ret
    rw [phiStep_ok (by unfold phiB; rw [HC.out, len_eq HC2.out, HC3.out]; rfl)]
    exact ⟨rfl, (((World.grownBy_alloc _ _ _).trans_grown (World.grownBy_alloc _ _ _)).trans_grown (below_grown HB1.out rfl)).trans_grown hg2, hm2⟩

end Go.Proofs.Ytclbhbnidodmdaa
