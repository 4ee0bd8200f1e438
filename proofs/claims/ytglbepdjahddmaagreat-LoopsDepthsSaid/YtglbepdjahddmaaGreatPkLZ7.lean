/- What LZ rests on, part 7: DTreeOf, RWithout, DOverM. -/
import Derived.Test.YtglbepdjahddmaaGreatPkLZ6
import Derived.Shelf.Bits.Mul64
import Derived.Laws.CopyOwn
import Derived.BigQuiet
import Derived.IntWalk
import Derived.Deep.CutRange
import Derived.Deep.DeepCutAuto
import Derived.Deep.RegionWith
import Derived.Deep.RegionHeld3
import Derived.Deep.LoopGhost
import Derived.ArgAppend

namespace Go.Proofs.YtglbepdjahddmaaGreat
open Go.RowKit Go.Maps Go.Lib

set_option maxHeartbeats 1000000 in
theorem mul64_any (x y : Nat) (hx : x < 18446744073709551616) (hy : y < 18446744073709551616) (w : World) :
    Calls Tryz.prog 162 #[.int .u64 x, .int .u64 y] w fun e w' => e = .returned (.tuple #[.int .u64 ((x * y / 18446744073709551616 : Nat) : Int), .int .u64 ((x * y % 18446744073709551616 : Nat) : Int)]) ∧ w' = w := by
  obtain ⟨bd, bt, bw, hhi⟩ := Lib.mul64_hi x y hx hy
  have ba := Lib.half_mul_le (a := x / 4294967296) (b := y / 4294967296) (by omega) (by omega)
  have bb := Lib.half_mul_le (a := x / 4294967296) (b := y % 4294967296) (by omega) (by omega)
  have bc := Lib.half_mul_le (a := x % 4294967296) (b := y / 4294967296) (by omega) (by omega)
  have ba' : x / 4294967296 * (y / 4294967296) < 18446744073709551616 := by omega
  have bb' : x / 4294967296 * (y % 4294967296) < 18446744073709551616 := by omega
  have bc' : x % 4294967296 * (y / 4294967296) < 18446744073709551616 := by omega
  have bh1 : x / 4294967296 * (y / 4294967296) + (x / 4294967296 * (y % 4294967296) + x % 4294967296 * (y % 4294967296) / 4294967296) / 4294967296 < 18446744073709551616 := by omega
  have bh : x / 4294967296 * (y / 4294967296) + (x / 4294967296 * (y % 4294967296) + x % 4294967296 * (y % 4294967296) / 4294967296) / 4294967296 + ((x / 4294967296 * (y % 4294967296) + x % 4294967296 * (y % 4294967296) / 4294967296) % 4294967296 + x % 4294967296 * (y / 4294967296)) / 4294967296 < 18446744073709551616 := by omega
  go_enter Tryz.func162, Tryz.ntmps162
  go_wp2
  simp only [Mul64.maskN x hx, Mul64.maskN y hy, Mul64.divN, Mul64.mulN, Mul64.addN, Mul64.wrapN _ bd, Mul64.wrapN _ bb', Mul64.wrapN _ bt, Mul64.maskN _ bt, Mul64.wrapN _ bc', Mul64.wrapN _ bw, Mul64.wrapN _ ba', Mul64.wrapN _ bh1, Mul64.wrapN _ bh, Mul64.wrapM (x * y)]
  rw [hhi]
  go_ret2
  exact ⟨rfl, rfl⟩

set_option maxHeartbeats 1000000 in
theorem mul_any (x y : Nat) (hx : x < 18446744073709551616) (hy : y < 18446744073709551616) (w : World) :
    Calls Tryz.prog 150 #[.int .u64 x, .int .u64 y] w fun e w' => e = .returned (.tuple #[.int .u64 ((x * y / 18446744073709551616 : Nat) : Int), .int .u64 ((x * y % 18446744073709551616 : Nat) : Int)]) ∧ w' = w := by
  go_enter Tryz.func150, Tryz.ntmps150
  go_wp2_with (go_at_call 162; go_must (refine (mul64_any x y hx hy _).mono ?_); rintro e w' ⟨rfl, hw⟩; rw [hw])
  go_ret2
  exact ⟨rfl, rfl⟩

/-- once so many: what the program asks bits.Mul -/
theorem mul_one_any (n : Nat) (hn : n ≤ 100000) (w : World) :
    Calls Tryz.prog 150 #[.int .u64 1, .int .u64 n] w fun e w' => e = .returned (.tuple #[.int .u64 0, .int .u64 (n : Int)]) ∧ w = w' := by
  refine (mul_any 1 n (by omega) (by omega) w).mono ?_
  rintro e w' ⟨rfl, rfl⟩
  rw [Nat.one_mul, Nat.div_eq_of_lt (by omega), Nat.mod_eq_of_lt (by omega)]
  exact ⟨rfl, rfl⟩

theorem int_size1 : (Tryz.prog.info? 3).map (·.size) = some 1 := by kernel_rfl

/-- k of v, and zeros behind -/
def fillR (v : Int) (n k : Nat) : List Value := List.replicate k (.int .i64 v) ++ List.replicate (n - k) (.int .i64 0)

theorem fillR_zero (v : Int) (n : Nat) : fillR v n 0 = List.replicate n (.int .i64 0) := by simp [fillR]
theorem fillR_len {v : Int} {n k : Nat} (h : k ≤ n) : (fillR v n k).length = n := by simp [fillR]; omega
theorem fillR_splice {v : Int} {n k m : Nat} (_h : k + m ≤ n) : splice (fillR v n k) k (List.replicate m (.int .i64 v)) = fillR v n (k + m) := by
  unfold splice fillR
  rw [List.take_left' (by simp), List.drop_append, List.length_replicate, List.length_replicate]
  rw [List.drop_eq_nil_of_le (by simp), List.nil_append, show k + m - k = m by omega, List.drop_replicate, ← List.append_assoc, List.replicate_append_replicate]
  congr 1
  rw [show n - k - m = n - (k + m) by omega]
theorem fillR_at {v : Int} {n k j : Nat} (h : j < k) : (fillR v n k)[j]? = some (.int .i64 v) := by
  unfold fillR
  rw [List.getElem?_append_left (by simpa using h), List.getElem?_replicate, if_pos h]
theorem fillR_full (v : Int) (n : Nat) : fillR v n n = List.replicate n (.int .i64 v) := by simp [fillR]

theorem cell_of_list {w : World} {g j : Nat} {l : List Value} {t : TypeId} {u : Value} (h : w.heap[g]? = some (.cells l.toArray t (0, 0))) (hu : l[j]? = some u) : w.cell? ⟨g, j, none⟩ = some u := by
  rw [cell_of_row w g j l.toArray t (0, 0) h]
  simpa using hu

theorem made_row {v : Int} {n base g : Nat} {w : World} {R0 : List Value} (hR : R0 = fillR v n 0) (h : w.ownsRow base 3 1 (.slice (some ⟨g, 0, none⟩) n n) n (madeCells (Value.int .i64 0).cells (n * 1)).toList) : w.heap[g]? = some (.cells R0.toArray 3 (0, 0)) := by
  rw [show (Value.int .i64 0).cells = #[Value.int .i64 0] from rfl, toList_madeCells_one, Nat.mul_one] at h
  rcases h.2 with ⟨h1, _⟩ | ⟨g1, cap, cur, e, _, h1, _, _, h4, h5⟩
  · cases h1
  · cases e
    rw [h1]
    have : cur = R0.toArray := by
      apply Array.toList_inj.1
      rw [hR, fillR_zero]
      rw [← h5, List.take_of_length_le (by simp [h4])]
    rw [this]

theorem one_src {v : Int} {w : World} {g0 : Nat} {C1 : List Value} (h : C1 = List.replicate 1 (.int .i64 v)) (hc : w.cell? ⟨g0, 0, none⟩ = some (.int .i64 v)) {j : Nat} {u : Value} (hu : C1[j]? = some u) : w.cell? ((⟨g0, 0, none⟩ : Addr).add j) = some u := by
  subst h
  rcases j with _ | j
  · simp at hu
    subst hu
    exact hc
  · simp at hu

theorem fill_src {v : Int} {w : World} {g n k m : Nat} {C R : List Value} (hC : C = List.replicate m (.int .i64 v)) (hR : R = fillR v n k) (hm : m ≤ k) (hg : w.heap[g]? = some (.cells R.toArray 3 (0, 0))) {j : Nat} {u : Value} (hu : C[j]? = some u) : w.cell? ((⟨g, 0, none⟩ : Addr).add j) = some u := by
  subst hC hR
  rw [List.getElem?_replicate] at hu
  split at hu
  · rename_i hj
    cases hu
    have := cell_of_list hg (fillR_at (v := v) (n := n) (k := k) (j := j) (by omega))
    by_cases h0 : j = 0
    · subst h0
      simpa [Addr.add] using this
    · simpa [Addr.add, h0] using this
  · cases hu

theorem rep_cells {v : Int} {m : Nat} {C : List Value} (hC : C = List.replicate m (.int .i64 v)) : ∀ u ∈ C, u.oneCell' = true := by
  intro u hu
  subst hC
  rw [List.mem_replicate] at hu
  rw [hu.2]
  rfl

theorem own_of_row {v : Int} {n base g : Nat} {w : World} {R : List Value} (hR : R = fillR v n n) (hg : w.heap[g]? = some (.cells R.toArray 3 (0, 0))) (hb : base ≤ g) (hn : n ≤ 100000) : w.ownsRow base 3 1 (.slice (some ⟨g, 0, none⟩) n n) n (List.replicate n (.int .i64 v)) := by
  rw [fillR_full] at hR
  subst hR
  exact ⟨by simp, .inr ⟨g, n, _, rfl, hb, hg, Nat.le_refl _, by unfold maxLen; omega, by simp, by simp⟩⟩

theorem drew1_below {B : Nat} {w w' : World} (h : Below B w w') : Below B w w'.drew := ⟨h.os, h.tape, h.output, h.size, h.block⟩

def RepPost (v : Int) (n : Nat) (w : World) (e : Ending) (w' : World) : Prop :=
  ∃ g : Nat, e = .returned (.slice (some ⟨g, 0, none⟩) n n) ∧ w'.ownsRow w.heap.size 3 1 (.slice (some ⟨g, 0, none⟩) n n) n (List.replicate n (.int .i64 v)) ∧ Below w.heap.size w w'

set_option maxRecDepth 100000 in
set_option maxHeartbeats 600000 in
theorem repeat_any (v : Int) (n g0 : Nat) (w : World) (h0 : 0 < n) (hn : n ≤ 100000) (hc : w.cell? ⟨g0, 0, none⟩ = some (.int .i64 v)) (hg0 : g0 < w.heap.size) :
    Calls Tryz.prog 133 #[.slice (some ⟨g0, 0, none⟩) 1 1, .int .i64 n] w (RepPost v n w) := by
  obtain ⟨i0, hix, hz0, hz1, hz2⟩ := info_parts int_info
  obtain ⟨C1, hC1⟩ : ∃ C1 : List Value, C1 = List.replicate 1 (.int .i64 v) := ⟨_, rfl⟩
  obtain ⟨R0, hR0⟩ : ∃ R0 : List Value, R0 = fillR v n 0 := ⟨_, rfl⟩
  have HC1 := hideI hC1
  have HR0 := hideI hR0
  have hl1 : C1.length = 1 := by rw [hC1]; simp
  have hl0 : R0.length = n := by rw [hR0]; exact fillR_len (Nat.zero_le _)
  have HL1 := hideI hl1
  have HL0 := hideI hl0
  have HC : Hid (w.cell? ⟨g0, 0, none⟩ = some (.int .i64 v)) := hc
  clear hC1 hR0 hl1 hl0 hc
  go_enter Tryz.func133, Tryz.ntmps133
  go_wp2_with (first
    | (go_at_call 150; go_must (refine (mul_one_any n hn _).mono ?_); rintro e w1 ⟨rfl, rfl⟩)
    | (at_make; go_must (refine wpList_make_full _ rfl _ _ 22 rfl w.heap.size 3 i0 (.int .i64 0) 1 Tryz.underlying22 hix hz0 hz1 .i64 .i64 _ _ n rfl rfl rfl rfl (by rw [hz2]; omega) (by unfold maxLen; omega) (Nat.le_refl _) ?_); intro w1 hown1 hg1; go_must (have HG : Hid (w1.heap[w.heap.size]? = some (.cells R0.toArray 3 (0, 0))) := made_row HR0.out hown1; have HB1 : Hid (Below w.heap.size w w1) := hideI ((Below.refl _ _).grown hg1 (Nat.le_refl _) (by simp)); have HCC : Hid (w1.cell? ⟨g0, 0, none⟩ = some (.int .i64 v)) := hideI ((HB1.out.cell (p := ⟨g0, 0, none⟩) hg0).trans HC.out); clear hown1 hg1))
    | (with_reducible refine wpList_copy_splice rfl _ _ _ _ rfl 3 Tryz.underlying22 int_size1 _ _ _ _ _ _ rfl rfl w.heap.size 0 R0 3 HG.out C1 (by rw [HL1.out]; exact (Nat.min_eq_left h0).symm) (fun _ => ⟨rfl, _, rfl, fun j u hu => one_src HC1.out HCC.out hu⟩) (by rw [HL1.out, HL0.out]; omega) (rep_cells HC1.out) w.heap.size w HB1.out (Nat.le_refl _) ?_; intro w2 HG2 hB2; have HB2 := hideI hB2; rw [HL1.out]; clear hB2))
  obtain ⟨R1, hR1⟩ : ∃ R1, R1 = splice R0 0 C1 := ⟨_, rfl⟩
  rw [← hR1] at HG2
  have HR1 : Hid (R1 = fillR v n 1) := by
    show _ = _
    rw [hR1, HR0.out, HC1.out]
    exact fillR_splice (by omega)
  clear hR1
  go_loopw [8] (fun u wr => ∃ (k : Nat) (R : List Value), 1 ≤ k ∧ k ≤ n ∧ u = .int .i64 k ∧ Hid (R = fillR v n k) ∧ Hid (wr.heap[w.heap.size]? = some (.cells R.toArray 3 (0, 0))) ∧ Hid (Below w.heap.size w wr)) (fun u _ => n - (intOf u).toNat)
  case atStart => exact ⟨1, R1, Nat.le_refl _, by omega, rfl, HR1, HG2, HB2⟩
  case round =>
    obtain ⟨k, R, hk1, hk, rfl, HR, HGr, HBr⟩ := hrel
    by_cases hlt : k < n
    · obtain ⟨m, hm⟩ : ∃ m, m = min k (n - k) := ⟨_, rfl⟩
      obtain ⟨C, hC⟩ : ∃ C : List Value, C = List.replicate m (.int .i64 v) := ⟨_, rfl⟩
      have hm1 : m ≤ k := by omega
      have hm2 : k + m ≤ n := by omega
      have hm3 : 1 ≤ m := by omega
      have HM := hideI hm
      have HC2 := hideI hC
      have HLC : Hid (C.length = m) := by show _ = _; rw [hC]; simp
      have HLR : Hid (R.length = n) := by show _ = _; rw [HR.out]; exact fillR_len hk
      clear hm hC
      have hkn : ¬ n = k := by omega
      have hlc : C.length ≤ 100000 := by rw [HLC.out]; omega
      have hsum : IntKind.i64.wrap ((k : Int) + (C.length : Int)) = (k : Int) + (C.length : Int) := IntWalk.i64_in _ (by omega)
      go_wp2
      go_region_law (refine step_copy_splice rfl (.tmp 41) (.tmp 44) 22 22 rfl 3 Tryz.underlying22 int_size1 (some ⟨w.heap.size, k, none⟩) (some ⟨w.heap.size, 0, none⟩) (n - k) (n - k) k n (by simp [Act.eval, Act.put]) (by simp [Act.eval, Act.put]) w.heap.size k R 3 HGr.out C (by rw [HLC.out, HM.out]) (fun _ => ⟨rfl, _, rfl, fun j u hu => fill_src HC2.out HR.out hm1 HGr.out hu⟩) (by rw [HLC.out, HLR.out]; exact hm2) (rep_cells HC2.out) w.heap.size w (drew1_below HBr.out) (Nat.le_refl _) ?_; intro w3 HG3 hB3; have HB3 := hideI hB3; clear hB3)
      obtain ⟨R3, hR3⟩ : ∃ R3, R3 = splice R k C := ⟨_, rfl⟩
      rw [← hR3] at HG3
      have HR3 : Hid (R3 = fillR v n (k + m)) := by
        show _ = _
        rw [hR3, HR.out, HC2.out]
        exact fillR_splice hm2
      clear hR3 hsum
      simp only [List.getElem_toArray, List.getElem_cons_zero, List.getElem_cons_succ, Act.put, List.setIfInBounds_toArray, List.set_cons_zero, List.set_cons_succ]
      go_wp2
      go_roundw
      case rel => exact ⟨k + m, R3, by omega, hm2, by rw [HLC.out]; go_num, HR3, HG3, HB3⟩
      case measure => simp [intOf]; rw [HLC.out]; omega
    · have hkn : k = n := by omega
      have HKN := hideI hkn
      clear hkn
      go_wp2
      go_ret
      exact ⟨w.heap.size, rfl, own_of_row (by rw [HR.out, HKN.out]) HGr.out (Nat.le_refl _) hn, HBr.out⟩

end Go.Proofs.YtglbepdjahddmaaGreat

namespace Go.Proofs.YtglbepdjahddmaaGreat
open Go.RowKit Go.Maps

theorem OrderIs.ord {bs : List BlockM} {o : List Nat} (h : OrderIs bs o) : Ord (succM bs) o (fun b => o.idxOf b) := by
  obtain ⟨h1, h2, h3, h4⟩ := h.facts
  refine ⟨h1, fun i x hx => ?_, h3, h4⟩
  have hm := List.mem_of_getElem? hx
  have hl := List.idxOf_lt_length_of_mem hm
  have hi := (List.getElem?_eq_some_iff.1 hx).1
  exact (List.getElem?_inj (l := o) (i := o.idxOf x) (j := i) hl h2).1 (by rw [hx, List.getElem?_eq_getElem hl, List.getElem_idxOf])

theorem places_none (n : Nat) (pl : Nat → Nat) : places n [] pl = List.replicate n (.int .i64 (-1)) := by
  unfold places
  apply List.ext_getElem?
  intro i
  by_cases hi : i < n
  · rw [List.getElem?_map, List.getElem?_eq_getElem (by simpa using hi), List.getElem?_replicate, if_pos hi]
    simp [placeI]
  · rw [List.getElem?_eq_none (by simp; omega), List.getElem?_eq_none (by simp; omega)]

theorem places_set {n i x : Nat} {o : List Nat} {pl : Nat → Nat} (hx : o[i]? = some x) (hp : pl x = i) : (places n (o.take i) pl).set x (.int .i64 (i : Int)) = places n (o.take (i + 1)) pl := by
  unfold places
  apply List.ext_getElem?
  intro j
  by_cases hj : j < n
  · by_cases e : x = j
    · subst e
      rw [List.getElem?_set_self (by simpa using hj), List.getElem?_map, List.getElem?_eq_getElem (by simpa using hj)]
      have : x ∈ o.take (i + 1) := by rw [List.take_add_one, hx]; simp
      simp [placeI, this, hp]
    · rw [List.getElem?_set_ne e, List.getElem?_map, List.getElem?_map, List.getElem?_eq_getElem (by simpa using hj)]
      have : j ∈ o.take (i + 1) ↔ j ∈ o.take i := by
        rw [List.take_add_one, hx]
        simp only [Option.toList_some, List.mem_append, List.mem_singleton]
        exact ⟨fun h => h.resolve_right (fun h2 => e h2.symm), .inl⟩
      simp [placeI, this]
  · rw [List.getElem?_eq_none (by simp; omega), List.getElem?_eq_none (by simp; omega)]

theorem free_rowN {w w' : World} {g : Nat} {cs : Array Value} {t : TypeId} (h : w.heap[g]? = some (.cells cs t (0, 0))) (hk : w'.heap[g]? = w.heap[g]?) (o : Nat) : w'.frozen? ⟨g, o, none⟩ = false := by
  rw [h] at hk
  simp [World.frozen?, hk]

theorem FlowAt.other {w : World} {B : Nat} {bs : List BlockM} {o : List Nat} {pl : Nat → Nat} {gp : Nat} {vs : List Value} {go capo gl : Nat} (h : FlowAt w B bs o pl gp vs go capo gl) (j : Nat) (h1 : j ≠ gp) (h2 : j ≠ go) (h3 : j ≠ gl) (h4 : ∀ (t : Nat) v k, vs[t]? = some v → v.ownBlock = some k → j ≠ k) (off : Nat) (u : Value) : FlowAt (w.setCell ⟨j, off, none⟩ u) B bs o pl gp vs go capo gl := by
  refine ⟨⟨h.preds.vl, h.preds.ll, ?_, fun t v l hv hl => ?_, h.preds.apart⟩, ?_, ?_, h.gp, h.go, h.gl, h.apart⟩
  · exact ownsRow_setCell_other h.preds.row (a := ⟨j, off, none⟩) (by intro e; exact h1 (Option.some.inj e).symm) u
  · exact ownsRow_setCell_other (h.preds.own t v l hv hl) (a := ⟨j, off, none⟩) (by intro e; exact h4 t v j hv e rfl) u
  · exact ownsRow_setCell_other h.order (a := ⟨j, off, none⟩) (by intro e; exact h2 (Option.some.inj e).symm) u
  · exact ownsRow_setCell_other h.place (a := ⟨j, off, none⟩) (by intro e; exact h3 (Option.some.inj e).symm) u

/-- a function's graph stands in memory -/
structure Flows (f : FuncM) (o : List Nat) (pl : Nat → Nat) (capo : Nat) : Prop where
  order : OrderIs f.blocks o
  ord : Ord (succM f.blocks) o pl
  range : ∀ x ∈ o, x < f.blocks.length
  len : o.length ≤ f.blocks.length
  cap : o.length ≤ capo
  most : capo ≤ maxLen
  n0 : 0 < f.blocks.length
  n5 : f.blocks.length ≤ 512

/-- all of it lies from block lo on -/
structure FlowLow (lo gp : Nat) (vs : List Value) (go gl : Nat) : Prop where
  gp : lo ≤ gp
  go : lo ≤ go
  gl : lo ≤ gl
  apart : ∀ (t : Nat) v k, vs[t]? = some v → v.ownBlock = some k → lo ≤ k

def FlowPost (f : FuncM) (w : World) (e : Ending) (w' : World) : Prop :=
  ((lookM f).1 ≠ 0 ∧ e = .returned (.tuple #[.agg #[.slice none 0 0, .slice none 0 0, .slice none 0 0], .int .i64 (lookM f).1]) ∧ Below w.heap.size w w') ∨
  ((lookM f).1 = 0 ∧ ∃ (o : List Nat) (pl : Nat → Nat) (gp : Nat) (vs : List Value) (go capo gl : Nat), e = .returned (.tuple #[.agg #[.slice (some ⟨gp, 0, none⟩) f.blocks.length f.blocks.length, .slice (some ⟨go, 0, none⟩) o.length capo, .slice (some ⟨gl, 0, none⟩) f.blocks.length f.blocks.length], .int .i64 0]) ∧ Flows f o pl capo ∧ FlowAt w' w'.heap.size f.blocks o pl gp vs go capo gl ∧ FlowLow w.heap.size gp vs go gl ∧ Below w.heap.size w w')

theorem own_cap {w : World} {base n cap g : Nat} {xs : List Value} (h : w.ownsRow base 3 1 (.slice (some ⟨g, 0, none⟩) n cap) n xs) : n ≤ cap ∧ cap ≤ maxLen := by
  rcases h.2 with ⟨h1, _⟩ | ⟨g1, cap1, cur, e, _, _, h2, h3, _⟩
  · cases h1
  · cases e; exact ⟨h2, h3⟩

set_option maxRecDepth 100000 in
set_option maxHeartbeats 4000000 in
theorem flow_any (f : FuncM) (B : Nat) (pv bv : Value) (w : World) (hpv : Ints w B pv f.params) (hbv : BlocksR w B bv f.blocks) (hB : B ≤ w.heap.size) (hid : ∀ u ∈ usesM f, I64 u.1) :
    Calls Tryz.prog 132 #[.agg #[pv, .int .i64 f.arrays, .int .i64 f.cells, bv]] w (FlowPost f w) := by
  have HP := hideI hpv
  have HBL := hideI hbv
  have HID := hideI hid
  obtain ⟨P, pc, rfl, _⟩ := hpv
  obtain ⟨A, c, rfl, hbm, _⟩ := hbv
  obtain ⟨W0, hW0⟩ : ∃ W0, W0 = (w.alloc (.cells #[.slice P f.params.length pc, .int .i64 f.arrays, .int .i64 f.cells, .slice A f.blocks.length c] 25)).alloc (.cells #[.slice none 0 0, .slice none 0 0, .slice none 0 0] 167) := ⟨_, rfl⟩
  have hB0 : Below w.heap.size w W0 := by rw [hW0]; exact ((Below.refl _ w).alloc (Nat.le_refl _) _).alloc (by simp) _
  have hs0 : W0.heap.size = w.heap.size + 2 := by rw [hW0]; simp
  have hbox : W0.heap[w.heap.size]? = some (.cells #[.slice P f.params.length pc, .int .i64 f.arrays, .int .i64 f.cells, .slice A f.blocks.length c] 25 (0, 0)) := by
    rw [hW0, Below.heap_alloc _ _ _ (by simp)]
    exact heap_alloc_new w _
  have hres : W0.heap[w.heap.size + 1]? = some (.cells #[.slice none 0 0, .slice none 0 0, .slice none 0 0] 167 (0, 0)) := by
    rw [hW0]
    have := heap_alloc_new (w.alloc (.cells #[.slice P f.params.length pc, .int .i64 f.arrays, .int .i64 f.cells, .slice A f.blocks.length c] 25)) (.cells #[.slice none 0 0, .slice none 0 0, .slice none 0 0] 167)
    simpa using this
  have HW0 := hideI hW0
  have HB0 := hideI hB0
  have HS0 := hideI hs0
  have G0 : Hid (∀ W, Below W0.heap.size W0 W → (∀ o, W.cell? ⟨w.heap.size, o, none⟩ = (#[.slice P f.params.length pc, .int .i64 f.arrays, .int .i64 f.cells, .slice A f.blocks.length c] : Array Value)[o]?) ∧ (∀ o, W.cell? ⟨w.heap.size + 1, o, none⟩ = (#[.slice none 0 0, .slice none 0 0, .slice none 0 0] : Array Value)[o]?) ∧ (∀ o, W.frozen? ⟨w.heap.size + 1, o, none⟩ = false)) := fun W hW => by
    have h1 := hW.block w.heap.size (by omega)
    have h2 := hW.block (w.heap.size + 1) (by omega)
    exact ⟨row_cells hbox h1, row_cells hres h2, fun o => free_rowN hres h2 o⟩
  have HPW : Hid (∀ W, Below W0.heap.size W0 W → Ints W B (.slice P f.params.length pc) f.params ∧ BlocksR W B (.slice A f.blocks.length c) f.blocks ∧ Below w.heap.size w W) := fun W hW => by
    have h1 : Below w.heap.size w W := HB0.out.trans (hW.mono (by omega))
    exact ⟨HP.out.keeps (Keeps.of_below (h1.mono hB)), HBL.out.keeps (Keeps.of_below (h1.mono hB)), h1⟩
  obtain ⟨q1, q2, q3⟩ := G0.out W0 (Below.refl _ _)
  have b0 := q1 0
  have b1 := q1 1
  have b2 := q1 2
  have b3 := q1 3
  have hBW0 : B ≤ W0.heap.size := by omega
  clear hid hW0 hB0 hs0 hbox hres q1 q2 q3
  by_cases h0 : (lookM f).1 = 0
  · have H0 := hideI h0
    have hnb := look_some_block h0
    have HNB := hideI hnb
    have hn0 := hnb.1
    have hn5 := hnb.2
    clear h0 hnb
    go_enter Tryz.func132, Tryz.ntmps132
    go_upto_region 1 with fail
    rw [← HW0.out]
    go_wp2_with (first
      | (go_at_call 22; go_must (refine (gPreds_yes f B _ _ _ (HPW.out _ (Below.refl _ _)).1 (HPW.out _ (Below.refl _ _)).2.1 hBW0 HID.out H0.out).mono ?_); rintro e w1 ⟨gp, vs, rfl, hls, hb1⟩; have HLS := hideI hls; have HB1 := hideI hb1; obtain ⟨q1, q2, q3⟩ := G0.out _ hb1; clear b0 b1 b2 b3; have b0 := q1 0; have b1 := q1 1; have b2 := q1 2; have b3 := q1 3; clear q1 q2 q3 hb1 hls)
      | (go_at_call 62; go_must (refine (gOrder_yes f B _ _ _ (HPW.out _ HB1.out).1 (HPW.out _ HB1.out).2.1 (Nat.le_trans hBW0 HB1.out.size) HID.out H0.out).mono ?_); rintro e w2 ⟨o, go, capo, rfl, ho, ho0, ho1, hown, hb2⟩; have HORD := hideI ho; have HOWN := hideI hown; have HB2 := hideI hb2; clear b0 b1 b2 b3 ho hown hb2)
      | (go_at_call 133; go_must (refine (repeat_any (-1) f.blocks.length w2.heap.size _ hn0 (by omega) (row_cells (heap_alloc_new w2 _) rfl 0) (by simp)).mono ?_); rintro e w3 ⟨gl, rfl, hrep, hb3⟩; have HREP := hideI hrep; have HB3 : Hid (Below w2.heap.size w2 w3) := ((Below.refl _ w2).alloc (Nat.le_refl _) _).trans (hb3.mono (by simp)); clear hrep hb3))
    have hlg := HREP.out.lt gl rfl
    have hsz2 : w2.heap.size < gl := by have := hlg.1; simp at this; omega
    have HSG := hideI hsz2
    have hplace := World.ownsRow.mono HREP.out (Nat.zero_le _)
    rw [← places_none f.blocks.length (fun b => o.idxOf b), show ([] : List Nat) = o.take 0 by simp] at hplace
    have HPL := hideI hplace
    clear hplace hlg HREP hsz2
    go_loopw [34] (fun u wr => ∃ i : Nat, i ≤ o.length ∧ u = .int .i64 i ∧ Hid (wr.ownsRow 0 3 1 (.slice (some ⟨gl, 0, none⟩) f.blocks.length f.blocks.length) f.blocks.length (places f.blocks.length (o.take i) (fun b => o.idxOf b))) ∧ Hid (w3.grownBy wr (some gl))) (fun u _ => o.length - (intOf u).toNat)
    case atStart => exact ⟨0, Nat.zero_le _, rfl, HPL, hideI (World.grownBy.refl _ _)⟩
    case round =>
      obtain ⟨i, hi, rfl, HPr, HGr⟩ := hrel
      have hBr : Below w2.heap.size w2 wr := HB3.out.grown HGr.out HB3.out.size (fun k hk => by cases hk; exact Nat.le_of_lt HSG.out)
      have HBr := hideI hBr
      clear hBr
      by_cases hlt : i < o.length
      · obtain ⟨x, hx⟩ : ∃ x, o[i]? = some x := ⟨_, List.getElem?_eq_getElem hlt⟩
        have hxl := HORD.out.range (look_ends H0.out) hn0 x (List.mem_of_getElem? hx)
        have c1 := nat_cell (own_kept_below HOWN.out HBr.out (fun k hk => (HOWN.out.lt k hk).2)) hx
        have c2 : wr.cell? ⟨gl, x, none⟩ = some (.int .i64 (placeI (o.take i) (fun b => o.idxOf b) x)) := by rw [World.ownsRow.cellAt HPr.out x (by omega)]; exact places_at hxl
        have c3 : wr.frozen? ⟨gl, x, none⟩ = false := World.ownsRow.frozenAt HPr.out x
        have hst := World.ownsRow.stored HPr.out x (.int .i64 (i : Int))
        rw [places_set hx (HORD.out.ord.place i x hx)] at hst
        have HST := hideI hst
        clear hx hst
        go_wp2
        go_roundw
        case rel => exact ⟨i + 1, by omega, by go_num, hideI HST.out.1, hideI (HGr.out.trans HST.out.2)⟩
        case measure => simp [intOf]; omega
      · have hil : i = o.length := by omega
        have HP2 : Hid (wr.ownsRow 0 3 1 (.slice (some ⟨gl, 0, none⟩) f.blocks.length f.blocks.length) f.blocks.length (places f.blocks.length o (fun b => o.idxOf b))) := by
          have h1 := HPr.out
          rw [hil, List.take_of_length_le (Nat.le_refl _)] at h1
          exact h1
        have HBF : Hid (Below W0.heap.size W0 wr) := (HB1.out.trans (HB2.out.mono HB1.out.size)).trans (HBr.out.mono (Nat.le_trans HB1.out.size HB2.out.size))
        obtain ⟨q1, q2, q3⟩ := G0.out _ HBF.out
        have s0 := q2 0
        have s1 := q2 1
        have s2 := q2 2
        have g0 := q3 0
        have g1 := q3 1
        have g2 := q3 2
        have hs0 := HS0.out
        have hsr : W0.heap.size ≤ wr.heap.size := HBF.out.size
        clear q1 q2 q3 hil HPr
        go_wp2
        have hlsr : Lists wr 0 gp f.blocks.length vs (predsAt f.blocks f.blocks.length f.blocks.length 0) := (HLS.out.mono (Nat.zero_le _)).kept (HB2.out.trans (HBr.out.mono HB2.out.size))
        have hp1 := HLS.out.lt
        have hor := own_kept_below HOWN.out HBr.out (fun k hk => (HOWN.out.lt k hk).2)
        have hg1 := HOWN.out.lt go rfl
        have hg2 := HP2.out.lt gl rfl
        have hs1 := HB1.out.size
        have hs2 := HB2.out.size
        have hs3 := HBr.out.size
        have hsg := HSG.out
        have hap : ∀ (t : Nat) v k, vs[t]? = some v → v.ownBlock = some k → gp + 1 ≤ k ∧ k < w1.heap.size := by
          intro t v k hv hk
          have htl : t < (predsAt f.blocks f.blocks.length f.blocks.length 0).length := by rw [HLS.out.ll, ← HLS.out.vl]; exact (List.getElem?_eq_some_iff.1 hv).1
          exact (HLS.out.own t v _ hv (List.getElem?_eq_getElem htl)).lt k hk
        refine bodyPost_ret (v := .tuple #[.agg #[.slice (some ⟨gp, 0, none⟩) f.blocks.length f.blocks.length, .slice (some ⟨go, 0, none⟩) o.length capo, .slice (some ⟨gl, 0, none⟩) f.blocks.length f.blocks.length], .int .i64 0]) (by simp [results, Tryz.results132, go_sem, s0, s1, s2]) rfl (.inr ⟨H0.out, o, _, gp, vs, go, capo, gl, rfl, ⟨HORD.out, HORD.out.ord, HORD.out.range (look_ends H0.out) hn0, ho1, (own_cap HOWN.out).1, (own_cap HOWN.out).2, hn0, hn5⟩, ?_, ⟨by omega, by omega, by omega, fun t v k hv hk => by have := hap t v k hv hk; omega⟩, ?_⟩)
        · have hF : FlowAt wr wr.heap.size f.blocks o (fun b => o.idxOf b) gp vs go capo gl := ⟨hlsr, World.ownsRow.mono hor (Nat.zero_le _), HP2.out, by omega, by omega, hg2.2, fun t v k hv hk => by have := hap t v k hv hk; omega⟩
          have hj : ∀ (t : Nat) v k, vs[t]? = some v → v.ownBlock = some k → w.heap.size + 1 ≠ k := fun t v k hv hk => by have := hap t v k hv hk; omega
          have hF1 := ((hF.other (w.heap.size + 1) (by omega) (by omega) (by omega) hj 0 (.slice (some ⟨gp, 0, none⟩) f.blocks.length f.blocks.length)).other (w.heap.size + 1) (by omega) (by omega) (by omega) hj 1 (.slice (some ⟨go, 0, none⟩) o.length capo)).other (w.heap.size + 1) (by omega) (by omega) (by omega) hj 2 (.slice (some ⟨gl, 0, none⟩) f.blocks.length f.blocks.length)
          simpa using hF1
        · exact (((HPW.out _ HBF.out).2.2.setCell (by simp) _).setCell (by simp) _).setCell (by simp) _
  · have H0 := hideI h0
    have hb : ((lookM f).1 != 0) = true := by simpa using h0
    clear h0
    go_enter Tryz.func132, Tryz.ntmps132
    go_upto_region 1 with fail
    rw [← HW0.out]
    go_wp2_with (first
      | (go_at_call 22; go_must (refine (gPreds_no f B _ _ _ (HPW.out _ (Below.refl _ _)).1 (HPW.out _ (Below.refl _ _)).2.1 hBW0 HID.out H0.out).mono ?_); rintro e w1 ⟨rfl, hb1⟩; have HB1 := hideI hb1; obtain ⟨q1, q2, q3⟩ := G0.out _ hb1; have s0 := q2 0; have s1 := q2 1; have s2 := q2 2; have g0 := q3 0; have g1 := q3 1; have g2 := q3 2; clear q1 q2 q3 hb1 b0 b1 b2 b3))
    refine bodyPost_ret (v := .tuple #[.agg #[.slice none 0 0, .slice none 0 0, .slice none 0 0], .int .i64 (lookM f).1]) (by simp [results, Tryz.results132, go_sem, s0, s1, s2]) rfl (.inl ⟨H0.out, rfl, ?_⟩)
    exact (((HPW.out _ HB1.out).2.2.setCell (by simp) _).setCell (by simp) _).setCell (by simp) _

end Go.Proofs.YtglbepdjahddmaaGreat

namespace Go.Proofs.YtglbepdjahddmaaGreat
open Go.RowKit Go.Maps

def TreePost (f : FuncM) (w : World) (e : Ending) (w' : World) : Prop :=
  ((lookM f).1 ≠ 0 ∧ e = .returned (.tuple #[.agg #[.slice none 0 0, .slice none 0 0, .slice none 0 0, .slice none 0 0], .int .i64 (lookM f).1]) ∧ Below w.heap.size w w') ∨
  ((lookM f).1 = 0 ∧ ∃ (o : List Nat) (pl : Nat → Nat) (par : Nat → Option Nat) (B gp : Nat) (vs : List Value) (go capo gl gi : Nat), e = .returned (.tuple #[.agg #[.slice (some ⟨gp, 0, none⟩) f.blocks.length f.blocks.length, .slice (some ⟨go, 0, none⟩) o.length capo, .slice (some ⟨gl, 0, none⟩) f.blocks.length f.blocks.length, .slice (some ⟨gi, 0, none⟩) f.blocks.length f.blocks.length], .int .i64 0]) ∧ Flows f o pl capo ∧ Done (succM f.blocks) o pl par ∧ TreeAt w' B f.blocks o pl par gp vs go capo gl gi ∧ w.heap.size ≤ B ∧ Below w.heap.size w w')

theorem drew_alloc_below {w w' : World} {o : Obj} (h : Below (w.alloc o).drew.heap.size (w.alloc o).drew w') : Below w.heap.size w w' := by
  have h2 : Below (w.alloc o).heap.size (w.alloc o) w' := ⟨h.os, h.tape, h.output, h.size, h.block⟩
  exact ((Below.refl _ w).alloc (Nat.le_refl _) _).trans (h2.mono (by simp))

theorem drew_new_cell {w : World} {v : Value} {t : TypeId} : (w.alloc (.cells #[v] t)).drew.cell? ⟨w.heap.size, 0, none⟩ = some v := row_cells (heap_alloc_new w _) rfl 0

theorem drew_alloc2 {w w' : World} {o o2 : Obj} (h : Below ((w.alloc o).alloc o2).drew.heap.size ((w.alloc o).alloc o2).drew w') : Below w.heap.size w w' ∧ w'.heap[w.heap.size + 1]? = ((w.alloc o).alloc o2).heap[w.heap.size + 1]? := by
  have h2 : Below ((w.alloc o).alloc o2).heap.size ((w.alloc o).alloc o2) w' := ⟨h.os, h.tape, h.output, h.size, h.block⟩
  exact ⟨(((Below.refl _ w).alloc (Nat.le_refl _) _).alloc (by simp) _).trans (h2.mono (by simp; omega)), h2.block _ (by simp)⟩

theorem drew_new_cell2 {w : World} {v : Value} {t : TypeId} {o2 : Obj} : ((w.alloc (.cells #[v] t)).alloc o2).drew.cell? ⟨w.heap.size, 0, none⟩ = some v :=
  row_cells (w := (w.alloc (.cells #[v] t)).alloc o2) (w' := ((w.alloc (.cells #[v] t)).alloc o2).drew) (g := w.heap.size) (cs := #[v]) (t := t) (by rw [Below.heap_alloc _ _ _ (by simp)]; exact heap_alloc_new w _) rfl 0

theorem one_lt6 {w : World} {o : Obj} : w.heap.size < (w.alloc o).drew.heap.size := by
  show w.heap.size < (w.alloc o).heap.size
  simp

theorem two_lt6 {w : World} {o o2 : Obj} : w.heap.size < ((w.alloc o).alloc o2).drew.heap.size := by
  show w.heap.size < ((w.alloc o).alloc o2).heap.size
  simp
  omega

theorem new_two {w : World} {o o2 : Obj} : ((w.alloc o).alloc o2).heap[w.heap.size + 1]? = (((w.alloc o).alloc o2).heap[(w.alloc o).heap.size]?) := by simp

theorem drew_new_cell3 {w : World} {v : Value} {t : TypeId} {o2 : Obj} : ((w.alloc o2).alloc (.cells #[v] t)).drew.cell? ⟨w.heap.size + 1, 0, none⟩ = some v :=
  row_cells (w := (w.alloc o2).alloc (.cells #[v] t)) (w' := ((w.alloc o2).alloc (.cells #[v] t)).drew) (g := w.heap.size + 1) (cs := #[v]) (t := t) (by have := heap_alloc_new (w.alloc o2) (.cells #[v] t); simpa using this) rfl 0

theorem drew_alloc3 {w w' : World} {o o2 : Obj} (h : Below ((w.alloc o).alloc o2).drew.heap.size ((w.alloc o).alloc o2).drew w') : Below w.heap.size w w' ∧ w'.heap[w.heap.size]? = ((w.alloc o).alloc o2).heap[w.heap.size]? := by
  have h2 : Below ((w.alloc o).alloc o2).heap.size ((w.alloc o).alloc o2) w' := ⟨h.os, h.tape, h.output, h.size, h.block⟩
  exact ⟨(((Below.refl _ w).alloc (Nat.le_refl _) _).alloc (by simp) _).trans (h2.mono (by simp; omega)), h2.block _ (by simp; omega)⟩

theorem new_two3 {w : World} {o o2 : Obj} : ((w.alloc o).alloc o2).heap[w.heap.size]? = (w.alloc o).heap[w.heap.size]? := Below.heap_alloc _ _ _ (by simp)

theorem FlowLow.more {lo lo' gp : Nat} {vs : List Value} {go gl : Nat} (h : FlowLow lo gp vs go gl) (hl : lo' ≤ lo) : FlowLow lo' gp vs go gl :=
  ⟨Nat.le_trans hl h.gp, Nat.le_trans hl h.go, Nat.le_trans hl h.gl, fun t v k hv hk => Nat.le_trans hl (h.apart t v k hv hk)⟩

/-- a store below all of a tree -/
theorem TreeAt.low {w : World} {B lo : Nat} {bs : List BlockM} {o : List Nat} {pl : Nat → Nat} {par : Nat → Option Nat} {gp : Nat} {vs : List Value} {go capo gl gi : Nat} (h : TreeAt w B bs o pl par gp vs go capo gl gi) (hl : FlowLow lo gp vs go gl) (hB : lo ≤ B) {j : Nat} (hj : j < lo) (off : Nat) (u : Value) : TreeAt (w.setCell ⟨j, off, none⟩ u) B bs o pl par gp vs go capo gl gi := by
  have h1 := hl.gp
  have h2 := hl.go
  have h3 := hl.gl
  have h4 := h.lt.1
  exact ⟨h.flow.other j (by omega) (by omega) (by omega) (fun t v k hv hk => by have := hl.apart t v k hv hk; omega) off u, ownsRow_setCell_other h.idoms (a := ⟨j, off, none⟩) (by intro e; have := Option.some.inj e; simp at this; omega) u⟩

theorem two_lt7 {w : World} {o o2 : Obj} : w.heap.size + 1 < ((w.alloc o).alloc o2).drew.heap.size := by
  show w.heap.size + 1 < ((w.alloc o).alloc o2).heap.size
  simp

/-- the tree as it begins, behind its making -/
structure SixAt (W1 wx : World) (n lo gp go capo gl g6 gi : Nat) : Prop where
  row : wx.heap[g6]? = some (.cells #[.slice (some ⟨gp, 0, none⟩) n n, .slice (some ⟨go, 0, none⟩) lo capo, .slice (some ⟨gl, 0, none⟩) n n, .slice (some ⟨gi, 0, none⟩) n n] 169 (0, 0))
  own : wx.ownsRow W1.heap.size 3 1 (.slice (some ⟨gi, 0, none⟩) n n) n (List.replicate n (.int .i64 (-1)))
  ne : g6 ≠ gi
  low : W1.heap.size ≤ g6
  below : Below W1.heap.size W1 wx

theorem SixAt.late {W1 w3 : World} {n lo gp go capo gl gi base : Nat} (hb : Below W1.heap.size W1 w3) (ho : w3.ownsRow base 3 1 (.slice (some ⟨gi, 0, none⟩) n n) n (List.replicate n (.int .i64 (-1)))) (hbase : W1.heap.size ≤ base) :
    SixAt W1 (w3.alloc (.cells #[.slice (some ⟨gp, 0, none⟩) n n, .slice (some ⟨go, 0, none⟩) lo capo, .slice (some ⟨gl, 0, none⟩) n n, .slice (some ⟨gi, 0, none⟩) n n] 169)) n lo gp go capo gl w3.heap.size gi :=
  ⟨heap_alloc_new w3 _, (World.ownsRow.mono ho hbase).alloc _, by have := (ho.lt gi rfl).2; omega, hb.size, hb.alloc hb.size _⟩

theorem SixAt.early {W1 w3 : World} {n lo gp go capo gl gi g6 base : Nat} (hb : Below W1.heap.size W1 w3) (ho : w3.ownsRow base 3 1 (.slice (some ⟨gi, 0, none⟩) n n) n (List.replicate n (.int .i64 (-1)))) (hbase : g6 < base) (hlow : W1.heap.size ≤ g6)
    (hrow : w3.heap[g6]? = some (.cells #[.slice none 0 0, .slice none 0 0, .slice none 0 0, .slice none 0 0] 169 (0, 0))) :
    SixAt W1 ((((w3.setCell ⟨g6, 0, none⟩ (.slice (some ⟨gp, 0, none⟩) n n)).setCell ⟨g6, 1, none⟩ (.slice (some ⟨go, 0, none⟩) lo capo)).setCell ⟨g6, 2, none⟩ (.slice (some ⟨gl, 0, none⟩) n n)).setCell ⟨g6, 3, none⟩ (.slice (some ⟨gi, 0, none⟩) n n)) n lo gp go capo gl g6 gi := by
  have hg := (ho.lt gi rfl).1
  refine ⟨?_, ?_, by omega, hlow, (((hb.setCell (by simpa using hlow) _).setCell (by simpa using hlow) _).setCell (by simpa using hlow) _).setCell (by simpa using hlow) _⟩
  · have h1 := heap_setCell_same w3 g6 0 _ _ (.slice (some ⟨gp, 0, none⟩) n n) hrow
    have h2 := heap_setCell_same _ g6 1 _ _ (.slice (some ⟨go, 0, none⟩) lo capo) h1
    have h3 := heap_setCell_same _ g6 2 _ _ (.slice (some ⟨gl, 0, none⟩) n n) h2
    have h4 := heap_setCell_same _ g6 3 _ _ (.slice (some ⟨gi, 0, none⟩) n n) h3
    simpa using h4
  · have hne : ∀ off : Nat, (Value.slice (some ⟨gi, 0, none⟩) n n).ownBlock ≠ some (⟨g6, off, none⟩ : Addr).block := by
      intro off e
      have := Option.some.inj e
      simp at this
      omega
    exact ownsRow_setCell_other (ownsRow_setCell_other (ownsRow_setCell_other (ownsRow_setCell_other (World.ownsRow.mono ho (by omega)) (hne 0) _) (hne 1) _) (hne 2) _) (hne 3) _

set_option maxRecDepth 100000 in
set_option maxHeartbeats 4000000 in
theorem treeOf_any (f : FuncM) (B : Nat) (pv bv : Value) (w : World) (hpv : Ints w B pv f.params) (hbv : BlocksR w B bv f.blocks) (hB : B ≤ w.heap.size) (hid : ∀ u ∈ usesM f, I64 u.1) :
    Calls Tryz.prog 106 #[.agg #[pv, .int .i64 f.arrays, .int .i64 f.cells, bv]] w (TreePost f w) := by
  have HP := hideI hpv
  have HBL := hideI hbv
  have HID := hideI hid
  obtain ⟨P, pc, rfl, _⟩ := hpv
  obtain ⟨A, c, rfl, hbm, _⟩ := hbv
  obtain ⟨W0, hW0⟩ : ∃ W0, W0 = (w.alloc (.cells #[.slice P f.params.length pc, .int .i64 f.arrays, .int .i64 f.cells, .slice A f.blocks.length c] 25)).alloc (.cells #[.slice none 0 0, .slice none 0 0, .slice none 0 0, .slice none 0 0] 169) := ⟨_, rfl⟩
  have hB0 : Below w.heap.size w W0 := by rw [hW0]; exact ((Below.refl _ w).alloc (Nat.le_refl _) _).alloc (by simp) _
  have hs0 : W0.heap.size = w.heap.size + 2 := by rw [hW0]; simp
  have hbox : W0.heap[w.heap.size]? = some (.cells #[.slice P f.params.length pc, .int .i64 f.arrays, .int .i64 f.cells, .slice A f.blocks.length c] 25 (0, 0)) := by
    rw [hW0, Below.heap_alloc _ _ _ (by simp)]
    exact heap_alloc_new w _
  have hres : W0.heap[w.heap.size + 1]? = some (.cells #[.slice none 0 0, .slice none 0 0, .slice none 0 0, .slice none 0 0] 169 (0, 0)) := by
    rw [hW0]
    have := heap_alloc_new (w.alloc (.cells #[.slice P f.params.length pc, .int .i64 f.arrays, .int .i64 f.cells, .slice A f.blocks.length c] 25)) (.cells #[.slice none 0 0, .slice none 0 0, .slice none 0 0, .slice none 0 0] 169)
    simpa using this
  have HW0 := hideI hW0
  have HB0 := hideI hB0
  have HS0 := hideI hs0
  have G0 : Hid (∀ W, Below W0.heap.size W0 W → (∀ o, W.cell? ⟨w.heap.size, o, none⟩ = (#[.slice P f.params.length pc, .int .i64 f.arrays, .int .i64 f.cells, .slice A f.blocks.length c] : Array Value)[o]?) ∧ (∀ o, W.cell? ⟨w.heap.size + 1, o, none⟩ = (#[.slice none 0 0, .slice none 0 0, .slice none 0 0, .slice none 0 0] : Array Value)[o]?) ∧ (∀ o, W.frozen? ⟨w.heap.size + 1, o, none⟩ = false)) := fun W hW => by
    have h1 := hW.block w.heap.size (by omega)
    have h2 := hW.block (w.heap.size + 1) (by omega)
    exact ⟨row_cells hbox h1, row_cells hres h2, fun o => free_rowN hres h2 o⟩
  have HPW : Hid (∀ W, Below W0.heap.size W0 W → Ints W B (.slice P f.params.length pc) f.params ∧ BlocksR W B (.slice A f.blocks.length c) f.blocks ∧ Below w.heap.size w W) := fun W hW => by
    have h1 : Below w.heap.size w W := HB0.out.trans (hW.mono (by omega))
    exact ⟨HP.out.keeps (Keeps.of_below (h1.mono hB)), HBL.out.keeps (Keeps.of_below (h1.mono hB)), h1⟩
  obtain ⟨q1, q2, q3⟩ := G0.out W0 (Below.refl _ _)
  have b0 := q1 0
  have b1 := q1 1
  have b2 := q1 2
  have b3 := q1 3
  have hBW0 : B ≤ W0.heap.size := by omega
  have HFL := hideI (flow_any f B _ _ W0 (HPW.out _ (Below.refl _ _)).1 (HPW.out _ (Below.refl _ _)).2.1 hBW0 HID.out)
  clear hid hW0 hB0 hs0 hbox hres q1 q2 q3
  by_cases h0 : (lookM f).1 = 0
  · have H0 := hideI h0
    clear h0
    go_enter Tryz.func106, Tryz.ntmps106
    go_upto_region 1 with fail
    rw [← HW0.out]
    go_wp2_with (first
      | (go_at_call 132; go_must (refine HFL.out.mono ?_); rintro e w1 (⟨hbad, _⟩ | ⟨_, o, pl, gp, vs, go, capo, gl, rfl, hfs, hfa, hlow, hb1⟩); (exact absurd H0.out hbad); have HFS := hideI hfs; have HFA := hideI hfa; have HLOW := hideI hlow; have HB1 := hideI hb1; clear hfs hfa hlow hb1 b0 b1 b2 b3))
    obtain ⟨W1, hW1⟩ : ∃ W1, W1 = w1.alloc (.cells #[.slice (some ⟨gp, 0, none⟩) f.blocks.length f.blocks.length, .slice (some ⟨go, 0, none⟩) o.length capo, .slice (some ⟨gl, 0, none⟩) f.blocks.length f.blocks.length] 167) := ⟨_, rfl⟩
    rw [← hW1]
    have hfc : W1.heap[w1.heap.size]? = some (.cells #[.slice (some ⟨gp, 0, none⟩) f.blocks.length f.blocks.length, .slice (some ⟨go, 0, none⟩) o.length capo, .slice (some ⟨gl, 0, none⟩) f.blocks.length f.blocks.length] 167 (0, 0)) := by rw [hW1]; exact heap_alloc_new w1 _
    have hs1 : w1.heap.size < W1.heap.size := by rw [hW1]; simp
    have HBW1 : Hid (Below w1.heap.size w1 W1) := by show Below _ _ _; rw [hW1]; exact (Below.refl _ _).alloc (Nat.le_refl _) _
    have HFC := hideI hfc
    have hxr := row_cells hfc rfl
    have q0 := hxr 0
    have q1 := hxr 1
    have q2 := hxr 2
    have G4 : Hid (∀ W, Below W1.heap.size W1 W → W.cell? ⟨w1.heap.size, 0, none⟩ = some (.slice (some ⟨gp, 0, none⟩) f.blocks.length f.blocks.length) ∧ W.cell? ⟨w1.heap.size, 1, none⟩ = some (.slice (some ⟨go, 0, none⟩) o.length capo) ∧ W.cell? ⟨w1.heap.size, 2, none⟩ = some (.slice (some ⟨gl, 0, none⟩) f.blocks.length f.blocks.length)) := by
      intro W hW
      have hx := row_cells HFC.out (hW.block _ hs1)
      exact ⟨hx 0, hx 1, hx 2⟩
    have hn0 := HFS.out.n0
    have hn5 := HFS.out.n5
    have hn6 : f.blocks.length ≤ 100000 := by omega
    clear hW1 hxr hfc
    go_cut [6] (fun s6 wx => ∃ g6 gi : Nat, s6 = .pointer (some ⟨g6, 0, none⟩) ∧ Hid (SixAt W1 wx f.blocks.length o.length gp go capo gl g6 gi))
    case first =>
      go_region_held3 (fun w' => w'.cell? ⟨w1.heap.size, 0, none⟩ = some (.slice (some ⟨gp, 0, none⟩) f.blocks.length f.blocks.length) ∧ w'.cell? ⟨w1.heap.size, 1, none⟩ = some (.slice (some ⟨go, 0, none⟩) o.length capo) ∧ w'.cell? ⟨w1.heap.size, 2, none⟩ = some (.slice (some ⟨gl, 0, none⟩) f.blocks.length f.blocks.length)) (first | (with_reducible exact G4.out _ hfb) | (with_reducible exact G4.out _ (hfb.alloc hfb.size _)) | (with_reducible exact G4.out _ ((((hfb.setCell (Nat.le_succ _) _).setCell (Nat.le_succ _) _).setCell (Nat.le_succ _) _).setCell (Nat.le_succ _) _)) | (with_reducible exact G4.out _ ((((hfb.setCell (Nat.le_refl _) _).setCell (Nat.le_refl _) _).setCell (Nat.le_refl _) _).setCell (Nat.le_refl _) _)) | go_keep)
        (first
          | (go_at_call 133; (with_reducible refine (repeat_any (-1) f.blocks.length W1.heap.size (W1.alloc (.cells #[.int .i64 (-1)] 3)).drew hn0 hn6 drew_new_cell one_lt6).mono ?_); rintro e w3 ⟨gi, rfl, hrep, hb3⟩; have hfb := drew_alloc_below hb3)
          | (go_at_call 133; (with_reducible refine (repeat_any (-1) f.blocks.length W1.heap.size ((W1.alloc (.cells #[.int .i64 (-1)] 3)).alloc (.cells #[.slice none 0 0, .slice none 0 0, .slice none 0 0, .slice none 0 0] 169)).drew hn0 hn6 drew_new_cell2 two_lt6).mono ?_); rintro e w3 ⟨gi, rfl, hrep, hb3⟩; obtain ⟨hfb, h6⟩ := drew_alloc2 hb3; replace h6 := h6.trans (new_two.trans (heap_alloc_new _ _)); have hx6 := row_cells h6 rfl; have hz6 := free_rowN h6 rfl; have s0 := hx6 0; have s1 := hx6 1; have s2 := hx6 2; have s3 := hx6 3; have z0 := hz6 0; have z1 := hz6 1; have z2 := hz6 2; have z3 := hz6 3)
          | (go_at_call 133; (with_reducible refine (repeat_any (-1) f.blocks.length (W1.heap.size + 1) ((W1.alloc (.cells #[.slice none 0 0, .slice none 0 0, .slice none 0 0, .slice none 0 0] 169)).alloc (.cells #[.int .i64 (-1)] 3)).drew hn0 hn6 drew_new_cell3 two_lt7).mono ?_); rintro e w3 ⟨gi, rfl, hrep, hb3⟩; obtain ⟨hfb, h6⟩ := drew_alloc3 hb3; replace h6 := h6.trans (new_two3.trans (heap_alloc_new _ _)); have hx6 := row_cells h6 rfl; have hz6 := free_rowN h6 rfl; have s0 := hx6 0; have s1 := hx6 1; have s2 := hx6 2; have s3 := hx6 3; have z0 := hz6 0; have z1 := hz6 1; have z2 := hz6 2; have z3 := hz6 3))
      all_goals (go_wp2_with fail; go_meet)
      · exact ⟨_, gi, rfl, hideI (SixAt.late hfb hrep (Nat.le_of_lt one_lt6))⟩
      · exact ⟨_, gi, rfl, hideI (SixAt.early hfb hrep two_lt7 (Nat.le_succ _) h6)⟩
      · exact ⟨_, gi, rfl, hideI (SixAt.early hfb hrep two_lt6 (Nat.le_refl _) h6)⟩
    case rest =>
      obtain ⟨g6, gi, rfl, HSX⟩ := hcut
      clear q0 q1 q2
      obtain ⟨wx, rfl⟩ : ∃ wx : World, wx = wc := ⟨_, rfl⟩
      have hx := row_cells HSX.out.row rfl
      have r0 := hx 0
      have r1 := hx 1
      have r2 := hx 2
      have r3 := hx 3
      clear hx
      have HTX : Hid (TreeAt wx W1.heap.size f.blocks o pl (fun _ => none) gp vs go capo gl gi) := hideI ⟨((HFA.out.kept HBW1.out).more HBW1.out.size).kept HSX.out.below, by rw [tops_none]; exact HSX.out.own⟩
      have hs0 := HS0.out
      have hsw1 : W0.heap.size ≤ w1.heap.size := HB1.out.size
      have hswx : W1.heap.size ≤ wx.heap.size := HSX.out.below.size
      have HBX : Hid (Below W0.heap.size W0 wx) := (HB1.out.trans (HBW1.out.mono hsw1)).trans (HSX.out.below.mono (by omega))
      have hgi := HTX.out.lt
      have HG6 : Hid (g6 ≠ gi ∧ g6 < wx.heap.size) := ⟨HSX.out.ne, lt_of_heap HSX.out.row⟩
      go_wp2_with (go_at_call 134; go_must (refine (grow_any f.blocks o pl W1.heap.size gp go capo gl gi vs _ HTX.out HFS.out.ord HFS.out.range HFS.out.n5 HFS.out.len HFS.out.cap HFS.out.most).mono ?_); rintro e w5 ⟨par, rfl, hdone, htree, hg⟩; have HDONE := hideI hdone; have HTREE := hideI htree; have HG := hideI hg; clear hdone htree hg r0 r1 r2 r3; have hx := row_cells HSX.out.row (HG.out.block g6 HG6.out.2 (fun e => HG6.out.1 (Option.some.inj e))); have r0 := hx 0; have r1 := hx 1; have r2 := hx 2; have r3 := hx 3; have HB5 : Hid (Below W0.heap.size W0 w5) := HBX.out.grown HG.out HBX.out.size (fun k hk => by cases hk; omega); obtain ⟨q1, q2, q3⟩ := G0.out _ HB5.out; have s0 := q2 0; have s1 := q2 1; have s2 := q2 2; have s3 := q2 3; have g0 := q3 0; have g1 := q3 1; have g2 := q3 2; have g3 := q3 3; clear hx q1 q2 q3)
      refine bodyPost_ret (v := .tuple #[.agg #[.slice (some ⟨gp, 0, none⟩) f.blocks.length f.blocks.length, .slice (some ⟨go, 0, none⟩) o.length capo, .slice (some ⟨gl, 0, none⟩) f.blocks.length f.blocks.length, .slice (some ⟨gi, 0, none⟩) f.blocks.length f.blocks.length], .int .i64 0]) (by simp [results, Tryz.results106, go_sem, s0, s1, s2, s3]) rfl (.inr ⟨H0.out, o, pl, par, W1.heap.size, gp, vs, go, capo, gl, gi, rfl, HFS.out, HDONE.out, ?_, by omega, ?_⟩)
      · have hlo := HLOW.out
        exact (((HTREE.out.low hlo (by omega) (j := w.heap.size + 1) (by omega) 0 _).low hlo (by omega) (j := w.heap.size + 1) (by omega) 1 _).low hlo (by omega) (j := w.heap.size + 1) (by omega) 2 _).low hlo (by omega) (j := w.heap.size + 1) (by omega) 3 _
      · exact ((((HPW.out _ HB5.out).2.2.setCell (by simp) _).setCell (by simp) _).setCell (by simp) _).setCell (by simp) _
  · have H0 := hideI h0
    have hb : ((lookM f).1 != 0) = true := by simpa using h0
    clear h0
    go_enter Tryz.func106, Tryz.ntmps106
    go_upto_region 1 with fail
    rw [← HW0.out]
    go_wp2_with (first
      | (go_at_call 132; go_must (refine HFL.out.mono ?_); rintro e w1 (⟨_, rfl, hb1⟩ | ⟨hbad, _⟩); rotate_left; (exact absurd hbad H0.out); have HB1 := hideI hb1; have hb2 := hb1.alloc hb1.size (.cells #[.slice none 0 0, .slice none 0 0, .slice none 0 0] 167); obtain ⟨q1, q2, q3⟩ := G0.out _ hb2; have s0 := q2 0; have s1 := q2 1; have s2 := q2 2; have s3 := q2 3; have g0 := q3 0; have g1 := q3 1; have g2 := q3 2; have g3 := q3 3; clear q1 q2 q3 hb1 hb2 b0 b1 b2 b3))
    refine bodyPost_ret (v := .tuple #[.agg #[.slice none 0 0, .slice none 0 0, .slice none 0 0, .slice none 0 0], .int .i64 (lookM f).1]) (by simp [results, Tryz.results106, go_sem, s0, s1, s2, s3]) rfl (.inl ⟨H0.out, rfl, ?_⟩)
    exact (((((HPW.out _ HB1.out).2.2.alloc (HPW.out _ HB1.out).2.2.size _).setCell (by simp) _).setCell (by simp) _).setCell (by simp) _).setCell (by simp) _

end Go.Proofs.YtglbepdjahddmaaGreat

namespace Go.Proofs.YtglbepdjahddmaaGreat

inductive ReachW (bs : List BlockM) (gone : Int) : Nat → Prop
  | start (h : gone ≠ 0) : ReachW bs gone 0
  | step {x y : Nat} (h : ReachW bs gone y) (hx : x ∈ succM bs y) (hg : (x : Int) ≠ gone) : ReachW bs gone x

/-- the state of the search: S is marked, ws is still to be looked at; of one block the first i ends are looked at -/
structure Bfs (bs : List BlockM) (gone : Int) (b : Option (Nat × Nat)) (S ws : List Nat) : Prop where
  nodup : S.Nodup
  lt : ∀ x ∈ S, x < bs.length
  sound : ∀ x ∈ S, ReachW bs gone x
  zero : 0 ∈ S
  sub : ∀ x ∈ ws, x ∈ S
  closed : ∀ x ∈ S, x ∈ ws ∨ ∀ (j y : Nat), (succM bs x)[j]? = some y → (y : Int) ≠ gone → (∀ i, b = some (x, i) → j < i) → y ∈ S
  here : ∀ x i, b = some (x, i) → x ∈ S

variable {bs : List BlockM} {gone : Int} {b i t : Nat} {S ws : List Nat}

theorem Bfs.start (h : gone ≠ 0) (hn : 0 < bs.length) : Bfs bs gone none [0] [0] :=
  ⟨by simp, by simpa using hn, by simpa using ReachW.start h, by simp, by simp, fun x hx => .inl (by simpa using hx), fun _ _ h => by cases h⟩

theorem Bfs.pop (h : Bfs bs gone none S (b :: ws)) : Bfs bs gone (some (b, 0)) S ws := by
  refine ⟨h.nodup, h.lt, h.sound, h.zero, fun x hx => h.sub x (List.mem_cons_of_mem _ hx), fun x hx => ?_, fun x i e => by cases e; exact h.sub _ (List.mem_cons_self ..)⟩
  by_cases e : x = b
  · subst e
    exact .inr fun j y _ _ hi => absurd (hi 0 rfl) (by omega)
  · rcases h.closed x hx with h1 | h1
    · rcases List.mem_cons.1 h1 with h2 | h2
      · exact absurd h2 e
      · exact .inl h2
    · exact .inr fun j y hj hy _ => h1 j y hj hy (fun i e => by cases e)

theorem Bfs.skip (h : Bfs bs gone (some (b, i)) S ws) (ht : (succM bs b)[i]? = some t) (hs : t ∈ S ∨ (t : Int) = gone) : Bfs bs gone (some (b, i + 1)) S ws := by
  refine ⟨h.nodup, h.lt, h.sound, h.zero, h.sub, fun x hx => ?_, fun x k e => by cases e; exact h.here _ _ rfl⟩
  rcases h.closed x hx with h1 | h1
  · exact .inl h1
  · right
    intro j y hj hy hi
    by_cases e : x = b
    · subst e
      have hji := hi _ rfl
      by_cases e2 : j = i
      · subst e2
        rw [ht] at hj
        cases hj
        exact hs.resolve_right hy
      · exact h1 j y hj hy (fun k ek => by cases ek; omega)
    · exact h1 j y hj hy (fun k ek => by cases ek; exact absurd rfl e)

theorem Bfs.push (h : Bfs bs gone (some (b, i)) S ws) (ht : (succM bs b)[i]? = some t) (hs : t ∉ S) (hg : (t : Int) ≠ gone) (hl : t < bs.length) : Bfs bs gone (some (b, i + 1)) (t :: S) (ws ++ [t]) := by
  refine ⟨List.nodup_cons.2 ⟨hs, h.nodup⟩, fun x hx => ?_, fun x hx => ?_, List.mem_cons_of_mem _ h.zero, fun x hx => ?_, fun x hx => ?_, fun x k e => by cases e; exact List.mem_cons_of_mem _ (h.here _ _ rfl)⟩
  · rcases List.mem_cons.1 hx with rfl | hx
    · exact hl
    · exact h.lt x hx
  · rcases List.mem_cons.1 hx with rfl | hx
    · exact .step (h.sound b (h.here _ _ rfl)) (List.mem_of_getElem? ht) hg
    · exact h.sound x hx
  · rcases List.mem_append.1 hx with hx | hx
    · exact List.mem_cons_of_mem _ (h.sub x hx)
    · rw [List.mem_singleton] at hx
      subst hx
      exact List.mem_cons_self ..
  · rcases List.mem_cons.1 hx with rfl | hx
    · exact .inl (by simp)
    · rcases h.closed x hx with h1 | h1
      · exact .inl (List.mem_append_left _ h1)
      · right
        intro j y hj hy hi
        by_cases e : x = b
        · subst e
          have hji := hi _ rfl
          by_cases e2 : j = i
          · subst e2
            rw [ht] at hj
            cases hj
            exact List.mem_cons_self ..
          · exact List.mem_cons_of_mem _ (h1 j y hj hy (fun k ek => by cases ek; omega))
        · exact List.mem_cons_of_mem _ (h1 j y hj hy (fun k ek => by cases ek; exact absurd rfl e))

theorem Bfs.next (h : Bfs bs gone (some (b, i)) S ws) (hi : (succM bs b).length ≤ i) : Bfs bs gone none S ws := by
  refine ⟨h.nodup, h.lt, h.sound, h.zero, h.sub, fun x hx => ?_, fun _ _ e => by cases e⟩
  rcases h.closed x hx with h1 | h1
  · exact .inl h1
  · right
    intro j y hj hy _
    refine h1 j y hj hy (fun k ek => ?_)
    cases ek
    have := (List.getElem?_eq_some_iff.1 hj).1
    omega

theorem Bfs.all (h : Bfs bs gone none S []) (x : Nat) : x ∈ S ↔ ReachW bs gone x := by
  refine ⟨h.sound x, fun hr => ?_⟩
  induction hr with
  | start => exact h.zero
  | step _ hx hg ih =>
    rcases h.closed _ ih with h1 | h1
    · cases h1
    · obtain ⟨j, hj⟩ := List.getElem?_of_mem hx
      exact h1 j _ hj hg (fun _ e => by cases e)

/-- the order holds just what can be come to -/
theorem OrderIs.reach {o : List Nat} (h : OrderIs bs o) (x : Nat) : x ∈ o ↔ ReachW bs (-1) x := by
  obtain ⟨h0, hn, hc, hp⟩ := h.facts
  constructor
  · intro hx
    obtain ⟨i, hi⟩ := List.getElem?_of_mem hx
    clear hx
    induction i using Nat.strongRecOn generalizing x with
    | ind i ih =>
      rcases Nat.eq_zero_or_pos i with rfl | hpos
      · rw [h0] at hi
        cases hi
        exact .start (by decide)
      · obtain ⟨j, y, hj, hy, hs⟩ := hp i x hpos hi
        exact .step (ih j hj y hy) hs (by omega)
  · intro hr
    induction hr with
    | start => exact List.mem_of_getElem? h0
    | step _ hx _ ih => exact hc _ ih _ hx

end Go.Proofs.YtglbepdjahddmaaGreat

namespace Go.Proofs.YtglbepdjahddmaaGreat
open Go.RowKit Go.Maps

/-- a list that is cut at its front and grows at its end -/
def WorkR (w : World) (base : Nat) (v : Value) (ws : List Nat) : Prop :=
  ∃ g off cap cur, v = .slice (some ⟨g, off, none⟩) ws.length cap ∧ base ≤ g ∧ w.heap[g]? = some (.cells cur 3 (0, 0)) ∧ ws.length ≤ cap ∧ off + cap ≤ cur.size ∧ cap ≤ maxLen ∧ ∀ i (x : Nat), ws[i]? = some x → cur[off + i]? = some (.int .i64 (x : Int))

theorem WorkR.block {w w' : World} {base : Nat} {v : Value} {ws : List Nat} (h : WorkR w base v ws) (hk : ∀ g, base ≤ g → g < w.heap.size → w'.heap[g]? = w.heap[g]?) : WorkR w' base v ws := by
  obtain ⟨g, off, cap, cur, rfl, hb, hg, r⟩ := h
  exact ⟨g, off, cap, cur, rfl, hb, (hk g hb (Array.getElem?_eq_some_iff.1 hg).1).trans hg, r⟩

theorem WorkR.start {w : World} {base : Nat} (hb : base ≤ w.heap.size) : WorkR (w.alloc (.cells #[.int .i64 0] 3)) base (.slice (some ⟨w.heap.size, 0, none⟩) 1 1) [0] :=
  ⟨_, 0, 1, _, rfl, hb, heap_alloc_new w _, Nat.le_refl _, by simp, by decide, fun i x hx => by
    rcases i with _ | i
    · simp at hx; subst hx; rfl
    · simp at hx⟩

theorem WorkR.room {w : World} {base g off cap t : Nat} {cur : Array Value} {ws : List Nat} {o : Obj} (hb : base ≤ g) (hg : w.heap[g]? = some (.cells cur 3 (0, 0))) (h1 : off + cap ≤ cur.size) (h2 : cap ≤ maxLen) (h3 : ∀ i (x : Nat), ws[i]? = some x → cur[off + i]? = some (.int .i64 (x : Int))) (hr : ws.length + 1 ≤ cap) :
    WorkR ((w.alloc o).setCells g (off + ws.length) [.int .i64 (t : Int)]) base (.slice (some ⟨g, off, none⟩) (ws.length + 1) cap) (ws ++ [t]) := by
  have hgl := (Array.getElem?_eq_some_iff.1 hg).1
  have hg2 : (w.alloc o).heap[g]? = some (.cells cur 3 (0, 0)) := (Below.heap_alloc w o g hgl).trans hg
  refine ⟨g, off, cap, cur.setIfInBounds (off + ws.length) (.int .i64 (t : Int)), by rw [List.length_append]; rfl, hb, ?_, by rw [List.length_append]; exact hr, by simpa using h1, h2, fun i x hx => ?_⟩
  · exact heap_setCell_same _ g _ cur _ _ hg2
  · rw [Array.getElem?_setIfInBounds]
    by_cases hi : i < ws.length
    · rw [List.getElem?_append_left hi] at hx
      rw [if_neg (by omega)]
      exact h3 i x hx
    · rw [List.getElem?_append_right (by omega)] at hx
      have hi2 : i = ws.length := by
        have := (List.getElem?_eq_some_iff.1 hx).1
        simp at this
        omega
      subst hi2
      simp at hx
      subst hx
      rw [if_pos rfl, if_pos (by omega)]

theorem WorkR.own {w : World} {base b0 t : Nat} {v : Value} {ws : List Nat} {xs : List Value} (hown : w.ownsRow b0 3 1 v (ws.length + 1) (xs ++ [.int .i64 (t : Int)])) (hb : base ≤ b0) (hxs : xs = natInts ws) : WorkR w base v (ws ++ [t]) := by
  subst hxs
  rcases hown.2 with ⟨_, h⟩ | ⟨g, cap, cur, rfl, hbg, hg, hc, hm, hs, ht⟩
  · omega
  · refine ⟨g, 0, cap, cur, by rw [List.length_append]; rfl, by omega, hg, by rw [List.length_append]; exact hc, by omega, hm, fun i x hx => ?_⟩
    have hi := (List.getElem?_eq_some_iff.1 hx).1
    rw [List.length_append, List.length_singleton] at hi
    have h1 : (cur.toList.take ((ws.length + 1) * 1))[i]? = (natInts (ws ++ [t]))[i]? := by rw [ht]; unfold natInts; rw [List.map_append]; rfl
    rw [List.getElem?_take, if_pos (by omega)] at h1
    rw [Nat.zero_add, ← Array.getElem?_toList, h1]
    unfold natInts
    rw [List.getElem?_map, hx]
    rfl

theorem work_spare {X : World} {g off n : Nat} {cur : Array Value} (hg : X.heap[g]? = some (.cells cur 3 (0, 0))) (h : off + n < cur.size) (x : Value) : ∀ j, j < [x].length → (X.cell? ⟨g, off + n * 1 + j, none⟩).isSome = true ∧ X.frozen? ⟨g, off + n * 1 + j, none⟩ = false := by
  intro j hj
  simp at hj
  subst hj
  rw [Nat.mul_one, Nat.add_zero]
  refine ⟨?_, frozen_of_row X g (off + n) cur _ hg⟩
  rw [row_cells hg rfl, Array.getElem?_eq_getElem h]
  rfl

theorem one_new' (w : World) (a : Addr) (u x : Value) : ∀ (j : Nat) (y : Value), [x][j]? = some y → ((w.setCell a u).alloc (.cells #[x] 3)).cell? ((⟨w.heap.size, 0, none⟩ : Addr).add j) = some y := by
  have := one_new (w.setCell a u) x
  simpa using this

theorem without_room {wr w1 : World} {N n g i t : Nat} {S : List Nat} {o : Obj} {x : Value} (hs : (wr.setCell ⟨N + 1, t, none⟩ (.bool true)).ownsRow (N + 1) 4 1 (.slice (some ⟨N + 1, 0, none⟩) n n) n (marks n S)) (hb : Below (N + 1) w1 wr) (hg : N + 2 ≤ g) (hsz : N + 1 ≤ w1.heap.size) :
    (((wr.setCell ⟨N + 1, t, none⟩ (.bool true)).alloc o).setCells g i [x]).ownsRow (N + 1) 4 1 (.slice (some ⟨N + 1, 0, none⟩) n n) n (marks n S) ∧ Below (N + 1) w1 (((wr.setCell ⟨N + 1, t, none⟩ (.bool true)).alloc o).setCells g i [x]) := by
  refine ⟨ownsRow_setCell_other (hs.alloc o) (by simp [Value.ownBlock]; omega) _, ?_⟩
  exact ((hb.setCell (Nat.le_refl _) _).alloc (by have := hb.size; simp; omega) _).setCell (by simp; omega) _

theorem without_grow {wr w1 w3 : World} {N n t : Nat} {S : List Nat} {o : Obj} (hs : (wr.setCell ⟨N + 1, t, none⟩ (.bool true)).ownsRow (N + 1) 4 1 (.slice (some ⟨N + 1, 0, none⟩) n n) n (marks n S)) (hb : Below (N + 1) w1 wr) (hsz : N + 1 ≤ w1.heap.size) (hg : ((wr.setCell ⟨N + 1, t, none⟩ (.bool true)).alloc o).grownBy w3 none) :
    w3.ownsRow (N + 1) 4 1 (.slice (some ⟨N + 1, 0, none⟩) n n) n (marks n S) ∧ Below (N + 1) w1 w3 := by
  refine ⟨(hs.alloc o).kept hg (.inr (by simp [Value.ownBlock])), ?_⟩
  exact ((hb.setCell (Nat.le_refl _) _).alloc (by have := hb.size; simp; omega) _).grown hg (by have := hb.size; simp; omega) (by simp)

theorem natInts_at {ws : List Nat} {cur : Array Value} {off : Nat} (h : ∀ i (x : Nat), ws[i]? = some x → cur[off + i]? = some (.int .i64 (x : Int))) {w : World} {g : Nat} (hg : w.heap[g]? = some (.cells cur 3 (0, 0))) :
    ∀ j u, (natInts ws)[j]? = some u → w.cell? ⟨g, off + j, none⟩ = some u := by
  intro j u hu
  unfold natInts at hu
  rw [List.getElem?_map] at hu
  cases hx : ws[j]? with
  | none => rw [hx] at hu; cases hu
  | some x =>
    rw [hx] at hu
    cases hu
    rw [row_cells hg rfl]
    exact h j x hx

def WithoutPost (bs : List BlockM) (gone : Int) (w : World) (e : Ending) (w' : World) : Prop :=
  ∃ (S : List Nat) (g : Nat), e = .returned (.slice (some ⟨g, 0, none⟩) bs.length bs.length) ∧ (∀ x, x ∈ S ↔ ReachW bs gone x) ∧ w'.ownsRow w.heap.size 4 1 (.slice (some ⟨g, 0, none⟩) bs.length bs.length) bs.length (marks bs.length S) ∧ Below w.heap.size w w'

theorem no_zero {bs : List BlockM} (x : Nat) : x ∈ ([] : List Nat) ↔ ReachW bs 0 x := by
  constructor
  · intro h; cases h
  · intro h
    exfalso
    induction h with
    | start h => exact h rfl
    | step _ _ _ ih => exact ih

set_option maxRecDepth 100000 in
set_option maxHeartbeats 4000000 in
theorem refWithout_any (bs : List BlockM) (B : Nat) (pv av cv bv : Value) (gone : Int) (w : World) (hbv : BlocksR w B bv bs) (hB : B ≤ w.heap.size) (h0 : 0 < bs.length) (hn5 : bs.length ≤ 512) (hin : EndsIn bs) (hg0 : gone ≠ 0) :
    Calls Tryz.prog 31 #[.agg #[pv, av, cv, bv], .int .i64 gone] w (WithoutPost bs gone w) := by
  have HBL := hideI hbv
  have HIN := hideI hin
  have HG0 := hideI hg0
  obtain ⟨A, c, rfl, hbm, _⟩ := hbv
  obtain ⟨i0, hix, hz0, hz1, hz2⟩ := info_parts bool_info
  have hgb : (gone == 0) = false := by simpa using hg0
  clear hin hg0
  go_enter Tryz.func31, Tryz.ntmps31
  go_wp2_with (first
    | (at_make; go_must (refine wpList_make_full _ rfl _ _ 74 rfl (w.heap.size + 1) 4 i0 (.bool false) 1 Tryz.underlying74 hix hz0 hz1 .i64 .i64 _ _ bs.length rfl rfl rfl rfl (by rw [hz2]; omega) (by unfold maxLen; omega) (by simp) ?_); intro w1 hown1 hg1; rw [World.size_alloc] at hown1; go_must (rw [marks_made] at hown1; have HBX := hideI ((hg1.block w.heap.size (by simp) (by simp)).trans (heap_alloc_new w _)); have HB0 : Hid (Below w.heap.size w w1) := ((Below.refl _ _).alloc (Nat.le_refl _) _).grown hg1 (by simp) (by simp); have hlt1 : w.heap.size + 1 < w1.heap.size := (hown1.lt _ rfl).2; have HO1 := hideI hown1; have c0 : w1.cell? ⟨w.heap.size + 1, 0, none⟩ = some (.bool (decide (0 ∈ ([] : List Nat)))) := (by rw [World.ownsRow.cellAt hown1 0 (by omega), marks_at h0]); have f0 : w1.frozen? ⟨w.heap.size + 1, 0, none⟩ = false := World.ownsRow.frozenAt hown1 0; clear hown1 hg1; have hne := fun (h : bs = []) => (by rw [h] at h0; simp at h0 : False))))
  clear hix hz0 hz1 hz2 hgb
  obtain ⟨ws, hws⟩ : ∃ ws : World, ws = (w1.setCell ⟨w.heap.size + 1, 0, none⟩ (.bool true)).alloc (.cells #[.int .i64 0] 3) := ⟨_, rfl⟩
  have HK0 : Hid (WorkR ws (w.heap.size + 2) (.slice (some ⟨w1.heap.size, 0, none⟩) 1 1) [0]) := by
    show WorkR _ _ _ _
    rw [hws]
    have := WorkR.start (w := w1.setCell ⟨w.heap.size + 1, 0, none⟩ (.bool true)) (base := w.heap.size + 2) (by simp; omega)
    simpa using this
  have HOS : Hid (ws.ownsRow (w.heap.size + 1) 4 1 (.slice (some ⟨w.heap.size + 1, 0, none⟩) bs.length bs.length) bs.length (marks bs.length [0])) := by
    show World.ownsRow _ _ _ _ _ _ _
    rw [hws]
    have := (World.ownsRow.stored HO1.out 0 (.bool true)).1.alloc (.cells #[.int .i64 0] 3)
    rwa [marks_set] at this
  have HBS : Hid (Below (w.heap.size + 1) w1 ws) := by show Below _ _ _; rw [hws]; exact ((Below.refl _ _).setCell (by simp) _).alloc (by simp; omega) _
  rw [← hws]
  clear hws c0 f0
  go_loopg [6] (2 * bs.length + 2) (fun gk vo wr => ∃ (S ws : List Nat) (v : Value), v = vo ∧ (bs.length - S.length) * 2 + ws.length ≤ gk ∧ gk ≤ 2 * bs.length + 2 ∧ Hid (Bfs bs gone none S ws) ∧ Hid (WorkR wr (w.heap.size + 2) v ws) ∧ Hid (wr.ownsRow (w.heap.size + 1) 4 1 (.slice (some ⟨w.heap.size + 1, 0, none⟩) bs.length bs.length) bs.length (marks bs.length S)) ∧ Hid (Below (w.heap.size + 1) w1 wr))
  case atStart => exact ⟨[0], [0], _, rfl, by simp; omega, Nat.le_refl _, hideI (Bfs.start HG0.out h0), HK0, HOS, HBS⟩
  case round =>
    obtain ⟨S, ws, v, rfl, hgk, hgm, HF, HK, HO, HBr⟩ := hrel
    obtain ⟨g, off, cap, cur, rfl, hwb, hwg, hwc, hws, hwm, hwx⟩ := HK.out
    have HWX := hideI hwx
    have HWG := hideI hwg
    obtain ⟨L, hL⟩ : ∃ L, L = ws.length := ⟨_, rfl⟩
    rw [← hL]
    cases ws with
    | nil =>
      obtain rfl : L = 0 := hL
      clear hwx hwg
      go_wp2
      go_ret
      exact ⟨S, _, rfl, HF.out.all, World.ownsRow.mono HO.out (by omega), HB0.out.trans (HBr.out.mono (by omega))⟩
    | cons b ws =>
      rw [List.length_cons] at hL
      have hbl : b < bs.length := HF.out.lt b (HF.out.sub b (List.mem_cons_self ..))
      have hSl := below_len _ _ HF.out.nodup HF.out.lt
      have hhead : wr.cell? ⟨g, off, none⟩ = some (.int .i64 (b : Int)) := by rw [row_cells hwg rfl]; exact hwx 0 b rfl
      have HP := hideI HF.out.pop
      obtain ⟨q, hq⟩ : ∃ q, bs[b]? = some q := ⟨_, List.getElem?_eq_getElem hbl⟩
      obtain ⟨A', c', e0, _, hbx⟩ := (HBL.out.more' hB).keeps (Keeps.of_below (HB0.out.trans (HBr.out.mono (Nat.le_succ _))))
      cases e0
      obtain ⟨ab, boff, pq, cq, tv, rfl, hab, x0, x1, x2, x3, x4, x5, _, _, htv, _⟩ := hbx b q hq
      have HTV := hideI htv
      have HQ := hideI hq
      have HSU : Hid (succM bs b = q.term.to.map Int.toNat) := by show _ = _; unfold succM; rw [hq]
      obtain ⟨TA, tc, rfl, htm, _⟩ := htv
      obtain ⟨m, hm⟩ : ∃ m, m = q.term.to.length := ⟨_, rfl⟩
      have HM := hideI hm
      rw [← hm] at x4 htm
      have hxr := row_cells HBX.out (HBr.out.block w.heap.size (by omega))
      have g3 := hxr 3
      simp only [List.length_cons] at hgk hwc
      have HWX1 : Hid (∀ i (x : Nat), ws[i]? = some x → cur[off + 1 + i]? = some (.int .i64 (x : Int))) := fun i x hx => by
        have := HWX.out (i + 1) x (by simpa using hx)
        rwa [show off + (i + 1) = off + 1 + i by omega] at this
      clear hbx hq x0 x1 x2 x3 x5 hm hxr hwx hwg
      have HBo := HBr
      by_cases hc1 : cap = 1
      · subst hc1
        obtain rfl : ws = [] := List.eq_nil_of_length_eq_zero (by omega)
        obtain rfl : L = 1 := hL
        have HK1 : Hid (WorkR wr (w.heap.size + 2) (.slice (some ⟨g, off, none⟩) 0 0) []) := ⟨g, off, 0, cur, rfl, hwb, HWG.out, Nat.le_refl _, by omega, by unfold maxLen; omega, fun i x hx => by simp at hx⟩
        go_wp2
        obtain ⟨wo, rfl⟩ : ∃ wo : World, wo = wr := ⟨_, rfl⟩
        clear x4 hhead g3
        go_loopw [6, 9] (fun vo u wr => ∃ (i : Nat) (S ws : List Nat) (v : Value), v = vo ∧ i ≤ m ∧ u = .int .i64 i ∧ (bs.length - S.length) * 2 + ws.length + 1 ≤ gk ∧ Hid (Bfs bs gone (some (b, i)) S ws) ∧ Hid (WorkR wr (w.heap.size + 2) v ws) ∧ Hid (wr.ownsRow (w.heap.size + 1) 4 1 (.slice (some ⟨w.heap.size + 1, 0, none⟩) bs.length bs.length) bs.length (marks bs.length S)) ∧ Hid (Below (w.heap.size + 1) w1 wr)) (fun _ u _ => m - (intOf u).toNat)
        case atStart => exact ⟨0, S, _, _, rfl, Nat.zero_le _, rfl, by simp; omega, HP, HK1, HO, HBr⟩
        case round =>
          obtain ⟨i, S, ws, v, rfl, hi, rfl, hg2, HF, HK, HO, HBr⟩ := hrel
          obtain ⟨g, off, cap, cur, rfl, hwb, hwg, hwc, hws, hwm, hwx⟩ := HK.out
          have hSl := below_len _ _ HF.out.nodup HF.out.lt
          have hgl := (Array.getElem?_eq_some_iff.1 hwg).1
          have HWX := hideI hwx
          have HWG := hideI hwg
          clear hwx hwg
          by_cases hlt : i < m
          · obtain ⟨t, ht⟩ : ∃ t, q.term.to[i]? = some t := ⟨_, List.getElem?_eq_getElem (by rw [HM.out] at hlt; exact hlt)⟩
            have htn := HIN.out q (List.mem_of_getElem? HQ.out) t (List.mem_of_getElem? ht)
            obtain ⟨tn, rfl⟩ : ∃ tn : Nat, t = (tn : Int) := ⟨t.toNat, by omega⟩
            have htl : tn < bs.length := by omega
            have HTI : Hid ((succM bs b)[i]? = some tn) := by
              show _ = _
              rw [HSU.out, List.getElem?_map, ht]
              rfl
            obtain ⟨TA', tc', e0, _, hxx⟩ := (HTV.out.keeps (Keeps.refl _))
            cases e0
            obtain ⟨tb, toff, rfl, htb, hcell0⟩ := hxx i (by rw [← HM.out]; exact hlt)
            rw [ht] at hcell0
            simp only [Option.getD_some] at hcell0
            have hcell : wr.cell? ⟨tb, toff + i, none⟩ = some (.int .i64 (tn : Int)) := by
              rw [← hcell0]
              exact World.cell?_of_block (a := ⟨tb, toff + i, none⟩) ((HBr.out.block tb (by omega)).trans (HBo.out.block tb (by omega)).symm)
            have hmk : wr.cell? ⟨w.heap.size + 1, tn, none⟩ = some (.bool (decide (tn ∈ S))) := by rw [World.ownsRow.cellAt HO.out tn (by omega), marks_at htl]
            have hmf : wr.frozen? ⟨w.heap.size + 1, tn, none⟩ = false := World.ownsRow.frozenAt HO.out tn
            have hne1 : tb ≠ w.heap.size + 1 := by omega
            clear hxx ht htn hcell0
            by_cases hin2 : tn ∈ S
            · have HIN2 := hideI hin2
              rw [show decide (tn ∈ S) = true from by simpa using hin2] at hmk
              clear hin2 hmf
              go_wp2
              go_roundw
              case rel => exact ⟨i + 1, S, ws, _, rfl, by omega, by go_num, hg2, hideI (HF.out.skip HTI.out (.inl HIN2.out)), HK, HO, HBr⟩
              case measure => simp [intOf]; omega
            · have HIN2 := hideI hin2
              rw [show decide (tn ∈ S) = false from by simpa using hin2] at hmk
              have HSL := hideI (fresh_len HF.out.nodup HF.out.lt htl hin2)
              clear hin2
              by_cases htg : (tn : Int) = gone
              · have HTG := hideI htg
                have e1 : ((tn : Int) != gone) = false := by simpa using htg
                clear htg hmf
                go_wp2
                go_roundw
                case rel => exact ⟨i + 1, S, ws, _, rfl, by omega, by go_num, hg2, hideI (HF.out.skip HTI.out (.inr HTG.out)), HK, HO, HBr⟩
                case measure => simp [intOf]; omega
              · have HTG := hideI htg
                have e1 : ((tn : Int) != gone) = true := by simpa using htg
                clear htg
                have HS := World.ownsRow.stored HO.out tn (.bool true)
                rw [marks_set] at HS
                have HOS := hideI HS.1
                have HGS := hideI HS.2
                have HFN := hideI (HF.out.push HTI.out HIN2.out HTG.out htl)
                have hgne : g ≠ w.heap.size + 1 := by omega
                have HWG2 := hideI ((HGS.out.block g hgl (by simpa using hgne)).trans HWG.out)
                have hlen : (bs.length - (tn :: S).length) * 2 + (ws ++ [tn]).length + 1 ≤ gk := by have := HSL.out; simp; omega
                have HLEN := hideI hlen
                have hwl : ws.length ≤ 2000 := by omega
                obtain ⟨i1, hjx, hy0, hy1, hy2⟩ := info_parts int_info
                clear HS hlen
                have HWG3 : Hid (((wr.setCell ⟨w.heap.size + 1, tn, none⟩ (.bool true)).alloc (.cells #[.int .i64 (tn : Int)] 3)).heap[g]? = some (.cells cur 3 (0, 0))) := (Below.heap_alloc _ _ g (by simpa using hgl)).trans HWG2.out
                by_cases hrm : ws.length + 1 ≤ cap
                · have HSP := hideI (work_spare HWG3.out (n := ws.length) (off := off) (by omega) (.int .i64 (tn : Int)))
                  have HWB := hideI (without_room (i := off + ws.length) (o := .cells #[.int .i64 (tn : Int)] 3) (x := .int .i64 (tn : Int)) HOS.out HBr.out hwb (by omega))
                  have HWN := hideI (WorkR.room (t := tn) (o := .cells #[.int .i64 (tn : Int)] 3) hwb HWG2.out hws hwm HWX.out hrm)
                  go_wp2_with (at_builtin; go_must (refine wpList_append_arg _ rfl _ _ _ rfl 3 i1 (.int .i64 0) 1 8 Tryz.underlying22 hjx hy0 hy1 hy2 rfl (by decide) g off ws.length cap (natInts ws) rfl (by unfold natInts; simp) (natInts_at HWX.out HWG3.out) ⟨wr.heap.size, 0, none⟩ 1 1 [.int .i64 tn] rfl rfl (one_new' _ _ _ _) (by simp [Value.oneCell']) (fun _ => HSP.out) (by simp only [maxLen]; omega) (by omega) (fun _ => ?_) (fun h => absurd h (by omega))))
                  go_roundw
                  case rel => exact ⟨i + 1, tn :: S, ws ++ [tn], _, rfl, by omega, by go_num, HLEN.out, HFN, HWN, hideI HWB.out.1, hideI HWB.out.2⟩
                  case measure => simp [intOf]; omega
                · go_wp2_with (at_builtin; go_must (refine wpList_append_arg _ rfl _ _ _ rfl 3 i1 (.int .i64 0) 1 8 Tryz.underlying22 hjx hy0 hy1 hy2 rfl (by decide) g off ws.length cap (natInts ws) rfl (by unfold natInts; simp) (natInts_at HWX.out HWG3.out) ⟨wr.heap.size, 0, none⟩ 1 1 [.int .i64 tn] rfl rfl (one_new' _ _ _ _) (by simp [Value.oneCell']) (fun h => absurd h (by omega)) (by simp only [maxLen]; omega) (by omega) (fun h => absurd h (by omega)) (fun _ v2 w3 hown3 hg3 => ?_)); have HWN := hideI (WorkR.own hown3 (base := w.heap.size + 2) (by simp; omega) rfl); have HWB := hideI (without_grow HOS.out HBr.out (by omega) hg3); clear hown3 hg3)
                  go_roundw
                  case rel => exact ⟨i + 1, tn :: S, ws ++ [tn], v2, rfl, by omega, by go_num, HLEN.out, HFN, HWN, hideI HWB.out.1, hideI HWB.out.2⟩
                  case measure => simp [intOf]; omega
          · have HF2 := hideI (HF.out.next (by rw [HSU.out, List.length_map, ← HM.out]; omega))
            go_wp2
            go_roundg ((bs.length - S.length) * 2 + ws.length)
            case rel => exact ⟨S, ws, _, rfl, Nat.le_refl _, by omega, HF2, HK, HO, HBr⟩
            case measure => omega
      · have HK1 : Hid (WorkR wr (w.heap.size + 2) (.slice (some ⟨g, off + 1, none⟩) (L - 1) (cap - 1)) ws) := ⟨g, off + 1, cap - 1, cur, by rw [hL]; rfl, hwb, HWG.out, by omega, by omega, by omega, HWX1.out⟩
        have hLp : 1 ≤ L := by omega
        have hLb : decide (0 < L) = true := by simp; omega
        have hcp : ¬ cap ≤ 1 := by omega
        have HLL := hideI hL
        clear hL
        go_wp2
        obtain ⟨wo, rfl⟩ : ∃ wo : World, wo = wr := ⟨_, rfl⟩
        clear x4 hhead g3
        go_loopw [6, 9] (fun vo u wr => ∃ (i : Nat) (S ws : List Nat) (v : Value), v = vo ∧ i ≤ m ∧ u = .int .i64 i ∧ (bs.length - S.length) * 2 + ws.length + 1 ≤ gk ∧ Hid (Bfs bs gone (some (b, i)) S ws) ∧ Hid (WorkR wr (w.heap.size + 2) v ws) ∧ Hid (wr.ownsRow (w.heap.size + 1) 4 1 (.slice (some ⟨w.heap.size + 1, 0, none⟩) bs.length bs.length) bs.length (marks bs.length S)) ∧ Hid (Below (w.heap.size + 1) w1 wr)) (fun _ u _ => m - (intOf u).toNat)
        case atStart => exact ⟨0, S, _, _, rfl, Nat.zero_le _, rfl, by omega, HP, HK1, HO, HBr⟩
        case round =>
          obtain ⟨i, S, ws, v, rfl, hi, rfl, hg2, HF, HK, HO, HBr⟩ := hrel
          obtain ⟨g, off, cap, cur, rfl, hwb, hwg, hwc, hws, hwm, hwx⟩ := HK.out
          have hSl := below_len _ _ HF.out.nodup HF.out.lt
          have hgl := (Array.getElem?_eq_some_iff.1 hwg).1
          have HWX := hideI hwx
          have HWG := hideI hwg
          clear hwx hwg
          by_cases hlt : i < m
          · obtain ⟨t, ht⟩ : ∃ t, q.term.to[i]? = some t := ⟨_, List.getElem?_eq_getElem (by rw [HM.out] at hlt; exact hlt)⟩
            have htn := HIN.out q (List.mem_of_getElem? HQ.out) t (List.mem_of_getElem? ht)
            obtain ⟨tn, rfl⟩ : ∃ tn : Nat, t = (tn : Int) := ⟨t.toNat, by omega⟩
            have htl : tn < bs.length := by omega
            have HTI : Hid ((succM bs b)[i]? = some tn) := by
              show _ = _
              rw [HSU.out, List.getElem?_map, ht]
              rfl
            obtain ⟨TA', tc', e0, _, hxx⟩ := (HTV.out.keeps (Keeps.refl _))
            cases e0
            obtain ⟨tb, toff, rfl, htb, hcell0⟩ := hxx i (by rw [← HM.out]; exact hlt)
            rw [ht] at hcell0
            simp only [Option.getD_some] at hcell0
            have hcell : wr.cell? ⟨tb, toff + i, none⟩ = some (.int .i64 (tn : Int)) := by
              rw [← hcell0]
              exact World.cell?_of_block (a := ⟨tb, toff + i, none⟩) ((HBr.out.block tb (by omega)).trans (HBo.out.block tb (by omega)).symm)
            have hmk : wr.cell? ⟨w.heap.size + 1, tn, none⟩ = some (.bool (decide (tn ∈ S))) := by rw [World.ownsRow.cellAt HO.out tn (by omega), marks_at htl]
            have hmf : wr.frozen? ⟨w.heap.size + 1, tn, none⟩ = false := World.ownsRow.frozenAt HO.out tn
            have hne1 : tb ≠ w.heap.size + 1 := by omega
            clear hxx ht htn hcell0
            by_cases hin2 : tn ∈ S
            · have HIN2 := hideI hin2
              rw [show decide (tn ∈ S) = true from by simpa using hin2] at hmk
              clear hin2 hmf
              go_wp2
              go_roundw
              case rel => exact ⟨i + 1, S, ws, _, rfl, by omega, by go_num, hg2, hideI (HF.out.skip HTI.out (.inl HIN2.out)), HK, HO, HBr⟩
              case measure => simp [intOf]; omega
            · have HIN2 := hideI hin2
              rw [show decide (tn ∈ S) = false from by simpa using hin2] at hmk
              have HSL := hideI (fresh_len HF.out.nodup HF.out.lt htl hin2)
              clear hin2
              by_cases htg : (tn : Int) = gone
              · have HTG := hideI htg
                have e1 : ((tn : Int) != gone) = false := by simpa using htg
                clear htg hmf
                go_wp2
                go_roundw
                case rel => exact ⟨i + 1, S, ws, _, rfl, by omega, by go_num, hg2, hideI (HF.out.skip HTI.out (.inr HTG.out)), HK, HO, HBr⟩
                case measure => simp [intOf]; omega
              · have HTG := hideI htg
                have e1 : ((tn : Int) != gone) = true := by simpa using htg
                clear htg
                have HS := World.ownsRow.stored HO.out tn (.bool true)
                rw [marks_set] at HS
                have HOS := hideI HS.1
                have HGS := hideI HS.2
                have HFN := hideI (HF.out.push HTI.out HIN2.out HTG.out htl)
                have hgne : g ≠ w.heap.size + 1 := by omega
                have HWG2 := hideI ((HGS.out.block g hgl (by simpa using hgne)).trans HWG.out)
                have hlen : (bs.length - (tn :: S).length) * 2 + (ws ++ [tn]).length + 1 ≤ gk := by have := HSL.out; simp; omega
                have HLEN := hideI hlen
                have hwl : ws.length ≤ 2000 := by omega
                obtain ⟨i1, hjx, hy0, hy1, hy2⟩ := info_parts int_info
                clear HS hlen
                have HWG3 : Hid (((wr.setCell ⟨w.heap.size + 1, tn, none⟩ (.bool true)).alloc (.cells #[.int .i64 (tn : Int)] 3)).heap[g]? = some (.cells cur 3 (0, 0))) := (Below.heap_alloc _ _ g (by simpa using hgl)).trans HWG2.out
                by_cases hrm : ws.length + 1 ≤ cap
                · have HSP := hideI (work_spare HWG3.out (n := ws.length) (off := off) (by omega) (.int .i64 (tn : Int)))
                  have HWB := hideI (without_room (i := off + ws.length) (o := .cells #[.int .i64 (tn : Int)] 3) (x := .int .i64 (tn : Int)) HOS.out HBr.out hwb (by omega))
                  have HWN := hideI (WorkR.room (t := tn) (o := .cells #[.int .i64 (tn : Int)] 3) hwb HWG2.out hws hwm HWX.out hrm)
                  go_wp2_with (at_builtin; go_must (refine wpList_append_arg _ rfl _ _ _ rfl 3 i1 (.int .i64 0) 1 8 Tryz.underlying22 hjx hy0 hy1 hy2 rfl (by decide) g off ws.length cap (natInts ws) rfl (by unfold natInts; simp) (natInts_at HWX.out HWG3.out) ⟨wr.heap.size, 0, none⟩ 1 1 [.int .i64 tn] rfl rfl (one_new' _ _ _ _) (by simp [Value.oneCell']) (fun _ => HSP.out) (by simp only [maxLen]; omega) (by omega) (fun _ => ?_) (fun h => absurd h (by omega))))
                  go_roundw
                  case rel => exact ⟨i + 1, tn :: S, ws ++ [tn], _, rfl, by omega, by go_num, HLEN.out, HFN, HWN, hideI HWB.out.1, hideI HWB.out.2⟩
                  case measure => simp [intOf]; omega
                · go_wp2_with (at_builtin; go_must (refine wpList_append_arg _ rfl _ _ _ rfl 3 i1 (.int .i64 0) 1 8 Tryz.underlying22 hjx hy0 hy1 hy2 rfl (by decide) g off ws.length cap (natInts ws) rfl (by unfold natInts; simp) (natInts_at HWX.out HWG3.out) ⟨wr.heap.size, 0, none⟩ 1 1 [.int .i64 tn] rfl rfl (one_new' _ _ _ _) (by simp [Value.oneCell']) (fun h => absurd h (by omega)) (by simp only [maxLen]; omega) (by omega) (fun h => absurd h (by omega)) (fun _ v2 w3 hown3 hg3 => ?_)); have HWN := hideI (WorkR.own hown3 (base := w.heap.size + 2) (by simp; omega) rfl); have HWB := hideI (without_grow HOS.out HBr.out (by omega) hg3); clear hown3 hg3)
                  go_roundw
                  case rel => exact ⟨i + 1, tn :: S, ws ++ [tn], v2, rfl, by omega, by go_num, HLEN.out, HFN, HWN, hideI HWB.out.1, hideI HWB.out.2⟩
                  case measure => simp [intOf]; omega
          · have HF2 := hideI (HF.out.next (by rw [HSU.out, List.length_map, ← HM.out]; omega))
            go_wp2
            go_roundg ((bs.length - S.length) * 2 + ws.length)
            case rel => exact ⟨S, ws, _, rfl, Nat.le_refl _, by omega, HF2, HK, HO, HBr⟩
            case measure => omega

end Go.Proofs.YtglbepdjahddmaaGreat

namespace Go.Proofs.YtglbepdjahddmaaGreat
open Go.RowKit Go.Maps

/-- a dominates b: each way from block 0 to b goes through a -/
def OverP (bs : List BlockM) (o : List Nat) (a b : Nat) : Prop := a ∈ o ∧ b ∈ o ∧ ¬ ReachW bs (a : Int) b

theorem way_reach {bs : List BlockM} {pl : Nat → Nat} {x b : Nat} : (∃ k, Way (succM bs) pl x b k) ↔ ReachW bs (x : Int) b := by
  constructor
  · rintro ⟨k, w⟩
    induction w with
    | start h => exact .start (by omega)
    | fwd _ e n _ ih => exact .step ih e (by omega)
    | back _ e n _ ih => exact .step ih e (by omega)
  · intro h
    induction h with
    | start h => exact ⟨0, .start (by omega)⟩
    | step _ hx hg ih =>
      obtain ⟨k, w⟩ := ih
      exact w.next hx (by omega)

theorem dom_reach {bs : List BlockM} {pl : Nat → Nat} {x b : Nat} : Dom (succM bs) pl x b ↔ ¬ ReachW bs (x : Int) b := by
  rw [← way_reach (pl := pl)]
  exact ⟨fun h ⟨k, w⟩ => h k w, fun h k w => h ⟨k, w⟩⟩

theorem over_anc {bs : List BlockM} {o : List Nat} {pl : Nat → Nat} {par : Nat → Option Nat} (hO : Ord (succM bs) o pl) (hD : Done (succM bs) o pl par) {a b : Nat} (hb : b ∈ o) : OverP bs o a b ↔ Anc par a b := by
  unfold OverP
  rw [← dom_reach (pl := pl), ← hD.is b hb a]
  exact ⟨fun h => h.2.2, fun h => ⟨hD.tree.anc_mem hO h (hD.grown b hb), hb, h⟩⟩

theorem OverP.refl {bs : List BlockM} {o : List Nat} {a : Nat} (h : a ∈ o) : OverP bs o a a := by
  refine ⟨h, h, fun hr => ?_⟩
  cases hr with
  | start h => exact h rfl
  | step _ _ hg => exact hg rfl

end Go.Proofs.YtglbepdjahddmaaGreat
