/- What is proved: for every function f and every two numbers, in whatever memory they lie, DomChains answers true: what dominates a block closest is dominated by all else that dominates it; the frontier of a block has no block that it dominates but itself. No condition. -/
import Derived.Test.YtclbhbnidodmdaaDFrontiers
import Derived.Test.YtclbhbnidodmdaaAwake4
import Derived.Test.YtclbhbnidodmdaaOpen
import Derived.Test.YtclbhbnidodmdaaLaw
import Derived.IntWalk
import Derived.BigQuiet
import Derived.Deep.QuietTactic
import Derived.Deep.RegionWith
import Derived.Deep.RegionHeld3
namespace Go.Proofs.Ytclbhbnidodmdaa.domChains
open Go.ChangeShapes Go.WideShapes Go.ChangeAt Go.RowKit

theorem bool_of (p : Prop) : ∃ r : Bool, r = true ↔ p := by
  by_cases h : p
  · exact ⟨true, by simp [h]⟩
  · exact ⟨false, by simp [h]⟩

theorem front_bool (bs : List BlockM) (o : List Nat) : ∃ F : Nat → Nat → Bool, ∀ a b, F a b = true ↔ FrontP bs o a b :=
  ⟨fun a b => Classical.choose (bool_of (FrontP bs o a b)), fun a b => Classical.choose_spec (bool_of (FrontP bs o a b))⟩

set_option maxRecDepth 100000 in
set_option maxHeartbeats 2000000 in
theorem walk_no (f : FuncM) (pv bv : Value) (a b : Int) (w : World) (hF : FnIn w f pv bv) (hno : (lookM f).1 ≠ 0) :
    Calls Try.prog 14 #[.agg #[pv, .int .i64 f.arrays, .int .i64 f.cells, bv], .int .u16 a, .int .u16 b] w fun e w' => e = .returned (.bool true) ∧ Below w.heap.size w w' := by
  have HF := hideI hF
  have HID := hideI (uses_i64 hF.ok)
  obtain ⟨P, pc, hpv, _⟩ := hF.par
  obtain ⟨A, cc, hbv, _⟩ := hF.blk
  subst hpv hbv
  have HB : Hid (Below w.heap.size w (w.alloc (.cells #[.slice P f.params.length pc, .int .i64 f.arrays, .int .i64 f.cells, .slice A f.blocks.length cc] 25))) := (Below.refl _ w).alloc (Nat.le_refl _) _
  have HX := hideI (heap_alloc_new w (.cells #[.slice P f.params.length pc, .int .i64 f.arrays, .int .i64 f.cells, .slice A f.blocks.length cc] 25))
  have HI := hideI (idoms_any f w.heap.size _ _ (w.alloc (.cells #[.slice P f.params.length pc, .int .i64 f.arrays, .int .i64 f.cells, .slice A f.blocks.length cc] 25)) (HF.out.par.keeps (Keeps.of_below HB.out)) (HF.out.blk.keeps (Keeps.of_below HB.out)) HB.out.size HID.out)
  have HNO := hideI hno
  have hn1 : ((lookM f).1 != 0) = true := by simpa using hno
  clear hF hno
  go_enter Try.func14, Try.ntmps14
  go_wp2_with (first
    | (go_at_call 30; go_must (refine HI.out.mono ?_); rintro e w2 (⟨_, rfl, hb⟩ | ⟨hbad, _⟩); rotate_left; (exact absurd hbad HNO.out); replace HX := hideI ((hb.block _ (lt_of_heap HX.out)).trans HX.out); have hx := row_cells HX.out rfl; have q0 := hx 0; have q1 := hx 1; have q2 := hx 2; have q3 := hx 3; replace HB := hideI (HB.out.trans (hb.mono HB.out.size)); clear hb hx)
    | (go_at_call 35; go_must (refine (domFronts_no f w.heap.size _ _ _ (HF.out.par.keeps (Keeps.of_below HB.out)) (HF.out.blk.keeps (Keeps.of_below HB.out)) HB.out.size HID.out HNO.out).mono ?_); rintro e w3 ⟨rfl, hb⟩; replace HB := hideI (HB.out.trans (hb.mono HB.out.size)); clear hb q0 q1 q2 q3)
    | (go_at_call 32; refine (awake4_any _).mono ?_; rintro e w5 ⟨rfl, hb⟩; replace HB := hideI (HB.out.trans (hb.mono HB.out.size)); clear hb))
  go_ret
  exact ⟨rfl, HB.out⟩

set_option maxRecDepth 100000 in
set_option maxHeartbeats 4000000 in
theorem walk_yes (f : FuncM) (pv bv : Value) (a b : Nat) (w : World) (hF : FnIn w f pv bv) (h0 : (lookM f).1 = 0) (ha : a < 65536) (hb : b < 65536) :
    Calls Try.prog 14 #[.agg #[pv, .int .i64 f.arrays, .int .i64 f.cells, bv], .int .u16 a, .int .u16 b] w fun e w' => e = .returned (.bool true) ∧ Below w.heap.size w w' := by
  have HF := hideI hF
  have HID := hideI (uses_i64 hF.ok)
  obtain ⟨P, pc, hpv, _⟩ := hF.par
  obtain ⟨A, cc, hbv, _⟩ := hF.blk
  subst hpv hbv
  have HB : Hid (Below w.heap.size w (w.alloc (.cells #[.slice P f.params.length pc, .int .i64 f.arrays, .int .i64 f.cells, .slice A f.blocks.length cc] 25))) := (Below.refl _ w).alloc (Nat.le_refl _) _
  have HX := hideI (heap_alloc_new w (.cells #[.slice P f.params.length pc, .int .i64 f.arrays, .int .i64 f.cells, .slice A f.blocks.length cc] 25))
  have HI := hideI (idoms_any f w.heap.size _ _ (w.alloc (.cells #[.slice P f.params.length pc, .int .i64 f.arrays, .int .i64 f.cells, .slice A f.blocks.length cc] 25)) (HF.out.par.keeps (Keeps.of_below HB.out)) (HF.out.blk.keeps (Keeps.of_below HB.out)) HB.out.size HID.out)
  have H0 := hideI h0
  have hnb := look_some_block h0
  have hn0 := hnb.1
  have hn5 := hnb.2
  clear hF h0 hnb
  by_cases hz2 : 200 < f.blocks.length
  · have hd2 : decide ((200 : Int) < (f.blocks.length : Int)) = true := by simp; omega
    go_enter Try.func14, Try.ntmps14
    go_wp2_with (first
      | (go_at_call 30; go_must (refine HI.out.mono ?_); rintro e w2 (⟨hbad, _⟩ | ⟨_, o, pl, par, capo, gi, rfl, hfs, hdone, hown, hb⟩); (exact absurd H0.out hbad); have HFS := hideI hfs; obtain ⟨F, hFF⟩ := front_bool f.blocks o; have HFF := hideI hFF; replace HX := hideI ((hb.block _ (lt_of_heap HX.out)).trans HX.out); have hx := row_cells HX.out rfl; have q0 := hx 0; have q1 := hx 1; have q2 := hx 2; have q3 := hx 3; replace HB := hideI (HB.out.trans (hb.mono HB.out.size)); clear hb hx hfs hdone hown hFF)
      | (go_at_call 35; go_must (refine (domFronts_yes f w.heap.size _ _ _ (HF.out.par.keeps (Keeps.of_below HB.out)) (HF.out.blk.keeps (Keeps.of_below HB.out)) HB.out.size HID.out o F H0.out HFS.out.order HFF.out).mono ?_); rintro e w3 ⟨g, vs, rfl, hls, hb⟩; replace HB := hideI (HB.out.trans (hb.mono HB.out.size)); clear hb hls q0 q1 q2 q3)
      | (go_at_call 32; refine (awake4_any _).mono ?_; rintro e w5 ⟨rfl, hb⟩; replace HB := hideI (HB.out.trans (hb.mono HB.out.size)); clear hb))
    go_ret
    exact ⟨rfl, HB.out⟩
  · have hd2 : decide ((200 : Int) < (f.blocks.length : Int)) = false := by simp; omega
    obtain ⟨n, hn⟩ : ∃ n, n = f.blocks.length := ⟨_, rfl⟩
    obtain ⟨x, hx⟩ : ∃ x, x = a % n := ⟨_, rfl⟩
    obtain ⟨y, hy⟩ : ∃ y, y = b % n := ⟨_, rfl⟩
    have hxl0 : x < n := by rw [hx]; exact Nat.mod_lt _ (by omega)
    have hyl0 : y < n := by rw [hy]; exact Nat.mod_lt _ (by omega)
    have hxl : x < f.blocks.length := by omega
    have hyl : y < f.blocks.length := by omega
    have r1 : Int.tmod (a : Int) (f.blocks.length : Int) = (x : Int) := by rw [← hn, hx]; rfl
    have r2 : Int.tmod (b : Int) (f.blocks.length : Int) = (y : Int) := by rw [← hn, hy]; rfl
    have s1 : (a : Int) % (f.blocks.length : Int) = (x : Int) := by rw [← hn, hx]; omega
    have s2 : (b : Int) % (f.blocks.length : Int) = (y : Int) := by rw [← hn, hy]; omega
    have hd1 : ((f.blocks.length : Int) == 0) = false := by rw [beq_eq_false_iff_ne]; omega
    clear hx hy hxl0 hyl0 hn
    go_enter Try.func14, Try.ntmps14
    go_wp2_with (first
      | (go_at_call 30; go_must (refine HI.out.mono ?_); rintro e w2 (⟨hbad, _⟩ | ⟨_, o, pl, par, capo, gi, rfl, hfs, hdone, hown, hb⟩); (exact absurd H0.out hbad); have HFS := hideI hfs; have HDONE := hideI hdone; have HOWN := hideI hown; obtain ⟨F, hFF⟩ := front_bool f.blocks o; have HFF := hideI hFF; replace HX := hideI ((hb.block _ (lt_of_heap HX.out)).trans HX.out); have hx := row_cells HX.out rfl; have q0 := hx 0; have q1 := hx 1; have q2 := hx 2; have q3 := hx 3; replace HB := hideI (HB.out.trans (hb.mono HB.out.size)); clear hb hx hfs hdone hown hFF)
      | (go_at_call 35; go_must (refine (domFronts_yes f w.heap.size _ _ _ (HF.out.par.keeps (Keeps.of_below HB.out)) (HF.out.blk.keeps (Keeps.of_below HB.out)) HB.out.size HID.out o F H0.out HFS.out.order HFF.out).mono ?_); rintro e w3 ⟨g, vs, rfl, hls, hb⟩; have HLS := hideI (hls.mono (Nat.zero_le _)); replace HOWN := hideI (own_kept_below HOWN.out hb (fun k hk => (HOWN.out.lt k hk).2)); replace HX := hideI ((hb.block _ (lt_of_heap HX.out)).trans HX.out); replace HB := hideI (HB.out.trans (hb.mono HB.out.size)); clear hb hls q0 q1 q2 q3)
      | (go_at_call 32; refine (awake4_any _).mono ?_; rintro e w5 ⟨rfl, hb⟩; replace HLS := hideI (HLS.out.kept hb); replace HOWN := hideI (own_kept_below HOWN.out hb (fun k hk => (HOWN.out.lt k hk).2)); replace HX := hideI ((hb.block _ (lt_of_heap HX.out)).trans HX.out); replace HB := hideI (HB.out.trans (hb.mono HB.out.size)); clear hb))
    go_quiet (fail)
    obtain ⟨W, hW⟩ : ∃ W, W = w5.drewN nq := ⟨_, rfl⟩
    have HXW : Hid (W.heap[w.heap.size]? = some (.cells #[.slice P f.params.length pc, .int .i64 f.arrays, .int .i64 f.cells, .slice A f.blocks.length cc] 25 (0, 0))) := by rw [hW]; exact HX
    have HBW : Hid (Below w.heap.size w W) := by rw [hW]; exact drew_below HB.out nq
    have HOW := hideI (show W.ownsRow _ _ _ _ _ _ by rw [hW]; exact own_kept_below HOWN.out (drew_below (Below.refl w5.heap.size w5) nq) (fun k hk => (HOWN.out.lt k hk).2))
    have HLW := hideI (show Lists W _ _ _ _ _ by rw [hW]; exact HLS.out.kept (drew_below (Below.refl w5.heap.size w5) nq))
    rw [← hW]
    clear hW HX HB HOWN HLS r1 r2 s1 s2
    have hwW : w.heap.size < W.heap.size := lt_of_heap HXW.out
    have G0 : Hid (∀ W2, Below W.heap.size W W2 → (Ints W2 w.heap.size (.slice P f.params.length pc) f.params ∧ BlocksR W2 w.heap.size (.slice A f.blocks.length cc) f.blocks ∧ w.heap.size ≤ W2.heap.size) ∧ (∀ o, W2.cell? ⟨w.heap.size, o, none⟩ = (#[.slice P f.params.length pc, .int .i64 f.arrays, .int .i64 f.cells, .slice A f.blocks.length cc] : Array Value)[o]?) ∧ (∀ b, b < f.blocks.length → W2.cell? ⟨gi, b, none⟩ = some (.int .i64 (topI (par b)))) ∧ Lists W2 0 g f.blocks.length vs (frontRows f.blocks.length F f.blocks.length (fun _ => false))) := fun W2 hW2 => by
      have h1 : Below w.heap.size w W2 := HBW.out.trans (hW2.mono HBW.out.size)
      refine ⟨⟨HF.out.par.keeps (Keeps.of_below h1), HF.out.blk.keeps (Keeps.of_below h1), h1.size⟩, row_cells HXW.out (hW2.block _ hwW), fun b hb => ?_, HLW.out.kept hW2⟩
      have h5 := own_kept_below HOW.out hW2 (fun k hk => (HOW.out.lt k hk).2)
      rw [World.ownsRow.cellAt h5 b (by omega)]
      exact tops_at hb
    obtain ⟨_, hx, _, _⟩ := G0.out W (Below.refl _ _)
    have q0 := hx 0
    have q1 := hx 1
    have q2 := hx 2
    have q3 := hx 3
    obtain ⟨r, hr⟩ : ∃ r : Bool, r = true ↔ OverP f.blocks o x y := bool_of _
    have HR1 := hideI hr
    clear hx hr
    go_wp2_with fail
    refine (dominates_yes f w.heap.size _ _ _ (G0.out _ (Below.refl _ _)).1.1 (G0.out _ (Below.refl _ _)).1.2.1 HBW.out.size HID.out x y o r H0.out HFS.out.order hxl hyl HR1.out).mono ?_
    rintro e w6 ⟨rfl, hb6⟩
    have HB6 := hideI hb6
    clear hb6 q0 q1 q2 q3
    obtain ⟨_, hx, ht, _⟩ := G0.out w6 HB6.out
    have q0 := hx 0
    have q1 := hx 1
    have q2 := hx 2
    have q3 := hx 3
    have hways : r = false ∨ (r = true ∧ x = y) ∨ (r = true ∧ x ≠ y) := by
      cases r
      · exact .inl rfl
      · by_cases e : x = y
        · exact .inr (.inl ⟨rfl, e⟩)
        · exact .inr (.inr ⟨rfl, e⟩)
    have HTW := hideI ht
    clear hx ht
    rcases hways with rfl | ⟨rfl, hxy⟩ | ⟨rfl, hxy⟩
    case' inl =>
      go_wp2
      obtain ⟨wq, rfl⟩ : ∃ wq, wq = w6 := ⟨_, rfl⟩
      have HBQ := HB6
      clear HB6 HTW q0 q1 q2 q3
    case' inr.inl =>
      have hxx : ((x : Int) != (y : Int)) = false := by rw [hxy]; simp
      clear hxy
      go_wp2
      obtain ⟨wq, rfl⟩ : ∃ wq, wq = w6 := ⟨_, rfl⟩
      have HBQ := HB6
      clear HB6 HTW hxx q0 q1 q2 q3
    case' inr.inr =>
      have hxx : ((x : Int) != (y : Int)) = true := by rw [bne_iff_ne]; omega
      have hxyo := HR1.out.1 rfl
      obtain ⟨d, hd⟩ : ∃ d, par y = some d ∧ OverP f.blocks o x d := by
        have hay := (over_anc HFS.out.ord HDONE.out hxyo.2.1).1 hxyo
        cases hay with
        | refl => exact absurd rfl hxy
        | up e k => exact ⟨_, e, (over_anc HFS.out.ord HDONE.out (HDONE.out.tree.up _ _ e).2.1).2 k⟩
      have c4 := HTW.out y hyl
      rw [hd.1] at c4
      simp only [topI] at c4
      have hdl := HFS.out.range d hd.2.2.1
      have HOD := hideI hd.2
      clear hxy hxyo hd HTW
      have G6 : Hid (∀ W2, Below w6.heap.size w6 W2 → W2.cell? ⟨w.heap.size, 0, none⟩ = some (.slice P f.params.length pc) ∧ W2.cell? ⟨w.heap.size, 1, none⟩ = some (.int .i64 f.arrays) ∧ W2.cell? ⟨w.heap.size, 2, none⟩ = some (.int .i64 f.cells) ∧ W2.cell? ⟨w.heap.size, 3, none⟩ = some (.slice A f.blocks.length cc) ∧ W2.cell? ⟨gi, y, none⟩ = some (.int .i64 d)) := fun W2 h2 => by
        obtain ⟨_, hx, ht, _⟩ := G0.out W2 (HB6.out.trans (h2.mono HB6.out.size))
        have hgi : gi < w6.heap.size := Nat.lt_of_lt_of_le (HOW.out.lt gi rfl).2 HB6.out.size
        exact ⟨hx 0, hx 1, hx 2, hx 3, (h2.cell (p := ⟨gi, y, none⟩) hgi).trans c4⟩
      go_upto_region 9 with fail
      go_region_held3 (fun w' => w'.cell? ⟨w.heap.size, 0, none⟩ = some (.slice P f.params.length pc) ∧ w'.cell? ⟨w.heap.size, 1, none⟩ = some (.int .i64 f.arrays) ∧ w'.cell? ⟨w.heap.size, 2, none⟩ = some (.int .i64 f.cells) ∧ w'.cell? ⟨w.heap.size, 3, none⟩ = some (.slice A f.blocks.length cc) ∧ w'.cell? ⟨gi, y, none⟩ = some (.int .i64 d)) (first | go_keep | exact G6.out _ hb7)
        (first | (go_at_call 31; refine (dominates_yes f w.heap.size _ _ _ (G0.out _ (by exact drew_below HB6.out 1)).1.1 (G0.out _ (by exact drew_below HB6.out 1)).1.2.1 (by exact Nat.le_trans HBW.out.size HB6.out.size) HID.out x d o true H0.out HFS.out.order hxl hdl ⟨fun _ => HOD.out, fun _ => rfl⟩).mono ?_; rintro e w7 ⟨rfl, hb7a⟩; have hb7 : Below w6.heap.size w6 w7 := ⟨hb7a.os, hb7a.tape, hb7a.output, hb7a.size, hb7a.block⟩))
      go_wp2
      obtain ⟨wq, rfl⟩ : ∃ wq, wq = w7 := ⟨_, rfl⟩
      have HBQ : Hid (Below W.heap.size W wq) := HB6.out.trans (hb7.mono HB6.out.size)
      clear HB6 G6 hxx c4 q0 q1 q2 q3 hb7 hb7a HOD
    all_goals
      obtain ⟨fl, hfl⟩ : ∃ fl, fl = frontRow F f.blocks.length (fun _ => false) x := ⟨_, rfl⟩
      have hla : (frontRows f.blocks.length F f.blocks.length (fun _ => false))[x]? = some fl := by rw [frontRows_at hxl, hfl]
      obtain ⟨va, hva⟩ : ∃ va, vs[x]? = some va := ⟨_, List.getElem?_eq_getElem (by rw [HLW.out.vl]; exact hxl)⟩
      have HFL : Hid (∀ c ∈ fl, c < f.blocks.length ∧ (x = c ∨ ¬ OverP f.blocks o x c)) := fun c hc => by
        rw [hfl] at hc
        unfold frontRow at hc
        simp only [Bool.false_eq_true, if_false, List.append_nil, List.mem_filter, List.mem_range] at hc
        exact ⟨hc.1, ((HFF.out x c).1 hc.2).2⟩
      have hfll : fl.length ≤ 1000 := by rw [hfl]; have := frontRow_len (F := F) (b := f.blocks.length) (P := fun _ => false) (a := x); omega
      obtain ⟨PA, pc2, e1, _, hpx⟩ := nat_ints (HLW.out.own x va fl hva hla) (by omega)
      rw [List.length_map] at e1 hpx
      subst e1
      have HPX := hideI hpx
      have HC2 : Hid (∀ W2, Below W.heap.size W W2 → W2.cell? ⟨g, x, none⟩ = some (.slice PA fl.length pc2)) := fun W2 h2 => by
        have h3 := HLW.out.kept h2
        rw [World.ownsRow.cellAt h3.row x (by omega)]
        exact hva
      clear hfl hla hva hpx
      go_loopw [18] (fun u wr => ∃ i : Nat, i ≤ fl.length ∧ u = .int .i64 i ∧ Hid (Below W.heap.size W wr)) (fun u _ => fl.length - (intOf u).toNat)
      case atStart => exact ⟨0, Nat.zero_le _, rfl, HBQ⟩
      case round =>
        obtain ⟨i, hi, rfl, HBr⟩ := hrel
        have cg := HC2.out wr HBr.out
        by_cases hlt : i < fl.length
        · obtain ⟨c, hc⟩ : ∃ c, fl[i]? = some c := ⟨_, List.getElem?_eq_getElem hlt⟩
          obtain ⟨hcl, hcf⟩ := HFL.out c (List.mem_of_getElem? hc)
          obtain ⟨pb, po, rfl, hpb, d0⟩ := HPX.out i hlt
          rw [List.getElem?_map, hc] at d0
          simp only [Option.map_some, Option.getD_some] at d0
          have G8 : Hid (∀ W2, Below W.heap.size W W2 → W2.cell? ⟨w.heap.size, 0, none⟩ = some (.slice P f.params.length pc) ∧ W2.cell? ⟨w.heap.size, 1, none⟩ = some (.int .i64 f.arrays) ∧ W2.cell? ⟨w.heap.size, 2, none⟩ = some (.int .i64 f.cells) ∧ W2.cell? ⟨w.heap.size, 3, none⟩ = some (.slice A f.blocks.length cc) ∧ W2.cell? ⟨g, x, none⟩ = some (.slice (some ⟨pb, po, none⟩) fl.length pc2) ∧ W2.cell? ⟨pb, po + i, none⟩ = some (.int .i64 (c : Int))) := fun W2 h2 => by
            obtain ⟨_, hx, _, _⟩ := G0.out W2 h2
            exact ⟨hx 0, hx 1, hx 2, hx 3, HC2.out W2 h2, (h2.cell (p := ⟨pb, po + i, none⟩) hpb).trans d0⟩
          obtain ⟨q0, q1, q2, q3, q4, q5⟩ := G8.out wr HBr.out
          obtain ⟨r2, hr2⟩ : ∃ r : Bool, r = true ↔ OverP f.blocks o x c := bool_of _
          have HR2 := hideI hr2
          have hways : r2 = false ∨ (r2 = true ∧ c = x) := by
            cases r2
            · exact .inl rfl
            · refine .inr ⟨rfl, ?_⟩
              rcases hcf with e | e
              · exact e.symm
              · exact absurd (hr2.1 rfl) e
          clear hc d0 hcf hr2 cg
          rcases hways with rfl | ⟨rfl, hcx⟩
          · go_upto_region 15 with fail
            go_region_held3 (fun w' => w'.cell? ⟨w.heap.size, 0, none⟩ = some (.slice P f.params.length pc) ∧ w'.cell? ⟨w.heap.size, 1, none⟩ = some (.int .i64 f.arrays) ∧ w'.cell? ⟨w.heap.size, 2, none⟩ = some (.int .i64 f.cells) ∧ w'.cell? ⟨w.heap.size, 3, none⟩ = some (.slice A f.blocks.length cc) ∧ w'.cell? ⟨g, x, none⟩ = some (.slice (some ⟨pb, po, none⟩) fl.length pc2) ∧ w'.cell? ⟨pb, po + i, none⟩ = some (.int .i64 (c : Int))) (first | go_keep | exact G8.out _ hb8)
              (first | (go_at_call 31; refine (dominates_yes f w.heap.size _ _ _ (G0.out _ (by exact drew_below HBr.out 1)).1.1 (G0.out _ (by exact drew_below HBr.out 1)).1.2.1 (by exact Nat.le_trans HBW.out.size HBr.out.size) HID.out x c o false H0.out HFS.out.order hxl hcl HR2.out).mono ?_; rintro e w8 ⟨rfl, hb8a⟩; have hb8 : Below W.heap.size W w8 := HBr.out.trans (⟨hb8a.os, hb8a.tape, hb8a.output, hb8a.size, fun k hk => hb8a.block k (Nat.lt_of_lt_of_le hk HBr.out.size)⟩ : Below W.heap.size wr w8)))
            clear q0 q1 q2 q3 q4 q5
            go_wp2
            go_roundw
            case rel => exact ⟨i + 1, by omega, by go_num, hb8⟩
            case measure => simp [intOf]; omega
          · have hcc : ((c : Int) != (x : Int)) = false := by rw [hcx]; simp
            clear hcx
            go_upto_region 15 with fail
            go_region_held3 (fun w' => w'.cell? ⟨w.heap.size, 0, none⟩ = some (.slice P f.params.length pc) ∧ w'.cell? ⟨w.heap.size, 1, none⟩ = some (.int .i64 f.arrays) ∧ w'.cell? ⟨w.heap.size, 2, none⟩ = some (.int .i64 f.cells) ∧ w'.cell? ⟨w.heap.size, 3, none⟩ = some (.slice A f.blocks.length cc) ∧ w'.cell? ⟨g, x, none⟩ = some (.slice (some ⟨pb, po, none⟩) fl.length pc2) ∧ w'.cell? ⟨pb, po + i, none⟩ = some (.int .i64 (c : Int))) (first | go_keep | exact G8.out _ hb8)
              (first | (go_at_call 31; refine (dominates_yes f w.heap.size _ _ _ (G0.out _ (by exact drew_below HBr.out 1)).1.1 (G0.out _ (by exact drew_below HBr.out 1)).1.2.1 (by exact Nat.le_trans HBW.out.size HBr.out.size) HID.out x c o true H0.out HFS.out.order hxl hcl ⟨fun _ => HR2.out.1 rfl, fun _ => rfl⟩).mono ?_; rintro e w8 ⟨rfl, hb8a⟩; have hb8 : Below W.heap.size W w8 := HBr.out.trans (⟨hb8a.os, hb8a.tape, hb8a.output, hb8a.size, fun k hk => hb8a.block k (Nat.lt_of_lt_of_le hk HBr.out.size)⟩ : Below W.heap.size wr w8)))
            obtain ⟨p0, p1, p2, p3, p4, p5⟩ := G8.out w8 hb8
            clear q0 q1 q2 q3 q4 q5 p0 p1 p2 p3
            go_wp2
            go_roundw
            case rel => exact ⟨i + 1, by omega, by go_num, hb8⟩
            case measure => simp [intOf]; omega
        · go_wp2
          go_ret
          exact ⟨rfl, HBW.out.trans (HBr.out.mono HBW.out.size)⟩

theorem u16_nat {x : Int} (h : (Lit.int .u16 x).wf = true) : ∃ a : Nat, x = (a : Int) ∧ a < 65536 := by
  have h3 : IntKind.u16.min ≤ x ∧ x ≤ IntKind.u16.max := by simpa [Lit.wf] using h
  have h4 : 0 ≤ x ∧ x ≤ 65535 := h3
  exact ⟨x.toNat, by omega, by omega⟩

theorem walk (f : FuncM) (pv bv : Value) (a b : Nat) (w : World) (hF : FnIn w f pv bv) (ha : a < 65536) (hb : b < 65536) :
    Calls Try.prog 14 #[.agg #[pv, .int .i64 f.arrays, .int .i64 f.cells, bv], .int .u16 a, .int .u16 b] w fun e w' => e = .returned (.bool true) ∧ Below w.heap.size w w' := by
  by_cases h0 : (lookM f).1 = 0
  · exact walk_yes f pv bv a b w hF h0 ha hb
  · exact walk_no f pv bv a b w hF h0

set_option maxRecDepth 100000 in
theorem lifted (os : Os) (started : os.Started) (H : Type) (enc : TypeId × Value → H) :
    ReturnsInHanded {} Try.checked os 14 .any (Rows.domChainsSpec.pre6 enc Try.prog Try.f14 Rows.domChainsRow.domain false) (Rows.domChainsSpec.post enc Try.prog Try.f14 false true false false) := by
  refine returnsInHanded_of_change_sized (C := Try.checked) own started (by kernel_rfl) Try.func14
    (ChangeSpec.witness6 (enc := enc) (C := Try.checked) false ⟨#[], #[.agg #[.slice none 0 0, .int .i64 0, .int .i64 0, .slice none 0 0], .int .u16 0, .int .u16 0], []⟩ 8 (by kernel_rfl) (by kernel_rfl) (by kernel_rfl) (by kernel_rfl)) ?_
  intro W base args ds gs before hval0 hW hcnd hsz _
  have hval : ∀ (j : Nat) t v, Try.f14.params[j]? = some t → args[j]? = some v → Value.okWide Try.prog W .any base t v := hval0
  have hW' := hW
  obtain ⟨p, q, hA0, hV, rfl, hfz, hnd⟩ := hW
  have hA : DataW.TrodAll enc Try.prog W 0 (fun _ => true) true Try.f14.params.toList args.toList ds p := hA0
  rw [Try.params14] at hA hval
  obtain ⟨v0, vs0, d0, ds0, p0, q0, hargs, rfl, rfl, h0, r0⟩ := trodAll_cons hA
  obtain ⟨v1, vs1, d1, ds1, p1, q1, rfl, rfl, rfl, h1, r1⟩ := trodAll_cons r0
  obtain ⟨v2, vs2, d2, ds2, p2, q2, rfl, rfl, rfl, h2, r2⟩ := trodAll_cons r1
  obtain ⟨rfl, rfl, rfl⟩ := trodAll_nil r2
  obtain rfl : args = #[v0, v1, v2] := by cases args; simp_all
  obtain ⟨rfl, rfl⟩ := trodVars_none hV
  obtain ⟨f, pv, bv, rfl, hF⟩ := open_func (hval 0 25 v0 rfl rfl) h0 hsz (j := 0) rfl rfl
  obtain ⟨x1, rfl, _, _, w1⟩ := open_int Try.underlying48 (hval 1 48 v1 rfl rfl) h1
  obtain ⟨x2, rfl, _, _, w2⟩ := open_int Try.underlying48 (hval 2 48 v2 rfl rfl) h2
  obtain ⟨a, rfl, ha⟩ := u16_nat w1
  obtain ⟨b, rfl, hb⟩ := u16_nat w2
  clear hA0 hval0
  refine (walk f pv bv a b W hF ha hb).mono fun e W' ⟨he, hg⟩ => ?_
  subst he
  exact ⟨_, rfl, law_post (by kernel_rfl) hW' rfl (by kernel_rfl) Try.underlying4 rfl rfl rfl (by rw [Try.params14]; decide +kernel) hg⟩

theorem over : Rows.domChainsRow.holds Try.pinned (OpenSpec.ofChange Rows.domChainsSpec) :=
  OpenClaim.holds_of_wide 14 Try.f14 rfl rfl rfl rfl rfl rfl rfl ⟨rfl, rfl, rfl, rfl, rfl⟩ rfl rfl rfl rfl rfl (by kernel_rfl) Try.func14 (by kernel_rfl)
    (of_decide_eq_true (by kernel_rfl)) (by unfold Func.isWrapper; first | (rw [if_pos (by decide +kernel)]; kernel_rfl) | (rw [if_neg (by decide +kernel)]; exact ⟨rfl, rfl⟩))
    (fun os started H enc _ => lifted os started H enc)

theorem proved : Rows.DomChainsSaid := over
#print axioms proved
end Go.Proofs.Ytclbhbnidodmdaa.domChains
