/- dom.Meet, as it is called. -/
import Derived.Test.YtclbhbnidodmdaaDDominates
namespace Go.Proofs.Ytclbhbnidodmdaa
open Go.RowKit Go.Maps

/-- is x a block that can be come to? -/
def okB (o : List Nat) (n : Nat) (x : Int) : Bool := isBlockB n x && decide (x.toNat ∈ o)

def MeetAllPost (f : FuncM) (o : List Nat) (ls : List Nat) (w : World) (e : Ending) (w' : World) : Prop :=
  ∃ m : Nat, e = .returned (.tuple #[.int .i64 m, .int .i64 0]) ∧ m ∈ o ∧ (∀ x, OverP f.blocks o x m ↔ ∀ b ∈ ls, OverP f.blocks o x b) ∧ (∀ u v, OverP f.blocks o u v → OverP f.blocks o v u → u = v) ∧ Below w.heap.size w w'

def MeetListPost (f : FuncM) (o : List Nat) (L : List Int) (w : World) (e : Ending) (w' : World) : Prop :=
  ((∃ x ∈ L, okB o f.blocks.length x = false) ∧ e = .returned (.tuple #[.int .i64 0, .int .i64 9]) ∧ Below w.heap.size w w') ∨
  ((∀ x ∈ L, okB o f.blocks.length x = true) ∧ MeetAllPost f o (L.map Int.toNat) w e w')

def MeetSomePost (f : FuncM) (L : List Int) (w : World) (e : Ending) (w' : World) : Prop := ∃ o, OrderIs f.blocks o ∧ (∃ pl par, Ord (succM f.blocks) o pl ∧ Done (succM f.blocks) o pl par) ∧ MeetListPost f o L w e w'

theorem meetAll_of {bs : List BlockM} {o : List Nat} {pl : Nat → Nat} {par : Nat → Option Nat} {ls : List Nat} {m : Nat} (hK : TreeOk bs o pl par) (hD : Done (succM bs) o pl par) (hm : ∀ b ∈ ls, b ∈ o) (h : PartIs par ls (some m)) : m ∈ o ∧ (∀ x, OverP bs o x m ↔ ∀ b ∈ ls, OverP bs o x b) ∧ ∀ u v, OverP bs o u v → OverP bs o v u → u = v := by
  have h1 := hK.tree.mem hK.ord h.1
  refine ⟨h1, fun x => ?_, fun u v h2 h3 => hK.tree.antisymm ((over_anc hK.ord hD h2.2.1).1 h2) ((over_anc hK.ord hD h3.2.1).1 h3)⟩
  rw [over_anc hK.ord hD h1, h.2 x]
  exact ⟨fun h2 b hb => (over_anc hK.ord hD (hm b hb)).2 (h2 b hb (hD.grown b (hm b hb))), fun h2 p hp _ => (over_anc hK.ord hD (hm p hp)).1 (h2 p hp)⟩

theorem okB_nat {o : List Nat} {n : Nat} {x : Int} (h : okB o n x = true) : x = (x.toNat : Int) ∧ x.toNat < n ∧ x.toNat ∈ o := by
  unfold okB isBlockB at h
  simp only [Bool.and_eq_true, decide_eq_true_eq] at h
  exact ⟨by omega, by omega, h.2⟩

section
variable (f : FuncM) (B : Nat) (pv bv : Value) (w : World) (hpv : Ints w B pv f.params) (hbv : BlocksR w B bv f.blocks) (hB : B ≤ w.heap.size) (hid : ∀ u ∈ usesM f, I64 u.1)
include hpv hbv hB hid

set_option maxRecDepth 100000 in
set_option maxHeartbeats 1000000 in
theorem domMeet_no (lv : Value) (h0 : (lookM f).1 ≠ 0) :
    Calls Try.prog 37 #[.agg #[pv, .int .i64 f.arrays, .int .i64 f.cells, bv], lv] w fun e w' => e = .returned (.tuple #[.int .i64 0, .int .i64 (lookM f).1]) ∧ Below w.heap.size w w' := by
  have HP := hideI hpv
  have HBL := hideI hbv
  have HID := hideI hid
  obtain ⟨P, pc, rfl, _⟩ := hpv
  obtain ⟨A, c, rfl, hbm, _⟩ := hbv
  have HB0 : Hid (Below w.heap.size w (w.alloc (.cells #[.slice P f.params.length pc, .int .i64 f.arrays, .int .i64 f.cells, .slice A f.blocks.length c] 25))) := (Below.refl _ w).alloc (Nat.le_refl _) _
  have HT := hideI (treeOf_any f B _ _ (w.alloc (.cells #[.slice P f.params.length pc, .int .i64 f.arrays, .int .i64 f.cells, .slice A f.blocks.length c] 25)) (HP.out.keeps (Keeps.of_below (HB0.out.mono hB))) (HBL.out.keeps (Keeps.of_below (HB0.out.mono hB))) (by simp; omega) HID.out)
  have H0 := hideI h0
  have hb : ((lookM f).1 != 0) = true := by simpa using h0
  clear hid h0
  go_enter Try.func37, Try.ntmps37
  go_wp2_with (go_at_call 59; go_must (refine HT.out.mono ?_); rintro e w1 (⟨_, rfl, hb1⟩ | ⟨hbad, _⟩); rotate_left; (exact absurd hbad H0.out); have HB1 := hideI (HB0.out.trans (hb1.mono (by simp))); clear hb1)
  go_ret2
  exact ⟨rfl, HB1.out.alloc HB1.out.size _⟩

set_option maxRecDepth 100000 in
set_option maxHeartbeats 1000000 in
theorem domMeet_nil (la : Option Addr) (lc : Nat) (h0 : (lookM f).1 = 0) :
    Calls Try.prog 37 #[.agg #[pv, .int .i64 f.arrays, .int .i64 f.cells, bv], .slice la 0 lc] w fun e w' => e = .returned (.tuple #[.int .i64 0, .int .i64 1]) ∧ Below w.heap.size w w' := by
  have HP := hideI hpv
  have HBL := hideI hbv
  have HID := hideI hid
  obtain ⟨P, pc, rfl, _⟩ := hpv
  obtain ⟨A, c, rfl, hbm, _⟩ := hbv
  have HB0 : Hid (Below w.heap.size w (w.alloc (.cells #[.slice P f.params.length pc, .int .i64 f.arrays, .int .i64 f.cells, .slice A f.blocks.length c] 25))) := (Below.refl _ w).alloc (Nat.le_refl _) _
  have HT := hideI (treeOf_any f B _ _ (w.alloc (.cells #[.slice P f.params.length pc, .int .i64 f.arrays, .int .i64 f.cells, .slice A f.blocks.length c] 25)) (HP.out.keeps (Keeps.of_below (HB0.out.mono hB))) (HBL.out.keeps (Keeps.of_below (HB0.out.mono hB))) (by simp; omega) HID.out)
  have H0 := hideI h0
  clear hid h0
  go_enter Try.func37, Try.ntmps37
  go_wp2_with (go_at_call 59; go_must (refine HT.out.mono ?_); rintro e w1 (⟨hbad, _⟩ | ⟨_, o, pl, par, B1, gp, vs, go, capo, gl, gi, rfl, hfs, hdone, htree, hlow, hb1⟩); (exact absurd H0.out hbad); have HB1 := hideI (HB0.out.trans (hb1.mono (by simp))); clear hfs hdone htree hb1 hlow)
  go_ret2
  exact ⟨rfl, HB1.out.alloc HB1.out.size _⟩

set_option maxRecDepth 100000 in
set_option maxHeartbeats 4000000 in
theorem domMeet_some (L : List Int) (BL g off lc : Nat) (h0 : (lookM f).1 = 0) (hL : Ints w BL (.slice (some ⟨g, off, none⟩) L.length lc) L) (hBL : BL ≤ w.heap.size) (hl0 : 0 < L.length) (hlc : L.length ≤ lc) :
    Calls Try.prog 37 #[.agg #[pv, .int .i64 f.arrays, .int .i64 f.cells, bv], .slice (some ⟨g, off, none⟩) L.length lc] w (MeetSomePost f L w) := by
  have HP := hideI hpv
  have HBL := hideI hbv
  have HID := hideI hid
  obtain ⟨P, pc, rfl, _⟩ := hpv
  obtain ⟨A, c, rfl, hbm, _⟩ := hbv
  have HB0 : Hid (Below w.heap.size w (w.alloc (.cells #[.slice P f.params.length pc, .int .i64 f.arrays, .int .i64 f.cells, .slice A f.blocks.length c] 25))) := (Below.refl _ w).alloc (Nat.le_refl _) _
  have HT := hideI (treeOf_any f B _ _ (w.alloc (.cells #[.slice P f.params.length pc, .int .i64 f.arrays, .int .i64 f.cells, .slice A f.blocks.length c] 25)) (HP.out.keeps (Keeps.of_below (HB0.out.mono hB))) (HBL.out.keeps (Keeps.of_below (HB0.out.mono hB))) (by simp; omega) HID.out)
  have H0 := hideI h0
  obtain ⟨A2, c2, e0, hlm, hcell⟩ := hL
  cases e0
  have HCELL := hideI hcell
  have hlb : ((L.length : Int) == 0) = false := by simp; intro e; rw [e] at hl0; simp at hl0
  clear hid h0 hcell
  go_enter Try.func37, Try.ntmps37
  go_wp2_with (go_at_call 59; go_must (refine HT.out.mono ?_); rintro e w1 (⟨hbad, _⟩ | ⟨_, o, pl, par, B1, gp, vs, go, capo, gl, gi, rfl, hfs, hdone, htree, hlow, hb1⟩); (exact absurd H0.out hbad); have HFS := hideI hfs; have HDONE := hideI hdone; have HTREE := hideI htree; have HB1 := hideI (HB0.out.trans (hb1.mono (by simp))); clear hfs hdone htree hb1 hlow)
  obtain ⟨W2, hW2⟩ : ∃ W2, W2 = w1.alloc (.cells #[.slice (some ⟨gp, 0, none⟩) f.blocks.length f.blocks.length, .slice (some ⟨go, 0, none⟩) o.length capo, .slice (some ⟨gl, 0, none⟩) f.blocks.length f.blocks.length, .slice (some ⟨gi, 0, none⟩) f.blocks.length f.blocks.length] 101) := ⟨_, rfl⟩
  rw [← hW2]
  have hb2 : Below w1.heap.size w1 W2 := by rw [hW2]; exact (Below.refl _ _).alloc (Nat.le_refl _) _
  have hxa : W2.heap[w1.heap.size]? = some (.cells #[.slice (some ⟨gp, 0, none⟩) f.blocks.length f.blocks.length, .slice (some ⟨go, 0, none⟩) o.length capo, .slice (some ⟨gl, 0, none⟩) f.blocks.length f.blocks.length, .slice (some ⟨gi, 0, none⟩) f.blocks.length f.blocks.length] 101 (0, 0)) := by rw [hW2]; exact heap_alloc_new w1 _
  have HXA := hideI hxa
  have HB2 := hideI (HB1.out.trans (hb2.mono HB1.out.size))
  have HT2 := hideI (HTREE.out.kept hb2)
  have hwx : w1.heap.size < W2.heap.size := lt_of_heap hxa
  have hn5 := HFS.out.n5
  have hBW : B1 ≤ W2.heap.size := Nat.le_trans HT2.out.lt.1 (Nat.le_of_lt HT2.out.lt.2)
  have HC2 : Hid (∀ W k, Below W2.heap.size W2 W → k < L.length → W.cell? ⟨g, off + k, none⟩ = some (.int .i64 (L[k]?.getD 0))) := fun W k hW hk => by
    obtain ⟨b1, o1, e1, hb1, hc1⟩ := HCELL.out k hk
    cases e1
    have h1 : Below w.heap.size w W := HB2.out.trans (hW.mono HB2.out.size)
    exact (h1.cell (p := ⟨g, off + k, none⟩) (by simp; omega)).trans hc1
  clear hW2 hb2 hxa
  go_loopw [26] (fun u wr => ∃ k : Nat, k ≤ L.length ∧ u = .int .i64 k ∧ Hid (∀ i x, i < k → L[i]? = some x → okB o f.blocks.length x = true) ∧ Hid (Below W2.heap.size W2 wr)) (fun u _ => L.length - (intOf u).toNat)
  case atStart => exact ⟨0, Nat.zero_le _, rfl, hideI (fun i x h => by omega), hideI (Below.refl _ _)⟩
  case round =>
    obtain ⟨k, hk, rfl, HALL, HBr⟩ := hrel
    by_cases hlt : k < L.length
    · obtain ⟨x, hx⟩ : ∃ x, L[k]? = some x := ⟨_, List.getElem?_eq_getElem hlt⟩
      have c1 := HC2.out wr k HBr.out hlt
      rw [hx] at c1
      simp only [Option.getD_some] at c1
      have HX := hideI hx
      have hxr := row_cells HXA.out (HBr.out.block _ hwx)
      have q0 := hxr 0
      have q1 := hxr 1
      have q2 := hxr 2
      clear hx hxr
      cases hib : isBlockB f.blocks.length x with
      | false =>
        have HIB : Hid (isBlockB f.blocks.length x = false) := hib
        clear hib
        go_wp2_with (first
          | (go_at_call 60; go_must (refine (isBlock_any f.blocks.length o.length x gp go capo gl _ hn5).mono ?_); rw [HIB.out]; rintro e w2 ⟨rfl, hb2⟩; have HB3 := hideI (HBr.out.trans (hb2.mono HBr.out.size)); clear hb2))
        go_ret2
        exact ⟨o, HFS.out.order, ⟨pl, par, HFS.out.ord, HDONE.out⟩, .inl ⟨⟨x, List.mem_of_getElem? HX.out, by unfold okB; rw [HIB.out]; rfl⟩, rfl, HB2.out.trans (HB3.out.mono HB2.out.size)⟩⟩
      | true =>
        have HIB : Hid (isBlockB f.blocks.length x = true) := hib
        obtain ⟨a, rfl, ha⟩ := isBlockB_nat hib
        clear hib
        by_cases hm : a ∈ o
        · have HM : Hid (decide (a ∈ o) = true) := decide_eq_true hm
          clear hm
          go_wp2_with (first
            | (go_at_call 60; go_must (refine (isBlock_any f.blocks.length o.length a gp go capo gl _ hn5).mono ?_); rw [HIB.out]; rintro e w2 ⟨rfl, hb2⟩; have HB3 := hideI (HBr.out.trans (hb2.mono HBr.out.size)); have hx3 := row_cells HXA.out (HB3.out.block _ hwx); clear q0 q1 q2; have q0 := hx3 0; have q1 := hx3 1; have q2 := hx3 2; have q3 := hx3 3; clear hb2 hx3)
            | (go_at_call 64; go_must (refine (comeTo_any f.blocks o pl B1 gp go capo gl a vs _ (HT2.out.kept HB3.out).flow (Nat.le_trans hBW HB3.out.size) ha hn5).mono ?_); rw [HM.out]; rintro e w3 ⟨rfl, hb3⟩; have HB4 := hideI (HB3.out.trans (hb3.mono HB3.out.size)); clear hb3))
          go_roundw
          case rel => exact ⟨k + 1, by omega, by go_num, hideI (fun i x hi hx => by
            by_cases e : i = k
            · subst e; rw [HX.out] at hx; cases hx; unfold okB; rw [HIB.out]; simpa using HM.out
            · exact HALL.out i x (by omega) hx), HB4⟩
          case measure => simp [intOf]; omega
        · have HM : Hid (decide (a ∈ o) = false) := decide_eq_false hm
          clear hm
          go_wp2_with (first
            | (go_at_call 60; go_must (refine (isBlock_any f.blocks.length o.length a gp go capo gl _ hn5).mono ?_); rw [HIB.out]; rintro e w2 ⟨rfl, hb2⟩; have HB3 := hideI (HBr.out.trans (hb2.mono HBr.out.size)); have hx3 := row_cells HXA.out (HB3.out.block _ hwx); clear q0 q1 q2; have q0 := hx3 0; have q1 := hx3 1; have q2 := hx3 2; have q3 := hx3 3; clear hb2 hx3)
            | (go_at_call 64; go_must (refine (comeTo_any f.blocks o pl B1 gp go capo gl a vs _ (HT2.out.kept HB3.out).flow (Nat.le_trans hBW HB3.out.size) ha hn5).mono ?_); rw [HM.out]; rintro e w3 ⟨rfl, hb3⟩; have HB4 := hideI (HB3.out.trans (hb3.mono HB3.out.size)); clear hb3))
          go_ret2
          exact ⟨o, HFS.out.order, ⟨pl, par, HFS.out.ord, HDONE.out⟩, .inl ⟨⟨(a : Int), List.mem_of_getElem? HX.out, by unfold okB; rw [HIB.out]; simpa using HM.out⟩, rfl, HB2.out.trans (HB4.out.mono HB2.out.size)⟩⟩
    · have HALL2 : Hid (∀ x ∈ L, okB o f.blocks.length x = true) := fun x hx => by
        obtain ⟨i, hi⟩ := List.getElem?_of_mem hx
        exact HALL.out i x (by have := (List.getElem?_eq_some_iff.1 hi).1; omega) hi
      clear HALL
      obtain ⟨x0, hx0⟩ : ∃ x, L[0]? = some x := ⟨_, List.getElem?_eq_getElem hl0⟩
      obtain ⟨e0, hb0, hm0⟩ := okB_nat (HALL2.out x0 (List.mem_of_getElem? hx0))
      obtain ⟨a0, ha0⟩ : ∃ a0, a0 = x0.toNat := ⟨_, rfl⟩
      rw [← ha0] at e0 hb0 hm0
      subst e0
      have HM0 := hideI hm0
      have hls0 : (L.map Int.toNat)[0]? = some a0 := by rw [List.getElem?_map, hx0]; simp
      have HP0 : Hid (PartIs par ((L.map Int.toNat).take (0 + 1)) (some a0)) := hideI (PartIs.start.first hls0 (HDONE.out.grown a0 hm0))
      have c0 := HC2.out wr 0 HBr.out hl0
      rw [hx0] at c0
      simp only [Option.getD_some, Nat.add_zero] at c0
      have hxr := row_cells HXA.out (HBr.out.block _ hwx)
      have q0 := hxr 0
      have q1 := hxr 1
      have q2 := hxr 2
      have q3 := hxr 3
      have HBR := HBr
      clear hx0 hm0 hls0 hxr ha0
      by_cases hc1 : lc = 1
      · have hl1 : L.length = 1 := by omega
        have HL1 := hideI hl1
        have hl2 : L.length - 1 = 0 := by omega
        clear hl1
        go_wp2
        obtain ⟨wo, rfl⟩ : ∃ wo : World, wo = wr := ⟨_, rfl⟩
        go_loopw [10, 49] (fun m u wr => m = .int .i64 a0 ∧ u = .int .i64 0 ∧ wr = wo) (fun _ _ _ => 0)
        case atStart => exact ⟨rfl, rfl, rfl⟩
        case round =>
          obtain ⟨rfl, rfl, rfl⟩ := hrel
          go_wp2
          go_ret2
          have hp : PartIs par (L.map Int.toNat) (some a0) := by
            have := HP0.out
            rwa [List.take_of_length_le (by rw [List.length_map, HL1.out]; exact Nat.le_refl _)] at this
          obtain ⟨r1, r2, r3⟩ := meetAll_of (HFS.out.ok HDONE.out) HDONE.out (fun b hb => by
            obtain ⟨x, hx, rfl⟩ := List.mem_map.1 hb
            exact (okB_nat (HALL2.out x hx)).2.2) hp
          exact ⟨o, HFS.out.order, ⟨pl, par, HFS.out.ord, HDONE.out⟩, .inr ⟨HALL2.out, a0, rfl, r1, r2, r3, HB2.out.trans (HBR.out.mono HB2.out.size)⟩⟩
      · go_wp2
        clear c0 q0 q1 q2 q3
        go_loopw [10, 49] (fun m u wr => ∃ (i a : Nat), i ≤ L.length - 1 ∧ m = .int .i64 a ∧ u = .int .i64 i ∧ Hid (PartIs par ((L.map Int.toNat).take (i + 1)) (some a)) ∧ Hid (Below W2.heap.size W2 wr)) (fun _ u _ => L.length - (intOf u).toNat)
        case atStart => exact ⟨0, a0, Nat.zero_le _, rfl, rfl, HP0, HBR⟩
        case round =>
          clear HBR HBr HP0
          obtain ⟨i, a, hi, rfl, rfl, HP, HBr⟩ := hrel
          by_cases hlt : i < L.length - 1
          · obtain ⟨x, hx⟩ : ∃ x, L[1 + i]? = some x := ⟨_, List.getElem?_eq_getElem (by omega)⟩
            obtain ⟨e1, hb1, hm1⟩ := okB_nat (HALL2.out x (List.mem_of_getElem? hx))
            obtain ⟨a1, ha1⟩ : ∃ a1, a1 = x.toNat := ⟨_, rfl⟩
            rw [← ha1] at e1 hb1 hm1
            subst e1
            have hls1 : (L.map Int.toNat)[i + 1]? = some a1 := by rw [List.getElem?_map, Nat.add_comm i 1, hx]; simp
            have HLS := hideI hls1
            have HG1 := hideI (HDONE.out.grown a1 hm1)
            have c1 := HC2.out wr (1 + i) HBr.out (by omega)
            rw [hx] at c1
            simp only [Option.getD_some] at c1
            rw [← Nat.add_assoc] at c1
            have hxr := row_cells HXA.out (HBr.out.block _ hwx)
            have q0 := hxr 0
            have q1 := hxr 1
            have q2 := hxr 2
            have q3 := hxr 3
            clear hx hm1 hls1 hxr ha1
            go_wp2_with (go_at_call 65; go_must (refine (meet_any f.blocks o pl par B1 gp go capo gl gi a a1 vs _ (HT2.out.kept HBr.out) (HFS.out.ok HDONE.out) HP.out.1 HG1.out).mono ?_); rintro e w4 ⟨m, rfl, hgm, hm, hb4⟩; have HGM := hideI hgm; have HM := hideI hm; have HB4 := hideI (HBr.out.trans (hb4.mono HBr.out.size)); clear hb4 hgm hm)
            go_roundw
            case rel => exact ⟨i + 1, m, by omega, rfl, by go_num, hideI (HP.out.meet HLS.out HG1.out HM.out HGM.out), HB4⟩
            case measure => simp [intOf]; omega
          · have hil : L.length ≤ i + 1 := by omega
            go_wp2
            go_ret2
            have hp : PartIs par (L.map Int.toNat) (some a) := by
              have := HP.out
              rwa [List.take_of_length_le (by rw [List.length_map]; exact hil)] at this
            obtain ⟨r1, r2, r3⟩ := meetAll_of (HFS.out.ok HDONE.out) HDONE.out (fun b hb => by
              obtain ⟨x, hx, rfl⟩ := List.mem_map.1 hb
              exact (okB_nat (HALL2.out x hx)).2.2) hp
            exact ⟨o, HFS.out.order, ⟨pl, par, HFS.out.ord, HDONE.out⟩, .inr ⟨HALL2.out, a, rfl, r1, r2, r3, HB2.out.trans (HBr.out.mono HB2.out.size)⟩⟩
end

end Go.Proofs.Ytclbhbnidodmdaa
