/- The reference's Idoms. -/
import Derived.Test.YtclbhbnidodmdaaDOver
import Derived.Deep.AppendLies
import Derived.BigQuiet
import Derived.Deep.QuietTactic
namespace Go.Proofs.Ytclbhbnidodmdaa
open Go.RowKit Go.Maps

set_option maxRecDepth 100000 in
set_option maxHeartbeats 1000000 in
theorem refWithout_zero (bs : List BlockM) (B : Nat) (pv av cv bv : Value) (w : World) (hbv : BlocksR w B bv bs) (hB : B ≤ w.heap.size) (hn5 : bs.length ≤ 512) :
    Calls Try.prog 20 #[.agg #[pv, av, cv, bv], .int .i64 0] w (WithoutPost bs 0 w) := by
  obtain ⟨A, c, rfl, hbm, _⟩ := hbv
  obtain ⟨i0, hix, hz0, hz1, hz2⟩ := info_parts bool_info
  go_enter Try.func20, Try.ntmps20
  go_wp2_with (first
    | (at_make; go_must (refine wpList_make_full _ rfl _ _ 31 rfl (w.heap.size + 1) 4 i0 (.bool false) 1 Try.underlying31 hix hz0 hz1 .i64 .i64 _ _ bs.length rfl rfl rfl rfl (by rw [hz2]; omega) (by unfold maxLen; omega) (by simp) ?_); intro w1 hown1 hg1; rw [World.size_alloc] at hown1; go_must (rw [marks_made] at hown1; have HO1 := hideI hown1; have HB0 : Hid (Below w.heap.size w w1) := ((Below.refl _ _).alloc (Nat.le_refl _) _).grown hg1 (by simp) (by simp); clear hown1 hg1)))
  go_ret
  exact ⟨[], _, rfl, no_zero, World.ownsRow.mono HO1.out (by omega), HB0.out⟩

theorem refWithout_all (bs : List BlockM) (B : Nat) (pv av cv bv : Value) (gone : Int) (w : World) (hbv : BlocksR w B bv bs) (hB : B ≤ w.heap.size) (h0 : 0 < bs.length) (hn5 : bs.length ≤ 512) (hin : EndsIn bs) :
    Calls Try.prog 20 #[.agg #[pv, av, cv, bv], .int .i64 gone] w (WithoutPost bs gone w) := by
  by_cases hg : gone = 0
  · subst hg
    exact refWithout_zero bs B pv av cv bv w hbv hB hn5
  · exact refWithout_any bs B pv av cv bv gone w hbv hB h0 hn5 hin hg

/-- a square of answers, as it is read -/
def GridR (w : World) (v : Value) (n : Nat) (G : Nat → Nat → Bool) : Prop :=
  ∃ gv c, v = .slice (some ⟨gv, 0, none⟩) n c ∧ gv < w.heap.size ∧ ∀ a, a < n → ∃ ga, ga < w.heap.size ∧ w.cell? ⟨gv, a, none⟩ = some (.slice (some ⟨ga, 0, none⟩) n n) ∧ ∀ b, b < n → w.cell? ⟨ga, b, none⟩ = some (.bool (G a b))

theorem GridR.kept {w w' : World} {v : Value} {n : Nat} {G : Nat → Nat → Bool} (h : GridR w v n G) (hb : Below w.heap.size w w') : GridR w' v n G := by
  obtain ⟨gv, c, e, h1, h2⟩ := h
  refine ⟨gv, c, e, Nat.lt_of_lt_of_le h1 hb.size, fun a ha => ?_⟩
  obtain ⟨ga, h3, h4, h5⟩ := h2 a ha
  exact ⟨ga, Nat.lt_of_lt_of_le h3 hb.size, (hb.cell (p := ⟨gv, a, none⟩) h1).trans h4, fun b hb' => (hb.cell (p := ⟨ga, b, none⟩) h3).trans (h5 b hb')⟩

/-- a row of the square, as far as k -/
def rowTo (n : Nat) (G : Nat → Nat → Bool) (a k : Nat) : List Value := (List.range n).map fun b => .bool (decide (b < k) && G a b)

theorem rowTo_zero (n : Nat) (G : Nat → Nat → Bool) (a : Nat) : rowTo n G a 0 = marks n [] := by
  unfold rowTo marks
  apply List.map_congr_left
  intro b _
  simp

theorem rowTo_at {n a k b : Nat} {G : Nat → Nat → Bool} (h : b < n) : (rowTo n G a k)[b]? = some (.bool (decide (b < k) && G a b)) := by
  unfold rowTo
  rw [List.getElem?_map, List.getElem?_eq_getElem (by simpa using h)]
  simp

theorem rowTo_set {n a k : Nat} {G : Nat → Nat → Bool} : (rowTo n G a k).set k (.bool (G a k)) = rowTo n G a (k + 1) := by
  apply List.ext_getElem?
  intro i
  by_cases hi : i < n
  · by_cases e : k = i
    · subst e
      rw [List.getElem?_set_self (by simpa [rowTo] using hi), rowTo_at hi]
      simp
    · rw [List.getElem?_set_ne e, rowTo_at hi, rowTo_at hi]
      have : decide (i < k + 1) = decide (i < k) := by
        apply decide_eq_decide.2
        omega
      rw [this]
  · rw [List.getElem?_eq_none (by simp [rowTo]; omega), List.getElem?_eq_none (by simp [rowTo]; omega)]

/-- the square, as far as k rows are made -/
structure Square (w : World) (base n k : Nat) (G : Nat → Nat → Bool) (v : Value) (vs : List Value) : Prop where
  row : w.ownsRow base 31 1 v k vs
  each : ∀ a, a < k → ∃ ga, vs[a]? = some (.slice (some ⟨ga, 0, none⟩) n n) ∧ w.ownsRow base 4 1 (.slice (some ⟨ga, 0, none⟩) n n) n (rowTo n G a n) ∧ v.ownBlock ≠ some ga

theorem Square.kept {w w' : World} {base n k : Nat} {G : Nat → Nat → Bool} {v : Value} {vs : List Value} (h : Square w base n k G v vs) (hb : Below w.heap.size w w') : Square w' base n k G v vs := by
  refine ⟨own_kept_below h.row hb (fun j hj => (h.row.lt j hj).2), fun a ha => ?_⟩
  obtain ⟨ga, h1, h2, h3⟩ := h.each a ha
  exact ⟨ga, h1, own_kept_below h2 hb (fun j hj => (h2.lt j hj).2), h3⟩

theorem Square.push {w w1 : World} {base n k g' cap' gr : Nat} {G : Nat → Nat → Bool} {v : Value} {vs : List Value} {o : Obj} (h : Square w base n k G v vs) (hr : w.ownsRow base 4 1 (.slice (some ⟨gr, 0, none⟩) n n) n (rowTo n G k n)) (hne : v.ownBlock ≠ some gr)
    (hown : w1.ownsRow base 31 1 (.slice (some ⟨g', 0, none⟩) (k + 1) cap') (k + 1) (vs ++ [.slice (some ⟨gr, 0, none⟩) n n])) (hg : (w.alloc o).grownBy w1 v.ownBlock) (hor : v.ownBlock = some g' ∨ g' = (w.alloc o).heap.size) :
    Square w1 base n (k + 1) G (.slice (some ⟨g', 0, none⟩) (k + 1) cap') (vs ++ [.slice (some ⟨gr, 0, none⟩) n n]) := by
  have hvl : vs.length = k := by have := h.row.1; simpa using this
  have hnew : ∀ ga, ga < w.heap.size → v.ownBlock ≠ some ga → (Value.slice (some ⟨g', 0, none⟩) (k + 1) cap').ownBlock ≠ some ga := by
    intro ga hlt hne e
    have e2 : g' = ga := Option.some.inj e
    subst e2
    rcases hor with h1 | h1
    · exact hne h1
    · simp at h1; omega
  refine ⟨hown, fun a ha => ?_⟩
  by_cases e : a = k
  · subst e
    refine ⟨gr, by rw [List.getElem?_append_right (by omega), hvl]; simp, (hr.alloc o).kept hg (.inr fun e => hne e.symm), hnew gr (hr.lt gr rfl).2 hne⟩
  · obtain ⟨ga, h1, h2, h3⟩ := h.each a (by omega)
    refine ⟨ga, by rw [List.getElem?_append_left (by omega)]; exact h1, (h2.alloc o).kept hg (.inr fun e => h3 e.symm), hnew ga (h2.lt ga rfl).2 h3⟩

theorem Square.grid {w : World} {base n : Nat} {G : Nat → Nat → Bool} {v : Value} {vs : List Value} (h : Square w base n n G v vs) (hn : 0 < n) : GridR w v n G := by
  rcases h.row.2 with ⟨_, h1⟩ | ⟨gv, c, _, rfl, _, _, _, _⟩
  · omega
  · refine ⟨gv, c, rfl, (h.row.lt gv rfl).2, fun a ha => ?_⟩
    obtain ⟨ga, h1, h2, _⟩ := h.each a ha
    refine ⟨ga, (h2.lt ga rfl).2, by rw [World.ownsRow.cellAt h.row a (by omega)]; exact h1, fun b hb => ?_⟩
    rw [World.ownsRow.cellAt h2 b (by omega), rowTo_at hb]
    simp [hb]

theorem bools_info : (Try.prog.info? 31).map (fun i => (i.zero, i.size, i.bytes)) = some (some (.slice none 0 0), 1, 24) := by kernel_rfl

theorem one_newB (w : World) (x : Value) : ∀ (j : Nat) (y : Value), [x][j]? = some y → (w.alloc (.cells #[x] 31)).cell? ((⟨w.heap.size, 0, none⟩ : Addr).add j) = some y := by
  intro j y hy
  rcases j with _ | j
  · simp at hy
    subst hy
    exact row_cells (heap_alloc_new w (.cells #[x] 31)) (rfl : (w.alloc (.cells #[x] 31)).heap[w.heap.size]? = _) 0
  · simp at hy

def OverPost (n : Nat) (G : Nat → Nat → Bool) (w : World) (e : Ending) (w' : World) : Prop := ∃ v, e = .returned v ∧ GridR w' v n G ∧ Below w.heap.size w w'

/-- what the square holds -/
def overG (S0 : List Nat) (S : Nat → List Nat) (a b : Nat) : Bool := decide (a ∈ S0) && (decide (b ∈ S0) && !decide (b ∈ S a))

set_option maxRecDepth 100000 in
set_option maxHeartbeats 4000000 in
theorem refOver_any (bs : List BlockM) (o : List Nat) (G : Nat → Nat → Bool) (B : Nat) (pv av cv bv : Value) (w : World) (hbv : BlocksR w B bv bs) (hB : B ≤ w.heap.size) (h0 : 0 < bs.length) (hn5 : bs.length ≤ 512) (hin : EndsIn bs) (ho : OrderIs bs o) (hG : ∀ a b, G a b = true ↔ OverP bs o a b) :
    Calls Try.prog 34 #[.agg #[pv, av, cv, bv]] w (OverPost bs.length G w) := by
  have HBL := hideI hbv
  have HIN := hideI hin
  have HO := hideI ho
  have HG := hideI hG
  obtain ⟨A, c, rfl, hbm, _⟩ := hbv
  obtain ⟨W, hW⟩ : ∃ W : World, W = w.alloc (.cells #[pv, av, cv, .slice A bs.length c] 25) := ⟨_, rfl⟩
  have HBW : Hid (Below w.heap.size w W) := by show Below _ _ _; rw [hW]; exact (Below.refl _ _).alloc (Nat.le_refl _) _
  have HXW : Hid (W.heap[w.heap.size]? = some (.cells #[pv, av, cv, .slice A bs.length c] 25 (0, 0))) := by show _ = _; rw [hW]; exact heap_alloc_new w _
  have hwW : w.heap.size < W.heap.size := lt_of_heap HXW.out
  have HW0 := hideI hW
  have G0 : Hid (∀ W2, Below W.heap.size W W2 → (∀ o, W2.cell? ⟨w.heap.size, o, none⟩ = (#[pv, av, cv, .slice A bs.length c] : Array Value)[o]?) ∧ BlocksR W2 B (.slice A bs.length c) bs ∧ B ≤ W2.heap.size) := fun W2 h2 => by
    have h3 : Below w.heap.size w W2 := HBW.out.trans (h2.mono HBW.out.size)
    exact ⟨row_cells HXW.out (h2.block _ hwW), HBL.out.keeps (Keeps.of_below (h3.mono hB)), Nat.le_trans hB h3.size⟩
  obtain ⟨hx, _, _⟩ := G0.out W (Below.refl _ _)
  have q0 := hx 0
  have q1 := hx 1
  have q2 := hx 2
  have q3 := hx 3
  clear hin ho hG hW hx
  go_enter Try.func34, Try.ntmps34
  go_upto_region 1 with fail
  rw [← HW0.out]
  clear HW0
  go_wp2_with (first
    | (go_at_call 20; go_must (refine (refWithout_all bs B pv av cv _ (-1) _ (G0.out _ (Below.refl _ _)).2.1 (G0.out _ (Below.refl _ _)).2.2 h0 hn5 HIN.out).mono ?_); rintro e w1 ⟨S0, gA, rfl, hS, hown, hb1⟩; have HS0 : Hid (∀ x, x ∈ S0 ↔ x ∈ o) := hideI (fun x => (hS x).trans (HO.out.reach x).symm); have HOA := hideI hown; have HB1 := hideI hb1; clear hS hown hb1 q0 q1 q2; (obtain ⟨hx, _, _⟩ := G0.out _ HB1.out); clear q3; have q3 := hx 3; clear hx))
  obtain ⟨W2, hW2⟩ : ∃ W2, W2 = w1.alloc (.cells #[] 31) := ⟨_, rfl⟩
  have hb12 : Below w1.heap.size w1 W2 := by rw [hW2]; exact (Below.refl _ _).alloc (Nat.le_refl _) _
  have HB12 := hideI hb12
  have HSQ0 : Hid (Square W2 w1.heap.size bs.length 0 G (.slice (some ⟨w1.heap.size, 0, none⟩) 0 0) []) := by
    refine hideI ⟨?_, fun a ha => by omega⟩
    rw [hW2]
    exact World.ownsRow_made w1 #[] 0 (Nat.le_refl _) (by decide) rfl
  have hs12 : w1.heap.size < W2.heap.size := by rw [hW2]; simp
  have hsW1 : W.heap.size ≤ w1.heap.size := HB1.out.size
  rw [← hW2]
  clear hW2 hb12 q3
  go_loopw [4, 5] (fun u4 u5 wr => ∃ (a : Nat) (v : Value) (vs : List Value), a ≤ bs.length ∧ v = u4 ∧ u5 = .int .i64 a ∧ Hid (Square wr w1.heap.size bs.length a G v vs) ∧ Hid (Below w1.heap.size w1 wr)) (fun _ u5 _ => bs.length - (intOf u5).toNat)
  case atStart => exact ⟨0, _, [], Nat.zero_le _, rfl, rfl, HSQ0, HB12⟩
  case round =>
    obtain ⟨a, v, vs, ha, rfl, rfl, HSQ, HBr⟩ := hrel
    have hb1r : Below w1.heap.size w1 wr := HBr.out
    have HB1r := hideI hb1r
    have HBWr : Hid (Below W.heap.size W wr) := HB1.out.trans (hb1r.mono hsW1)
    obtain ⟨hx, _, _⟩ := G0.out wr HBWr.out
    have q0 := hx 0
    have q1 := hx 1
    have q2 := hx 2
    have q3 := hx 3
    clear hx hb1r
    by_cases hlt : a < bs.length
    · obtain ⟨i0, hix, hz0, hz1, hz2⟩ := info_parts bool_info
      have hsr : w1.heap.size ≤ wr.heap.size := HB1r.out.size
      go_wp2_with (first
        | (go_at_call 20; go_must (refine (refWithout_all bs B pv av cv _ a _ (G0.out _ HBWr.out).2.1 (G0.out _ HBWr.out).2.2 h0 hn5 HIN.out).mono ?_); rintro e w3 ⟨Sa, gB, rfl, hSa, hown, hb3⟩; have HSA := hideI hSa; have HOB := hideI hown; have HB3 := hideI (HB1r.out.trans (hb3.mono hsr)); have HSQ3 := hideI (HSQ.out.kept hb3); clear hSa hown hb3 q0 q1 q2 q3; (obtain ⟨hx, _, _⟩ := G0.out _ (HB1.out.trans (HB3.out.mono hsW1))); have q3 := hx 3; clear hx)
        | (at_make; go_must (refine wpList_make_full _ rfl _ _ 31 rfl w3.heap.size 4 i0 (.bool false) 1 Try.underlying31 hix hz0 hz1 .i64 .i64 _ _ bs.length rfl rfl rfl rfl (by rw [hz2]; omega) (by unfold maxLen; omega) (Nat.le_refl _) ?_); intro w4 hown4 hg4; go_must (rw [marks_made, ← rowTo_zero bs.length G a] at hown4; have HR0 := hideI hown4; have HG4 : Hid (Below w3.heap.size w3 w4) := (Below.refl _ _).grown hg4 (Nat.le_refl _) (by simp); clear hown4 hg4 q3)))
      clear hix hz0 hz1 hz2
      have hs3 : w1.heap.size ≤ w3.heap.size := HB3.out.size
      have HSQ4 := hideI (HSQ3.out.kept HG4.out)
      have HOB4 := hideI (own_kept_below HOB.out HG4.out (fun k hk => (HOB.out.lt k hk).2))
      have HB4 : Hid (Below w1.heap.size w1 w4) := HB3.out.trans (HG4.out.mono hs3)
      have hgB : gB < w3.heap.size := (HOB.out.lt gB rfl).2
      have hgA : gA < w1.heap.size := (HOA.out.lt gA rfl).2
      have hvb : v.ownBlock ≠ some w3.heap.size := fun e => by have := (HSQ3.out.row.lt _ e).2; omega
      have HVB := hideI hvb
      clear hvb
      go_loopw [8] (fun u8 wr2 => ∃ b : Nat, b ≤ bs.length ∧ u8 = .int .i64 b ∧ Hid (wr2.ownsRow w3.heap.size 4 1 (.slice (some ⟨w3.heap.size, 0, none⟩) bs.length bs.length) bs.length (rowTo bs.length G a b)) ∧ Hid (w4.grownBy wr2 (some w3.heap.size))) (fun u8 _ => bs.length - (intOf u8).toNat)
      case atStart => exact ⟨0, Nat.zero_le _, rfl, HR0, hideI (World.grownBy.refl _ _)⟩
      case round =>
        obtain ⟨b, hb, rfl, HR, HGr⟩ := hrel
        have hb4 : Below w3.heap.size w4 wr := (Below.refl _ w4).grown HGr.out HG4.out.size (fun k hk => by cases hk; exact Nat.le_refl _)
        have HB5 : Hid (Below w1.heap.size w1 wr) := HB4.out.trans (hb4.mono hs3)
        obtain ⟨hx, _, _⟩ := G0.out wr (HB1.out.trans (HB5.out.mono hsW1))
        have q3 := hx 3
        clear hx
        by_cases hltb : b < bs.length
        · have hA := own_kept_below HOA.out HB5.out (fun k hk => (HOA.out.lt k hk).2)
          have hBk := own_kept_below HOB4.out hb4 (fun k hk => by cases hk; exact hgB)
          have c1 : wr.cell? ⟨gA, a, none⟩ = some (.bool (decide (a ∈ S0))) := by rw [World.ownsRow.cellAt hA a (by omega), marks_at hlt]
          have c2 : wr.cell? ⟨gA, b, none⟩ = some (.bool (decide (b ∈ S0))) := by rw [World.ownsRow.cellAt hA b (by omega), marks_at hltb]
          have c3 : wr.cell? ⟨gB, b, none⟩ = some (.bool (decide (b ∈ Sa))) := by rw [World.ownsRow.cellAt hBk b (by omega), marks_at hltb]
          have c4 : wr.cell? ⟨w3.heap.size, b, none⟩ = some (.bool (decide (b < b) && G a b)) := by rw [World.ownsRow.cellAt HR.out b (by omega), rowTo_at hltb]
          have c5 : wr.frozen? ⟨w3.heap.size, b, none⟩ = false := World.ownsRow.frozenAt HR.out b
          have hGab : G a b = (decide (a ∈ S0) && (decide (b ∈ S0) && !decide (b ∈ Sa))) := by
            rw [Bool.eq_iff_iff, HG.out a b]
            unfold OverP
            simp only [Bool.and_eq_true, Bool.not_eq_true', decide_eq_true_eq, decide_eq_false_iff_not]
            rw [HS0.out a, HS0.out b, HSA.out b]
          have hst := World.ownsRow.stored HR.out b (.bool (G a b))
          rw [rowTo_set] at hst
          have HST := hideI hst
          obtain ⟨p, hp⟩ : ∃ p, p = decide (a ∈ S0) := ⟨_, rfl⟩
          obtain ⟨q, hq⟩ : ∃ q, q = decide (b ∈ S0) := ⟨_, rfl⟩
          obtain ⟨s, hs⟩ : ∃ s, s = decide (b ∈ Sa) := ⟨_, rfl⟩
          rw [← hp, ← hq, ← hs] at hGab
          rw [← hp] at c1
          rw [← hq] at c2
          rw [← hs] at c3
          rw [hGab] at HST
          clear hp hq hs hA hBk hst hGab hb4
          cases p with
          | false =>
            go_wp2
            go_roundw
            case rel => exact ⟨b + 1, by omega, by go_num, hideI HST.out.1, hideI (HGr.out.trans HST.out.2)⟩
            case measure => simp [intOf]; omega
          | true =>
            cases q with
            | false =>
              go_wp2
              go_roundw
              case rel => exact ⟨b + 1, by omega, by go_num, hideI HST.out.1, hideI (HGr.out.trans HST.out.2)⟩
              case measure => simp [intOf]; omega
            | true =>
              cases s
              all_goals
                go_wp2
                go_roundw
                case rel => exact ⟨b + 1, by omega, by go_num, hideI HST.out.1, hideI (HGr.out.trans HST.out.2)⟩
                case measure => simp [intOf]; omega
        · obtain rfl : b = bs.length := by omega
          have HSQ5 : Hid (Square wr w1.heap.size bs.length a G v vs) := by
            refine hideI ⟨own_kept_below HSQ4.out.row hb4 (fun k hk => ?_), fun a' ha' => ?_⟩
            · exact (HSQ3.out.row.lt k hk).2
            · obtain ⟨ga, h1, h2, h3⟩ := HSQ3.out.each a' ha'
              exact ⟨ga, h1, own_kept_below (own_kept_below h2 HG4.out (fun k hk => (h2.lt k hk).2)) hb4 (fun k hk => (h2.lt k hk).2), h3⟩
          obtain ⟨i1, hjx, hy0, hy1, hy2⟩ := info_parts bools_info
          have H63 : Hid (a + 1 ≤ maxLen) := by show _ ≤ _; simp only [maxLen]; omega
          have HBY : Hid ((a + 1) * 24 ≤ 140737488355328) := by show _ ≤ _; omega
          have HBS : Hid (w1.heap.size ≤ wr.heap.size) := HB5.out.size
          clear hb4
          go_wp2_with (at_builtin; go_must (refine wpList_append_lies _ rfl _ _ _ rfl w1.heap.size 31 i1 (.slice none 0 0) 1 24 Try.underlying58 hjx hy0 hy1 hy2 rfl (by decide) _ _ _ rfl (HSQ5.out.row.alloc _) ⟨wr.heap.size, 0, none⟩ 1 1 [.slice (some ⟨w3.heap.size, 0, none⟩) bs.length bs.length] rfl rfl (one_newB wr _) (by simp [Value.oneCell']) (by decide) H63.out HBY.out (by have := HBS.out; simp; omega) _ rfl ?_); intro g1 cap1 w6 hown1 hgrow1 hor1 _; go_must (have HP := hideI (HSQ5.out.push (World.ownsRow.mono HR.out hs3) HVB.out hown1 hgrow1 hor1); have HPB : Hid (Below w1.heap.size w1 w6) := (HB5.out.alloc HBS.out _).grown hgrow1 (by have := HBS.out; simp; omega) (fun k hk => (HSQ5.out.row.lt k hk).1); clear hown1 hgrow1 hor1))
          go_roundw
          case rel => exact ⟨a + 1, _, _, by omega, rfl, by go_num, HP, HPB⟩
          case measure => simp [intOf]; omega
    · obtain rfl : a = bs.length := by omega
      go_wp2
      go_ret
      exact ⟨v, rfl, HSQ.out.grid h0, HBW.out.trans (HBWr.out.mono HBW.out.size)⟩

end Go.Proofs.Ytclbhbnidodmdaa

namespace Go.Proofs.Ytclbhbnidodmdaa
open Go.RowKit Go.Maps

/-- a dominates all of some, and is not one -/
def CondC (G : Nat → Nat → Bool) (L : List Nat) (nt : Int) (a : Nat) : Prop := (a : Int) ≠ nt ∧ ∀ b ∈ L, G a b = true

/-- what is asked of d, and of the order -/
structure Tops (n : Nat) (G : Nat → Nat → Bool) (L : List Nat) (nt : Int) (d : Nat) : Prop where
  lt : d < n
  is : CondC G L nt d
  most : ∀ a, CondC G L nt a → G a d = true
  trans : ∀ a b c, G a b = true → G b c = true → G a c = true
  lin : ∀ a b, G a d = true → G b d = true → G a b = true ∨ G b a = true
  anti : ∀ a b, G a b = true → G b a = true → a = b

/-- the best of the first a -/
def BestIs (G : Nat → Nat → Bool) (L : List Nat) (nt : Int) (a : Nat) : Option Nat → Prop
  | none => ∀ c, c < a → ¬ CondC G L nt c
  | some b => b < a ∧ CondC G L nt b ∧ ∀ c, c < a → CondC G L nt c → G c b = true

section
variable {n : Nat} {G : Nat → Nat → Bool} {L : List Nat} {nt : Int} {d a : Nat} {ob : Option Nat}

theorem BestIs.start : BestIs G L nt 0 none := fun c h => by omega

theorem BestIs.no (h : BestIs G L nt a ob) (hc : ¬ CondC G L nt a) : BestIs G L nt (a + 1) ob := by
  cases ob with
  | none =>
    intro c hlt
    by_cases e : c = a
    · rw [e]; exact hc
    · exact h c (by omega)
  | some b =>
    refine ⟨by have := h.1; omega, h.2.1, fun c hlt hcc => ?_⟩
    by_cases e : c = a
    · rw [e] at hcc; exact absurd hcc hc
    · exact h.2.2 c (by omega) hcc

theorem BestIs.first (T : Tops n G L nt d) (h : BestIs G L nt a none) (hc : CondC G L nt a) : BestIs G L nt (a + 1) (some a) := by
  refine ⟨by omega, hc, fun c hlt hcc => ?_⟩
  by_cases e : c = a
  · subst e
    have h1 := T.most c hcc
    rcases T.lin c c h1 h1 with h2 | h2 <;> exact h2
  · exact absurd hcc (h c (by omega))

theorem BestIs.more (T : Tops n G L nt d) {b : Nat} (h : BestIs G L nt a (some b)) (hc : CondC G L nt a) (hg : G b a = true) : BestIs G L nt (a + 1) (some a) := by
  refine ⟨by omega, hc, fun c hlt hcc => ?_⟩
  by_cases e : c = a
  · subst e
    have h1 := T.most c hcc
    rcases T.lin c c h1 h1 with h2 | h2 <;> exact h2
  · exact T.trans c b a (h.2.2 c (by omega) hcc) hg

theorem BestIs.keep (T : Tops n G L nt d) {b : Nat} (h : BestIs G L nt a (some b)) (hc : CondC G L nt a) (hg : G b a = false) : BestIs G L nt (a + 1) (some b) := by
  refine ⟨by have := h.1; omega, h.2.1, fun c hlt hcc => ?_⟩
  by_cases e : c = a
  · subst e
    rcases T.lin c b (T.most c hcc) (T.most b h.2.1) with h1 | h1
    · exact h1
    · rw [hg] at h1; cases h1
  · exact h.2.2 c (by omega) hcc

theorem BestIs.done (T : Tops n G L nt d) (h : BestIs G L nt n ob) : ob = some d := by
  cases ob with
  | none => exact absurd T.is (h d T.lt)
  | some b =>
    congr 1
    exact T.anti b d (T.most b h.2.1) (h.2.2 d T.lt T.is)
end

/-- are the first i of L dominated by a, which is not nt? -/
def DomOk (G : Nat → Nat → Bool) (L : List Nat) (nt : Int) (a i : Nat) (ok : Bool) : Prop := ok = true ↔ (a : Int) ≠ nt ∧ ∀ j b, j < i → L[j]? = some b → G a b = true

theorem DomOk.start (G : Nat → Nat → Bool) (L : List Nat) (nt : Int) (a : Nat) : DomOk G L nt a 0 ((a : Int) != nt) := by
  unfold DomOk
  rw [bne_iff_ne]
  exact ⟨fun h => ⟨h, fun j b hj => by omega⟩, fun h => h.1⟩

theorem DomOk.step {G : Nat → Nat → Bool} {L : List Nat} {nt : Int} {a i b : Nat} {ok : Bool} (h : DomOk G L nt a i ok) (hb : L[i]? = some b) : DomOk G L nt a (i + 1) (ok && G a b) := by
  unfold DomOk at *
  rw [Bool.and_eq_true, h]
  constructor
  · rintro ⟨⟨h1, h2⟩, h3⟩
    refine ⟨h1, fun j c hj hc => ?_⟩
    by_cases e : j = i
    · subst e; rw [hb] at hc; cases hc; exact h3
    · exact h2 j c (by omega) hc
  · rintro ⟨h1, h2⟩
    exact ⟨⟨h1, fun j c hj hc => h2 j c (by omega) hc⟩, h2 i b (by omega) hb⟩

theorem DomOk.all {G : Nat → Nat → Bool} {L : List Nat} {nt : Int} {a : Nat} {ok : Bool} (h : DomOk G L nt a L.length ok) : ok = true ↔ CondC G L nt a := by
  unfold DomOk at h
  rw [h]
  unfold CondC
  constructor
  · rintro ⟨h1, h2⟩
    refine ⟨h1, fun b hb => ?_⟩
    obtain ⟨j, hj⟩ := List.getElem?_of_mem hb
    exact h2 j b (List.getElem?_eq_some_iff.1 hj).1 hj
  · rintro ⟨h1, h2⟩
    exact ⟨h1, fun j b _ hb => h2 b (List.mem_of_getElem? hb)⟩

set_option maxRecDepth 100000 in
set_option maxHeartbeats 4000000 in
theorem refClosest_any (n : Nat) (G : Nat → Nat → Bool) (L : List Nat) (nt : Int) (d BL : Nat) (gv lv : Value) (w : World) (hg : GridR w gv n G) (hl : Ints w BL lv (L.map fun (x : Nat) => (x : Int))) (hL : ∀ b ∈ L, b < n) (hn5 : n ≤ 512) (hT : Tops n G L nt d) :
    Calls Try.prog 62 #[gv, lv, .int .i64 nt] w fun e w' => e = .returned (.int .i64 d) ∧ Below w.heap.size w w' := by
  obtain ⟨gb, c, rfl, _, hgrid⟩ := hg
  obtain ⟨LA, lc, e1, hlm, hpx⟩ := hl
  rw [List.length_map] at e1 hlm hpx
  subst e1
  have HGR := hideI hgrid
  have HPX := hideI hpx
  have HLN := hideI hL
  have HT := hideI hT
  clear hgrid hpx hL hT
  go_enter Try.func62, Try.ntmps62
  go_wp2
  go_loopw [7, 8] (fun u7 u8 wr => ∃ (a m : Nat) (ob : Option Nat), a ≤ n ∧ u7 = .int .i64 (topI ob) ∧ u8 = .int .i64 a ∧ wr = w.drewN m ∧ Hid (BestIs G L nt a ob)) (fun _ u8 _ => n - (intOf u8).toNat)
  case atStart => exact ⟨0, 0, none, Nat.zero_le _, rfl, rfl, rfl, hideI BestIs.start⟩
  case round =>
    obtain ⟨a, m, ob, ha, rfl, rfl, rfl, HB⟩ := hrel
    by_cases hlt : a < n
    · obtain ⟨ga, _, k1, hrow⟩ := HGR.out a hlt
      have HROW := hideI hrow
      obtain ⟨q0, hq0⟩ : ∃ q, q = ((a : Int) != nt) := ⟨_, rfl⟩
      have HOK0 : Hid (DomOk G L nt a 0 q0) := by show DomOk _ _ _ _ _ _; rw [hq0]; exact DomOk.start G L nt a
      clear hrow
      rw [eq_comm] at hq0
      go_wp2
      clear hq0
      go_loopw [9, 10] (fun u9 u10 wr => ∃ (i m2 : Nat) (ok : Bool), i ≤ L.length ∧ u9 = .bool ok ∧ u10 = .int .i64 i ∧ wr = w.drewN m2 ∧ Hid (DomOk G L nt a i ok)) (fun _ u10 _ => L.length - (intOf u10).toNat)
      case atStart => exact ⟨0, m, q0, Nat.zero_le _, rfl, rfl, rfl, HOK0⟩
      case round =>
        obtain ⟨i, m2, ok, hi, rfl, rfl, rfl, HOK⟩ := hrel
        by_cases hlti : i < L.length
        · obtain ⟨b, hb⟩ : ∃ b, L[i]? = some b := ⟨_, List.getElem?_eq_getElem hlti⟩
          have hbn := HLN.out b (List.mem_of_getElem? hb)
          obtain ⟨pb, po, rfl, _, d1⟩ := HPX.out i hlti
          rw [List.getElem?_map, hb] at d1
          simp only [Option.map_some, Option.getD_some] at d1
          have k2 := HROW.out b hbn
          have HST := hideI (HOK.out.step hb)
          clear hb
          cases ok with
          | false =>
            clear d1 k2
            go_wp2
            go_quiet (fail)
            go_wp2
            go_roundw
            case rel => exact ⟨i + 1, _, false, by omega, by trivial, by go_num, rfl, hideI (by have := HST.out; simpa using this)⟩
            case measure => simp [intOf]; omega
          | true =>
            obtain ⟨x, hx⟩ : ∃ x, x = G a b := ⟨_, rfl⟩
            rw [← hx] at k2 HST
            clear hx
            cases x
            all_goals
              go_wp2
              go_quiet (fail)
              go_wp2
              go_roundw
              case rel => exact ⟨i + 1, _, _, by omega, by first | rfl | trivial, by go_num, rfl, hideI (by have := HST.out; simpa using this)⟩
              case measure => simp [intOf]; omega
        · obtain rfl : i = L.length := by omega
          have HC := hideI HOK.out.all
          cases ok with
          | false =>
            have HNC : Hid (¬ CondC G L nt a) := fun h => by have := HC.out.2 h; cases this
            go_wp2
            go_roundw
            case rel => exact ⟨a + 1, _, ob, by omega, rfl, by go_num, rfl, hideI (HB.out.no HNC.out)⟩
            case measure => simp [intOf]; omega
          | true =>
            have HCC : Hid (CondC G L nt a) := HC.out.1 rfl
            cases ob with
            | none =>
              simp only [topI]
              go_wp2
              go_roundw
              case rel => exact ⟨a + 1, _, some a, by omega, rfl, by go_num, rfl, hideI (HB.out.first HT.out HCC.out)⟩
              case measure => simp [intOf]; omega
            | some b =>
              simp only [topI]
              have hbl : b < n := by have := HB.out.1; omega
              obtain ⟨gb2, _, k3, hrow2⟩ := HGR.out b hbl
              have k4 := hrow2 a hlt
              clear hrow2
              cases hx : G b a with
              | false =>
                have HX : Hid (G b a = false) := hx
                rw [hx] at k4
                clear hx
                go_wp2
                go_roundw
                case rel => exact ⟨a + 1, _, some b, by omega, rfl, by go_num, rfl, hideI (HB.out.keep HT.out HCC.out HX.out)⟩
                case measure => simp [intOf]; omega
              | true =>
                have HX : Hid (G b a = true) := hx
                rw [hx] at k4
                clear hx
                go_wp2
                go_roundw
                case rel => exact ⟨a + 1, _, some a, by omega, rfl, by go_num, rfl, hideI (HB.out.more HT.out HCC.out HX.out)⟩
                case measure => simp [intOf]; omega
    · obtain rfl : a = n := by omega
      obtain rfl := HB.out.done HT.out
      simp only [topI]
      go_wp2
      go_ret
      exact ⟨rfl, drew_below (Below.refl _ _) _⟩

end Go.Proofs.Ytclbhbnidodmdaa

namespace Go.Proofs.Ytclbhbnidodmdaa
open Go.RowKit Go.Maps

theorem over_order {bs : List BlockM} {o : List Nat} {pl : Nat → Nat} {par : Nat → Option Nat} {G : Nat → Nat → Bool} (hO : Ord (succM bs) o pl) (hD : Done (succM bs) o pl par) (hG : ∀ a b, G a b = true ↔ OverP bs o a b) :
    (∀ a b c, G a b = true → G b c = true → G a c = true) ∧ (∀ d a b, G a d = true → G b d = true → G a b = true ∨ G b a = true) ∧ ∀ a b, G a b = true → G b a = true → a = b := by
  refine ⟨fun a b c h1 h2 => ?_, fun d a b h1 h2 => ?_, fun a b h1 h2 => ?_⟩
  · rw [hG] at h1 h2 ⊢
    exact (over_anc hO hD h2.2.1).2 (((over_anc hO hD h1.2.1).1 h1).trans ((over_anc hO hD h2.2.1).1 h2))
  · rw [hG] at h1 h2
    rw [hG, hG]
    have ha := h1.1
    have hb := h2.1
    rcases ((over_anc hO hD h1.2.1).1 h1).lin ((over_anc hO hD h2.2.1).1 h2) with h3 | h3
    · exact .inl ((over_anc hO hD hb).2 h3)
    · exact .inr ((over_anc hO hD ha).2 h3)
  · rw [hG] at h1 h2
    exact hD.tree.antisymm ((over_anc hO hD h1.2.1).1 h1) ((over_anc hO hD h2.2.1).1 h2)

theorem tops_idom {bs : List BlockM} {o : List Nat} {pl : Nat → Nat} {par : Nat → Option Nat} {G : Nat → Nat → Bool} {b d : Nat} (hO : Ord (succM bs) o pl) (hD : Done (succM bs) o pl par) (hR : ∀ x ∈ o, x < bs.length) (hG : ∀ a b, G a b = true ↔ OverP bs o a b) (e : par b = some d) : Tops bs.length G [b] (b : Int) d := by
  obtain ⟨h1, h2, h3⟩ := over_order hO hD hG
  have hu := hD.tree.up b d e
  refine ⟨hR d hu.2.1, ⟨fun h => ?_, fun c hc => ?_⟩, fun a ha => ?_, h1, h2 d, h3⟩
  · have : d = b := by omega
    have := hu.2.2.1
    subst d; omega
  · have : c = b := by simpa using hc
    subst this
    exact (hG d c).2 ((over_anc hO hD hu.1).2 (.up e .refl))
  · have h4 := (hG a b).1 (ha.2 b (by simp))
    have h5 := (over_anc hO hD hu.1).1 h4
    rcases h5.step e with h6 | h6
    · exact absurd (by rw [h6]) ha.1
    · exact (hG a d).2 ((over_anc hO hD hu.2.1).2 h6)

theorem tops_meet {bs : List BlockM} {o : List Nat} {pl : Nat → Nat} {par : Nat → Option Nat} {G : Nat → Nat → Bool} {L : List Nat} {m : Nat} (hO : Ord (succM bs) o pl) (hD : Done (succM bs) o pl par) (hR : ∀ x ∈ o, x < bs.length) (hG : ∀ a b, G a b = true ↔ OverP bs o a b) (hm : m ∈ o) (h : ∀ x, OverP bs o x m ↔ ∀ b ∈ L, OverP bs o x b) : Tops bs.length G L (-1) m := by
  obtain ⟨h1, h2, h3⟩ := over_order hO hD hG
  refine ⟨hR m hm, ⟨by omega, fun b hb => (hG m b).2 ((h m).1 (OverP.refl hm) b hb)⟩, fun a ha => (hG a m).2 ((h a).2 fun b hb => (hG a b).1 (ha.2 b hb)), h1, h2 m, h3⟩

theorem tops_succ (k : Nat) (par : Nat → Option Nat) : tops k par ++ [.int .i64 (topI (par k))] = tops (k + 1) par := by
  unfold tops
  rw [List.range_succ, List.map_append]
  rfl

theorem ints1 (W : World) (x : Nat) : Ints (W.alloc (.cells #[.int .i64 (x : Int)] 3)) (W.heap.size + 1) (.slice (some ⟨W.heap.size, 0, none⟩) 1 1) ([x].map fun (x : Nat) => (x : Int)) := by
  have hx := row_cells (heap_alloc_new W (.cells #[.int .i64 (x : Int)] 3)) (rfl : (W.alloc (.cells #[.int .i64 (x : Int)] 3)).heap[W.heap.size]? = _)
  refine ⟨_, _, rfl, by simp, fun k hk => ⟨_, 0, rfl, by omega, ?_⟩⟩
  rw [hx, Nat.zero_add]
  rcases k with _ | k
  · rfl
  · simp at hk

def IdomsList (n : Nat) (par : Nat → Option Nat) : List Int := (List.range n).map fun b => topI (par b)

theorem tops_list (n : Nat) (par : Nat → Option Nat) : tops n par = (IdomsList n par).map (Value.int .i64) := by
  unfold tops IdomsList
  rw [List.map_map]
  rfl

def RefIdomsPost (n : Nat) (par : Nat → Option Nat) (w : World) (e : Ending) (w' : World) : Prop := ∃ v, e = .returned v ∧ w'.ownsRow w.heap.size 3 1 v n (tops n par) ∧ Below w.heap.size w w'

set_option maxRecDepth 100000 in
set_option maxHeartbeats 4000000 in
theorem refIdoms_any (bs : List BlockM) (o : List Nat) (pl : Nat → Nat) (par : Nat → Option Nat) (G : Nat → Nat → Bool) (B : Nat) (pv av cv bv : Value) (w : World) (hbv : BlocksR w B bv bs) (hB : B ≤ w.heap.size) (h0 : 0 < bs.length) (hn5 : bs.length ≤ 512) (hin : EndsIn bs) (ho : OrderIs bs o) (hO : Ord (succM bs) o pl) (hD : Done (succM bs) o pl par) (hR : ∀ x ∈ o, x < bs.length) (hG : ∀ a b, G a b = true ↔ OverP bs o a b) :
    Calls Try.prog 33 #[.agg #[pv, av, cv, bv]] w (RefIdomsPost bs.length par w) := by
  have HBL := hideI hbv
  have HIN := hideI hin
  have HO := hideI ho
  have HORD := hideI hO
  have HD := hideI hD
  have HR := hideI hR
  have HG := hideI hG
  obtain ⟨A, c, rfl, hbm, _⟩ := hbv
  obtain ⟨W, hW⟩ : ∃ W : World, W = w.alloc (.cells #[pv, av, cv, .slice A bs.length c] 25) := ⟨_, rfl⟩
  have HBW : Hid (Below w.heap.size w W) := by show Below _ _ _; rw [hW]; exact (Below.refl _ _).alloc (Nat.le_refl _) _
  have HXW : Hid (W.heap[w.heap.size]? = some (.cells #[pv, av, cv, .slice A bs.length c] 25 (0, 0))) := by show _ = _; rw [hW]; exact heap_alloc_new w _
  have hwW : w.heap.size < W.heap.size := lt_of_heap HXW.out
  have HW0 := hideI hW
  have hx := row_cells HXW.out rfl
  have q0 := hx 0
  have q1 := hx 1
  have q2 := hx 2
  have q3 := hx 3
  have HBR : Hid (BlocksR W B (.slice A bs.length c) bs ∧ B ≤ W.heap.size) := ⟨HBL.out.keeps (Keeps.of_below (HBW.out.mono hB)), by omega⟩
  clear hin ho hG hW hx hO hD hR
  go_enter Try.func33, Try.ntmps33
  go_upto_region 1 with fail
  rw [← HW0.out]
  clear HW0
  go_wp2_with (first
    | (go_at_call 34; go_must (refine (refOver_any bs o G B pv av cv _ W HBR.out.1 HBR.out.2 h0 hn5 HIN.out HO.out HG.out).mono ?_); rintro e w1 ⟨gv, rfl, hgr, hb1⟩; have HGR := hideI hgr; have HB1 := hideI hb1; clear hgr hb1 q0 q1 q2 q3))
  obtain ⟨W2, hW2⟩ : ∃ W2, W2 = w1.alloc (.cells #[] 3) := ⟨_, rfl⟩
  have HB12 : Hid (Below w1.heap.size w1 W2) := by show Below _ _ _; rw [hW2]; exact (Below.refl _ _).alloc (Nat.le_refl _) _
  have HO2 : Hid (W2.ownsRow w1.heap.size 3 1 (.slice (some ⟨w1.heap.size, 0, none⟩) 0 0) 0 (tops 0 par)) := by
    show World.ownsRow _ _ _ _ _ _ _
    rw [hW2]
    exact World.ownsRow_made w1 #[] 0 (Nat.le_refl _) (by decide) rfl
  have hsW1 : W.heap.size ≤ w1.heap.size := HB1.out.size
  rw [← hW2]
  clear hW2
  go_loopw [4, 5] (fun u4 u5 wr => ∃ (b : Nat) (v : Value), b ≤ bs.length ∧ v = u4 ∧ u5 = .int .i64 b ∧ Hid (wr.ownsRow w1.heap.size 3 1 v b (tops b par)) ∧ Hid (Below w1.heap.size w1 wr)) (fun _ u5 _ => bs.length - (intOf u5).toNat)
  case atStart => exact ⟨0, _, Nat.zero_le _, rfl, rfl, HO2, HB12⟩
  case round =>
    obtain ⟨b, v, hb, rfl, rfl, HV, HBr⟩ := hrel
    have hx := row_cells HXW.out ((HB1.out.trans (HBr.out.mono hsW1)).block _ hwW)
    have q3 := hx 3
    clear hx
    by_cases hlt : b < bs.length
    · obtain ⟨i1, hjx, hy0, hy1, hy2⟩ := info_parts int_info
      have H63 : Hid (b + 1 ≤ maxLen) := by show _ ≤ _; simp only [maxLen]; omega
      have HBY : Hid ((b + 1) * 8 ≤ 140737488355328) := by show _ ≤ _; omega
      have HBS : Hid (w1.heap.size ≤ wr.heap.size) := HBr.out.size
      by_cases hnone : par b = none
      · have HTB : Hid (tops b par ++ [.int .i64 (-1)] = tops (b + 1) par) := by
          have := tops_succ b par
          rwa [hnone] at this
        have hbo : b ≠ 0 → b ∉ o := fun h1 h2 => by
          rcases HD.out.grown b h2 with h3 | ⟨d, h3⟩
          · exact h1 h3
          · rw [hnone] at h3; cases h3
        clear hnone
        rcases Nat.eq_zero_or_pos b with hb0 | hb0
        · subst hb0
          clear hbo
          go_wp2_with (at_builtin; go_must (refine wpList_append_lies _ rfl _ _ _ rfl w1.heap.size 3 i1 (.int .i64 0) 1 8 Try.underlying22 hjx hy0 hy1 hy2 rfl (by decide) _ _ _ rfl (HV.out.alloc _) ⟨wr.heap.size, 0, none⟩ 1 1 [.int .i64 (-1)] rfl rfl (one_new wr _) (by simp [Value.oneCell']) (by decide) H63.out HBY.out (by have := HBS.out; simp; omega) _ rfl ?_); intro g1 cap1 w3 hown1 hgrow1 hor1 _; go_must (rw [HTB.out] at hown1; have HV3 := hideI hown1; have HB3 : Hid (Below w1.heap.size w1 w3) := (HBr.out.alloc HBS.out _).grown hgrow1 (by have := HBS.out; simp; omega) (fun k hk => (HV.out.lt k hk).1); clear hown1 hgrow1 hor1))
          go_roundw
          case rel => exact ⟨0 + 1, _, by omega, rfl, by go_num, HV3, HB3⟩
          case measure => simp [intOf]; omega
        · have hb1 : ((b : Int) == 0) = false := by rw [beq_eq_false_iff_ne]; omega
          have hgbb : G b b = false := by
            cases hg : G b b with
            | false => rfl
            | true => exact absurd ((HG.out b b).1 hg).1 (hbo (by omega))
          obtain ⟨gb, gc, rfl, _, hgrid⟩ := HGR.out.kept HBr.out
          obtain ⟨ga, _, k1, hrow⟩ := hgrid b hlt
          have k2 := hrow b hlt
          rw [hgbb] at k2
          clear hbo hgbb hgrid hrow
          go_wp2_with (at_builtin; go_must (refine wpList_append_lies _ rfl _ _ _ rfl w1.heap.size 3 i1 (.int .i64 0) 1 8 Try.underlying22 hjx hy0 hy1 hy2 rfl (by decide) _ _ _ rfl (HV.out.alloc _) ⟨wr.heap.size, 0, none⟩ 1 1 [.int .i64 (-1)] rfl rfl (one_new wr _) (by simp [Value.oneCell']) (by decide) H63.out HBY.out (by have := HBS.out; simp; omega) _ rfl ?_); intro g1 cap1 w3 hown1 hgrow1 hor1 _; go_must (rw [HTB.out] at hown1; have HV3 := hideI hown1; have HB3 : Hid (Below w1.heap.size w1 w3) := (HBr.out.alloc HBS.out _).grown hgrow1 (by have := HBS.out; simp; omega) (fun k hk => (HV.out.lt k hk).1); clear hown1 hgrow1 hor1))
          go_roundw
          case rel => exact ⟨b + 1, _, by omega, rfl, by go_num, HV3, HB3⟩
          case measure => simp [intOf]; omega
      · obtain ⟨d, hd⟩ : ∃ d, par b = some d := by
          cases h : par b with
          | none => exact absurd h hnone
          | some d => exact ⟨d, rfl⟩
        have HTB : Hid (tops b par ++ [.int .i64 (d : Int)] = tops (b + 1) par) := by
          have := tops_succ b par
          rwa [hd] at this
        have HTOP := hideI (tops_idom HORD.out HD.out HR.out HG.out hd)
        have hu := HD.out.tree.up b d hd
        have hb0 : b ≠ 0 := fun e => by rw [e, HD.out.tree.root] at hd; cases hd
        have hb1 : ((b : Int) == 0) = false := by rw [beq_eq_false_iff_ne]; omega
        have hgbb : G b b = true := (HG.out b b).2 (OverP.refl hu.1)
        have HGK := hideI (HGR.out.kept HBr.out)
        obtain ⟨gb, gc, rfl, _, hgrid⟩ := HGK.out
        obtain ⟨ga, _, k1, hrow⟩ := hgrid b hlt
        have k2 := hrow b hlt
        rw [hgbb] at k2
        clear hnone hd hu hb0 hgbb hgrid hrow
        go_wp2_with (first
          | (go_at_call 62; go_must (refine (refClosest_any bs.length G [b] b d _ _ _ _ (HGK.out.kept ((Below.refl _ wr).alloc (Nat.le_refl _) _)) (ints1 wr b) (by intro x hx; simp at hx; omega) hn5 HTOP.out).mono ?_); rintro e w5 ⟨rfl, hb5⟩; have HB5 : Hid (Below wr.heap.size wr w5) := ((Below.refl _ wr).alloc (Nat.le_refl _) _).trans (hb5.mono (by simp)); have HV5 := hideI (own_kept_below HV.out HB5.out (fun k hk => (HV.out.lt k hk).2)); have HBS5 : Hid (w1.heap.size ≤ w5.heap.size) := Nat.le_trans HBS.out HB5.out.size; clear hb5)
          | (at_builtin; go_must (refine wpList_append_lies _ rfl _ _ _ rfl w1.heap.size 3 i1 (.int .i64 0) 1 8 Try.underlying22 hjx hy0 hy1 hy2 rfl (by decide) _ _ _ rfl (HV5.out.alloc _) ⟨w5.heap.size, 0, none⟩ 1 1 [.int .i64 d] rfl rfl (one_new w5 _) (by simp [Value.oneCell']) (by decide) H63.out HBY.out (by have := HBS5.out; simp; omega) _ rfl ?_); intro g1 cap1 w3 hown1 hgrow1 hor1 _; go_must (rw [HTB.out] at hown1; have HV3 := hideI hown1; have HB3 : Hid (Below w1.heap.size w1 w3) := ((HBr.out.trans (HB5.out.mono HBS.out)).alloc HBS5.out _).grown hgrow1 (by have := HBS5.out; simp; omega) (fun k hk => (HV5.out.lt k hk).1); clear hown1 hgrow1 hor1)))
        go_roundw
        case rel => exact ⟨b + 1, _, by omega, rfl, by go_num, HV3, HB3⟩
        case measure => simp [intOf]; omega
    · obtain rfl : b = bs.length := by omega
      go_wp2
      go_ret
      exact ⟨v, rfl, World.ownsRow.mono HV.out (by omega), HBW.out.trans ((HB1.out.trans (HBr.out.mono hsW1)).mono HBW.out.size)⟩

end Go.Proofs.Ytclbhbnidodmdaa
