/- The reference's row of binomials modulo 2^64, by halves. -/
import Derived.Test.YtfifbgpiekpepaaDoorRTrim
import Derived.Test.YtfifbgpiekpepaaDoorLate
import Derived.Laws.BitsLemmas
import Derived.Deep.CutRange
import Derived.Deep.Cut
namespace Go.Proofs.YtfifbgpiekpepaaDoor.Chn
open Go.RowKit

def wrp (x : Int) : Int := IntKind.i64.wrap x
theorem wrp_eq (x : Int) : Eq64 (wrp x) x := by
  unfold wrp Eq64
  rw [IntKind.wrap_i64]
  omega
theorem wrp_in (x : Int) : In64 (wrp x) := by
  unfold wrp In64
  rw [IntKind.wrap_i64]
  omega
theorem wrp_of {x y : Int} (h : Eq64 x y) : wrp x = wrp y := (wrp_in x).one (wrp_in y) ((wrp_eq x).trans (h.trans (wrp_eq y).symm))

def rowW (n m : Nat) : List Int := (List.range (m + 1)).map fun k => wrp (ch n k)
theorem rowW_len (n m : Nat) : (rowW n m).length = m + 1 := by simp [rowW]
theorem rowW_at {n m k : Nat} (h : k ≤ m) : (rowW n m)[k]? = some (wrp (ch n k)) := by simp [rowW, show k < m + 1 by omega]
theorem rowW_of {n m : Nat} {ys : List Int} (hl : ys.length = m + 1) (h : ∀ j, j < m + 1 → ys[j]? = some (wrp (ch n j))) : ys = rowW n m := by
  apply List.ext_getElem?
  intro j
  rcases Nat.lt_or_ge j (m + 1) with hj | hj
  · rw [h j hj, rowW_at (by omega)]
  · rw [List.getElem?_eq_none (by omega), List.getElem?_eq_none (by rw [rowW_len]; omega)]

theorem Num.other {w : World} {base base' g n c j : Nat} {v : Value} {xs ys : List Int} {u : Value} (h : Num w base v xs) (ho : Num w base' (.slice (some ⟨g, 0, none⟩) n c) ys) (hb : g < base) : Num (w.setCell ⟨g, j, none⟩ u) base v xs := by
  have hn : n = ys.length := by
    obtain ⟨A, c2, e, _⟩ := ho.read
    injection e
  subst hn
  refine World.ownsRow.kept h (World.ownsRow.stored ho j u).2 ?_
  cases hv : v.ownBlock with
  | none => exact .inl rfl
  | some k => exact .inr (fun e => by injection e with e; have := (World.ownsRow.lt h k hv).1; omega)

/-- a new row of zeros -/
theorem make_row (n : Nat) (hn : n ≤ 100001) (W : World) : (Instr.makeSlice 24 (.int .i64 (n : Int)) (.int .i64 (n : Int))).run Tryd.prog W = .ok (.slice (some ⟨W.heap.size, 0, none⟩) n n) (W.alloc (.cells (Array.replicate n (Value.int .i64 0)) 3)) := by
  obtain ⟨i1, hjx, hy0, hy1, hy2⟩ := info_parts int_info
  have := run_make (P := Tryd.prog) W 24 3 i1 (.int .i64 0) Tryd.underlying24 hjx hy0 .i64 .i64 (n : Int) (n : Int) (by omega) (Int.le_refl _) (by rw [hy2]; omega) (by omega)
  rw [hy1] at this
  have e : madeCells (Value.int .i64 0).cells (n * 1) = (Array.replicate n (Value.int .i64 0)) := by
    apply Array.toList_inj.1
    rw [show (Value.int .i64 0).cells = #[Value.int .i64 0] from rfl, toList_madeCells_one, Nat.mul_one, Array.toList_replicate]
  simp only [Int.toNat_natCast] at this
  rw [e] at this
  exact this

theorem row_made (n : Nat) (hn : n ≤ 100001) (W : World) : Num (W.alloc (.cells (Array.replicate n (Value.int .i64 0)) 3)) W.heap.size (.slice (some ⟨W.heap.size, 0, none⟩) n n) (List.replicate n 0) := by
  unfold Num
  rw [List.length_replicate]
  refine ⟨by simp, .inr ⟨W.heap.size, n, _, rfl, Nat.le_refl _, heap_alloc_new W _, Nat.le_refl _, by unfold maxLen; omega, by simp, by simp⟩⟩

/-- what a row under way is: its first numbers as they shall be -/
structure RowTo (wr0 w : World) (base g m k n : Nat) (ys : List Int) : Prop where
  len : ys.length = m + 1
  low : ∀ j, j < k → ys[j]? = some (wrp (ch n j))
  own : Num w base (.slice (some ⟨g, 0, none⟩) (m + 1) (m + 1)) ys
  below : Below base wr0 w

theorem RowTo.put {w0 w : World} {base g m k n : Nat} {ys : List Int} {x : Int} (h : RowTo w0 w base g m k n ys) (hg : base ≤ g) (hk : k ≤ m) (hx : x = wrp (ch n k)) : RowTo w0 (w.setCell ⟨g, k, none⟩ (.int .i64 x)).drew base g m (k + 1) n (ys.set k x) := by
  refine ⟨by rw [List.length_set]; exact h.len, fun j hj => ?_, World.ownsRow.drew (h.own.set (j := k) (x := x)), (h.below.setCell hg _).drew⟩
  by_cases e : j = k
  · subst e
    rw [List.getElem?_set_self (by rw [h.len]; omega), hx]
  · rw [List.getElem?_set_ne (by omega)]
    exact h.low j (by omega)

theorem RowTo.far {w0 w : World} {base g m k n g6 j i : Nat} {ys : List Int} {u : Value} (h : RowTo w0 w base g m k n ys) (hg : g ≠ g6) (hl : g6 < w.heap.size) : (w.setCell ⟨g, i, none⟩ u).drew.cell? ⟨g6, j, none⟩ = w.cell? ⟨g6, j, none⟩ := by
  have h1 := (World.ownsRow.stored (by have e := h.own; unfold Num at e; rw [h.len] at e; exact e) i u).2
  exact World.cell?_of_block (a := ⟨g6, j, none⟩) (h1.block g6 hl (fun e => by injection e with e; exact hg e.symm))

theorem RowTo.row {w0 w : World} {base g m n : Nat} {ys : List Int} (h : RowTo w0 w base g m (m + 1) n ys) : Num w base (.slice (some ⟨g, 0, none⟩) (m + 1) (m + 1)) (rowW n m) := by
  rw [← rowW_of h.len h.low]
  exact h.own

theorem odd_wrap (x : Int) : wrap64 x = IntKind.i64.wrap x := by rw [IntKind.wrap_i64]; unfold wrap64; omega

theorem odd_step (n k : Nat) : IntKind.i64.wrap (wrp (ch n (k + 1)) + wrp (ch n k)) = wrp (ch (n + 1) (k + 1)) := by
  refine wrp_of ?_
  rw [ch_step]
  exact ((wrp_eq _).add (wrp_eq _)).trans (by rw [Int.add_comm]; exact Eq64.rfl' _)

theorem RowTo.same {w0 w : World} {base g m k n : Nat} {ys : List Int} {x : Int} (h : RowTo w0 w base g m k n ys) (hg : base ≤ g) : RowTo w0 (w.setCell ⟨g, k, none⟩ (.int .i64 x)) base g m k n (ys.set k x) := by
  refine ⟨by rw [List.length_set]; exact h.len, fun j hj => ?_, h.own.set (j := k) (x := x), h.below.setCell hg _⟩
  rw [List.getElem?_set_ne (by omega)]
  exact h.low j hj

theorem RowTo.drew {w0 w : World} {base g m k n : Nat} {ys : List Int} (h : RowTo w0 w base g m k n ys) : RowTo w0 w.drew base g m k n ys := ⟨h.len, h.low, World.ownsRow.drew h.own, h.below.drew⟩

theorem RowTo.next {w0 w : World} {base g m k n : Nat} {ys : List Int} (h : RowTo w0 w base g m k n ys) (hk : ys[k]? = some (wrp (ch n k))) : RowTo w0 w base g m (k + 1) n ys :=
  ⟨h.len, fun j hj => by
    by_cases e : j = k
    · rw [e]; exact hk
    · exact h.low j (by omega), h.own, h.below⟩

theorem RowTo.cell {w0 w : World} {base g m k n j : Nat} {ys : List Int} {y : Int} (h : RowTo w0 w base g m k n ys) (hy : ys[j]? = some y) : w.cell? ⟨g, j, none⟩ = some (.int .i64 y) := by
  obtain ⟨A, c, e, hr⟩ := h.own.read
  injection e with e
  subst e
  obtain ⟨g, e, _, _, hc⟩ := hr j y hy
  injection e with e
  injection e with e
  subst e
  exact hc

theorem RowTo.open_ {w0 w : World} {base g m k n j : Nat} {ys : List Int} (h : RowTo w0 w base g m k n ys) : w.frozen? ⟨g, j, none⟩ = false := World.ownsRow.frozenAt (by have e := h.own; unfold Num at e; rw [h.len] at e; exact e) j

/-- the sum of the first i products -/
def pc (a k : Nat) : Nat → Int
  | 0 => 0
  | i + 1 => pc a k i + ch a i * ch a (k - i)

theorem pc_conv (a k : Nat) : ∀ i, pc a k (i + 1) = conv a a k i
  | 0 => by simp [pc, conv]
  | i + 1 => by rw [pc, pc_conv a k i, conv]

theorem pc_all (a k : Nat) : pc a k (k + 1) = ch (a + a) k := by rw [pc_conv, conv_all]

theorem even_step (a k i : Nat) : IntKind.i64.wrap (wrp (pc a k i) + IntKind.i64.wrap (wrp (ch a i) * wrp (ch a (k - i)))) = wrp (pc a k (i + 1)) := by
  refine wrp_of ?_
  rw [pc]
  exact (wrp_eq _).add ((wrp_eq _).trans ((wrp_eq _).mul (wrp_eq _)))

set_option maxRecDepth 100000 in
set_option maxHeartbeats 4000000 in
theorem refRow_any : ∀ (n : Nat), n < 9223372036854775808 → ∀ (m : Nat) (w : World), m ≤ 100000 →
    Calls Tryd.prog 37 #[.int .i64 n, .int .i64 m] w fun e w' => ∃ v, e = .returned v ∧ Num w' w.heap.size v (rowW n m) ∧ Below w.heap.size w w' := by
  intro n
  induction n using Nat.strongRecOn with
  | ind n ih =>
  intro hn m w hm
  have HIH := hideI ih
  clear ih
  obtain ⟨m1, hm1⟩ : ∃ m1, m1 = m + 1 := ⟨_, rfl⟩
  have hmk : ∀ W : World, (Instr.makeSlice 24 (.int .i64 ((m : Int) + 1)) (.int .i64 ((m : Int) + 1))).run Tryd.prog W = .ok (.slice (some ⟨W.heap.size, 0, none⟩) (m + 1) (m + 1)) (W.alloc (.cells (Array.replicate (m + 1) (Value.int .i64 0)) 3)) := make_row (m + 1) (by omega)
  obtain ⟨W, hW⟩ : ∃ W : World, W = w.alloc (.cells (Array.replicate (m + 1) (Value.int .i64 0)) 3) := ⟨_, rfl⟩
  have HO : Hid (Num W w.heap.size (.slice (some ⟨w.heap.size, 0, none⟩) (m + 1) (m + 1)) (List.replicate (m + 1) 0)) := hideI (by rw [hW]; exact row_made (m + 1) (by omega) w)
  have HB : Hid (Below w.heap.size w W) := hideI (by rw [hW]; exact (Below.refl _ w).alloc (Nat.le_refl _) _)
  have HW := hideI hW
  have z0 : W.frozen? ⟨w.heap.size, 0, none⟩ = false := World.ownsRow.frozenAt (by have h := HO.out; unfold Num at h; rw [List.length_replicate] at h; exact h) 0
  have c0 : W.cell? ⟨w.heap.size, 0, none⟩ = some (.int .i64 0) := by
    obtain ⟨A, c, e, hr⟩ := HO.out.read
    injection e with e
    subst e
    obtain ⟨g, e, _, _, hc⟩ := hr 0 0 (by simp)
    injection e with e
    injection e with e
    subst e
    exact hc
  clear hW hm1
  go_enter Tryd.func37, Tryd.ntmps37
  go_upto_region 2 with fail
  rw [← HW.out]
  clear hmk
  go_upto_region 3 with fail
  obtain ⟨W1, hW1⟩ : ∃ W1, W1 = W.setCell ⟨w.heap.size, 0, none⟩ (.int .i64 1) := ⟨_, rfl⟩
  have HO1 : Hid (Num W1 w.heap.size (.slice (some ⟨w.heap.size, 0, none⟩) (m + 1) (m + 1)) (1 :: List.replicate m 0)) := hideI (by
    rw [hW1]
    have h := HO.out.set (j := 0) (x := 1)
    rw [List.replicate_succ] at h
    exact h)
  have HB1 : Hid (Below w.heap.size w W1) := hideI (by rw [hW1]; exact HB.out.setCell (Nat.le_refl _) _)
  rw [← hW1]
  clear hW1 HO HB HW z0 c0
  have hsz : w.heap.size < W1.heap.size := (World.ownsRow.lt (by have h := HO1.out; unfold Num at h; exact h) w.heap.size rfl).2
  by_cases h0 : n = 0
  · subst h0
    have HR : Hid (Num W1 w.heap.size (.slice (some ⟨w.heap.size, 0, none⟩) (m + 1) (m + 1)) (rowW 0 m)) := hideI (by
      have e : (1 :: List.replicate m 0 : List Int) = rowW 0 m := by
        apply rowW_of (by simp)
        intro j hj
        cases j with
        | zero => rw [ch_right]; rfl
        | succ j => rw [ch_left, List.getElem?_cons_succ, List.getElem?_replicate, if_pos (by omega)]; rfl
      rw [← e]
      exact HO1.out)
    clear HO1
    go_wp2
    go_ret
    exact ⟨_, rfl, HR.out, HB1.out⟩
  · have hnb : ((n : Int) == 0) = false := by rw [beq_eq_false_iff_ne]; omega
    by_cases hodd : n % 2 = 1
    · have hr1 : Int.tmod (n : Int) 2 = 1 := by rw [show Int.tmod (n : Int) 2 = ((n % 2 : Nat) : Int) from rfl, hodd]; rfl
      have hr2 : (n : Int) % 2 = 1 := by omega
      obtain ⟨n1, rfl⟩ : ∃ n1, n = n1 + 1 := ⟨n - 1, by omega⟩
      have HC := hideI (HIH.out n1 (by omega) (by omega) m W1 hm)
      have hnb : (((n1 : Int) + 1) == 0) = false := by rw [beq_eq_false_iff_ne]; omega
      have hr3 : (((n1 : Int) + 1) % 2 == 1) = true := by rw [beq_iff_eq]; omega
      have hr4 : (Int.tmod ((n1 : Int) + 1) 2) = 1 := by have := hr1; push_cast at this; exact this
      clear hr1 hr2
      go_upto_region 7 with (go_at_call 37; go_must (refine HC.out.mono ?_); rintro e w2 ⟨v6, rfl, hv, hb⟩; have HV := hideI hv; have HB2 := hideI hb; clear hv hb)
      obtain ⟨A6, c6, rfl, hr6⟩ := HV.out.read
      obtain ⟨g6, hg6, hb6, _, _⟩ := hr6 0 _ (rowW_at (Nat.zero_le m))
      subst hg6
      rw [rowW_len]
      have HR6 : Hid (∀ j, j ≤ m → w2.cell? ⟨g6, j, none⟩ = some (.int .i64 (wrp (ch n1 j)))) := hideI fun j hj => by
        obtain ⟨g, e, _, _, hc⟩ := hr6 j _ (rowW_at hj)
        injection e with e
        injection e with e
        subst e
        exact hc
      clear hr6
      have HO2 := hideI (HO1.out.kept HB2.out)
      have hg6 : w.heap.size ≠ g6 := by omega
      go_wp2
      go_loopw [7] (fun u wv => ∃ (k : Nat) (ys : List Int), k ≤ m ∧ u = .int .i64 (k + 1 : Nat) ∧ Hid (RowTo w wv w.heap.size w.heap.size m (k + 1) (n1 + 1) ys) ∧ Hid (g6 < wv.heap.size) ∧ Hid (∀ j, j ≤ m → wv.cell? ⟨g6, j, none⟩ = some (.int .i64 (wrp (ch n1 j))))) (fun u _ => m + 1 - (intOf u).toNat)
      case atStart =>
        refine ⟨0, 1 :: List.replicate m 0, Nat.zero_le _, rfl, hideI ⟨by simp, fun j hj => ?_, HO2.out, HB1.out.trans (HB2.out.mono (Nat.le_of_lt hsz))⟩, hideI (World.ownsRow.lt (by have h := HV.out; unfold Num at h; exact h) g6 rfl).2, HR6⟩
        rw [show j = 0 from by omega, ch_right]
        rfl
      case round =>
        obtain ⟨k, ys, hk, rfl, HRT, HG, HRD⟩ := hrel
        by_cases hlt : k < m
        · have hle : ((k : Int) + 1) ≤ (m : Int) := by omega
          have d1 := HRD.out (k + 1) (by omega)
          have d2 := HRD.out k (by omega)
          have hown := HRT.out.own
          have hyl := HRT.out.len
          have z1 : wr.frozen? ⟨w.heap.size, k + 1, none⟩ = false := World.ownsRow.frozenAt (by have h := hown; unfold Num at h; rw [hyl] at h; exact h) (k + 1)
          obtain ⟨y, hy⟩ : ∃ y, ys[k + 1]? = some y := ⟨_, List.getElem?_eq_getElem (by omega)⟩
          have z2 : wr.cell? ⟨w.heap.size, k + 1, none⟩ = some (.int .i64 y) := by
            obtain ⟨A, c, e, hr⟩ := hown.read
            injection e with e
            subst e
            obtain ⟨g, e, _, _, hc⟩ := hr (k + 1) y hy
            injection e with e
            injection e with e
            subst e
            exact hc
          clear hown hyl hy
          have hS0 : wr.cell? ⟨g6, k + 1, none⟩ = some (.int .i64 (wrp (ch n1 (k + 1)))) ∧ wr.cell? ⟨g6, k, none⟩ = some (.int .i64 (wrp (ch n1 k))) := ⟨d1, d2⟩
          clear d1 d2
          have hk0 : (0 : Int) ≤ (k : Int) + 1 := by omega
          have hk1 : (k : Int) < (m : Int) + 1 := by omega
          have hk2 : (k : Int) + 1 < (m : Int) + 1 := by omega
          have hwk : IntKind.i64.wrap (k : Int) = (k : Int) := IntWalk.i64_in _ (by omega)
          go_upto_region 10 with fail
          refine wp_region_late (by kernel_rfl) (fun V => V.cell? ⟨g6, k + 1, none⟩ = some (.int .i64 (wrp (ch n1 (k + 1)))) ∧ V.cell? ⟨g6, k, none⟩ = some (.int .i64 (wrp (ch n1 k)))) [13] ?_
          refine wpAnyT_quiet (i := 0) (v := ?_) rfl (by kernel_rfl) (by kernel_rfl) (by kernel_rfl) (fun _ _ _ h => h) (Or.inl ⟨by rfl, ?_⟩) ?_
          rotate_left
          · (intro w; go_simp; try with_reducible rfl)
          try simp only [Act.put, List.setIfInBounds_toArray, List.set_cons_zero, List.set_cons_succ]
          refine wpAnyT_quiet (i := 1) (v := ?_) rfl (by kernel_rfl) (by kernel_rfl) (by kernel_rfl) (fun _ _ _ h => h) (Or.inl ⟨by rfl, ?_⟩) ?_
          rotate_left
          · (intro w; go_simp; try with_reducible rfl)
          try simp only [Act.put, List.setIfInBounds_toArray, List.set_cons_zero, List.set_cons_succ]
          refine wpAnyT_quiet (i := 2) (v := ?_) rfl (by kernel_rfl) (by kernel_rfl) (by kernel_rfl) (fun _ _ _ h => h) (Or.inl ⟨by rfl, ?_⟩) ?_
          rotate_left
          · (intro w; go_simp; try with_reducible rfl)
          try simp only [Act.put, List.setIfInBounds_toArray, List.set_cons_zero, List.set_cons_succ]
          refine wpAnyT_quiet (i := 3) (v := ?_) rfl (by kernel_rfl) (by kernel_rfl) (by kernel_rfl) (fun _ _ _ h => h) (Or.inl ⟨by rfl, ?_⟩) ?_
          rotate_left
          · (intro w; go_simp; try with_reducible rfl)
          try simp only [Act.put, List.setIfInBounds_toArray, List.set_cons_zero, List.set_cons_succ]
          refine wpAnyT_quiet (i := 4) (v := ?_) rfl (by kernel_rfl) (by kernel_rfl) (by kernel_rfl) (fun _ _ _ h => h) (Or.inl ⟨by rfl, ?_⟩) ?_
          rotate_left
          · (intro w; go_simp; try with_reducible rfl)
          try simp only [Act.put, List.setIfInBounds_toArray, List.set_cons_zero, List.set_cons_succ]
          refine wpAnyT_take [13] (i := 5) (v := ?_) rfl (by kernel_rfl) (by kernel_rfl) (by kernel_rfl) (by kernel_rfl) (by kernel_rfl) (by kernel_rfl) (fun _ _ _ h => h) hS0 (Or.inl ⟨by rfl, ?_⟩) ?_
          rotate_left
          · (intro w hSw; go_split_ands; go_simp; try with_reducible rfl)
          try simp only [Act.put, List.setIfInBounds_toArray, List.set_cons_zero, List.set_cons_succ]
          refine wpAnyT_quiet (i := 6) (v := ?_) rfl (by kernel_rfl) (by kernel_rfl) (by kernel_rfl) (fun _ _ _ h => h) (Or.inl ⟨by rfl, ?_⟩) ?_
          rotate_left
          · (intro w; go_simp; try with_reducible rfl)
          try simp only [Act.put, List.setIfInBounds_toArray, List.set_cons_zero, List.set_cons_succ]
          refine wpAnyT_quiet (i := 7) (v := ?_) rfl (by kernel_rfl) (by kernel_rfl) (by kernel_rfl) (fun _ _ _ h => h) (Or.inl ⟨by rfl, ?_⟩) ?_
          rotate_left
          · (intro w; go_simp; try with_reducible rfl)
          try simp only [Act.put, List.setIfInBounds_toArray, List.set_cons_zero, List.set_cons_succ]
          refine wpAnyT_quiet (i := 8) (v := ?_) rfl (by kernel_rfl) (by kernel_rfl) (by kernel_rfl) (fun _ _ _ h => h) (Or.inl ⟨by rfl, ?_⟩) ?_
          rotate_left
          · (intro w; go_simp; try with_reducible rfl)
          try simp only [Act.put, List.setIfInBounds_toArray, List.set_cons_zero, List.set_cons_succ]
          refine wpAnyT_quiet (i := 9) (v := ?_) rfl (by kernel_rfl) (by kernel_rfl) (by kernel_rfl) (fun _ _ _ h => h) (Or.inl ⟨by rfl, ?_⟩) ?_
          rotate_left
          · (intro w; go_simp; try with_reducible rfl)
          try simp only [Act.put, List.setIfInBounds_toArray, List.set_cons_zero, List.set_cons_succ]
          refine wpAnyT_take [13] (i := 10) (v := ?_) rfl (by kernel_rfl) (by kernel_rfl) (by kernel_rfl) (by kernel_rfl) (by kernel_rfl) (by kernel_rfl) (fun _ _ _ h => h) hS0 (Or.inl ⟨by rfl, ?_⟩) ?_
          rotate_left
          · (intro w hSw; go_split_ands; go_simp; try with_reducible rfl)
          try simp only [Act.put, List.setIfInBounds_toArray, List.set_cons_zero, List.set_cons_succ]
          refine wpAnyT_quiet (i := 11) (v := ?_) rfl (by kernel_rfl) (by kernel_rfl) (by kernel_rfl) (fun _ _ _ h => h) (Or.inl ⟨by rfl, ?_⟩) ?_
          rotate_left
          · (intro w; go_simp; try with_reducible rfl)
          try simp only [Act.put, List.setIfInBounds_toArray, List.set_cons_zero, List.set_cons_succ]
          refine wpAnyT_quiet (i := 12) (v := ?_) rfl (by kernel_rfl) (by kernel_rfl) (by kernel_rfl) (fun _ _ _ h => h) (Or.inl ⟨by rfl, ?_⟩) ?_
          rotate_left
          · (intro w; go_simp; try with_reducible rfl)
          try simp only [Act.put, List.setIfInBounds_toArray, List.set_cons_zero, List.set_cons_succ]
          refine wpAnyT_ready (rs := [13]) (by kernel_rfl) (by simp) ?_
          refine AllReadyT.cons rfl (fun K hK => ?_) ?_
          · 
            go_simp
            refine hK.out _ _ (fun h => absurd (by simp) h) ?_
            clear hK K
            try simp only [Act.put, List.setIfInBounds_toArray, List.set_cons_zero, List.set_cons_succ]
            refine wpAnyT_done (by kernel_rfl) ?_ _
            go_wp2
            go_roundw
            case rel => exact ⟨k + 1, _, by omega, by go_num, hideI (HRT.out.put (Nat.le_refl _) (by omega) ((odd_wrap _).trans (odd_step n1 k))), hideI (Nat.lt_of_lt_of_le HG.out (by simp)), hideI (fun j hj => (HRT.out.far hg6 HG.out).trans (HRD.out j hj))⟩
            case measure => simp [intOf]; omega
          · exact AllReadyT.nil
        · have hkm : k = m := by omega
          subst hkm
          go_wp2
          go_ret
          exact ⟨_, rfl, HRT.out.row, HRT.out.below⟩
    · obtain ⟨a, rfl⟩ : ∃ a, n = 2 * a := ⟨n / 2, by omega⟩
      have hr3 : (((2 * a : Nat) : Int) % 2 == 1) = false := by rw [beq_eq_false_iff_ne]; omega
      have hr5 : ((2 * a : Nat) : Int) / 2 = (a : Int) := by omega
      have hr6 : Int.tdiv ((2 * a : Nat) : Int) 2 = (a : Int) := by rw [Int.tdiv_eq_ediv_of_nonneg (by omega)]; omega
      have hr7 : (Int.tmod ((2 * a : Nat) : Int) 2 == 1) = false := by rw [Int.tmod_eq_emod_of_nonneg (by omega)]; exact hr3
      obtain ⟨N, hN⟩ : ∃ N : Int, N = ((2 * a : Nat) : Int) := ⟨_, rfl⟩
      rw [← hN] at hr3 hr5 hr6 hr7 hnb ⊢
      have hN0 : 0 ≤ N := by omega
      have hN1 : N < 9223372036854775808 := by omega
      have HC := hideI (HIH.out a (by omega) (by omega) m W1 hm)
      clear hN
      go_upto_region 13 with (go_at_call 37; go_must (refine HC.out.mono ?_); rintro e w2 ⟨v6, rfl, hv, hb⟩; have HV := hideI hv; have HB2 := hideI hb; clear hv hb)
      obtain ⟨A6, c6, rfl, hr6⟩ := HV.out.read
      obtain ⟨g6, hg6, hb6, _, _⟩ := hr6 0 _ (rowW_at (Nat.zero_le m))
      subst hg6
      rw [rowW_len]
      have HR6 : Hid (∀ j, j ≤ m → w2.cell? ⟨g6, j, none⟩ = some (.int .i64 (wrp (ch a j)))) := hideI fun j hj => by
        obtain ⟨g, e, _, _, hc⟩ := hr6 j _ (rowW_at hj)
        injection e with e
        injection e with e
        subst e
        exact hc
      clear hr6
      have HO2 := hideI (HO1.out.kept HB2.out)
      have hg6 : w.heap.size ≠ g6 := by omega
      go_wp2
      go_loopw [9] (fun u wv => ∃ (k : Nat) (ys : List Int), k ≤ m + 1 ∧ u = .int .i64 k ∧ Hid (RowTo w wv w.heap.size w.heap.size m k (a + a) ys) ∧ Hid (g6 < wv.heap.size) ∧ Hid (∀ j, j ≤ m → wv.cell? ⟨g6, j, none⟩ = some (.int .i64 (wrp (ch a j))))) (fun u _ => m + 1 - (intOf u).toNat)
      case atStart =>
        exact ⟨0, 1 :: List.replicate m 0, Nat.zero_le _, rfl, hideI ⟨by simp, fun j hj => by omega, HO2.out, HB1.out.trans (HB2.out.mono (Nat.le_of_lt hsz))⟩, hideI (World.ownsRow.lt (by have h := HV.out; unfold Num at h; exact h) g6 rfl).2, HR6⟩
      case round =>
        obtain ⟨k, ys, hk, rfl, HRT, HG, HRD⟩ := hrel
        by_cases hlt : k ≤ m
        · have hle : (k : Int) ≤ (m : Int) := by omega
          have hk2 : (k : Int) < (m : Int) + 1 := by omega
          have z1 := HRT.out.open_ (j := k)
          obtain ⟨y, hy⟩ : ∃ y, ys[k]? = some y := ⟨_, List.getElem?_eq_getElem (by rw [HRT.out.len]; omega)⟩
          have z2 := HRT.out.cell hy
          clear hy
          have hy5 : k < ys.length := by rw [HRT.out.len]; omega
          go_upto_region 17 with fail
          obtain ⟨w3, hw3⟩ : ∃ w3, w3 = wr.setCell ⟨w.heap.size, k, none⟩ (.int .i64 0) := ⟨_, rfl⟩
          have HR3 : Hid (RowTo w w3 w.heap.size w.heap.size m k (a + a) (ys.set k 0)) := hideI (by rw [hw3]; exact HRT.out.same (Nat.le_refl _))
          have HG3 : Hid (g6 < w3.heap.size) := hideI (by rw [hw3]; exact Nat.lt_of_lt_of_le HG.out (by simp))
          have HD3 : Hid (∀ j, j ≤ m → w3.cell? ⟨g6, j, none⟩ = some (.int .i64 (wrp (ch a j)))) := hideI fun j hj => by
            rw [hw3]
            exact (HRT.out.far (i := k) (u := .int .i64 0) hg6 HG.out).trans (HRD.out j hj)
          have HY3 : Hid ((ys.set k 0)[k]? = some (wrp (pc a k 0))) := hideI (by rw [List.getElem?_set_self hy5]; rfl)
          rw [← hw3]
          clear hw3 z1 z2 HRT HG HRD
          obtain ⟨zs0, hzs⟩ : ∃ zs, zs = ys.set k 0 := ⟨_, rfl⟩
          rw [← hzs] at HR3 HY3
          clear hzs
          go_wp2
          go_loopw [10] (fun u wv => ∃ (i : Nat) (zs : List Int), i ≤ k + 1 ∧ u = .int .i64 i ∧ Hid (RowTo w wv w.heap.size w.heap.size m k (a + a) zs) ∧ Hid (zs[k]? = some (wrp (pc a k i))) ∧ Hid (g6 < wv.heap.size) ∧ Hid (∀ j, j ≤ m → wv.cell? ⟨g6, j, none⟩ = some (.int .i64 (wrp (ch a j))))) (fun u _ => k + 1 - (intOf u).toNat)
          case atStart => exact ⟨0, zs0, Nat.zero_le _, rfl, HR3, HY3, HG3, HD3⟩
          case round =>
            obtain ⟨i, zs, hi, rfl, HRT, HY, HG, HRD⟩ := hrel
            by_cases hik : i ≤ k
            · obtain ⟨j, hj⟩ : ∃ j, j = k - i := ⟨_, rfl⟩
              have hile : (i : Int) ≤ (k : Int) := by omega
              have hsub : (k : Int) - (i : Int) = (j : Int) := by omega
              have hjm : (j : Int) < (m : Int) + 1 := by omega
              have him : (i : Int) < (m : Int) + 1 := by omega
              have hwj : IntKind.i64.wrap (j : Int) = (j : Int) := IntWalk.i64_in _ (by omega)
              have hS0 : wr.cell? ⟨w.heap.size, k, none⟩ = some (.int .i64 (wrp (pc a k i))) ∧ wr.cell? ⟨g6, i, none⟩ = some (.int .i64 (wrp (ch a i))) ∧ wr.cell? ⟨g6, j, none⟩ = some (.int .i64 (wrp (ch a j))) := ⟨HRT.out.cell HY.out, HRD.out i (by omega), HRD.out j (by omega)⟩
              have z1 := HRT.out.open_ (j := k)
              have z2 := HRT.out.cell HY.out
              have HJ := hideI hj
              clear hj
              go_upto_region 20 with fail
              refine wp_region_late (by kernel_rfl) (fun V => V.cell? ⟨w.heap.size, k, none⟩ = some (.int .i64 (wrp (pc a k i))) ∧ V.cell? ⟨g6, i, none⟩ = some (.int .i64 (wrp (ch a i))) ∧ V.cell? ⟨g6, j, none⟩ = some (.int .i64 (wrp (ch a j)))) [17] ?_
              refine wpAnyT_quiet (i := 0) (v := ?_) rfl (by kernel_rfl) (by kernel_rfl) (by kernel_rfl) (fun _ _ _ h => h) (Or.inl ⟨by rfl, ?_⟩) ?_
              rotate_left
              · (intro w; go_simp; try with_reducible rfl)
              try simp only [Act.put, List.setIfInBounds_toArray, List.set_cons_zero, List.set_cons_succ]
              refine wpAnyT_quiet (i := 1) (v := ?_) rfl (by kernel_rfl) (by kernel_rfl) (by kernel_rfl) (fun _ _ _ h => h) (Or.inl ⟨by rfl, ?_⟩) ?_
              rotate_left
              · (intro w; go_simp; try with_reducible rfl)
              try simp only [Act.put, List.setIfInBounds_toArray, List.set_cons_zero, List.set_cons_succ]
              refine wpAnyT_quiet (i := 2) (v := ?_) rfl (by kernel_rfl) (by kernel_rfl) (by kernel_rfl) (fun _ _ _ h => h) (Or.inl ⟨by rfl, ?_⟩) ?_
              rotate_left
              · (intro w; go_simp; try with_reducible rfl)
              try simp only [Act.put, List.setIfInBounds_toArray, List.set_cons_zero, List.set_cons_succ]
              refine wpAnyT_take [17] (i := 3) (v := ?_) rfl (by kernel_rfl) (by kernel_rfl) (by kernel_rfl) (by kernel_rfl) (by kernel_rfl) (by kernel_rfl) (fun _ _ _ h => h) hS0 (Or.inl ⟨by rfl, ?_⟩) ?_
              rotate_left
              · (intro w hSw; go_split_ands; go_simp; try with_reducible rfl)
              try simp only [Act.put, List.setIfInBounds_toArray, List.set_cons_zero, List.set_cons_succ]
              refine wpAnyT_quiet (i := 4) (v := ?_) rfl (by kernel_rfl) (by kernel_rfl) (by kernel_rfl) (fun _ _ _ h => h) (Or.inl ⟨by rfl, ?_⟩) ?_
              rotate_left
              · (intro w; go_simp; try with_reducible rfl)
              try simp only [Act.put, List.setIfInBounds_toArray, List.set_cons_zero, List.set_cons_succ]
              refine wpAnyT_quiet (i := 5) (v := ?_) rfl (by kernel_rfl) (by kernel_rfl) (by kernel_rfl) (fun _ _ _ h => h) (Or.inl ⟨by rfl, ?_⟩) ?_
              rotate_left
              · (intro w; go_simp; try with_reducible rfl)
              try simp only [Act.put, List.setIfInBounds_toArray, List.set_cons_zero, List.set_cons_succ]
              refine wpAnyT_quiet (i := 6) (v := ?_) rfl (by kernel_rfl) (by kernel_rfl) (by kernel_rfl) (fun _ _ _ h => h) (Or.inl ⟨by rfl, ?_⟩) ?_
              rotate_left
              · (intro w; go_simp; try with_reducible rfl)
              try simp only [Act.put, List.setIfInBounds_toArray, List.set_cons_zero, List.set_cons_succ]
              refine wpAnyT_take [17] (i := 7) (v := ?_) rfl (by kernel_rfl) (by kernel_rfl) (by kernel_rfl) (by kernel_rfl) (by kernel_rfl) (by kernel_rfl) (fun _ _ _ h => h) hS0 (Or.inl ⟨by rfl, ?_⟩) ?_
              rotate_left
              · (intro w hSw; go_split_ands; go_simp; try with_reducible rfl)
              try simp only [Act.put, List.setIfInBounds_toArray, List.set_cons_zero, List.set_cons_succ]
              refine wpAnyT_quiet (i := 8) (v := ?_) rfl (by kernel_rfl) (by kernel_rfl) (by kernel_rfl) (fun _ _ _ h => h) (Or.inl ⟨by rfl, ?_⟩) ?_
              rotate_left
              · (intro w; go_simp; try with_reducible rfl)
              try simp only [Act.put, List.setIfInBounds_toArray, List.set_cons_zero, List.set_cons_succ]
              refine wpAnyT_quiet (i := 9) (v := ?_) rfl (by kernel_rfl) (by kernel_rfl) (by kernel_rfl) (fun _ _ _ h => h) (Or.inl ⟨by rfl, ?_⟩) ?_
              rotate_left
              · (intro w; go_simp; try with_reducible rfl)
              try simp only [Act.put, List.setIfInBounds_toArray, List.set_cons_zero, List.set_cons_succ]
              refine wpAnyT_quiet (i := 10) (v := ?_) rfl (by kernel_rfl) (by kernel_rfl) (by kernel_rfl) (fun _ _ _ h => h) (Or.inl ⟨by rfl, ?_⟩) ?_
              rotate_left
              · (intro w; go_simp; try with_reducible rfl)
              try simp only [Act.put, List.setIfInBounds_toArray, List.set_cons_zero, List.set_cons_succ]
              refine wpAnyT_quiet (i := 11) (v := ?_) rfl (by kernel_rfl) (by kernel_rfl) (by kernel_rfl) (fun _ _ _ h => h) (Or.inl ⟨by rfl, ?_⟩) ?_
              rotate_left
              · (intro w; go_simp; try with_reducible rfl)
              try simp only [Act.put, List.setIfInBounds_toArray, List.set_cons_zero, List.set_cons_succ]
              refine wpAnyT_quiet (i := 12) (v := ?_) rfl (by kernel_rfl) (by kernel_rfl) (by kernel_rfl) (fun _ _ _ h => h) (Or.inl ⟨by rfl, ?_⟩) ?_
              rotate_left
              · (intro w; go_simp; try with_reducible rfl)
              try simp only [Act.put, List.setIfInBounds_toArray, List.set_cons_zero, List.set_cons_succ]
              refine wpAnyT_take [17] (i := 13) (v := ?_) rfl (by kernel_rfl) (by kernel_rfl) (by kernel_rfl) (by kernel_rfl) (by kernel_rfl) (by kernel_rfl) (fun _ _ _ h => h) hS0 (Or.inl ⟨by rfl, ?_⟩) ?_
              rotate_left
              · (intro w hSw; go_split_ands; go_simp; try with_reducible rfl)
              try simp only [Act.put, List.setIfInBounds_toArray, List.set_cons_zero, List.set_cons_succ]
              refine wpAnyT_quiet (i := 14) (v := ?_) rfl (by kernel_rfl) (by kernel_rfl) (by kernel_rfl) (fun _ _ _ h => h) (Or.inl ⟨by rfl, ?_⟩) ?_
              rotate_left
              · (intro w; go_simp; try with_reducible rfl)
              try simp only [Act.put, List.setIfInBounds_toArray, List.set_cons_zero, List.set_cons_succ]
              refine wpAnyT_quiet (i := 15) (v := ?_) rfl (by kernel_rfl) (by kernel_rfl) (by kernel_rfl) (fun _ _ _ h => h) (Or.inl ⟨by rfl, ?_⟩) ?_
              rotate_left
              · (intro w; go_simp; try with_reducible rfl)
              try simp only [Act.put, List.setIfInBounds_toArray, List.set_cons_zero, List.set_cons_succ]
              refine wpAnyT_quiet (i := 16) (v := ?_) rfl (by kernel_rfl) (by kernel_rfl) (by kernel_rfl) (fun _ _ _ h => h) (Or.inl ⟨by rfl, ?_⟩) ?_
              rotate_left
              · (intro w; go_simp; try with_reducible rfl)
              try simp only [Act.put, List.setIfInBounds_toArray, List.set_cons_zero, List.set_cons_succ]
              refine wpAnyT_ready (rs := [17]) (by kernel_rfl) (by simp) ?_
              refine AllReadyT.cons rfl (fun K hK => ?_) ?_
              · 
                go_simp
                refine hK.out _ _ (fun h => absurd (by simp) h) ?_
                clear hK K
                try simp only [Act.put, List.setIfInBounds_toArray, List.set_cons_zero, List.set_cons_succ]
                refine wpAnyT_done (by kernel_rfl) ?_ _
                go_wp2
                go_roundw
                case rel =>
                  refine ⟨i + 1, _, by omega, by go_num, hideI (HRT.out.same (Nat.le_refl _)).drew, hideI ?_, hideI (Nat.lt_of_lt_of_le HG.out (by simp)), hideI (fun j' hj' => (HRT.out.far hg6 HG.out).trans (HRD.out j' hj'))⟩
                  rw [List.getElem?_set_self (by rw [HRT.out.len]; omega), HJ.out]
                  simp only [odd_wrap]
                  rw [even_step]
                case measure => simp [intOf]; omega
              · exact AllReadyT.nil
            · have hie : i = k + 1 := by omega
              subst hie
              have hE : wrp (pc a k (k + 1)) = wrp (ch (a + a) k) := by rw [pc_all]
              have HY2 : Hid (zs[k]? = some (wrp (ch (a + a) k))) := hideI (by rw [← hE]; exact HY.out)
              clear hE HY
              go_wp2
              go_roundw
              case rel => exact ⟨k + 1, zs, by omega, by go_num, hideI (HRT.out.next HY2.out), HG, HRD⟩
              case measure => simp [intOf]; omega
        · have hkm : k = m + 1 := by omega
          subst hkm
          have HRR := hideI HRT.out.row
          rw [show a + a = 2 * a from by omega] at HRR
          have HBB := hideI HRT.out.below
          clear HRT
          go_wp2
          go_ret
          exact ⟨_, rfl, HRR.out, HBB.out⟩
end Go.Proofs.YtfifbgpiekpepaaDoor.Chn
