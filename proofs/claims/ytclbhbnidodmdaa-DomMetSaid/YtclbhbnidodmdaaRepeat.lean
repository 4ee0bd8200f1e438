/- slices.Repeat of one number: so many of it. -/
import Derived.Test.YtclbhbnidodmdaaGReach
import Derived.Shelf.Bits.Mul64
import Derived.Laws.CopyOwn
import Derived.BigQuiet
import Derived.IntWalk
namespace Go.Proofs.Ytclbhbnidodmdaa
open Go.RowKit Go.Maps Go.Lib

set_option maxHeartbeats 1000000 in
theorem mul64_any (x y : Nat) (hx : x < 18446744073709551616) (hy : y < 18446744073709551616) (w : World) :
    Calls Try.prog 100 #[.int .u64 x, .int .u64 y] w fun e w' => e = .returned (.tuple #[.int .u64 ((x * y / 18446744073709551616 : Nat) : Int), .int .u64 ((x * y % 18446744073709551616 : Nat) : Int)]) ∧ w' = w := by
  obtain ⟨bd, bt, bw, hhi⟩ := Lib.mul64_hi x y hx hy
  have ba := Lib.half_mul_le (a := x / 4294967296) (b := y / 4294967296) (by omega) (by omega)
  have bb := Lib.half_mul_le (a := x / 4294967296) (b := y % 4294967296) (by omega) (by omega)
  have bc := Lib.half_mul_le (a := x % 4294967296) (b := y / 4294967296) (by omega) (by omega)
  have ba' : x / 4294967296 * (y / 4294967296) < 18446744073709551616 := by omega
  have bb' : x / 4294967296 * (y % 4294967296) < 18446744073709551616 := by omega
  have bc' : x % 4294967296 * (y / 4294967296) < 18446744073709551616 := by omega
  have bh1 : x / 4294967296 * (y / 4294967296) + (x / 4294967296 * (y % 4294967296) + x % 4294967296 * (y % 4294967296) / 4294967296) / 4294967296 < 18446744073709551616 := by omega
  have bh : x / 4294967296 * (y / 4294967296) + (x / 4294967296 * (y % 4294967296) + x % 4294967296 * (y % 4294967296) / 4294967296) / 4294967296 + ((x / 4294967296 * (y % 4294967296) + x % 4294967296 * (y % 4294967296) / 4294967296) % 4294967296 + x % 4294967296 * (y / 4294967296)) / 4294967296 < 18446744073709551616 := by omega
  go_enter Try.func100, Try.ntmps100
  go_wp2
  simp only [Mul64.maskN x hx, Mul64.maskN y hy, Mul64.divN, Mul64.mulN, Mul64.addN, Mul64.wrapN _ bd, Mul64.wrapN _ bb', Mul64.wrapN _ bt, Mul64.maskN _ bt, Mul64.wrapN _ bc', Mul64.wrapN _ bw, Mul64.wrapN _ ba', Mul64.wrapN _ bh1, Mul64.wrapN _ bh, Mul64.wrapM (x * y)]
  rw [hhi]
  go_ret2
  exact ⟨rfl, rfl⟩

set_option maxHeartbeats 1000000 in
theorem mul_any (x y : Nat) (hx : x < 18446744073709551616) (hy : y < 18446744073709551616) (w : World) :
    Calls Try.prog 92 #[.int .u64 x, .int .u64 y] w fun e w' => e = .returned (.tuple #[.int .u64 ((x * y / 18446744073709551616 : Nat) : Int), .int .u64 ((x * y % 18446744073709551616 : Nat) : Int)]) ∧ w' = w := by
  go_enter Try.func92, Try.ntmps92
  go_wp2_with (go_at_call 100; go_must (refine (mul64_any x y hx hy _).mono ?_); rintro e w' ⟨rfl, hw⟩; rw [hw])
  go_ret2
  exact ⟨rfl, rfl⟩

/-- once so many: what the program asks bits.Mul -/
theorem mul_one_any (n : Nat) (hn : n ≤ 100000) (w : World) :
    Calls Try.prog 92 #[.int .u64 1, .int .u64 n] w fun e w' => e = .returned (.tuple #[.int .u64 0, .int .u64 (n : Int)]) ∧ w = w' := by
  refine (mul_any 1 n (by omega) (by omega) w).mono ?_
  rintro e w' ⟨rfl, rfl⟩
  rw [Nat.one_mul, Nat.div_eq_of_lt (by omega), Nat.mod_eq_of_lt (by omega)]
  exact ⟨rfl, rfl⟩

theorem int_size1 : (Try.prog.info? 3).map (·.size) = some 1 := by kernel_rfl

/-- k of v, and zeros behind -/
def fillR (v : Int) (n k : Nat) : List Value := List.replicate k (.int .i64 v) ++ List.replicate (n - k) (.int .i64 0)

theorem fillR_zero (v : Int) (n : Nat) : fillR v n 0 = List.replicate n (.int .i64 0) := by simp [fillR]
theorem fillR_len {v : Int} {n k : Nat} (h : k ≤ n) : (fillR v n k).length = n := by simp [fillR]; omega
theorem fillR_splice {v : Int} {n k m : Nat} (h : k + m ≤ n) : splice (fillR v n k) k (List.replicate m (.int .i64 v)) = fillR v n (k + m) := by
  unfold splice fillR
  rw [List.take_left' (by simp), List.drop_append, List.length_replicate, List.length_replicate]
  rw [List.drop_eq_nil_of_le (by simp), List.nil_append, show k + m - k = m by omega, List.drop_replicate, ← List.append_assoc, List.replicate_append_replicate]
  congr 1
  rw [show n - k - m = n - (k + m) by omega]
theorem fillR_at {v : Int} {n k j : Nat} (h : j < k) : (fillR v n k)[j]? = some (.int .i64 v) := by
  unfold fillR
  rw [List.getElem?_append_left (by simpa using h), List.getElem?_replicate, if_pos h]
theorem fillR_full (v : Int) (n : Nat) : fillR v n n = List.replicate n (.int .i64 v) := by simp [fillR]

theorem cell_of_list {w : World} {g j : Nat} {l : List Value} {t : TypeId} {u : Value} (h : w.heap[g]? = some (.cells l.toArray t (0, 0))) (hu : l[j]? = some u) : w.cell? ⟨g, j, none⟩ = some u := by
  rw [cell_of_row w g j l.toArray t (0, 0) h]
  simpa using hu

theorem made_row {v : Int} {n base g : Nat} {w : World} {R0 : List Value} (hR : R0 = fillR v n 0) (h : w.ownsRow base 3 1 (.slice (some ⟨g, 0, none⟩) n n) n (madeCells (Value.int .i64 0).cells (n * 1)).toList) : w.heap[g]? = some (.cells R0.toArray 3 (0, 0)) := by
  rw [show (Value.int .i64 0).cells = #[Value.int .i64 0] from rfl, toList_madeCells_one, Nat.mul_one] at h
  rcases h.2 with ⟨h1, _⟩ | ⟨g1, cap, cur, e, _, h1, _, _, h4, h5⟩
  · cases h1
  · cases e
    rw [h1]
    have : cur = R0.toArray := by
      apply Array.toList_inj.1
      rw [hR, fillR_zero]
      rw [← h5, List.take_of_length_le (by simp [h4])]
    rw [this]

theorem one_src {v : Int} {w : World} {g0 : Nat} {C1 : List Value} (h : C1 = List.replicate 1 (.int .i64 v)) (hc : w.cell? ⟨g0, 0, none⟩ = some (.int .i64 v)) {j : Nat} {u : Value} (hu : C1[j]? = some u) : w.cell? ((⟨g0, 0, none⟩ : Addr).add j) = some u := by
  subst h
  rcases j with _ | j
  · simp at hu
    subst hu
    exact hc
  · simp at hu

theorem fill_src {v : Int} {w : World} {g n k m : Nat} {C R : List Value} (hC : C = List.replicate m (.int .i64 v)) (hR : R = fillR v n k) (hm : m ≤ k) (hg : w.heap[g]? = some (.cells R.toArray 3 (0, 0))) {j : Nat} {u : Value} (hu : C[j]? = some u) : w.cell? ((⟨g, 0, none⟩ : Addr).add j) = some u := by
  subst hC hR
  rw [List.getElem?_replicate] at hu
  split at hu
  · rename_i hj
    cases hu
    have := cell_of_list hg (fillR_at (v := v) (n := n) (k := k) (j := j) (by omega))
    by_cases h0 : j = 0
    · subst h0
      simpa [Addr.add] using this
    · simpa [Addr.add, h0] using this
  · cases hu

theorem rep_cells {v : Int} {m : Nat} {C : List Value} (hC : C = List.replicate m (.int .i64 v)) : ∀ u ∈ C, u.oneCell' = true := by
  intro u hu
  subst hC
  rw [List.mem_replicate] at hu
  rw [hu.2]
  rfl

theorem own_of_row {v : Int} {n base g : Nat} {w : World} {R : List Value} (hR : R = fillR v n n) (hg : w.heap[g]? = some (.cells R.toArray 3 (0, 0))) (hb : base ≤ g) (hn : n ≤ 100000) : w.ownsRow base 3 1 (.slice (some ⟨g, 0, none⟩) n n) n (List.replicate n (.int .i64 v)) := by
  rw [fillR_full] at hR
  subst hR
  exact ⟨by simp, .inr ⟨g, n, _, rfl, hb, hg, Nat.le_refl _, by unfold maxLen; omega, by simp, by simp⟩⟩

theorem drew1_below {B : Nat} {w w' : World} (h : Below B w w') : Below B w w'.drew := ⟨h.os, h.tape, h.output, h.size, h.block⟩

def RepPost (v : Int) (n : Nat) (w : World) (e : Ending) (w' : World) : Prop :=
  ∃ g : Nat, e = .returned (.slice (some ⟨g, 0, none⟩) n n) ∧ w'.ownsRow w.heap.size 3 1 (.slice (some ⟨g, 0, none⟩) n n) n (List.replicate n (.int .i64 v)) ∧ Below w.heap.size w w'

set_option maxRecDepth 100000 in
set_option maxHeartbeats 600000 in
theorem repeat_any (v : Int) (n g0 : Nat) (w : World) (h0 : 0 < n) (hn : n ≤ 100000) (hc : w.cell? ⟨g0, 0, none⟩ = some (.int .i64 v)) (hg0 : g0 < w.heap.size) :
    Calls Try.prog 83 #[.slice (some ⟨g0, 0, none⟩) 1 1, .int .i64 n] w (RepPost v n w) := by
  obtain ⟨i0, hix, hz0, hz1, hz2⟩ := info_parts int_info
  obtain ⟨C1, hC1⟩ : ∃ C1 : List Value, C1 = List.replicate 1 (.int .i64 v) := ⟨_, rfl⟩
  obtain ⟨R0, hR0⟩ : ∃ R0 : List Value, R0 = fillR v n 0 := ⟨_, rfl⟩
  have HC1 := hideI hC1
  have HR0 := hideI hR0
  have hl1 : C1.length = 1 := by rw [hC1]; simp
  have hl0 : R0.length = n := by rw [hR0]; exact fillR_len (Nat.zero_le _)
  have HL1 := hideI hl1
  have HL0 := hideI hl0
  have HC : Hid (w.cell? ⟨g0, 0, none⟩ = some (.int .i64 v)) := hc
  clear hC1 hR0 hl1 hl0 hc
  go_enter Try.func83, Try.ntmps83
  go_wp2_with (first
    | (go_at_call 92; go_must (refine (mul_one_any n hn _).mono ?_); rintro e w1 ⟨rfl, rfl⟩)
    | (at_make; go_must (refine wpList_make_full _ rfl _ _ 22 rfl w.heap.size 3 i0 (.int .i64 0) 1 Try.underlying22 hix hz0 hz1 .i64 .i64 _ _ n rfl rfl rfl rfl (by rw [hz2]; omega) (by unfold maxLen; omega) (Nat.le_refl _) ?_); intro w1 hown1 hg1; go_must (have HG : Hid (w1.heap[w.heap.size]? = some (.cells R0.toArray 3 (0, 0))) := made_row HR0.out hown1; have HB1 : Hid (Below w.heap.size w w1) := hideI ((Below.refl _ _).grown hg1 (Nat.le_refl _) (by simp)); have HCC : Hid (w1.cell? ⟨g0, 0, none⟩ = some (.int .i64 v)) := hideI ((HB1.out.cell (p := ⟨g0, 0, none⟩) hg0).trans HC.out); clear hown1 hg1))
    | (with_reducible refine wpList_copy_splice rfl _ _ _ _ rfl 3 Try.underlying22 int_size1 _ _ _ _ _ _ rfl rfl w.heap.size 0 R0 3 HG.out C1 (by rw [HL1.out]; exact (Nat.min_eq_left h0).symm) (fun _ => ⟨rfl, _, rfl, fun j u hu => one_src HC1.out HCC.out hu⟩) (by rw [HL1.out, HL0.out]; omega) (rep_cells HC1.out) w.heap.size w HB1.out (Nat.le_refl _) ?_; intro w2 HG2 hB2; have HB2 := hideI hB2; rw [HL1.out]; clear hB2))
  obtain ⟨R1, hR1⟩ : ∃ R1, R1 = splice R0 0 C1 := ⟨_, rfl⟩
  rw [← hR1] at HG2
  have HR1 : Hid (R1 = fillR v n 1) := by
    show _ = _
    rw [hR1, HR0.out, HC1.out]
    exact fillR_splice (by omega)
  clear hR1
  go_loopw [8] (fun u wr => ∃ (k : Nat) (R : List Value), 1 ≤ k ∧ k ≤ n ∧ u = .int .i64 k ∧ Hid (R = fillR v n k) ∧ Hid (wr.heap[w.heap.size]? = some (.cells R.toArray 3 (0, 0))) ∧ Hid (Below w.heap.size w wr)) (fun u _ => n - (intOf u).toNat)
  case atStart => exact ⟨1, R1, Nat.le_refl _, by omega, rfl, HR1, HG2, HB2⟩
  case round =>
    obtain ⟨k, R, hk1, hk, rfl, HR, HGr, HBr⟩ := hrel
    by_cases hlt : k < n
    · obtain ⟨m, hm⟩ : ∃ m, m = min k (n - k) := ⟨_, rfl⟩
      obtain ⟨C, hC⟩ : ∃ C : List Value, C = List.replicate m (.int .i64 v) := ⟨_, rfl⟩
      have hm1 : m ≤ k := by omega
      have hm2 : k + m ≤ n := by omega
      have hm3 : 1 ≤ m := by omega
      have HM := hideI hm
      have HC2 := hideI hC
      have HLC : Hid (C.length = m) := by show _ = _; rw [hC]; simp
      have HLR : Hid (R.length = n) := by show _ = _; rw [HR.out]; exact fillR_len hk
      clear hm hC
      have hkn : ¬ n = k := by omega
      have hlc : C.length ≤ 100000 := by rw [HLC.out]; omega
      have hsum : IntKind.i64.wrap ((k : Int) + (C.length : Int)) = (k : Int) + (C.length : Int) := IntWalk.i64_in _ (by omega)
      go_wp2
      go_region_law (refine step_copy_splice rfl (.tmp 41) (.tmp 44) 22 22 rfl 3 Try.underlying22 int_size1 (some ⟨w.heap.size, k, none⟩) (some ⟨w.heap.size, 0, none⟩) (n - k) (n - k) k n (by simp [Act.eval, Act.put, hkn]) (by simp [Act.eval, Act.put]) w.heap.size k R 3 HGr.out C (by rw [HLC.out, HM.out]) (fun _ => ⟨rfl, _, rfl, fun j u hu => fill_src HC2.out HR.out hm1 HGr.out hu⟩) (by rw [HLC.out, HLR.out]; exact hm2) (rep_cells HC2.out) w.heap.size w (drew1_below HBr.out) (Nat.le_refl _) ?_; intro w3 HG3 hB3; have HB3 := hideI hB3; clear hB3)
      obtain ⟨R3, hR3⟩ : ∃ R3, R3 = splice R k C := ⟨_, rfl⟩
      rw [← hR3] at HG3
      have HR3 : Hid (R3 = fillR v n (k + m)) := by
        show _ = _
        rw [hR3, HR.out, HC2.out]
        exact fillR_splice hm2
      clear hR3 hsum
      simp only [List.getElem_toArray, List.getElem_cons_zero, List.getElem_cons_succ, Act.put, List.setIfInBounds_toArray, List.set_cons_zero, List.set_cons_succ]
      go_wp2
      go_roundw
      case rel => exact ⟨k + m, R3, by omega, hm2, by rw [HLC.out]; go_num, HR3, HG3, HB3⟩
      case measure => simp [intOf]; rw [HLC.out]; omega
    · have hkn : k = n := by omega
      have HKN := hideI hkn
      clear hkn
      go_wp2
      go_ret
      exact ⟨w.heap.size, rfl, own_of_row (by rw [HR.out, HKN.out]) HGr.out (Nat.le_refl _) hn, HBr.out⟩

end Go.Proofs.Ytclbhbnidodmdaa
