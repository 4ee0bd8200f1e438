/- Div64: two numbers of 64 bits by one that is greater than the first of them. -/
import Derived.Test.YtidebjcnmabggaaDoorMoLen
import Derived.Test.YtidebjcnmabggaaDoorMoDivM
import Derived.Test.YtidebjcnmabggaaDoorChTab
import Derived.Deep.QuietTactic
import Derived.BigQuiet
import Derived.Deep.RegionHeldLaw
import Derived.Deep.Cut
import Derived.Deep.CutRange
import Derived.Deep.CutBlock
import Derived.Laws.Rows
import Derived.Laws.BitsLemmas
namespace Go.Proofs.YtidebjcnmabggaaDoor.Mo
open Go.RowKit

theorem bitLen_bounds (x : Nat) (h0 : 0 < x) (h : x < 18446744073709551616) : 0 < Lib.bitLen x ∧ Lib.bitLen x ≤ 64 ∧ 2 ^ (Lib.bitLen x - 1) ≤ x ∧ x < 2 ^ Lib.bitLen x := by
  have key : ∀ f x, 0 < x → x < 2 ^ f → 0 < Lib.bitLenAux f x ∧ Lib.bitLenAux f x ≤ f ∧ 2 ^ (Lib.bitLenAux f x - 1) ≤ x ∧ x < 2 ^ Lib.bitLenAux f x := by
    intro f
    induction f with
    | zero => intro x h0 h; simp at h; omega
    | succ f ih =>
      intro x h0 h
      rw [Lib.bitLenAux, if_neg (by omega)]
      rcases Nat.eq_zero_or_pos (x / 2) with h1 | h1
      · have hz : Lib.bitLenAux f (x / 2) = 0 := by
          rw [h1]; cases f <;> simp [Lib.bitLenAux]
        rw [hz]
        have : x = 1 := by omega
        subst this
        simp
      · obtain ⟨a, b, c, d⟩ := ih (x / 2) h1 (by rw [Nat.pow_succ] at h; omega)
        obtain ⟨k, hk⟩ : ∃ k, Lib.bitLenAux f (x / 2) = k + 1 := ⟨Lib.bitLenAux f (x / 2) - 1, by omega⟩
        rw [hk] at b c d ⊢
        rw [show 1 + (k + 1) = k + 2 by omega, show k + 2 - 1 = k + 1 by omega, Nat.pow_succ, Nat.pow_succ]
        rw [Nat.add_sub_cancel] at c
        rw [Nat.pow_succ] at d
        omega
  exact key 64 x h0 h

set_option maxRecDepth 100000 in
theorem div_easy (lo y : Nat) (hy0 : 0 < y) (hy : y < 18446744073709551616) (hlo : lo < 18446744073709551616) (w : World) :
    Calls Tryd.prog 32 #[.int .u64 0, .int .u64 (lo : Int), .int .u64 (y : Int)] w fun e w' => (∃ z : Value, e = .returned (.tuple #[.int .u64 ((lo / y : Nat) : Int), z])) ∧ Below w.heap.size w w' := by
  have b1 : ¬ ((y : Int) = 0) := by omega
  have b2 : ¬ ((y : Int) ≤ 0) := by omega
  have e1 : IntKind.u64.wrap ((lo : Int) / (y : Int)) = ((lo / y : Nat) : Int) := by
    have h1 : lo / y ≤ lo := Nat.div_le_self _ _
    rw [← Int.natCast_ediv, IntKind.wrap_u64]
    obtain ⟨z, hz⟩ : ∃ z, z = lo / y := ⟨_, rfl⟩
    rw [← hz] at h1 ⊢
    omega
  obtain ⟨Q, hQ⟩ : ∃ Q, Q = lo / y := ⟨_, rfl⟩
  rw [← hQ] at e1 ⊢
  have b3 : ((y : Int) == 0) = false := by simpa using b1
  clear hQ hy0 hlo
  go_enter Tryd.func32, Tryd.ntmps32
  go_wp2_with fail
  go_region
  all_goals go_wp2
  refine bodyPost_ret (results_tmp2 rfl _ _ _) (by rfl) ?_
  exact ⟨⟨_, rfl⟩, (Below.refl _ w).drew⟩

/-- what the shifted numbers are -/
structure Up (hi lo y s v v1 v0 u d d1 d0 : Nat) : Prop where
  ev : IntKind.u64.wrap ((y : Int) * 2 ^ s) = (v : Int)
  ev1 : (v : Int) / 4294967296 = (v1 : Int)
  ev0 : bits BinOp.and IntKind.u64 (v : Int) 4294967295 = (v0 : Int)
  eu : bits BinOp.or IntKind.u64 (IntKind.u64.wrap ((hi : Int) * 2 ^ s)) ((lo : Int) / 2 ^ (64 - s)) = (u : Int)
  ed : IntKind.u64.wrap ((lo : Int) * 2 ^ s) = (d : Int)
  ed1 : (d : Int) / 4294967296 = (d1 : Int)
  ed0 : bits BinOp.and IntKind.u64 (d : Int) 4294967295 = (d0 : Int)
  hs : s ≤ 64
  hv : v = v1 * 4294967296 + v0
  hv0 : v0 < 4294967296
  hv1 : 2147483648 ≤ v1 ∧ v1 < 4294967296
  hu : u < v
  hd1 : d1 < 4294967296
  hd0 : d0 < 4294967296
  all : (u * 18446744073709551616 + (d1 * 4294967296 + d0)) / v = (hi * 18446744073709551616 + lo) / y

theorem guess_int {u v1 : Nat} (hu : u < 18446744073709551616) (h1 : 0 < v1) : IntKind.u64.wrap ((u : Int) / (v1 : Int)) = ((u / v1 : Nat) : Int) := by
  rw [← Int.natCast_ediv, IntKind.wrap_u64]
  have : u / v1 ≤ u := Nat.div_le_self _ _
  obtain ⟨z, hz⟩ : ∃ z, z = u / v1 := ⟨_, rfl⟩
  rw [← hz] at this ⊢
  omega
theorem left_int {u v1 : Nat} (hu : u < 18446744073709551616) : IntKind.u64.wrap ((u : Int) - IntKind.u64.wrap (((u / v1 : Nat) : Int) * (v1 : Int))) = ((u - u / v1 * v1 : Nat) : Int) := by
  have h1 : u / v1 * v1 ≤ u := Nat.div_mul_le_self u v1
  rw [← Int.natCast_mul, IntKind.wrap_u64, IntKind.wrap_u64]
  omega
theorem next_int {u d v q : Nat} (hd : d < 4294967296) (hx : q * v ≤ u * 4294967296 + d) (hl : u * 4294967296 + d - q * v < 18446744073709551616) :
    IntKind.u64.wrap (IntKind.u64.wrap (IntKind.u64.wrap ((u : Int) * 4294967296) + (d : Int)) - IntKind.u64.wrap ((q : Int) * (v : Int))) = ((u * 4294967296 + d - q * v : Nat) : Int) := by
  rw [← Int.natCast_mul]
  simp only [IntKind.wrap_u64]
  omega

set_option maxRecDepth 100000 in
theorem div_hard (hi lo y s v v1 v0 u d d1 d0 : Nat) (hhi : 0 < hi) (hy : hi < y) (hy1 : y < 18446744073709551616) (hlo : lo < 18446744073709551616) (hs : s = 64 - Lib.bitLen y) (hb : Lib.bitLen y ≤ 64)
    (hU : Up hi lo y s v v1 v0 u d d1 d0) (w : World) :
    Calls Tryd.prog 32 #[.int .u64 (hi : Int), .int .u64 (lo : Int), .int .u64 (y : Int)] w fun e w' => (∃ z : Value, e = .returned (.tuple #[.int .u64 (((hi * 18446744073709551616 + lo) / y : Nat) : Int), z])) ∧ Below w.heap.size w w' := by
  have HL := hideI (fun (V : World) => lead_any y hy1 hb V)
  rw [← hs] at HL
  have b1 : ¬ ((y : Int) = 0) := by omega
  have b2 : ¬ ((y : Int) ≤ (hi : Int)) := by omega
  have b3 : ¬ ((hi : Int) = 0) := by omega
  have hs64 := hU.hs
  have hvv : v < 18446744073709551616 := by have := hU.hv; have := hU.hv0; have := hU.hv1; omega
  have HU := hideI hU
  have HV : Hid (v1 < 4294967296) := hideI hU.hv1.2
  have hv0 : Hid (0 < v) := hideI (by have := hU.hv; have := hU.hv1; omega)
  have hul : Hid (u < v) := hideI hU.hu
  have hdl : Hid (d1 < 4294967296) := hideI hU.hd1
  have hdl0 : Hid (d0 < 4294967296) := hideI hU.hd0
  have HD1 : Hid (Dig v v1 v0 u d1 (u / v1) (u - u / v1 * v1)) := hideI (dig_first hU.hv hU.hv0 hU.hv1.1 hU.hv1.2 hU.hu hU.hd1)
  obtain ⟨q1, hq1⟩ : ∃ q1, q1 = (u * 4294967296 + d1) / v := ⟨_, rfl⟩
  obtain ⟨x, hx⟩ : ∃ x, x = u * 4294967296 + d1 - q1 * v := ⟨_, rfl⟩
  obtain ⟨q0, hq0⟩ : ∃ q0, q0 = (x * 4294967296 + d0) / v := ⟨_, rfl⟩
  have hq1t : q1 < 4294967296 := by rw [hq1]; exact dig_top hU.hu hU.hd1
  obtain ⟨r1, r2, r3⟩ := dig_rest hv0.out hq1
  have hxv : x < v := by rw [hx]; exact r2
  have hq0t : q0 < 4294967296 := by rw [hq0]; exact dig_top hxv hU.hd0
  have hxl : Hid (x < v) := hideI hxv
  have HD0 : Hid (Dig v v1 v0 x d0 (x / v1) (x - x / v1 * v1)) := hideI (dig_first hU.hv hU.hv0 hU.hv1.1 hU.hv1.2 hxv hU.hd0)
  obtain ⟨Z, hZ⟩ : ∃ Z, Z = (hi * 18446744073709551616 + lo) / y := ⟨_, rfl⟩
  rw [← hZ]
  have HANS : q1 * 4294967296 + q0 = Z := (by rw [hZ]; rw [← hU.all]; exact dig_two hv0.out hq1 (by rw [← hx]; exact hq0))
  have eX := next_int hU.hd1 r1 (by omega)
  rw [← hx] at eX
  have eF : IntKind.u64.wrap (IntKind.u64.wrap ((q1 : Int) * 4294967296) + (q0 : Int)) = ((q1 * 4294967296 + q0 : Nat) : Int) := by simp only [IntKind.wrap_u64]; omega
  rw [HANS] at eF
  have g1 := guess_int (u := u) (v1 := v1) (by have := hU.hu; omega) (by have := hU.hv1; omega)
  have g2 := left_int (u := u) (v1 := v1) (by have := hU.hu; omega)
  have g3 := guess_int (u := x) (v1 := v1) (by omega) (by have := hU.hv1; omega)
  have g4 := left_int (u := x) (v1 := v1) (by omega)
  have bv1 : ¬ ((v1 : Int) = 0) := by have := hU.hv1; omega
  have HQ1 : Hid ((u * 4294967296 + d1) / v = q1) := hideI hq1.symm
  have HQ0 : Hid ((x * 4294967296 + d0) / v = q0) := hideI hq0.symm
  obtain ⟨ga, hga⟩ : ∃ z, z = u / v1 := ⟨_, rfl⟩
  rw [← hga] at g1 g2 HD1
  obtain ⟨gb, hgb⟩ : ∃ z, z = u - ga * v1 := ⟨_, rfl⟩
  rw [← hgb] at g2 HD1
  obtain ⟨gc, hgc⟩ : ∃ z, z = x / v1 := ⟨_, rfl⟩
  rw [← hgc] at g3 g4 HD0
  obtain ⟨gd, hgd⟩ : ∃ z, z = x - gc * v1 := ⟨_, rfl⟩
  rw [← hgd] at g4 HD0
  have a1 := hU.ev
  have a2 := hU.ev1
  have a3 := hU.ev0
  have a4 := hU.eu
  have a5 := hU.ed
  have a6 := hU.ed1
  have a7 := hU.ed0
  have e0 : IntKind.u64.wrap (s : Int) = (s : Int) := by rw [IntKind.wrap_u64]; omega
  have em : min s 64 = s := Nat.min_eq_left hs64
  clear hs hb hga hgb hgc hgd hq1 hx hq0 HANS hZ r1 r2 r3 hU hvv hxv hq1t hq0t
  go_enter Tryd.func32, Tryd.ntmps32
  go_upto_region 8 with (go_at_call 33; go_must (refine (HL.out w).mono ?_); rintro e w1 ⟨rfl, hw1⟩; obtain rfl := hw1.symm)
  go_upto_block 0 with fail
  go_cut [15, 16] from 67 to 85 (fun s15 s16 wx => s15 = .int .u64 q1 ∧ (∃ z : Nat, s16 = .int .u64 z) ∧ wx = w)
  case first =>
    go_wp2_with fail
    go_loopw [15, 16] (fun u1 u2 wv => ∃ q r : Nat, u1 = .int .u64 q ∧ u2 = .int .u64 r ∧ Hid (Dig v v1 v0 u d1 q r) ∧ wv = w) (fun u1 _ _ => (intOf u1).toNat)
    case atStart => exact ⟨_, _, rfl, rfl, HD1, rfl⟩
    case round =>
      obtain ⟨q, r, rfl, rfl, hD, hw⟩ := hrel
      obtain rfl := hw.symm
      have hq1 := hD.out.few
      have hr1 := hD.out.rest
      by_cases hq : 4294967296 ≤ q
      · obtain ⟨q2, hq2⟩ : ∃ q2, q2 = q - 1 := ⟨_, rfl⟩
        obtain ⟨r2, hr2⟩ : ∃ r2, r2 = r + v1 := ⟨_, rfl⟩
        have e1 : IntKind.u64.wrap ((q : Int) - 1) = (q2 : Int) := by rw [IntKind.wrap_u64]; omega
        have e2 : IntKind.u64.wrap ((r : Int) + (v1 : Int)) = (r2 : Int) := by have := HV.out; rw [IntKind.wrap_u64]; omega
        have c1 : (4294967296 : Int) ≤ (q : Int) := by omega
        have HN := hideI (fun h => hD.out.next hv0.out hul.out hdl.out (.inl hq) h)
        have HE := hideI (fun h => hD.out.last hv0.out hul.out hdl.out (.inl hq) h)
        rw [← hq2, ← hr2] at HN HE
        have hlt : Hid (q2 < q) := hideI (by omega)
        clear hq2 hr2 hq hq1 hr1
        by_cases hr : 4294967296 ≤ r2
        · have c2 : (4294967296 : Int) ≤ (r2 : Int) := by omega
          have HE2 := hideI (HE.out hr)
          clear hr HE HN
          go_wp2_with fail
          go_meet
          exact ⟨by rw [HE2.out, HQ1.out], ⟨_, rfl⟩, rfl⟩
        · have c2 : ¬ (4294967296 : Int) ≤ (r2 : Int) := by omega
          have HN2 := hideI (HN.out (by omega))
          clear hr HE HN
          go_wp2_with fail
          go_roundw
          case rel => exact ⟨_, _, rfl, rfl, HN2, by first | rfl | trivial⟩
          case measure => have := hlt.out; simp [intOf]; omega
      · obtain ⟨A, hA⟩ : ∃ A, A = q * v0 := ⟨_, rfl⟩
        obtain ⟨X, hX⟩ : ∃ X, X = 4294967296 * r + d1 := ⟨_, rfl⟩
        have hA1 : A < 18446744073709551616 := by
          have h1 : q * v0 ≤ 4294967296 * 4294967295 := Nat.mul_le_mul (by omega) (by have := hD.out.low; omega)
          omega
        have e3 : IntKind.u64.wrap ((q : Int) * (v0 : Int)) = (A : Int) := by rw [← Int.natCast_mul, ← hA, IntKind.wrap_u64]; omega
        have e4 : IntKind.u64.wrap (IntKind.u64.wrap (4294967296 * (r : Int)) + (d1 : Int)) = (X : Int) := by have := hdl.out; rw [IntKind.wrap_u64, IntKind.wrap_u64]; omega
        have c1 : ¬ (4294967296 : Int) ≤ (q : Int) := by omega
        by_cases hc : A ≤ X
        · have hx := hD.out.stop hv0.out (by rw [← hA, ← hX]; exact hc)
          have c3 : (A : Int) ≤ (X : Int) := by omega
          have c4 : ¬ (X : Int) < (A : Int) := by omega
          have HX := hideI hx
          clear hx hc hA hX hA1 hq1 hr1 hq
          go_wp2_with fail
          go_meet
          exact ⟨by rw [HX.out, HQ1.out], ⟨_, rfl⟩, rfl⟩
        · have hgt : 4294967296 * r + d1 < q * v0 := by omega
          obtain ⟨q2, hq2⟩ : ∃ q2, q2 = q - 1 := ⟨_, rfl⟩
          obtain ⟨r2, hr2⟩ : ∃ r2, r2 = r + v1 := ⟨_, rfl⟩
          have hp := hD.out.pos hv0.out hul.out hdl.out (.inr hgt)
          have e1 : IntKind.u64.wrap ((q : Int) - 1) = (q2 : Int) := by rw [IntKind.wrap_u64]; omega
          have e2 : IntKind.u64.wrap ((r : Int) + (v1 : Int)) = (r2 : Int) := by have := HV.out; rw [IntKind.wrap_u64]; omega
          have HN := hideI (fun h => hD.out.next hv0.out hul.out hdl.out (.inr hgt) h)
          have HE := hideI (fun h => hD.out.last hv0.out hul.out hdl.out (.inr hgt) h)
          rw [← hq2, ← hr2] at HN HE
          have hlt : Hid (q2 < q) := hideI (by omega)
          have c3 : ¬ (A : Int) ≤ (X : Int) := by omega
          have c4 : (X : Int) < (A : Int) := by omega
          clear hq2 hr2 hq hq1 hr1 hgt hp hA hX hA1 hc
          by_cases hr : 4294967296 ≤ r2
          · have c2 : (4294967296 : Int) ≤ (r2 : Int) := by omega
            have HE2 := hideI (HE.out hr)
            clear hr HE HN
            go_wp2_with fail
            go_meet
            exact ⟨by rw [HE2.out, HQ1.out], ⟨_, rfl⟩, rfl⟩
          · have c2 : ¬ (4294967296 : Int) ≤ (r2 : Int) := by omega
            have HN2 := hideI (HN.out (by omega))
            clear hr HE HN
            go_wp2_with fail
            go_roundw
            case rel => exact ⟨_, _, rfl, rfl, HN2, by first | rfl | trivial⟩
            case measure => have := hlt.out; simp [intOf]; omega
  case rest =>
    obtain ⟨rfl, ⟨z1, rfl⟩, hw⟩ := hcut
    obtain rfl := hw.symm
    go_upto_block 2 with fail
    go_cut [18, 16] from 102 to 120 (fun s18 s16 wx => s18 = .int .u64 q0 ∧ (∃ z : Nat, s16 = .int .u64 z) ∧ wx = w)
    case first =>
      go_wp2_with fail
      go_loopw [18, 16] (fun u1 u2 wv => ∃ q r : Nat, u1 = .int .u64 q ∧ u2 = .int .u64 r ∧ Hid (Dig v v1 v0 x d0 q r) ∧ wv = w) (fun u1 _ _ => (intOf u1).toNat)
      case atStart => exact ⟨_, _, rfl, rfl, HD0, rfl⟩
      case round =>
        obtain ⟨q, r, rfl, rfl, hD, hw⟩ := hrel
        obtain rfl := hw.symm
        have hq1 := hD.out.few
        have hr1 := hD.out.rest
        by_cases hq : 4294967296 ≤ q
        · obtain ⟨q2, hq2⟩ : ∃ q2, q2 = q - 1 := ⟨_, rfl⟩
          obtain ⟨r2, hr2⟩ : ∃ r2, r2 = r + v1 := ⟨_, rfl⟩
          have e1 : IntKind.u64.wrap ((q : Int) - 1) = (q2 : Int) := by rw [IntKind.wrap_u64]; omega
          have e2 : IntKind.u64.wrap ((r : Int) + (v1 : Int)) = (r2 : Int) := by have := HV.out; rw [IntKind.wrap_u64]; omega
          have c1 : (4294967296 : Int) ≤ (q : Int) := by omega
          have HN := hideI (fun h => hD.out.next hv0.out hxl.out hdl0.out (.inl hq) h)
          have HE := hideI (fun h => hD.out.last hv0.out hxl.out hdl0.out (.inl hq) h)
          rw [← hq2, ← hr2] at HN HE
          have hlt : Hid (q2 < q) := hideI (by omega)
          clear hq2 hr2 hq hq1 hr1
          by_cases hr : 4294967296 ≤ r2
          · have c2 : (4294967296 : Int) ≤ (r2 : Int) := by omega
            have HE2 := hideI (HE.out hr)
            clear hr HE HN
            go_wp2_with fail
            go_meet
            exact ⟨by rw [HE2.out, HQ0.out], ⟨_, rfl⟩, rfl⟩
          · have c2 : ¬ (4294967296 : Int) ≤ (r2 : Int) := by omega
            have HN2 := hideI (HN.out (by omega))
            clear hr HE HN
            go_wp2_with fail
            go_roundw
            case rel => exact ⟨_, _, rfl, rfl, HN2, by first | rfl | trivial⟩
            case measure => have := hlt.out; simp [intOf]; omega
        · obtain ⟨A, hA⟩ : ∃ A, A = q * v0 := ⟨_, rfl⟩
          obtain ⟨X, hX⟩ : ∃ X, X = 4294967296 * r + d0 := ⟨_, rfl⟩
          have hA1 : A < 18446744073709551616 := by
            have h1 : q * v0 ≤ 4294967296 * 4294967295 := Nat.mul_le_mul (by omega) (by have := hD.out.low; omega)
            omega
          have e3 : IntKind.u64.wrap ((q : Int) * (v0 : Int)) = (A : Int) := by rw [← Int.natCast_mul, ← hA, IntKind.wrap_u64]; omega
          have e4 : IntKind.u64.wrap (IntKind.u64.wrap (4294967296 * (r : Int)) + (d0 : Int)) = (X : Int) := by have := hdl0.out; rw [IntKind.wrap_u64, IntKind.wrap_u64]; omega
          have c1 : ¬ (4294967296 : Int) ≤ (q : Int) := by omega
          by_cases hc : A ≤ X
          · have hx := hD.out.stop hv0.out (by rw [← hA, ← hX]; exact hc)
            have c3 : (A : Int) ≤ (X : Int) := by omega
            have c4 : ¬ (X : Int) < (A : Int) := by omega
            have HX := hideI hx
            clear hx hc hA hX hA1 hq1 hr1 hq
            go_wp2_with fail
            go_meet
            exact ⟨by rw [HX.out, HQ0.out], ⟨_, rfl⟩, rfl⟩
          · have hgt : 4294967296 * r + d0 < q * v0 := by omega
            obtain ⟨q2, hq2⟩ : ∃ q2, q2 = q - 1 := ⟨_, rfl⟩
            obtain ⟨r2, hr2⟩ : ∃ r2, r2 = r + v1 := ⟨_, rfl⟩
            have hp := hD.out.pos hv0.out hxl.out hdl0.out (.inr hgt)
            have e1 : IntKind.u64.wrap ((q : Int) - 1) = (q2 : Int) := by rw [IntKind.wrap_u64]; omega
            have e2 : IntKind.u64.wrap ((r : Int) + (v1 : Int)) = (r2 : Int) := by have := HV.out; rw [IntKind.wrap_u64]; omega
            have HN := hideI (fun h => hD.out.next hv0.out hxl.out hdl0.out (.inr hgt) h)
            have HE := hideI (fun h => hD.out.last hv0.out hxl.out hdl0.out (.inr hgt) h)
            rw [← hq2, ← hr2] at HN HE
            have hlt : Hid (q2 < q) := hideI (by omega)
            have c3 : ¬ (A : Int) ≤ (X : Int) := by omega
            have c4 : (X : Int) < (A : Int) := by omega
            clear hq2 hr2 hq hq1 hr1 hgt hp hA hX hA1 hc
            by_cases hr : 4294967296 ≤ r2
            · have c2 : (4294967296 : Int) ≤ (r2 : Int) := by omega
              have HE2 := hideI (HE.out hr)
              clear hr HE HN
              go_wp2_with fail
              go_meet
              exact ⟨by rw [HE2.out, HQ0.out], ⟨_, rfl⟩, rfl⟩
            · have c2 : ¬ (4294967296 : Int) ≤ (r2 : Int) := by omega
              have HN2 := hideI (HN.out (by omega))
              clear hr HE HN
              go_wp2_with fail
              go_roundw
              case rel => exact ⟨_, _, rfl, rfl, HN2, by first | rfl | trivial⟩
              case measure => have := hlt.out; simp [intOf]; omega
    case rest =>
      obtain ⟨rfl, ⟨z2, rfl⟩, hw⟩ := hcut
      obtain rfl := hw.symm
      go_wp2_with fail
      refine bodyPost_ret (results_tmp2 rfl _ _ _) (by rfl) ?_
      exact ⟨⟨_, rfl⟩, Below.refl _ w⟩

theorem up_all {hi lo P l2 d : Nat} (K : Nat) (h : lo * P = l2 * K + d) : (hi * P + l2) * K + d = (hi * K + lo) * P := by
  rw [Nat.add_mul, Nat.add_mul, h]
  have : hi * P * K = hi * K * P := by ac_rfl
  omega

set_option maxRecDepth 1000000 in
theorem up_of (hi lo y s : Nat) (hhi : 0 < hi) (hy : hi < y) (hy1 : y < 18446744073709551616) (hlo : lo < 18446744073709551616) (hs : s = 64 - Lib.bitLen y) :
    ∃ v v1 v0 u d d1 d0, Up hi lo y s v v1 v0 u d d1 d0 := by
  obtain ⟨a1, a2, a3, a4⟩ := bitLen_bounds y (by omega) hy1
  obtain ⟨b, hb⟩ : ∃ b, b = Lib.bitLen y := ⟨_, rfl⟩
  rw [← hb] at a1 a2 a3 a4 hs
  have e64 : 2 ^ b * 2 ^ s = 18446744073709551616 := by
    rw [← Nat.pow_add, show b + s = 64 by omega]
  have e63 : 2 ^ (b - 1) * 2 ^ s = 9223372036854775808 := by
    rw [← Nat.pow_add, show b - 1 + s = 63 by omega]
  have e64s : 2 ^ (64 - s) * 2 ^ s = 18446744073709551616 := by
    rw [← Nat.pow_add, show 64 - s + s = 64 by omega]
  have hp : 0 < 2 ^ s := Nat.pow_pos (by decide)
  have hq : 0 < 2 ^ (64 - s) := Nat.pow_pos (by decide)
  obtain ⟨P, hP⟩ : ∃ P, P = 2 ^ s := ⟨_, rfl⟩
  obtain ⟨R, hR⟩ : ∃ R, R = 2 ^ (64 - s) := ⟨_, rfl⟩
  have hPi : (2 : Int) ^ s = (P : Int) := by rw [hP, Int.natCast_pow]; rfl
  have hRi : (2 : Int) ^ (64 - s) = (R : Int) := by rw [hR, Int.natCast_pow]; rfl
  rw [← hP] at e64 e63 e64s hp
  rw [← hR] at e64s hq
  obtain ⟨v, hv⟩ : ∃ v, v = y * P := ⟨_, rfl⟩
  have v64 : v < 18446744073709551616 := by rw [hv, ← e64]; exact Nat.mul_lt_mul_of_pos_right a4 hp
  have v63 : 9223372036854775808 ≤ v := by rw [hv, ← e63]; exact Nat.mul_le_mul_right _ a3
  obtain ⟨l2, hl2⟩ : ∃ l2, l2 = lo / R := ⟨_, rfl⟩
  have l2P : l2 < P := by
    rw [hl2, Nat.div_lt_iff_lt_mul hq, Nat.mul_comm, e64s]; exact hlo
  obtain ⟨h2, hh2⟩ : ∃ h2, h2 = hi * P := ⟨_, rfl⟩
  have h2v : h2 + P ≤ v := by
    rw [hh2, hv]
    have : (hi + 1) * P ≤ y * P := Nat.mul_le_mul_right _ hy
    rw [Nat.add_mul, Nat.one_mul] at this
    exact this
  obtain ⟨d, hd⟩ : ∃ d, d = lo * P % 18446744073709551616 := ⟨_, rfl⟩
  have hall : lo * P = l2 * 18446744073709551616 + d := by
    have e1 : lo * P / 18446744073709551616 = l2 := by
      rw [← e64s, hl2, Nat.mul_div_mul_right _ _ hp]
    have := Nat.div_add_mod (lo * P) 18446744073709551616
    rw [e1, ← hd] at this
    omega
  have d64 : d < 18446744073709551616 := by rw [hd]; exact Nat.mod_lt _ (by decide)
  refine ⟨v, v / 4294967296, v % 4294967296, h2 + l2, d, d / 4294967296, d % 4294967296, ?_⟩
  refine ⟨?_, ?_, ?_, ?_, ?_, ?_, ?_, by omega, by omega, by omega, by omega, by omega, by omega, by omega, ?_⟩
  · rw [hPi, ← Int.natCast_mul, ← hv, IntKind.wrap_u64]; omega
  · omega
  · have h := bits_and_u64_nat v 4294967295 v64 (by omega)
    have e : v &&& 4294967295 = v % 4294967296 := Nat.and_two_pow_sub_one_eq_mod v 32
    rw [e] at h
    exact h
  · have e1 : IntKind.u64.wrap ((hi : Int) * 2 ^ s) = (h2 : Int) := by rw [hPi, ← Int.natCast_mul, ← hh2, IntKind.wrap_u64]; omega
    have e2 : (lo : Int) / 2 ^ (64 - s) = (l2 : Int) := by rw [hRi, hl2, Int.natCast_ediv]
    rw [e1, e2]
    have h := bits_or_u64_nat h2 l2 (by omega) (by omega)
    have e : h2 ||| l2 = h2 + l2 := by
      have := Nat.shiftLeft_add_eq_or_of_lt (i := s) (b := l2) (by rw [← hP]; exact l2P) hi
      rw [Nat.shiftLeft_eq, ← hP, ← hh2] at this
      exact this.symm
    rw [e] at h
    exact h
  · rw [hPi, ← Int.natCast_mul, hd, IntKind.wrap_u64]; omega
  · omega
  · have h := bits_and_u64_nat d 4294967295 d64 (by omega)
    have e : d &&& 4294967295 = d % 4294967296 := Nat.and_two_pow_sub_one_eq_mod d 32
    rw [e] at h
    exact h
  · rw [show d / 4294967296 * 4294967296 + d % 4294967296 = d by omega]
    have e : (h2 + l2) * 18446744073709551616 + d = (hi * 18446744073709551616 + lo) * P := by
      rw [hh2]
      exact up_all _ hall
    rw [e, hv, Nat.mul_div_mul_right _ _ hp]

theorem div_any (hi lo y : Nat) (hy : hi < y) (hy1 : y < 18446744073709551616) (hlo : lo < 18446744073709551616) (w : World) :
    Calls Tryd.prog 32 #[.int .u64 (hi : Int), .int .u64 (lo : Int), .int .u64 (y : Int)] w fun e w' => (∃ z : Value, e = .returned (.tuple #[.int .u64 (((hi * 18446744073709551616 + lo) / y : Nat) : Int), z])) ∧ Below w.heap.size w w' := by
  rcases Nat.eq_zero_or_pos hi with h0 | h0
  · subst h0
    rw [show 0 * 18446744073709551616 + lo = lo by omega]
    exact div_easy lo y (by omega) hy1 hlo w
  · obtain ⟨v, v1, v0, u, d, d1, d0, hU⟩ := up_of hi lo y _ h0 hy hy1 hlo rfl
    exact div_hard hi lo y _ v v1 v0 u d d1 d0 h0 hy hy1 hlo rfl (bitLen_bounds y (by omega) hy1).2.1 hU w
end Go.Proofs.YtidebjcnmabggaaDoor.Mo
