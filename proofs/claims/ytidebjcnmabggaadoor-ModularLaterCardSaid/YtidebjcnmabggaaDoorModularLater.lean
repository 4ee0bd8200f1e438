/- What is proved: for all numbers, 1 to 40 bits and shifts of 0 to 19, modular.First answers one step less from one step further on, and the same with all shifted up. No condition but the card's own: the table of the trailing zeros is as Go's library lays it. -/
import Derived.Test.YtidebjcnmabggaaDoorMoOpen
import Derived.Test.YtidebjcnmabggaaDoorMoRef
import Derived.Test.YtidebjcnmabggaaDoorLate
import Derived.Test.YtidebjcnmabggaaDoorTie
import Derived.Test.YtidebjcnmabggaaDoorCards
import Derived.ProofKit
import Derived.LaidMore
import Derived.Lay
import Derived.OpenShut
import Derived.SevenTiedAt
namespace Go.Proofs.YtidebjcnmabggaaDoor.modularLater
open Go.ChangeShapes Go.WideShapes Go.ChangeAt Go.RowKit Go.Proofs.YtidebjcnmabggaaDoor.Mo Go.Proofs.YtidebjcnmabggaaDoor.Chn


theorem First.low {M a b lo hi x : Nat} (h : First M a b lo hi x) (hM : M ≤ 18446744073709551616 ∧ 0 < M) : x < 18446744073709551616 := by
  rcases Nat.lt_or_ge x M with h1 | h1
  · omega
  · exact absurd ((hit_back hM.2 a b lo hi x).mpr h.1) (h.2 _ (Nat.lt_of_lt_of_le (Nat.mod_lt _ hM.2) h1))

set_option maxHeartbeats 4000000 in
set_option maxRecDepth 100000 in
theorem walk (a b lo hi k v : Nat) (w : World) (hT : Tab w) (ha : a < 18446744073709551616) (hb : b < 18446744073709551616) (hlo : lo < 18446744073709551616) (hhi : hi < 18446744073709551616) (hk : k < 256) (hv : v < 256) :
    Calls Tryd.prog 8 #[.int .u64 (a : Int), .int .u64 (b : Int), .int .u64 (lo : Int), .int .u64 (hi : Int), .int .u8 (k : Int), .int .u8 (v : Int)] w fun e w' => e = .returned (.bool true) ∧ Below w.heap.size w w' := by
  have HT := hideI hT
  have hT0 := hT.1
  have HB := hideI (Below.refl w.heap.size w)
  obtain ⟨r, hr⟩ : ∃ r, r = k % 40 := ⟨_, rfl⟩
  obtain ⟨n, hn⟩ : ∃ n, n = r + 1 := ⟨_, rfl⟩
  have e1 : (k : Int) % 40 = (r : Int) := by omega
  have e2 : (k : Int).tmod 40 = (r : Int) := by rw [hr]; rfl
  have e3 : (r : Int) + 1 = (n : Int) := by omega
  have hr12 : (r : Int) < 40 := by omega
  have h1n : 1 ≤ n := by omega
  have hn64 : n ≤ 40 := by omega
  obtain ⟨u, hu⟩ : ∃ u, u = v % 20 := ⟨_, rfl⟩
  have f1 : (v : Int) % 20 = (u : Int) := by omega
  have f2 : (v : Int).tmod 20 = (u : Int) := by rw [hu]; rfl
  have hu20 : u < 20 := by omega
  have HM := hideI (fun V : World => refMask_any n (by omega) V)
  have hp := pow_pos n
  have hP40 : 2 ^ n ≤ 1099511627776 := Nat.pow_le_pow_right (n := 2) (by decide) hn64
  have hle := pow_le64 (n := n) (by omega)
  have A1 := and_top hlo (n := n) (by omega)
  have A2 := and_top hhi (n := n) (by omega)
  have A3 := and_top ha (n := n) (by omega)
  have A4 := and_top hb (n := n) (by omega)
  have hl1 := Nat.mod_lt lo hp
  have hh1 := Nat.mod_lt hi hp
  have ha1 := Nat.mod_lt a hp
  have hb1 := Nat.mod_lt b hp
  obtain ⟨P, hP⟩ : ∃ P, P = 2 ^ n := ⟨_, rfl⟩
  obtain ⟨K, hKe⟩ : ∃ K, K = 2 ^ u := ⟨_, rfl⟩
  have hK : 0 < K := by rw [hKe]; exact pow_pos u
  have hK20 : K ≤ 1048576 := by rw [hKe]; exact Nat.pow_le_pow_right (n := 2) (by decide) (show u ≤ 20 by omega)
  have hPK : 2 ^ (n + u) = P * K := by rw [hP, hKe, Nat.pow_add]
  have hKi : (2 : Int) ^ u = (K : Int) := by rw [hKe, Int.natCast_pow]; rfl
  rw [← hP] at HM A1 A2 A3 A4 hl1 hh1 ha1 hb1 hp hle hP40
  have hsm : ∀ x : Nat, x < P → x * K < 18446744073709551616 := fun x hx => by
    have h1 : x * K ≤ 1099511627776 * 1048576 := Nat.mul_le_mul (by omega) hK20
    omega
  have hwr : ∀ x : Nat, x < P → IntKind.u64.wrap ((x : Int) * 2 ^ u) = ((x * K : Nat) : Int) := fun x hx => by
    rw [hKi, ← Int.natCast_mul]
    exact wrap_nat _ (hsm x hx)
  obtain ⟨Q, hQ⟩ : ∃ Q, Q = P - 1 := ⟨_, rfl⟩
  rw [← hQ] at HM A1 A2 A3 A4
  obtain ⟨l1, hl1e⟩ : ∃ z, z = lo % P := ⟨_, rfl⟩
  obtain ⟨h1, hh1e⟩ : ∃ z, z = hi % P := ⟨_, rfl⟩
  obtain ⟨a1, ha1e⟩ : ∃ z, z = a % P := ⟨_, rfl⟩
  obtain ⟨b1, hb1e⟩ : ∃ z, z = b % P := ⟨_, rfl⟩
  rw [← hl1e] at A1 hl1
  rw [← hh1e] at A2 hh1
  rw [← ha1e] at A3 ha1
  rw [← hb1e] at A4 hb1
  clear hl1e hh1e ha1e hb1e hKe hKi hK20
  by_cases hsw : h1 < l1
  · have c1 : (h1 : Int) < (l1 : Int) := by omega
    have HF := hideI (fun V : World => first_any a1 b1 h1 l1 n h1n (by omega) (by omega) (by omega) (by omega) (by omega) V)
    have HF2 := hideI (fun V : World => first_any (a1 + b1) b1 h1 l1 n h1n (by omega) (by omega) (by omega) (by omega) (by omega) V)
    have HSH := hideI (fun m : Nat => hit_shift (P := P) (K := K) (a := a1) (b := b1) (lo := h1) (hi := l1) hK m)
    have HF3 := hideI (fun V : World => first_any (a1 * K) (b1 * K) (h1 * K) (l1 * K) (n + u) (by omega) (by omega) (hsm a1 (by omega)) (hsm b1 (by omega)) (Nat.mul_le_mul_right _ (by omega)) (by rw [hPK]; exact Nat.mul_lt_mul_of_pos_right (by omega) hK) V)
    rw [← hP] at HF HF2
    rw [hPK] at HF3
    have hSH1 := hwr a1 (by omega)
    have hSH2 := hwr b1 (by omega)
    have hSH3 := hwr h1 (by omega)
    have hSH4 := hwr l1 (by omega)
    obtain ⟨sa, hsa⟩ : ∃ z, z = a1 * K := ⟨_, rfl⟩
    obtain ⟨sb, hsb⟩ : ∃ z, z = b1 * K := ⟨_, rfl⟩
    obtain ⟨sl, hsl⟩ : ∃ z, z = h1 * K := ⟨_, rfl⟩
    obtain ⟨sh, hsh⟩ : ∃ z, z = l1 * K := ⟨_, rfl⟩
    rw [← hsa] at HSH HF3 hSH1
    rw [← hsb] at HSH HF3 hSH2
    rw [← hsl] at HSH HF3 hSH3
    rw [← hsh] at HSH HF3 hSH4
    obtain ⟨ab, hab⟩ : ∃ z, z = a1 + b1 := ⟨_, rfl⟩
    have eab : IntKind.u64.wrap ((a1 : Int) + (b1 : Int)) = (ab : Int) := by rw [IntKind.wrap_u64]; omega
    rw [← hab] at HF2
    have HAB := hideI hab
    obtain ⟨nu, hnu⟩ : ∃ z, z = n + u := ⟨_, rfl⟩
    have enu : (n : Int) + (u : Int) = (nu : Int) := by omega
    have enu2 : IntKind.i64.wrap ((n : Int) + (u : Int)) = (nu : Int) := by rw [enu]; exact IntWalk.i64_in _ (by omega)
    have enu4 : IntKind.i64.wrap (nu : Int) = (nu : Int) := IntWalk.i64_in _ (by omega)
    have enu3 : IntKind.i64.wrap (u : Int) = (u : Int) := IntWalk.i64_in _ (by omega)
    rw [← hnu] at HF3
    have HPP : Hid (P ≤ 18446744073709551616 ∧ 0 < P) := hideI ⟨by omega, hp⟩
    clear hT hr hn ha hb hlo hhi hk hn64 h1n hp hP hQ hl1 hh1 ha1 hb1 hsw hle hsa hsb hsl hsh hab hnu hPK hsm hwr hK hu hv hu20 hP40
    go_enter Tryd.func8, Tryd.ntmps8
    go_upto_region 8 with (first
      | (go_at_call 16; go_must (refine (HM.out _).mono ?_); rintro e w2 ⟨rfl, hw⟩; obtain rfl := hw.symm)
      | (go_at_call 15; go_must (refine (HF.out _).mono ?_); rintro e w1 ⟨x, en, hA, rfl, hb⟩; have HA := hideI hA; replace HB := hideI (HB.out.trans (hb.mono HB.out.size)); clear hA hb))
    go_upto_region 9 with (go_at_call 15; go_must (refine (HF2.out _).mono ?_); rintro e w1 ⟨x2, en2, hA, rfl, hb⟩; rw [HAB.out] at hA; have HA2 := hideI hA; replace HB := hideI (HB.out.trans (hb.mono HB.out.size)); clear hA hb)
    refine wp_region_late (by kernel_rfl) (fun _ => True) [] ?_
    refine wpAnyT_quiet (i := 0) (v := ?_) rfl (by kernel_rfl) (by kernel_rfl) (by kernel_rfl) (fun _ _ _ h => h) (Or.inl ⟨by rfl, ?_⟩) ?_
    rotate_left
    · (intro w; go_simp; try with_reducible rfl)
    try simp only [Act.put, List.setIfInBounds_toArray, List.set_cons_zero, List.set_cons_succ]
    refine wpAnyT_quiet (i := 1) (v := ?_) rfl (by kernel_rfl) (by kernel_rfl) (by kernel_rfl) (fun _ _ _ h => h) (Or.inl ⟨by rfl, ?_⟩) ?_
    rotate_left
    · (intro w; go_simp; try with_reducible rfl)
    try simp only [Act.put, List.setIfInBounds_toArray, List.set_cons_zero, List.set_cons_succ]
    refine wpAnyT_quiet (i := 2) (v := ?_) rfl (by kernel_rfl) (by kernel_rfl) (by kernel_rfl) (fun _ _ _ h => h) (Or.inl ⟨by rfl, ?_⟩) ?_
    rotate_left
    · (intro w; go_simp; try with_reducible rfl)
    try simp only [Act.put, List.setIfInBounds_toArray, List.set_cons_zero, List.set_cons_succ]
    refine wpAnyT_quiet (i := 3) (v := ?_) rfl (by kernel_rfl) (by kernel_rfl) (by kernel_rfl) (fun _ _ _ h => h) (Or.inl ⟨by rfl, ?_⟩) ?_
    rotate_left
    · (intro w; go_simp; try with_reducible rfl)
    try simp only [Act.put, List.setIfInBounds_toArray, List.set_cons_zero, List.set_cons_succ]
    refine wpAnyT_quiet (i := 4) (v := ?_) rfl (by kernel_rfl) (by kernel_rfl) (by kernel_rfl) (fun _ _ _ h => h) (Or.inl ⟨by rfl, ?_⟩) ?_
    rotate_left
    · (intro w; go_simp; try with_reducible rfl)
    try simp only [Act.put, List.setIfInBounds_toArray, List.set_cons_zero, List.set_cons_succ]
    refine wpAnyT_quiet (i := 5) (v := ?_) rfl (by kernel_rfl) (by kernel_rfl) (by kernel_rfl) (fun _ _ _ h => h) (Or.inl ⟨by rfl, ?_⟩) ?_
    rotate_left
    · (intro w; go_simp; try with_reducible rfl)
    try simp only [Act.put, List.setIfInBounds_toArray, List.set_cons_zero, List.set_cons_succ]
    refine wpAnyT_quiet (i := 6) (v := ?_) rfl (by kernel_rfl) (by kernel_rfl) (by kernel_rfl) (fun _ _ _ h => h) (Or.inl ⟨by rfl, ?_⟩) ?_
    rotate_left
    · (intro w; go_simp; try with_reducible rfl)
    try simp only [Act.put, List.setIfInBounds_toArray, List.set_cons_zero, List.set_cons_succ]
    refine wpAnyT_quiet (i := 7) (v := ?_) rfl (by kernel_rfl) (by kernel_rfl) (by kernel_rfl) (fun _ _ _ h => h) (Or.inl ⟨by rfl, ?_⟩) ?_
    rotate_left
    · (intro w; go_simp; try with_reducible rfl)
    try simp only [Act.put, List.setIfInBounds_toArray, List.set_cons_zero, List.set_cons_succ]
    refine wpAnyT_quiet (i := 8) (v := ?_) rfl (by kernel_rfl) (by kernel_rfl) (by kernel_rfl) (fun _ _ _ h => h) (Or.inl ⟨by rfl, ?_⟩) ?_
    rotate_left
    · (intro w; go_simp; try with_reducible rfl)
    try simp only [Act.put, List.setIfInBounds_toArray, List.set_cons_zero, List.set_cons_succ]
    refine wpAnyT_quiet (i := 9) (v := ?_) rfl (by kernel_rfl) (by kernel_rfl) (by kernel_rfl) (fun _ _ _ h => h) (Or.inl ⟨by rfl, ?_⟩) ?_
    rotate_left
    · (intro w; go_simp; try with_reducible rfl)
    try simp only [Act.put, List.setIfInBounds_toArray, List.set_cons_zero, List.set_cons_succ]
    refine wpAnyT_quiet (i := 10) (v := ?_) rfl (by kernel_rfl) (by kernel_rfl) (by kernel_rfl) (fun _ _ _ h => h) (Or.inl ⟨by rfl, ?_⟩) ?_
    rotate_left
    · (intro w; go_simp; try with_reducible rfl)
    try simp only [Act.put, List.setIfInBounds_toArray, List.set_cons_zero, List.set_cons_succ]
    refine wpAnyT_quiet (i := 11) (v := ?_) rfl (by kernel_rfl) (by kernel_rfl) (by kernel_rfl) (fun _ _ _ h => h) (Or.inl ⟨by rfl, ?_⟩) ?_
    rotate_left
    · (intro w; go_simp; try with_reducible rfl)
    try simp only [Act.put, List.setIfInBounds_toArray, List.set_cons_zero, List.set_cons_succ]
    refine wpAnyT_quiet (i := 12) (v := ?_) rfl (by kernel_rfl) (by kernel_rfl) (by kernel_rfl) (fun _ _ _ h => h) (Or.inl ⟨by rfl, ?_⟩) ?_
    rotate_left
    · (intro w; go_simp; try with_reducible rfl)
    try simp only [Act.put, List.setIfInBounds_toArray, List.set_cons_zero, List.set_cons_succ]
    refine wpAnyT_quiet (i := 13) (v := ?_) rfl (by kernel_rfl) (by kernel_rfl) (by kernel_rfl) (fun _ _ _ h => h) (Or.inl ⟨by rfl, ?_⟩) ?_
    rotate_left
    · (intro w; go_simp; try with_reducible rfl)
    try simp only [Act.put, List.setIfInBounds_toArray, List.set_cons_zero, List.set_cons_succ]
    refine wpAnyT_quiet (i := 14) (v := ?_) rfl (by kernel_rfl) (by kernel_rfl) (by kernel_rfl) (fun _ _ _ h => h) (Or.inl ⟨by rfl, ?_⟩) ?_
    rotate_left
    · (intro w; go_simp; try with_reducible rfl)
    try simp only [Act.put, List.setIfInBounds_toArray, List.set_cons_zero, List.set_cons_succ]
    refine wpAnyT_ready (rs := [15]) (by kernel_rfl) (by simp) ?_
    refine AllReadyT.cons rfl (fun K hK => ?_) ?_
    · -- 15 call 15
      go_simp
      try simp only [hSH1, hSH2, hSH3, hSH4, enu4]
      refine (HF3.out _).mono ?_
      rintro e w5 ⟨x3, en3, hA, rfl, hb⟩
      replace HB := hideI (HB.out.drew.trans (hb.mono HB.out.size))
      obtain ⟨rfl, rfl⟩ := (Ans.of_iff HSH.out HA.out).one hA
      clear hb hA
      refine hK.out _ _ (fun _ _ => trivial) ?_
      clear hK K
      try simp only [Act.put, List.setIfInBounds_toArray, List.set_cons_zero, List.set_cons_succ]
      refine wpAnyT_quiet (i := 16) (v := ?_) rfl (by kernel_rfl) (by kernel_rfl) (by kernel_rfl) (fun _ _ _ h => h) (Or.inl ⟨by rfl, ?_⟩) ?_
      rotate_left
      · (intro w; go_simp; try with_reducible rfl)
      try simp only [Act.put, List.setIfInBounds_toArray, List.set_cons_zero, List.set_cons_succ]
      refine wpAnyT_quiet (i := 17) (v := ?_) rfl (by kernel_rfl) (by kernel_rfl) (by kernel_rfl) (fun _ _ _ h => h) (Or.inl ⟨by rfl, ?_⟩) ?_
      rotate_left
      · (intro w; go_simp; try with_reducible rfl)
      try simp only [Act.put, List.setIfInBounds_toArray, List.set_cons_zero, List.set_cons_succ]
      refine wpAnyT_quiet (i := 18) (v := ?_) rfl (by kernel_rfl) (by kernel_rfl) (by kernel_rfl) (fun _ _ _ h => h) (Or.inl ⟨by rfl, ?_⟩) ?_
      rotate_left
      · (intro w; go_simp; try with_reducible rfl)
      try simp only [Act.put, List.setIfInBounds_toArray, List.set_cons_zero, List.set_cons_succ]
      refine wpAnyT_quiet (i := 19) (v := ?_) rfl (by kernel_rfl) (by kernel_rfl) (by kernel_rfl) (fun _ _ _ h => h) (Or.inl ⟨by rfl, ?_⟩) ?_
      rotate_left
      · (intro w; go_simp; try with_reducible rfl)
      try simp only [Act.put, List.setIfInBounds_toArray, List.set_cons_zero, List.set_cons_succ]
      refine wpAnyT_quiet (i := 20) (v := ?_) rfl (by kernel_rfl) (by kernel_rfl) (by kernel_rfl) (fun _ _ _ h => h) (Or.inl ⟨by rfl, ?_⟩) ?_
      rotate_left
      · (intro w; go_simp; try with_reducible rfl)
      try simp only [Act.put, List.setIfInBounds_toArray, List.set_cons_zero, List.set_cons_succ]
      refine wpAnyT_done (by kernel_rfl) ?_ _
      clear hSH1 hSH2 hSH3 hSH4 enu4
      rcases ans_or HA.out with ⟨rfl, hf⟩ | ⟨rfl, rfl, hf⟩
      · rcases Nat.eq_zero_or_pos x with hx0 | hx0
        · subst hx0
          clear hf
          go_wp2_with (go_at_call 12; go_must (refine (Mo.awake_any _ (HT.out.keep HB.out hT0)).mono ?_); rintro e w2 ⟨rfl, hb⟩; replace HB := hideI (HB.out.trans (hb.mono HB.out.size)); clear hb)
          go_ret
          exact ⟨rfl, HB.out⟩
        · obtain ⟨rfl, rfl⟩ := ans_later hf hx0 HA2.out
          have hxp : ¬ x = 0 := by omega
          have hx64 := First.low hf HPP.out
          have e9 : IntKind.u64.wrap ((x : Int) - 1) = ((x - 1 : Nat) : Int) := by rw [IntKind.wrap_u64]; omega
          obtain ⟨x1, hx1⟩ : ∃ z, z = x - 1 := ⟨_, rfl⟩
          rw [← hx1] at e9
          rw [← hx1]
          clear hf hx0 hx64 hx1
          go_wp2_with (go_at_call 12; go_must (refine (Mo.awake_any _ (HT.out.keep HB.out hT0)).mono ?_); rintro e w2 ⟨rfl, hb⟩; replace HB := hideI (HB.out.trans (hb.mono HB.out.size)); clear hb)
          go_ret
          exact ⟨by simp, HB.out⟩
      · have hg9 := ans_never hf HA2.out
        subst hg9
        clear hf
        go_wp2_with (go_at_call 12; go_must (refine (Mo.awake_any _ (HT.out.keep HB.out hT0)).mono ?_); rintro e w2 ⟨rfl, hb⟩; replace HB := hideI (HB.out.trans (hb.mono HB.out.size)); clear hb)
        go_ret
        exact ⟨rfl, HB.out⟩
    · exact AllReadyT.nil
  · have c1 : ¬ (h1 : Int) < (l1 : Int) := by omega
    have HF := hideI (fun V : World => first_any a1 b1 l1 h1 n h1n (by omega) (by omega) (by omega) (by omega) (by omega) V)
    have HF2 := hideI (fun V : World => first_any (a1 + b1) b1 l1 h1 n h1n (by omega) (by omega) (by omega) (by omega) (by omega) V)
    have HSH := hideI (fun m : Nat => hit_shift (P := P) (K := K) (a := a1) (b := b1) (lo := l1) (hi := h1) hK m)
    have HF3 := hideI (fun V : World => first_any (a1 * K) (b1 * K) (l1 * K) (h1 * K) (n + u) (by omega) (by omega) (hsm a1 (by omega)) (hsm b1 (by omega)) (Nat.mul_le_mul_right _ (by omega)) (by rw [hPK]; exact Nat.mul_lt_mul_of_pos_right (by omega) hK) V)
    rw [← hP] at HF HF2
    rw [hPK] at HF3
    have hSH1 := hwr a1 (by omega)
    have hSH2 := hwr b1 (by omega)
    have hSH3 := hwr l1 (by omega)
    have hSH4 := hwr h1 (by omega)
    obtain ⟨sa, hsa⟩ : ∃ z, z = a1 * K := ⟨_, rfl⟩
    obtain ⟨sb, hsb⟩ : ∃ z, z = b1 * K := ⟨_, rfl⟩
    obtain ⟨sl, hsl⟩ : ∃ z, z = l1 * K := ⟨_, rfl⟩
    obtain ⟨sh, hsh⟩ : ∃ z, z = h1 * K := ⟨_, rfl⟩
    rw [← hsa] at HSH HF3 hSH1
    rw [← hsb] at HSH HF3 hSH2
    rw [← hsl] at HSH HF3 hSH3
    rw [← hsh] at HSH HF3 hSH4
    obtain ⟨ab, hab⟩ : ∃ z, z = a1 + b1 := ⟨_, rfl⟩
    have eab : IntKind.u64.wrap ((a1 : Int) + (b1 : Int)) = (ab : Int) := by rw [IntKind.wrap_u64]; omega
    rw [← hab] at HF2
    have HAB := hideI hab
    obtain ⟨nu, hnu⟩ : ∃ z, z = n + u := ⟨_, rfl⟩
    have enu : (n : Int) + (u : Int) = (nu : Int) := by omega
    have enu2 : IntKind.i64.wrap ((n : Int) + (u : Int)) = (nu : Int) := by rw [enu]; exact IntWalk.i64_in _ (by omega)
    have enu4 : IntKind.i64.wrap (nu : Int) = (nu : Int) := IntWalk.i64_in _ (by omega)
    have enu3 : IntKind.i64.wrap (u : Int) = (u : Int) := IntWalk.i64_in _ (by omega)
    rw [← hnu] at HF3
    have HPP : Hid (P ≤ 18446744073709551616 ∧ 0 < P) := hideI ⟨by omega, hp⟩
    clear hT hr hn ha hb hlo hhi hk hn64 h1n hp hP hQ hl1 hh1 ha1 hb1 hsw hle hsa hsb hsl hsh hab hnu hPK hsm hwr hK hu hv hu20 hP40
    go_enter Tryd.func8, Tryd.ntmps8
    go_upto_region 8 with (first
      | (go_at_call 16; go_must (refine (HM.out _).mono ?_); rintro e w2 ⟨rfl, hw⟩; obtain rfl := hw.symm)
      | (go_at_call 15; go_must (refine (HF.out _).mono ?_); rintro e w1 ⟨x, en, hA, rfl, hb⟩; have HA := hideI hA; replace HB := hideI (HB.out.trans (hb.mono HB.out.size)); clear hA hb))
    go_upto_region 9 with (go_at_call 15; go_must (refine (HF2.out _).mono ?_); rintro e w1 ⟨x2, en2, hA, rfl, hb⟩; rw [HAB.out] at hA; have HA2 := hideI hA; replace HB := hideI (HB.out.trans (hb.mono HB.out.size)); clear hA hb)
    refine wp_region_late (by kernel_rfl) (fun _ => True) [] ?_
    refine wpAnyT_quiet (i := 0) (v := ?_) rfl (by kernel_rfl) (by kernel_rfl) (by kernel_rfl) (fun _ _ _ h => h) (Or.inl ⟨by rfl, ?_⟩) ?_
    rotate_left
    · (intro w; go_simp; try with_reducible rfl)
    try simp only [Act.put, List.setIfInBounds_toArray, List.set_cons_zero, List.set_cons_succ]
    refine wpAnyT_quiet (i := 1) (v := ?_) rfl (by kernel_rfl) (by kernel_rfl) (by kernel_rfl) (fun _ _ _ h => h) (Or.inl ⟨by rfl, ?_⟩) ?_
    rotate_left
    · (intro w; go_simp; try with_reducible rfl)
    try simp only [Act.put, List.setIfInBounds_toArray, List.set_cons_zero, List.set_cons_succ]
    refine wpAnyT_quiet (i := 2) (v := ?_) rfl (by kernel_rfl) (by kernel_rfl) (by kernel_rfl) (fun _ _ _ h => h) (Or.inl ⟨by rfl, ?_⟩) ?_
    rotate_left
    · (intro w; go_simp; try with_reducible rfl)
    try simp only [Act.put, List.setIfInBounds_toArray, List.set_cons_zero, List.set_cons_succ]
    refine wpAnyT_quiet (i := 3) (v := ?_) rfl (by kernel_rfl) (by kernel_rfl) (by kernel_rfl) (fun _ _ _ h => h) (Or.inl ⟨by rfl, ?_⟩) ?_
    rotate_left
    · (intro w; go_simp; try with_reducible rfl)
    try simp only [Act.put, List.setIfInBounds_toArray, List.set_cons_zero, List.set_cons_succ]
    refine wpAnyT_quiet (i := 4) (v := ?_) rfl (by kernel_rfl) (by kernel_rfl) (by kernel_rfl) (fun _ _ _ h => h) (Or.inl ⟨by rfl, ?_⟩) ?_
    rotate_left
    · (intro w; go_simp; try with_reducible rfl)
    try simp only [Act.put, List.setIfInBounds_toArray, List.set_cons_zero, List.set_cons_succ]
    refine wpAnyT_quiet (i := 5) (v := ?_) rfl (by kernel_rfl) (by kernel_rfl) (by kernel_rfl) (fun _ _ _ h => h) (Or.inl ⟨by rfl, ?_⟩) ?_
    rotate_left
    · (intro w; go_simp; try with_reducible rfl)
    try simp only [Act.put, List.setIfInBounds_toArray, List.set_cons_zero, List.set_cons_succ]
    refine wpAnyT_quiet (i := 6) (v := ?_) rfl (by kernel_rfl) (by kernel_rfl) (by kernel_rfl) (fun _ _ _ h => h) (Or.inl ⟨by rfl, ?_⟩) ?_
    rotate_left
    · (intro w; go_simp; try with_reducible rfl)
    try simp only [Act.put, List.setIfInBounds_toArray, List.set_cons_zero, List.set_cons_succ]
    refine wpAnyT_quiet (i := 7) (v := ?_) rfl (by kernel_rfl) (by kernel_rfl) (by kernel_rfl) (fun _ _ _ h => h) (Or.inl ⟨by rfl, ?_⟩) ?_
    rotate_left
    · (intro w; go_simp; try with_reducible rfl)
    try simp only [Act.put, List.setIfInBounds_toArray, List.set_cons_zero, List.set_cons_succ]
    refine wpAnyT_quiet (i := 8) (v := ?_) rfl (by kernel_rfl) (by kernel_rfl) (by kernel_rfl) (fun _ _ _ h => h) (Or.inl ⟨by rfl, ?_⟩) ?_
    rotate_left
    · (intro w; go_simp; try with_reducible rfl)
    try simp only [Act.put, List.setIfInBounds_toArray, List.set_cons_zero, List.set_cons_succ]
    refine wpAnyT_quiet (i := 9) (v := ?_) rfl (by kernel_rfl) (by kernel_rfl) (by kernel_rfl) (fun _ _ _ h => h) (Or.inl ⟨by rfl, ?_⟩) ?_
    rotate_left
    · (intro w; go_simp; try with_reducible rfl)
    try simp only [Act.put, List.setIfInBounds_toArray, List.set_cons_zero, List.set_cons_succ]
    refine wpAnyT_quiet (i := 10) (v := ?_) rfl (by kernel_rfl) (by kernel_rfl) (by kernel_rfl) (fun _ _ _ h => h) (Or.inl ⟨by rfl, ?_⟩) ?_
    rotate_left
    · (intro w; go_simp; try with_reducible rfl)
    try simp only [Act.put, List.setIfInBounds_toArray, List.set_cons_zero, List.set_cons_succ]
    refine wpAnyT_quiet (i := 11) (v := ?_) rfl (by kernel_rfl) (by kernel_rfl) (by kernel_rfl) (fun _ _ _ h => h) (Or.inl ⟨by rfl, ?_⟩) ?_
    rotate_left
    · (intro w; go_simp; try with_reducible rfl)
    try simp only [Act.put, List.setIfInBounds_toArray, List.set_cons_zero, List.set_cons_succ]
    refine wpAnyT_quiet (i := 12) (v := ?_) rfl (by kernel_rfl) (by kernel_rfl) (by kernel_rfl) (fun _ _ _ h => h) (Or.inl ⟨by rfl, ?_⟩) ?_
    rotate_left
    · (intro w; go_simp; try with_reducible rfl)
    try simp only [Act.put, List.setIfInBounds_toArray, List.set_cons_zero, List.set_cons_succ]
    refine wpAnyT_quiet (i := 13) (v := ?_) rfl (by kernel_rfl) (by kernel_rfl) (by kernel_rfl) (fun _ _ _ h => h) (Or.inl ⟨by rfl, ?_⟩) ?_
    rotate_left
    · (intro w; go_simp; try with_reducible rfl)
    try simp only [Act.put, List.setIfInBounds_toArray, List.set_cons_zero, List.set_cons_succ]
    refine wpAnyT_quiet (i := 14) (v := ?_) rfl (by kernel_rfl) (by kernel_rfl) (by kernel_rfl) (fun _ _ _ h => h) (Or.inl ⟨by rfl, ?_⟩) ?_
    rotate_left
    · (intro w; go_simp; try with_reducible rfl)
    try simp only [Act.put, List.setIfInBounds_toArray, List.set_cons_zero, List.set_cons_succ]
    refine wpAnyT_ready (rs := [15]) (by kernel_rfl) (by simp) ?_
    refine AllReadyT.cons rfl (fun K hK => ?_) ?_
    · -- 15 call 15
      go_simp
      try simp only [hSH1, hSH2, hSH3, hSH4, enu4]
      refine (HF3.out _).mono ?_
      rintro e w5 ⟨x3, en3, hA, rfl, hb⟩
      replace HB := hideI (HB.out.drew.trans (hb.mono HB.out.size))
      obtain ⟨rfl, rfl⟩ := (Ans.of_iff HSH.out HA.out).one hA
      clear hb hA
      refine hK.out _ _ (fun _ _ => trivial) ?_
      clear hK K
      try simp only [Act.put, List.setIfInBounds_toArray, List.set_cons_zero, List.set_cons_succ]
      refine wpAnyT_quiet (i := 16) (v := ?_) rfl (by kernel_rfl) (by kernel_rfl) (by kernel_rfl) (fun _ _ _ h => h) (Or.inl ⟨by rfl, ?_⟩) ?_
      rotate_left
      · (intro w; go_simp; try with_reducible rfl)
      try simp only [Act.put, List.setIfInBounds_toArray, List.set_cons_zero, List.set_cons_succ]
      refine wpAnyT_quiet (i := 17) (v := ?_) rfl (by kernel_rfl) (by kernel_rfl) (by kernel_rfl) (fun _ _ _ h => h) (Or.inl ⟨by rfl, ?_⟩) ?_
      rotate_left
      · (intro w; go_simp; try with_reducible rfl)
      try simp only [Act.put, List.setIfInBounds_toArray, List.set_cons_zero, List.set_cons_succ]
      refine wpAnyT_quiet (i := 18) (v := ?_) rfl (by kernel_rfl) (by kernel_rfl) (by kernel_rfl) (fun _ _ _ h => h) (Or.inl ⟨by rfl, ?_⟩) ?_
      rotate_left
      · (intro w; go_simp; try with_reducible rfl)
      try simp only [Act.put, List.setIfInBounds_toArray, List.set_cons_zero, List.set_cons_succ]
      refine wpAnyT_quiet (i := 19) (v := ?_) rfl (by kernel_rfl) (by kernel_rfl) (by kernel_rfl) (fun _ _ _ h => h) (Or.inl ⟨by rfl, ?_⟩) ?_
      rotate_left
      · (intro w; go_simp; try with_reducible rfl)
      try simp only [Act.put, List.setIfInBounds_toArray, List.set_cons_zero, List.set_cons_succ]
      refine wpAnyT_quiet (i := 20) (v := ?_) rfl (by kernel_rfl) (by kernel_rfl) (by kernel_rfl) (fun _ _ _ h => h) (Or.inl ⟨by rfl, ?_⟩) ?_
      rotate_left
      · (intro w; go_simp; try with_reducible rfl)
      try simp only [Act.put, List.setIfInBounds_toArray, List.set_cons_zero, List.set_cons_succ]
      refine wpAnyT_done (by kernel_rfl) ?_ _
      clear hSH1 hSH2 hSH3 hSH4 enu4
      rcases ans_or HA.out with ⟨rfl, hf⟩ | ⟨rfl, rfl, hf⟩
      · rcases Nat.eq_zero_or_pos x with hx0 | hx0
        · subst hx0
          clear hf
          go_wp2_with (go_at_call 12; go_must (refine (Mo.awake_any _ (HT.out.keep HB.out hT0)).mono ?_); rintro e w2 ⟨rfl, hb⟩; replace HB := hideI (HB.out.trans (hb.mono HB.out.size)); clear hb)
          go_ret
          exact ⟨rfl, HB.out⟩
        · obtain ⟨rfl, rfl⟩ := ans_later hf hx0 HA2.out
          have hxp : ¬ x = 0 := by omega
          have hx64 := First.low hf HPP.out
          have e9 : IntKind.u64.wrap ((x : Int) - 1) = ((x - 1 : Nat) : Int) := by rw [IntKind.wrap_u64]; omega
          obtain ⟨x1, hx1⟩ : ∃ z, z = x - 1 := ⟨_, rfl⟩
          rw [← hx1] at e9
          rw [← hx1]
          clear hf hx0 hx64 hx1
          go_wp2_with (go_at_call 12; go_must (refine (Mo.awake_any _ (HT.out.keep HB.out hT0)).mono ?_); rintro e w2 ⟨rfl, hb⟩; replace HB := hideI (HB.out.trans (hb.mono HB.out.size)); clear hb)
          go_ret
          exact ⟨by simp, HB.out⟩
      · have hg9 := ans_never hf HA2.out
        subst hg9
        clear hf
        go_wp2_with (go_at_call 12; go_must (refine (Mo.awake_any _ (HT.out.keep HB.out hT0)).mono ?_); rintro e w2 ⟨rfl, hb⟩; replace HB := hideI (HB.out.trans (hb.mono HB.out.size)); clear hb)
        go_ret
        exact ⟨rfl, HB.out⟩
    · exact AllReadyT.nil

set_option maxRecDepth 100000 in
theorem lifted (os : Os) (started : os.Started) (H : Type) (enc : TypeId × Value → H) :
    ReturnsInHanded {} Tryd.checked os 8 .any (fun w args => (Rows.modularLaterSpec.pre enc Tryd.prog Tryd.f8 Rows.modularLaterRow.domain false w args ∧ laidMetH Tryd.prog Rows.modularLaterRow.laid w) ∧ sizedMet enc Tryd.prog Tryd.f8 (OpenSpec.ofChange Rows.modularLaterSpec) false w args) (Rows.modularLaterSpec.post enc Tryd.prog Tryd.f8 false true false false) := by
  refine returnsInHanded_of_change_and (C := Tryd.checked) (X := fun w _ => laidMetH Tryd.prog Rows.modularLaterRow.laid w) (fun _ _ _ hh h => h.of_heap hh) own started (by kernel_rfl) Tryd.func8
    (ChangeSpec.witness_shaped (enc := enc) (C := Tryd.checked) (os := os) (X := fun w _ => laidMetH Tryd.prog Rows.modularLaterRow.laid w) false (World.laidAll Tryd.prog os Rows.modularLaterRow.laid) #[.int .u64 0, .int .u64 0, .int .u64 0, .int .u64 0, .int .u8 0, .int .u8 0] 8 (World.laidAll_os _ _ _)
      (World.shaped_of_ZipB (by kernel_rfl) (by kernel_rfl)) (by kernel_rfl) (by kernel_rfl) (by kernel_rfl)
      (by rw [MakeChecks.laidMetH_plain _ _ _ (by kernel_rfl)]; exact laidMet_laidAll _ (by kernel_rfl) (by kernel_rfl))) ?_
  intro W base args ds gs before hval0 hW _ hsz hL _
  have hT : Tab W := tab_of rfl hL (fun w => MakeChecks.laidMetH_plain _ _ _ (by kernel_rfl))
  have hval : ∀ (j : Nat) t v, Tryd.f8.params[j]? = some t → args[j]? = some v → Value.okWide Tryd.prog W .any base t v := hval0
  have hW' := hW
  obtain ⟨p, q, hA0, hV, rfl, hfz, hnd⟩ := hW
  have hA : DataW.TrodAll enc Tryd.prog W 0 (fun _ => true) true Tryd.f8.params.toList args.toList ds p := hA0
  rw [Tryd.params8] at hA hval
  obtain ⟨v0, vs0, d0, ds0, p0, q0, hargs, rfl, rfl, h0, r0⟩ := trodAll_cons hA
  obtain ⟨v1, vs1, d1, ds1, p1, q1, rfl, rfl, rfl, h1, r1⟩ := trodAll_cons r0
  obtain ⟨v2, vs2, d2, ds2, p2, q2, rfl, rfl, rfl, h2, r2⟩ := trodAll_cons r1
  obtain ⟨v3, vs3, d3, ds3, p3, q3, rfl, rfl, rfl, h3, r3⟩ := trodAll_cons r2
  obtain ⟨v4, vs4, d4, ds4, p4, q4, rfl, rfl, rfl, h4, r4⟩ := trodAll_cons r3
  obtain ⟨v5, vs5, d5, ds5, p5, q5, rfl, rfl, rfl, h5, r5⟩ := trodAll_cons r4
  obtain ⟨rfl, rfl, rfl⟩ := trodAll_nil r5
  obtain rfl : args = #[v0, v1, v2, v3, v4, v5] := by cases args; simp_all
  obtain ⟨rfl, rfl⟩ := trodVars_none hV
  obtain ⟨x0, rfl, _, _, hx0⟩ := open_int Tryd.underlying27 (hval 0 27 v0 rfl rfl) h0
  obtain ⟨y0, rfl, hl0⟩ := wf_u64 hx0
  obtain ⟨x1, rfl, _, _, hx1⟩ := open_int Tryd.underlying27 (hval 1 27 v1 rfl rfl) h1
  obtain ⟨y1, rfl, hl1⟩ := wf_u64 hx1
  obtain ⟨x2, rfl, _, _, hx2⟩ := open_int Tryd.underlying27 (hval 2 27 v2 rfl rfl) h2
  obtain ⟨y2, rfl, hl2⟩ := wf_u64 hx2
  obtain ⟨x3, rfl, _, _, hx3⟩ := open_int Tryd.underlying27 (hval 3 27 v3 rfl rfl) h3
  obtain ⟨y3, rfl, hl3⟩ := wf_u64 hx3
  obtain ⟨x4, rfl, _, _, hx4⟩ := open_int Tryd.underlying5 (hval 4 5 v4 rfl rfl) h4
  obtain ⟨y4, rfl, hl4⟩ := wf_u8 hx4
  obtain ⟨x5, rfl, _, _, hx5⟩ := open_int Tryd.underlying5 (hval 5 5 v5 rfl rfl) h5
  obtain ⟨y5, rfl, hl5⟩ := wf_u8 hx5
  clear hA0 hval0
  refine (walk y0 y1 y2 y3 y4 y5 W hT hl0 hl1 hl2 hl3 hl4 hl5).mono fun e W' ⟨he, hg⟩ => ?_
  subst he
  exact ⟨_, rfl, law_post (by kernel_rfl) hW' rfl (by kernel_rfl) Tryd.underlying4 rfl rfl rfl (by rw [Tryd.params8]; decide +kernel) hg⟩

theorem over : Rows.modularLaterRow.holds Tryd.pinned (OpenSpec.ofChange Rows.modularLaterSpec) :=
  OpenClaim.holds_of_wide 8 Tryd.f8 rfl rfl rfl rfl rfl rfl rfl ⟨rfl, rfl, rfl, rfl, rfl⟩ rfl rfl rfl rfl rfl (by kernel_rfl) Tryd.func8 (by kernel_rfl)
    (of_decide_eq_true (by kernel_rfl)) (by unfold Func.isWrapper; first | (rw [if_pos (by decide +kernel)]; kernel_rfl) | (rw [if_neg (by decide +kernel)]; exact ⟨rfl, rfl⟩))
    (fun os started H enc _ => lifted os started H enc)

theorem proved : Rows.ModularLaterCardSaid :=
  Claim7.holds_tied_plain_at .later [] [.data] true Rows.modularLaterCard.stood.harness false
    over (fun _ h => by cases h) (by kernel_rfl) (fun _ h => by cases h) modularLater_row_tie rfl ⟨rfl, rfl⟩ (by kernel_rfl) rfl
    (fun f fn hf hfn => by
      obtain rfl : f = 8 := Option.some.inj ((show Tryd.prog.funcNamed "strake/strakelaw13.ModularLater" = some 8 by kernel_rfl).symm.trans hf) |>.symm
      obtain rfl : fn = Tryd.f8 := (Option.some.inj (Tryd.func8.symm.trans hfn)).symm
      exact ⟨by kernel_rfl, fun j t ht => by
        rw [Tryd.params8] at ht
        have hm : t ∈ [27, 27, 27, 27, 5, 5] := by simpa using Array.mem_of_getElem? ht
        have hall : ([27, 27, 27, 27, 5, 5].all fun u => !Tryd.prog.wantsStandIn u) = true := by kernel_rfl
        exact (show Tryd.prog.wantsStandIn t = false by simpa using List.all_eq_true.1 hall t hm)⟩)
    (by kernel_rfl)
#print axioms proved
end Go.Proofs.YtidebjcnmabggaaDoor.modularLater
