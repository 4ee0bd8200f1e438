/- InterpCalc: for every operation and every list of numbers, interp.Calc of at most ten of them answers the number and the error that the reference answers. No condition. -/
import Derived.Test.YtglbepdjahddmaaGreatPkInterpCalc1
namespace Go.Proofs.YtglbepdjahddmaaGreat.interpCalc
open Go.ChangeShapes Go.WideShapes Go.ChangeAt Go.RowKit Go.Maps

theorem ints_take {w : World} {B : Nat} {A : Option Addr} {n c : Nat} {xs : List Int} (h : Ints w B (.slice A n c) xs) {k : Nat} (hk : k ≤ xs.length) : Ints w B (.slice A k c) (xs.take k) := by
  obtain ⟨A2, c2, e, hm, hat⟩ := h
  injection e with e1 _ e3
  subst e1 e3
  refine ⟨A, c, by rw [List.length_take, Nat.min_eq_left hk], by rw [List.length_take]; omega, fun j hj => ?_⟩
  rw [List.length_take] at hj
  obtain ⟨b, off, e, hb, hc⟩ := hat j (by omega)
  exact ⟨b, off, e, hb, by rw [hc, List.getElem?_take, if_pos (by omega)]⟩

set_option maxRecDepth 100000 in
set_option maxHeartbeats 2000000 in
theorem walk_of (op : Int) (v : Value) (xs ys : List Int) (A : Option Addr) (n c m : Nat) (w : World) (hv : v = .slice A n c) (hx : Ints w w.heap.size (.slice A n c) xs) (hnl : n = xs.length) (hcap : n ≤ c) (hm : m = min n 10) (hy : Ints w w.heap.size (.slice A m c) ys) :
    Calls Tryz.prog 5 #[.int .i64 op, v] w fun e w' => e = .returned (.bool true) ∧ Below w.heap.size w w' := by
  subst hv
  have HY := hideI hy
  have HP : Hid (∀ W, Below w.heap.size w W → Calls Tryz.prog 18 #[.int .i64 op, .slice A m c] W (CalcPost op ys W)) := hideI fun W hW => iCalc_any op ys w.heap.size _ W (hy.keeps (Keeps.of_below hW)) hW.size
  have HR : Hid (∀ W, Below w.heap.size w W → Calls Tryz.prog 19 #[.int .i64 op, .slice A m c] W (refPost (calcR op ys) W)) := hideI fun W hW => refCalc_any op ys w.heap.size _ W (hy.keeps (Keeps.of_below hW))
  obtain ⟨r1, r2, hr⟩ : ∃ r1 r2, calcR op ys = (r1, r2) := ⟨_, _, rfl⟩
  unfold CalcPost at HP
  unfold refPost at HR
  rw [hr] at HP HR
  have g1 : (r1 == r1) = true := by simp
  have g2 : (r2 == r2) = true := by simp
  clear hy hr
  by_cases h10 : 10 < n
  · obtain rfl : m = 10 := by omega
    have hc10 : 10 ≤ c := by omega
    obtain ⟨A2, c2, e, _, hat⟩ := hx
    obtain ⟨b, off, e2, _, _⟩ := hat 0 (by omega)
    injection e with e3 _ e5
    subst e3 e5 e2
    clear hm hat hnl
    go_enter Tryz.func5, Tryz.ntmps5
    go_wp2_with (first
      | (go_at_call 18; go_must (refine (HP.out _ (Below.refl _ _)).mono ?_); rintro e w1 ⟨rfl, hb⟩; have HB1 := hideI hb; clear hb)
      | (go_at_call 19; go_must (refine (HR.out _ HB1.out).mono ?_); rintro e w2 ⟨rfl, k, rfl⟩; have HB2 := hideI (below_drewN HB1.out k))
      | (go_at_call 20; refine (awake6_any _).mono ?_; rintro e w5 ⟨rfl, hb⟩; have HB5 := hideI (HB2.out.trans (hb.mono HB2.out.size)); clear hb))
    refine bodyPost_ret (results_tmp rfl _ _ _) (by rfl) ?_
    exact ⟨by simp, HB5.out⟩
  · obtain rfl : m = n := by omega
    clear hm hx hnl
    go_enter Tryz.func5, Tryz.ntmps5
    go_wp2_with (first
      | (go_at_call 18; go_must (refine (HP.out _ (Below.refl _ _)).mono ?_); rintro e w1 ⟨rfl, hb⟩; have HB1 := hideI hb; clear hb)
      | (go_at_call 19; go_must (refine (HR.out _ HB1.out).mono ?_); rintro e w2 ⟨rfl, k, rfl⟩; have HB2 := hideI (below_drewN HB1.out k))
      | (go_at_call 20; refine (awake6_any _).mono ?_; rintro e w5 ⟨rfl, hb⟩; have HB5 := hideI (HB2.out.trans (hb.mono HB2.out.size)); clear hb))
    refine bodyPost_ret (results_tmp rfl _ _ _) (by rfl) ?_
    exact ⟨by simp, HB5.out⟩

theorem walk (op : Int) (v : Value) (xs : List Int) (w : World) (hx : Ints w w.heap.size v xs) (hcap : ∀ A n c, v = .slice A n c → n ≤ c) :
    Calls Tryz.prog 5 #[.int .i64 op, v] w fun e w' => e = .returned (.bool true) ∧ Below w.heap.size w w' := by
  have hx' := hx
  obtain ⟨A, c, hv, _, _⟩ := hx
  subst hv
  refine walk_of op _ xs (xs.take (min xs.length 10)) A xs.length c (min xs.length 10) w rfl hx' rfl (hcap _ _ _ rfl) rfl (ints_take hx' (by omega))

set_option maxRecDepth 100000 in
theorem open_nums {H : Type} {enc : TypeId × Value → H} {w : World} {ts : List TypeId} {ds : List (DataW H)} {base : Nat} {v : Value} {d : DataW H} {p : List MemPlace} (hok : Value.okWide Tryz.prog w .any base 22 v) (h : DataW.Trod enc Tryz.prog w 0 (fun _ => true) true 22 v d p)
    (hsz : (DataW.weightsEach Tryz.prog ts ds).all (· ≤ reachBytes) = true) {j : Nat} (ht : ts[j]? = some 22) (hd : ds[j]? = some d) : ∃ xs, Ints w w.heap.size v xs ∧ ∀ A n c, v = .slice A n c → n ≤ c := by
  obtain ⟨a0, len, cap, rfl⟩ := okWide_slice Tryz.underlying22 hok
  obtain ⟨fuel, hf⟩ := h
  have hs : Sz 22 d := by
    intro n hn
    have h1 := List.all_eq_true.1 hsz n (DataW.weights_mem_each ht hd n hn)
    rw [decide_eq_true_eq] at h1
    exact h1
  obtain ⟨xs, hxs, _⟩ := rd_ints (x := (d, p)) hf hs
  refine ⟨xs, hxs, fun A n c e => ?_⟩
  have e3 : a0 = A ∧ len = n ∧ cap = c := by simpa using e
  obtain ⟨rfl, rfl, rfl⟩ := e3
  rcases open_ints Tryz.underlying22 Tryz.underlying3 cells3 hf with ⟨hv, _⟩ | ⟨a, len', cap', zs, hv, _, hl, _⟩
  · have hv2 : Value.slice a0 len cap = .slice none 0 0 := by simpa [Value.cells] using hv
    simp only [Value.slice.injEq] at hv2
    omega
  · have hv2 : Value.slice a0 len cap = .slice (some a) len' cap' := by simpa [Value.cells] using hv
    simp only [Value.slice.injEq] at hv2
    omega

set_option maxRecDepth 100000 in
theorem lifted (os : Os) (started : os.Started) (H : Type) (enc : TypeId × Value → H) :
    ReturnsInHanded {} Tryz.checked os 5 .any (Rows.interpCalcSpec.pre6 enc Tryz.prog Tryz.f5 Rows.interpCalcRow.domain false) (Rows.interpCalcSpec.post enc Tryz.prog Tryz.f5 false true false false) := by
  refine returnsInHanded_of_change_sized (C := Tryz.checked) own started (by kernel_rfl) Tryz.func5
    (ChangeSpec.witness6 (enc := enc) (C := Tryz.checked) false ⟨#[], #[.int .i64 0, .slice none 0 0], []⟩ 8 (by kernel_rfl) (by kernel_rfl) (by kernel_rfl) (by kernel_rfl)) ?_
  intro W base args ds gs before hval0 hW hcnd hsz _
  have hval : ∀ (j : Nat) t v, Tryz.f5.params[j]? = some t → args[j]? = some v → Value.okWide Tryz.prog W .any base t v := hval0
  have hW' := hW
  obtain ⟨p, q, hA0, hV, rfl, hfz, hnd⟩ := hW
  have hA : DataW.TrodAll enc Tryz.prog W 0 (fun _ => true) true Tryz.f5.params.toList args.toList ds p := hA0
  rw [Tryz.params5] at hA hval
  obtain ⟨v0, vs0, d0, ds0, p0, q0, hargs, rfl, rfl, h0, r0⟩ := trodAll_cons hA
  obtain ⟨v1, vs1, d1, ds1, p1, q1, rfl, rfl, rfl, h1, r1⟩ := trodAll_cons r0
  obtain ⟨rfl, rfl, rfl⟩ := trodAll_nil r1
  obtain rfl : args = #[v0, v1] := by cases args; simp_all
  obtain ⟨rfl, rfl⟩ := trodVars_none hV
  obtain ⟨x0, rfl, hx0, _, _⟩ := open_int Tryz.underlying3 (hval 0 3 v0 rfl rfl) h0
  obtain ⟨xs, hxs, hcap⟩ := open_nums (hval 1 22 v1 rfl rfl) h1 hsz (j := 1) rfl rfl
  clear hA0 hval0
  refine (walk x0 v1 xs W hxs hcap).mono fun e W' ⟨he, hg⟩ => ?_
  subst he
  exact ⟨_, rfl, law_post (by kernel_rfl) hW' rfl (by kernel_rfl) Tryz.underlying4 rfl rfl rfl (by rw [Tryz.params5]; decide +kernel) hg⟩

theorem over : Rows.interpCalcRow.holds Tryz.pinned (OpenSpec.ofChange Rows.interpCalcSpec) :=
  OpenClaim.holds_of_wide 5 Tryz.f5 rfl rfl rfl rfl rfl rfl rfl ⟨rfl, rfl, rfl, rfl, rfl⟩ rfl rfl rfl rfl rfl (by kernel_rfl) Tryz.func5 (by kernel_rfl)
    (of_decide_eq_true (by kernel_rfl)) (by unfold Func.isWrapper; first | (rw [if_pos (by decide +kernel)]; kernel_rfl) | (rw [if_neg (by decide +kernel)]; exact ⟨rfl, rfl⟩))
    (fun os started H enc _ => lifted os started H enc)

theorem proved : Rows.InterpCalcSaid := over
#print axioms proved
end Go.Proofs.YtglbepdjahddmaaGreat.interpCalc
