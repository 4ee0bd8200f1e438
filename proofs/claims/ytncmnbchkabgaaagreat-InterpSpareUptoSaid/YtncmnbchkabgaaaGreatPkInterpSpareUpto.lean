/- InterpSpare, where what it reads is of bulk at most 1048576: for every function and input, an input with missing numbers and arrays laid on, or with more of them than the function asks for, runs as the input itself does. -/
import Derived.Test.YtncmnbchkabgaaaGreatPkInterpSpareUpto18
import Derived.Deep.CondSized
namespace Go.Proofs.YtncmnbchkabgaaaGreat.interpSpareUpto
open Go.ChangeShapes Go.WideShapes Go.ChangeAt Go.RowKit Go.Maps

set_option maxRecDepth 100000 in
theorem open_nums {H : Type} {enc : TypeId × Value → H} {w : World} {ts : List TypeId} {ds : List (DataW H)} {base : Nat} {v : Value} {d : DataW H} {p : List MemPlace} (hok : Value.okWide Tryz.prog w .any base 22 v) (h : DataW.Trod enc Tryz.prog w 0 (fun _ => true) true 22 v d p)
    (hsz : (DataW.weightsEach Tryz.prog ts ds).all (· ≤ reachBytes) = true) {j : Nat} (ht : ts[j]? = some 22) (hd : ds[j]? = some d) : ∃ xs, Ints w w.heap.size v xs ∧ ∀ A n c, v = .slice A n c → n ≤ c := by
  obtain ⟨a0, len, cap, rfl⟩ := okWide_slice Tryz.underlying22 hok
  obtain ⟨fuel, hf⟩ := h
  have hs : Sz 22 d := by
    intro n hn
    have h1 := List.all_eq_true.1 hsz n (DataW.weights_mem_each ht hd n hn)
    rw [decide_eq_true_eq] at h1
    exact h1
  obtain ⟨xs, hxs, _⟩ := rd_ints (x := (d, p)) hf hs
  exact ⟨xs, hxs, rd_cap (x := (d, p)) hf⟩

set_option maxRecDepth 100000 in
theorem lifted (os : Os) (started : os.Started) (H : Type) (enc : TypeId × Value → H) (F : Stop.Interp) :
    ReturnsInHanded {} Tryz.checked os 3 .any ((Rows.OpenSpec.upto Rows.interpSpareSpec).pre6 enc Tryz.prog Tryz.f3 Rows.interpSpareUptoRow.domain false) (((Rows.OpenSpec.upto Rows.interpSpareSpec).at F).post enc Tryz.prog Tryz.f3 false true false false) := by
  refine returnsInHanded_of_cond_sized (C := Tryz.checked) (s := Rows.OpenSpec.upto Rows.interpSpareSpec) (k := Rows.uptoSmall) rfl own started (by kernel_rfl) Tryz.func3
    (OpenSpec.witness (enc := enc) (C := Tryz.checked) (s := Rows.OpenSpec.upto Rows.interpSpareSpec) (k := Rows.uptoSmall) rfl false ⟨#[], #[.agg #[.slice none 0 0, .int .i64 0, .int .i64 0, .slice none 0 0], .agg #[.slice none 0 0, .slice none 0 0], .slice none 0 0], []⟩ 8 (by kernel_rfl) (by kernel_rfl) (by kernel_rfl)
      (x := ([.agg [.nil, .lit (.int .i64 0), .lit (.int .i64 0), .nil], .agg [.nil, .nil], .nil], [], [])) (by kernel_rfl) rfl (by kernel_rfl)) ?_
  intro W base args ds gs before hval0 hW hcnd hk hsz _
  have hval : ∀ (j : Nat) t v, Tryz.f3.params[j]? = some t → args[j]? = some v → Value.okWide Tryz.prog W .any base t v := hval0
  have hW' := hW
  obtain ⟨p, q, hA0, hV, rfl, hfz, hnd⟩ := hW
  have hA : DataW.TrodAll enc Tryz.prog W 0 (fun _ => true) true Tryz.f3.params.toList args.toList ds p := hA0
  rw [Tryz.params3] at hA hval
  obtain ⟨v0, vs0, d0, ds0, p0, q0, hargs, rfl, rfl, h0, r0⟩ := trodAll_cons hA
  obtain ⟨v1, vs1, d1, ds1, p1, q1, rfl, rfl, rfl, h1, r1⟩ := trodAll_cons r0
  obtain ⟨v2, vs2, d2, ds2, p2, q2, rfl, rfl, rfl, h2, r2⟩ := trodAll_cons r1
  obtain ⟨rfl, rfl, rfl⟩ := trodAll_nil r2
  obtain rfl : args = #[v0, v1, v2] := by cases args; simp_all
  obtain ⟨rfl, rfl⟩ := trodVars_none hV
  have hb : Rows.uptoBulkAll ([d0, d1, d2] ++ ([] : List (DataW H))) ≤ 1048576 := of_decide_eq_true hk
  have hb1 : Rows.uptoBulk d1 ≤ 1048576 := Nat.le_trans (bulk_part (by simp)) hb
  have hb2 : Rows.uptoBulk d2 ≤ 1048576 := Nat.le_trans (bulk_part (by simp)) hb
  obtain ⟨f, pv, bv, rfl, hF⟩ := open_func (hval 0 25 v0 rfl rfl) h0 hsz (j := 0) rfl rfl
  obtain ⟨I, av, rv, rfl, hI⟩ := open_input (hval 1 28 v1 rfl rfl) h1 hsz (j := 1) rfl rfl
  obtain ⟨xs, hxs, hcap⟩ := open_nums (hval 2 22 v2 rfl rfl) h2 hsz (j := 2) rfl rfl
  obtain ⟨hl1, hl2⟩ := bulk_input h1 hI
  have hl3 := bulk_nums h2 hxs
  clear hA0 hval0 hb hk
  have hwalk : Calls Tryz.prog 3 #[.agg #[pv, .int .i64 f.arrays, .int .i64 f.cells, bv], .agg #[av, rv], v2] W fun e w' => e = .returned (.bool true) ∧ Below W.heap.size W w' := by
    by_cases hc : I.args.length < f.params.length ∨ (I.arrs.length : Int) < f.arrays
    · exact spare_narrow f I pv bv av rv v2 W hF hI hc (Nat.le_trans hl1 hb1) (Nat.le_trans hl2 hb1)
    · exact spare_wide f I xs pv bv av rv v2 W hF hI hxs hcap ⟨by omega, by omega⟩ (Nat.le_trans hl1 hb1) (Nat.le_trans hl2 hb1) (Nat.le_trans hl3 hb2)
  refine hwalk.mono fun e W' ⟨he, hg⟩ => ?_
  subst he
  exact ⟨_, rfl, law_post (s := Rows.interpSpareSpec) (by kernel_rfl) hW' rfl (by kernel_rfl) Tryz.underlying4 rfl rfl rfl (by rw [Tryz.params3]; decide +kernel) hg⟩

theorem over : Rows.interpSpareUptoRow.holds Tryz.pinned (Rows.OpenSpec.upto Rows.interpSpareSpec) :=
  OpenClaim.holds_of_cond 3 Tryz.f3 rfl rfl rfl rfl rfl rfl rfl ⟨rfl, rfl, rfl, rfl, rfl⟩ rfl rfl rfl rfl rfl (by kernel_rfl) Tryz.func3 (by kernel_rfl)
    (of_decide_eq_true (by kernel_rfl)) (by unfold Func.isWrapper; first | (rw [if_pos (by decide +kernel)]; kernel_rfl) | (rw [if_neg (by decide +kernel)]; exact ⟨rfl, rfl⟩))
    (fun os started H enc _ F => lifted os started H enc F)

theorem proved : Rows.InterpSpareUptoSaid := over
#print axioms proved
end Go.Proofs.YtncmnbchkabgaaaGreat.interpSpareUpto
