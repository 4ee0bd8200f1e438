/- What is proved: for every function f and every list of numbers, in whatever memory they lie, DomMeets answers true: Meet answers as the definition of dominance says, of the first 200 of the list. No condition. -/
import Derived.Test.YtclbhbnidodmdaaRefMeet
import Derived.Test.YtclbhbnidodmdaaAwake4
import Derived.Test.YtclbhbnidodmdaaOpen
import Derived.Test.YtclbhbnidodmdaaLaw
namespace Go.Proofs.Ytclbhbnidodmdaa.domMeets
open Go.ChangeShapes Go.WideShapes Go.ChangeAt Go.RowKit

theorem over_bool (bs : List BlockM) (o : List Nat) : ∃ G : Nat → Nat → Bool, ∀ a b, G a b = true ↔ OverP bs o a b := by
  have h : ∀ p : Prop, ∃ r : Bool, r = true ↔ p := fun p => by
    by_cases h : p
    · exact ⟨true, by simp [h]⟩
    · exact ⟨false, by simp [h]⟩
  exact ⟨fun a b => Classical.choose (h (OverP bs o a b)), fun a b => Classical.choose_spec (h (OverP bs o a b))⟩

/-- a list that is handed in -/
def ListArg (w : World) (lv : Value) (L : List Int) : Prop := ∃ A c, lv = .slice A L.length c ∧ L.length ≤ c ∧ Ints w w.heap.size lv L

def SomeRes (m : Int) (e0 : Int) (w : World) (e : Ending) (w' : World) : Prop := e = .returned (.tuple #[.int .i64 m, .int .i64 e0]) ∧ Below w.heap.size w w'

/-- what both calls answer, one behind the other -/
theorem two_meets (f : FuncM) (B : Nat) (pv bv : Value) (w : World) (L : List Int) (A : Option Addr) (n c : Nat) (hpv : Ints w B pv f.params) (hbv : BlocksR w B bv f.blocks) (hB : B ≤ w.heap.size) (hid : ∀ u ∈ usesM f, I64 u.1) (hn : L.length = n) (hc : n ≤ c) (hL : Ints w B (.slice A n c) L) :
    Calls Try.prog 37 #[.agg #[pv, .int .i64 f.arrays, .int .i64 f.cells, bv], .slice A n c] w fun e w1 => ∃ m e0, SomeRes m e0 w e w1 ∧
      ∀ W, Below w1.heap.size w1 W → Calls Try.prog 38 #[.agg #[pv, .int .i64 f.arrays, .int .i64 f.cells, bv], .slice A n c] W (SomeRes m e0 W) := by
  by_cases h0 : (lookM f).1 = 0
  · rcases Nat.eq_zero_or_pos n with hz | hz
    · subst hz
      refine (domMeet_nil f B pv bv w hpv hbv hB hid A c h0).mono ?_
      rintro e w1 ⟨rfl, hb⟩
      refine ⟨0, 1, ⟨rfl, hb⟩, fun W hW => ?_⟩
      have hk : Below w.heap.size w W := hb.trans (hW.mono hb.size)
      exact (refMeet_nil f B pv bv W (hpv.keeps (Keeps.of_below (hk.mono hB))) (hbv.keeps (Keeps.of_below (hk.mono hB))) (Nat.le_trans hB hk.size) A c h0).mono fun e w2 ⟨h1, h2⟩ => ⟨h1, h2⟩
    · have hA : ∃ g off, A = some ⟨g, off, none⟩ := by
        obtain ⟨A2, c2, e2, _, h⟩ := hL
        cases e2
        obtain ⟨b, off, e3, _⟩ := h 0 (by omega)
        exact ⟨b, off, e3⟩
      obtain ⟨g, off, rfl⟩ := hA
      subst hn
      refine (domMeet_some f B pv bv w hpv hbv hB hid L B g off c h0 hL hB hz hc).mono ?_
      rintro e w1 ⟨o, ho, ⟨pl, par, hO, hD⟩, hcase⟩
      obtain ⟨G, hG⟩ := over_bool f.blocks o
      rcases hcase with ⟨hbad, rfl, hb⟩ | ⟨hall, m, rfl, hmo, hmm, _, hb⟩
      · refine ⟨0, 9, ⟨rfl, hb⟩, fun W hW => ?_⟩
        have hk : Below w.heap.size w W := hb.trans (hW.mono hb.size)
        refine (refMeet_some f B pv bv W (hpv.keeps (Keeps.of_below (hk.mono hB))) (hbv.keeps (Keeps.of_below (hk.mono hB))) (Nat.le_trans hB hk.size) L B g off c L.length o pl par G 0 h0 (hL.keep (hk.mono hB)) (Nat.le_trans hB hk.size) rfl hz ho hO hD hG ?_).mono ?_
        · intro h
          obtain ⟨x, hx, h1⟩ := hbad
          rw [h x hx] at h1
          cases h1
        · rintro e w2 ⟨h1, _, h3⟩
          exact ⟨h1 hbad, h3⟩
      · refine ⟨m, 0, ⟨rfl, hb⟩, fun W hW => ?_⟩
        have hk : Below w.heap.size w W := hb.trans (hW.mono hb.size)
        refine (refMeet_some f B pv bv W (hpv.keeps (Keeps.of_below (hk.mono hB))) (hbv.keeps (Keeps.of_below (hk.mono hB))) (Nat.le_trans hB hk.size) L B g off c L.length o pl par G m h0 (hL.keep (hk.mono hB)) (Nat.le_trans hB hk.size) rfl hz ho hO hD hG ?_).mono ?_
        · intro _
          exact ⟨hmo, hmm⟩
        · rintro e w2 ⟨_, h2, h3⟩
          exact ⟨h2 hall, h3⟩
  · refine (domMeet_no f B pv bv w hpv hbv hB hid _ h0).mono ?_
    rintro e w1 ⟨rfl, hb⟩
    refine ⟨0, (lookM f).1, ⟨rfl, hb⟩, fun W hW => ?_⟩
    have hk : Below w.heap.size w W := hb.trans (hW.mono hb.size)
    exact (refMeet_no f B pv bv W (hpv.keeps (Keeps.of_below (hk.mono hB))) (hbv.keeps (Keeps.of_below (hk.mono hB))) (Nat.le_trans hB hk.size) _ h0).mono fun e w2 ⟨h1, h2⟩ => ⟨h1, h2⟩

set_option maxRecDepth 100000 in
set_option maxHeartbeats 2000000 in
theorem walk (f : FuncM) (pv bv lv : Value) (L : List Int) (w : World) (hF : FnIn w f pv bv) (hL : ListArg w lv L) :
    Calls Try.prog 11 #[.agg #[pv, .int .i64 f.arrays, .int .i64 f.cells, bv], lv] w fun e w' => e = .returned (.bool true) ∧ Below w.heap.size w w' := by
  have HF := hideI hF
  have HID := hideI (uses_i64 hF.ok)
  obtain ⟨P, pc, hpv, _⟩ := hF.par
  obtain ⟨A, cc, hbv, _⟩ := hF.blk
  obtain ⟨LA, lc, rfl, hlc, hints⟩ := hL
  have HINTS := hideI hints
  subst hpv hbv
  have hlm : L.length ≤ 140737488351232 := by obtain ⟨_, _, _, h, _⟩ := hints; exact h
  have HB : Hid (Below w.heap.size w (w.alloc (.cells #[.slice P f.params.length pc, .int .i64 f.arrays, .int .i64 f.cells, .slice A f.blocks.length cc] 25))) := (Below.refl _ w).alloc (Nat.le_refl _) _
  have HX := hideI (heap_alloc_new w (.cells #[.slice P f.params.length pc, .int .i64 f.arrays, .int .i64 f.cells, .slice A f.blocks.length cc] 25))
  obtain ⟨n0, hn0⟩ : ∃ n0, n0 = L.length := ⟨_, rfl⟩
  rw [← hn0] at hlc hlm HINTS ⊢
  by_cases h200 : 200 < n0
  · have hd : decide ((200 : Int) < (n0 : Int)) = true := decide_eq_true (by omega)
    have HI2 : Hid (Ints w w.heap.size (.slice LA 200 lc) (L.take 200)) := by
      obtain ⟨A2, c2, e2, _, h⟩ := HINTS.out
      cases e2
      have hl : (L.take 200).length = 200 := by rw [List.length_take]; omega
      refine ⟨_, _, by rw [hl], by rw [hl]; omega, fun k hk => ?_⟩
      rw [hl] at hk
      obtain ⟨b, off, e3, hb, hc⟩ := h k (by omega)
      exact ⟨b, off, e3, hb, by rw [hc, List.getElem?_take, if_pos hk]⟩
    have HL2 : Hid ((L.take 200).length = 200) := by show _ = _; rw [List.length_take]; omega
    have hlc2 : 200 ≤ lc := by omega
    clear hF hints hn0 HINTS
    go_enter Try.func11, Try.ntmps11
    go_wp2_with (first
      | (go_at_call 37; go_must (refine (two_meets f w.heap.size _ _ _ (L.take 200) LA 200 lc (HF.out.par.keeps (Keeps.of_below HB.out)) (HF.out.blk.keeps (Keeps.of_below HB.out)) HB.out.size HID.out HL2.out hlc2 (HI2.out.keep HB.out)).mono ?_); rintro e w1 ⟨m, e0, ⟨rfl, hb1⟩, hnext⟩; have HN := hideI hnext; replace HX := hideI ((hb1.block _ (lt_of_heap HX.out)).trans HX.out); have hx := row_cells HX.out rfl; replace HB := hideI (HB.out.trans (hb1.mono HB.out.size)); clear hb1 hnext)
      | (go_at_call 38; go_must (refine (HN.out _ (Below.refl _ _)).mono ?_); rintro e w2 ⟨rfl, hb2⟩; clear hx; replace HB := hideI (HB.out.trans (hb2.mono HB.out.size)); clear hb2)
      | (go_at_call 32; refine (awake4_any _).mono ?_; rintro e w5 ⟨rfl, hb⟩; replace HB := hideI (HB.out.trans (hb.mono HB.out.size)); clear hb))
    go_ret
    exact ⟨by simp, HB.out⟩
  · have hd : decide ((200 : Int) < (n0 : Int)) = false := decide_eq_false (by omega)
    have HL2 : Hid (L.length = n0) := hn0.symm
    clear hF hints hn0
    go_enter Try.func11, Try.ntmps11
    go_wp2_with (first
      | (go_at_call 37; go_must (refine (two_meets f w.heap.size _ _ _ L LA n0 lc (HF.out.par.keeps (Keeps.of_below HB.out)) (HF.out.blk.keeps (Keeps.of_below HB.out)) HB.out.size HID.out HL2.out hlc (HINTS.out.keep HB.out)).mono ?_); rintro e w1 ⟨m, e0, ⟨rfl, hb1⟩, hnext⟩; have HN := hideI hnext; replace HX := hideI ((hb1.block _ (lt_of_heap HX.out)).trans HX.out); have hx := row_cells HX.out rfl; replace HB := hideI (HB.out.trans (hb1.mono HB.out.size)); clear hb1 hnext)
      | (go_at_call 38; go_must (refine (HN.out _ (Below.refl _ _)).mono ?_); rintro e w2 ⟨rfl, hb2⟩; clear hx; replace HB := hideI (HB.out.trans (hb2.mono HB.out.size)); clear hb2)
      | (go_at_call 32; refine (awake4_any _).mono ?_; rintro e w5 ⟨rfl, hb⟩; replace HB := hideI (HB.out.trans (hb.mono HB.out.size)); clear hb))
    go_ret
    exact ⟨by simp, HB.out⟩

set_option maxRecDepth 100000 in
theorem open_list {H : Type} {enc : TypeId × Value → H} {w : World} {ts : List TypeId} {ds : List (DataW H)} {base : Nat} {v : Value} {d : DataW H} {p : List MemPlace} (hok : Value.okWide Try.prog w .any base 22 v) (h : DataW.Trod enc Try.prog w 0 (fun _ => true) true 22 v d p)
    (hsz : (DataW.weightsEach Try.prog ts ds).all (· ≤ reachBytes) = true) {j : Nat} (ht : ts[j]? = some 22) (hd : ds[j]? = some d) : ∃ L, ListArg w v L := by
  obtain ⟨a0, len, cap, rfl⟩ := okWide_slice Try.underlying22 hok
  obtain ⟨fuel, hf⟩ := h
  have hs : Sz 22 d := by
    intro n hn
    have h1 := List.all_eq_true.1 hsz n (DataW.weights_mem_each ht hd n hn)
    rw [decide_eq_true_eq] at h1
    exact h1
  obtain ⟨xs, hxs, _⟩ := rd_ints (x := (d, p)) hf hs
  obtain ⟨A2, c2, e2, r⟩ := id hxs
  have e3 : a0 = A2 ∧ len = xs.length ∧ cap = c2 := by simpa using e2
  obtain ⟨rfl, rfl, rfl⟩ := e3
  refine ⟨xs, _, _, rfl, ?_, hxs⟩
  rcases open_ints Try.underlying22 Try.underlying3 cells3 hf with ⟨hv, _⟩ | ⟨a, len', cap', zs, hv, _, hl, _⟩
  · have hv2 : Value.slice a0 xs.length cap = .slice none 0 0 := by simpa [Value.cells] using hv
    simp only [Value.slice.injEq] at hv2
    omega
  · have hv2 : Value.slice a0 xs.length cap = .slice (some a) len' cap' := by simpa [Value.cells] using hv
    simp only [Value.slice.injEq] at hv2
    omega

set_option maxRecDepth 100000 in
theorem lifted (os : Os) (started : os.Started) (H : Type) (enc : TypeId × Value → H) :
    ReturnsInHanded {} Try.checked os 11 .any (Rows.domMeetsSpec.pre6 enc Try.prog Try.f11 Rows.domMeetsRow.domain false) (Rows.domMeetsSpec.post enc Try.prog Try.f11 false true false false) := by
  refine returnsInHanded_of_change_sized (C := Try.checked) own started (by kernel_rfl) Try.func11
    (ChangeSpec.witness6 (enc := enc) (C := Try.checked) false ⟨#[], #[.agg #[.slice none 0 0, .int .i64 0, .int .i64 0, .slice none 0 0], .slice none 0 0], []⟩ 8 (by kernel_rfl) (by kernel_rfl) (by kernel_rfl) (by kernel_rfl)) ?_
  intro W base args ds gs before hval0 hW hcnd hsz _
  have hval : ∀ (j : Nat) t v, Try.f11.params[j]? = some t → args[j]? = some v → Value.okWide Try.prog W .any base t v := hval0
  have hW' := hW
  obtain ⟨p, q, hA0, hV, rfl, hfz, hnd⟩ := hW
  have hA : DataW.TrodAll enc Try.prog W 0 (fun _ => true) true Try.f11.params.toList args.toList ds p := hA0
  rw [Try.params11] at hA hval
  obtain ⟨v0, vs0, d0, ds0, p0, q0, hargs, rfl, rfl, h0, r0⟩ := trodAll_cons hA
  obtain ⟨v1, vs1, d1, ds1, p1, q1, rfl, rfl, rfl, h1, r1⟩ := trodAll_cons r0
  obtain ⟨rfl, rfl, rfl⟩ := trodAll_nil r1
  obtain rfl : args = #[v0, v1] := by cases args; simp_all
  obtain ⟨rfl, rfl⟩ := trodVars_none hV
  obtain ⟨f, pv, bv, rfl, hF⟩ := open_func (hval 0 25 v0 rfl rfl) h0 hsz (j := 0) rfl rfl
  obtain ⟨L, hL⟩ := open_list (hval 1 22 v1 rfl rfl) h1 hsz (j := 1) rfl rfl
  clear hA0 hval0
  refine (walk f pv bv v1 L W hF hL).mono fun e W' ⟨he, hg⟩ => ?_
  subst he
  exact ⟨_, rfl, law_post (by kernel_rfl) hW' rfl (by kernel_rfl) Try.underlying4 rfl rfl rfl (by rw [Try.params11]; decide +kernel) hg⟩

theorem over : Rows.domMeetsRow.holds Try.pinned (OpenSpec.ofChange Rows.domMeetsSpec) :=
  OpenClaim.holds_of_wide 11 Try.f11 rfl rfl rfl rfl rfl rfl rfl ⟨rfl, rfl, rfl, rfl, rfl⟩ rfl rfl rfl rfl rfl (by kernel_rfl) Try.func11 (by kernel_rfl)
    (of_decide_eq_true (by kernel_rfl)) (by unfold Func.isWrapper; first | (rw [if_pos (by decide +kernel)]; kernel_rfl) | (rw [if_neg (by decide +kernel)]; exact ⟨rfl, rfl⟩))
    (fun os started H enc _ => lifted os started H enc)

theorem proved : Rows.DomMeetsSaid := over
#print axioms proved
end Go.Proofs.Ytclbhbnidodmdaa.domMeets
