/- defineParams: the parameters' types are written down. -/
import Derived.Test.YtclbhbnidodmdaaSize
namespace Go.Proofs.Ytclbhbnidodmdaa
open Go.RowKit Go.Maps

theorem paramDefs_snoc (l : List Int) (t : Int) : ∀ j, paramDefs j (l ++ [t]) = paramDefs j l ++ [(((j + l.length : Nat) : Int), t)] := by
  induction l with
  | nil => intro j; rfl
  | cons a l ih =>
    intro j
    show _ :: paramDefs (j + 1) (l ++ [t]) = _ :: (paramDefs (j + 1) l ++ _)
    rw [ih (j + 1)]
    simp only [List.length_cons]
    rw [show j + 1 + l.length = j + (l.length + 1) from by omega]

theorem paramDefs_len (l : List Int) : ∀ j, (paramDefs j l).length = l.length := by
  induction l with
  | nil => intro j; rfl
  | cons a l ih => intro j; simp [paramDefs, ih]

theorem paramDefs_at (l : List Int) : ∀ (j : Nat) (k : Int), (j + l.length : Nat) ≤ k → (paramDefs j l).at k = none := by
  induction l with
  | nil => intro j k _; rfl
  | cons a l ih =>
    intro j k h
    simp only [List.length_cons] at h
    have := ih (j + 1) k (by omega)
    unfold Defs.at at this ⊢
    rw [paramDefs, List.find?_cons]
    rw [show ((j : Int) == k) = false from by simp; omega]
    exact this

def paramsStep (f : FuncM) : Option Defs := if f.params.all isTypeB then some (paramDefs 0 f.params) else none

theorem isType_cases {t : Int} (h : isTypeB t = true) : t = 1 ∨ t = 2 := by
  unfold isTypeB at h
  simpa using h

set_option maxHeartbeats 1000000 in
theorem params_any (f : FuncM) (B M : Nat) (pv av cv bv : Value) (w : World) (hpv : Ints w B pv f.params) (hBM : B ≤ M) (hM : MapIs w M []) (hp : f.params.length ≤ 16) :
    Calls Try.prog 95 #[.agg #[pv, av, cv, bv, .map (some M)]] w (Defines (paramsStep f) M w) := by
  have hMl := hM.lt
  have HM := hideI hM
  obtain ⟨P, c, rfl, hbm, hbx⟩ := hpv
  have HX := hideI hbx
  clear hbx hM
  go_enter Try.func95, Try.ntmps95
  go_wp2
  obtain ⟨W0, hW0⟩ : ∃ W0 : World, W0 = w.alloc (.cells #[.slice P f.params.length c, av, cv, bv, .map (some M)] 116) := ⟨_, rfl⟩
  rw [← hW0]
  have HW0 := hideI hW0
  clear hW0
  go_loopw [9] (fun i wr => ∃ k : Nat, k ≤ f.params.length ∧ i = .int .i64 k ∧ (f.params.take k).all isTypeB = true ∧ MapIs wr M (paramDefs 0 (f.params.take k)) ∧ W0.grownBy wr (some M)) (fun i _ => f.params.length - (intOf i).toNat)
  case atStart => exact ⟨0, Nat.zero_le _, rfl, rfl, by rw [HW0.out]; exact HM.out.alloc _, World.grownBy.refl W0 _⟩
  case round =>
    obtain ⟨k, hk, rfl, ht, hMd, hg⟩ := hrel
    have hg' := hg
    rw [HW0.out] at hg'
    have hx : ∀ o, wr.cell? ⟨w.heap.size, o, none⟩ = (#[.slice P f.params.length c, av, cv, bv, .map (some M)] : Array Value)[o]? := row_cells (heap_alloc_new w _) (hg'.block _ (by simp) (by simp; omega))
    have hks : Keeps B w wr := ((Keeps.refl w).alloc (by omega) _).trans (Keeps.of_grown hg' hBM (by simp; omega))
    have HK := hideI hks
    have HG := hideI hg
    have HT' := hideI ht
    obtain ⟨D, hown, hD, hwd, hat⟩ := hMd
    have HAT := hideI hat
    have HWD := hideI hwd
    clear hg' hks hg ht hat hwd
    by_cases hlt : k < f.params.length
    · obtain ⟨b, off, rfl, hb, hc0⟩ := HX.out k hlt
      obtain ⟨t, ht⟩ : ∃ t, f.params[k] = t := ⟨_, rfl⟩
      have hc := (HK.out b (off + k) hb).trans hc0
      rw [getD_of hlt, ht] at hc
      have HTT := hideI ht
      clear hc0 ht
      cases c1 : isTypeB t
      · have HC := hideI c1
        go_wp2_with (go_at_call 103; refine (isType_any _ _).mono ?_; rintro e w' ⟨rfl, rfl⟩)
        go_ret
        have hno : paramsStep f = none := by
          unfold paramsStep
          rw [if_neg]
          intro h
          have := List.all_eq_true.1 h _ (List.getElem_mem hlt)
          rw [HTT.out, HC.out] at this
          cases this
        exact defines_end (by rw [hno]; rfl) (by have := HG.out; rw [HW0.out] at this; exact (World.grownBy_alloc _ _ _).trans_grown this) (by rw [hno]; simp)
      · have HC := hideI c1
        have hI : I64 t := by rcases isType_cases c1 with rfl | rfl <;> (unfold I64; decide)
        have hIk : I64 k := by unfold I64; exact WalkArith.wf_i64 (by omega)
        go_wp2_with (first
          | (go_at_call 103; refine (isType_any _ _).mono ?_; rintro e w' ⟨rfl, rfl⟩)
          | (at_mapUpdate; refine wpList_mapUpdate_own _ rfl _ _ _ 114 rfl 3 3 lawInt Try.underlying114 _ M _ _ rfl hown (by unfold maxLen; rw [paramDefs_len, List.length_take]; omega) _ _ _ rfl rfl (keyOf_int_mk Try.underlying3 hIk) _ [] (plainElem_int Try.underlying3 hI) ?_; intro w1 hown1 hgrow1))
        go_roundw
        case rel =>
          refine ⟨k + 1, by omega, by go_num, by rw [all_take_succ _ _ _ hlt, HT'.out, HTT.out, HC.out]; rfl, ?_, HG.out.trans_grown hgrow1⟩
          rw [List.take_succ_eq_append_getElem hlt, HTT.out, paramDefs_snoc, List.length_take, Nat.min_eq_left (by omega), Nat.zero_add]
          exact MapIs.put hown1 hD HWD.out hIk hI (paramDefs_at _ _ _ (by rw [List.length_take]; omega)) HAT.out
        case measure => simp [intOf]; omega
    · go_wp2
      go_ret
      have hall : f.params.all isTypeB = true := by have := HT'.out; rwa [List.take_of_length_le (by omega)] at this
      have hyes : paramsStep f = some (paramDefs 0 f.params) := by unfold paramsStep; rw [if_pos hall]
      refine defines_end (by rw [hyes]; rfl) (by have := HG.out; rw [HW0.out] at this; exact (World.grownBy_alloc _ _ _).trans_grown this) ?_
      intro ds h
      rw [hyes] at h
      injection h with h
      subst h
      rw [List.take_of_length_le (by omega)] at hown
      have h1 := HWD.out
      have h2 := HAT.out
      rw [List.take_of_length_le (by omega)] at h1 h2
      exact ⟨D, hown, hD, h1, h2⟩

end Go.Proofs.Ytclbhbnidodmdaa
