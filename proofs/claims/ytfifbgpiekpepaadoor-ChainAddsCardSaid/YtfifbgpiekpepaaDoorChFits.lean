/- chain.Fit, whole. -/
import Derived.Test.YtfifbgpiekpepaaDoorChFit
namespace Go.Proofs.YtfifbgpiekpepaaDoor.Chn
open Go.RowKit

set_option maxRecDepth 100000 in
theorem fit_none (A : Option Addr) (c : Nat) (w : World) : Calls Tryd.prog 31 #[.slice A 0 c] w fun e w' => e = .returned (.tuple #[]) ∧ w' = w := by
  go_enter Tryd.func31, Tryd.ntmps31
  go_wp2
  go_loopw [6] (fun u6 wv => u6 = .int .i64 0 ∧ wv = w) (fun _ _ => 0)
  case atStart => exact ⟨rfl, rfl⟩
  case round =>
    obtain ⟨rfl, hw⟩ := hrel
    obtain rfl := hw.symm
    go_wp2
    exact bodyPost_end (results_none rfl _ _ _) rfl ⟨rfl, rfl⟩

/-- what chain.Fit answers -/
def fitAM (xs : List Int) : Option (List Int) := if 16 < xs.length then none else ansM (trimM (fitW xs.length xs))

set_option maxRecDepth 100000 in
set_option maxHeartbeats 1000000 in
theorem chFit_any (xs : List Int) (B : Nat) (v : Value) (w : World) (hx : CI w B v xs) :
    Calls Tryd.prog 22 #[v] w (AnsE w (fitAM xs)) := by
  have HX := hideI hx.1
  obtain ⟨⟨A, c, rfl, _, _⟩, _⟩ := hx
  by_cases hl : 16 < xs.length
  · have hd : decide (16 < xs.length) = true := by simpa using hl
    have HL : Hid (fitAM xs = none) := hideI (if_pos hl)
    clear hl
    go_enter Tryd.func22, Tryd.ntmps22
    go_wp2_with (go_at_call 28; go_must (refine (tooLong_any _ _ _ _).mono ?_); rintro e w2 ⟨rfl, rfl⟩; rw [hd])
    refine bodyPost_ret (results_tmp2 rfl _ _ _) (by rfl) ?_
    rw [HL.out]
    exact AnsE.no (Below.refl _ _)
  · have hd : decide (16 < xs.length) = false := by simpa using hl
    have HL := hideI (show xs.length ≤ 16 by omega)
    have HE : Hid (fitAM xs = ansM (trimM (fitW xs.length xs))) := hideI (if_neg hl)
    clear hl
    go_enter Tryd.func22, Tryd.ntmps22
    go_upto_region 4 with (first
      | (go_at_call 28; go_must (refine (tooLong_any _ _ _ _).mono ?_); rintro e w2 ⟨rfl, rfl⟩; rw [hd])
      | (go_at_call 33; go_must (refine (own_any xs B _ _ HX.out (by have := HL.out; omega)).mono ?_); rintro e w3 ⟨v3, rfl, hv3, hb3⟩; have HV3 := hideI hv3; have HB3 := hideI hb3; clear hv3 hb3))
    obtain ⟨A3, c3, hv3, hr3⟩ := HV3.out.read
    subst hv3
    clear hr3
    have HFI : Hid (Calls Tryd.prog 31 #[.slice A3 xs.length c3] w3 fun e w' => e = .returned (.tuple #[]) ∧ CI w' w'.heap.size (.slice A3 xs.length c3) (fitW xs.length xs) ∧ Below w2.heap.size w3 w') := by
      cases A3 with
      | none =>
        have h0 : xs = [] := by
          rcases HV3.out.2 with ⟨_, e0⟩ | ⟨g, cap, cur, e, _⟩
          · exact List.eq_nil_of_length_eq_zero e0
          · cases e
        subst h0
        exact hideI ((fit_none none c3 w3).mono fun e w' ⟨h1, h2⟩ => ⟨h1, by
          subst h2
          exact ⟨⟨none, c3, rfl, by simp [fitW], fun k hk => by simp [fitW] at hk⟩, fun _ _ _ e => by injection e with _ e1 e2; simp at e1; omega⟩, by subst h2; exact Below.refl _ _⟩)
      | some ad =>
        have hcap := HV3.out.cap.1
        obtain ⟨_, h2⟩ := HV3.out
        rcases h2 with ⟨e, _⟩ | ⟨g, cap, cur, e, hb, _⟩
        · cases e
        · injection e with e
          injection e with e
          subst e
          have hrow := Num.rowC HV3.out
          exact hideI ((fit_any xs g c3 w2.heap.size xs.length w3 hrow.1 rfl hrow.2 (by have := HL.out; omega)).mono fun e w' ⟨h1, h2, h3⟩ => ⟨h1, by
            have h4 := h2.ci (c := c3) (by rw [fitW_len]; exact hcap) (by rw [fitW_len]; have := HL.out; omega)
            rw [fitW_len] at h4
            exact h4, h3⟩)
    go_wp2_with (first
      | (go_at_call 31; go_must (refine HFI.out.mono ?_); rintro e w4 ⟨rfl, hv4, hb4⟩; have HV4 := hideI hv4; have HB4 := hideI (HB3.out.trans hb4); clear hv4 hb4)
      | (go_at_call 29; go_must (refine (answer_any (fitW xs.length xs) _ _ w4 HV4.out).mono ?_); rintro e w5 ⟨A5, n5, c5, en5, rfl, h5⟩; have H5 := hideI h5; clear h5))
    refine bodyPost_ret (results_tmp2 rfl _ _ _) (by rfl) ?_
    rw [HE.out]
    exact AnsE.of ⟨A5, n5, c5, en5, rfl, H5.out⟩ HB4.out
end Go.Proofs.YtfifbgpiekpepaaDoor.Chn
