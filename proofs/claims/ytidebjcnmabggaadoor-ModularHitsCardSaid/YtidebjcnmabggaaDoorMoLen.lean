/- Len64 and LeadingZeros64. -/
import Derived.Test.YtidebjcnmabggaaDoorBase
import Derived.Shelf.Strconv.Itoa0
namespace Go.Proofs.YtidebjcnmabggaaDoor.Mo
open Go.RowKit

def lenL_ren : Go.Shelf.Ren := ⟨fun | 129 => 34 | n => n, fun | 3 => 3 | 4 => 4 | 5 => 5 | 9 => 9 | 46 => 51 | 53 => 27 | n => n, fun | n => n⟩
theorem lenL : Go.Proofs.Lays.n129 Tryd.prog lenL_ren := {
  mixed := by kernel_rfl,
  f129 := Tryd.func34.trans (congrArg some (by kernel_rfl)),
  t3 := Tryd.underlying3,
  a3 := Tryd.isAgg3,
  z3 := Tryd.sizeOf3,
  v3 := Tryd.zeroValue3,
  t4 := Tryd.underlying4,
  a4 := Tryd.isAgg4,
  z4 := Tryd.sizeOf4,
  v4 := Tryd.zeroValue4,
  t5 := Tryd.underlying5,
  a5 := Tryd.isAgg5,
  z5 := Tryd.sizeOf5,
  v5 := Tryd.zeroValue5,
  t9 := Tryd.underlying9,
  a9 := Tryd.isAgg9,
  z9 := Tryd.sizeOf9,
  v9 := Tryd.zeroValue9,
  t46 := Tryd.underlying51,
  a46 := Tryd.isAgg51,
  z46 := Tryd.sizeOf51,
  v46 := Tryd.zeroValue51,
  t53 := Tryd.underlying27,
  a53 := Tryd.isAgg27,
  z53 := Tryd.sizeOf27,
  v53 := Tryd.zeroValue27 }

theorem len64_any (x : Nat) (h : x < 18446744073709551616) (w : World) :
    Calls Tryd.prog 34 #[.int .u64 (x : Int)] w fun e w' => e = .returned (.int .i64 (Lib.bitLen x)) ∧ w' = w := by
  have H := Any.bits_Len64 lenL (x : Int) w (by omega) (by omega)
  rw [Int.toNat_natCast] at H
  exact H

set_option maxRecDepth 100000 in
theorem lead_any (x : Nat) (h : x < 18446744073709551616) (hb : Lib.bitLen x ≤ 64) (w : World) :
    Calls Tryd.prog 33 #[.int .u64 (x : Int)] w fun e w' => e = .returned (.int .i64 ((64 - Lib.bitLen x : Nat) : Int)) ∧ w' = w := by
  have HL := hideI (fun (V : World) => len64_any x h V)
  obtain ⟨b, hb2⟩ : ∃ b, b = Lib.bitLen x := ⟨_, rfl⟩
  rw [← hb2] at hb HL ⊢
  clear hb2 h
  go_enter Tryd.func33, Tryd.ntmps33
  go_wp2_with (go_at_call 34; go_must (refine (HL.out w).mono ?_); rintro e w1 ⟨rfl, rfl⟩)
  go_ret
  exact ⟨by go_num, rfl⟩
end Go.Proofs.YtidebjcnmabggaaDoor.Mo
