/- The table of the trailing zeros out of the card's condition. -/
import Derived.Test.YtidebjcnmabggaaDoorChTab
import Derived.Test.YtidebjcnmabggaaDoorLaw
import Derived.LaidLaws
import Derived.Lib.LaidTab
namespace Go.Proofs.YtidebjcnmabggaaDoor.Chn
open Go.ChangeShapes Go.WideShapes Go.ChangeAt Go.RowKit

theorem gTab : Tryd.prog.globalNamed "math/bits.deBruijn64tab" = some 0 := by kernel_rfl
theorem gTabT : (Tryd.prog.globals[0]?).map (·.type) = some 50 := by kernel_rfl
theorem cellsTabE : Tryd.prog.cellsOf 5 = 1 := by kernel_rfl
theorem cellsTabT : Tryd.prog.cellsOf 50 = 64 := by kernel_rfl

/-- the table out of the condition -/
theorem tab_of {W : World} {L : List (String × DataW Unit)} (hL : L = [("math/bits.deBruijn64tab", Lib.tabData .u8 tzTab)]) (h : laidMetH Tryd.prog L W) (hp : ∀ w, laidMetH Tryd.prog L w = laidMet Tryd.prog L w) : Tab W := by
  rw [hp, hL] at h
  have hT := Lib.tabIs_of_head gTab gTabT Tryd.underlying50 Tryd.underlying5 cellsTabE cellsTabT h
  have hc := fun i (hi : i < 64) => hT.cell gTab i (show i < tzTab.length from hi)
  exact ⟨World.block_lt_of_cell? W _ (hc 0 (by omega)), fun k hk => hc k hk⟩
end Go.Proofs.YtidebjcnmabggaaDoor.Chn
