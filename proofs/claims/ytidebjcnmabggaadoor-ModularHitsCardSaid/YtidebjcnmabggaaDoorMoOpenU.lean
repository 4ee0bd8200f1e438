/- A list of numbers of 64 bits that is handed in. -/
import Derived.Test.YtidebjcnmabggaaDoorMoOpen
namespace Go.Proofs.YtidebjcnmabggaaDoor.Mo
open Go.ChangeShapes Go.WideShapes Go.ChangeAt Go.RowKit Go.Deep

/-- a list of numbers of 64 bits as it was handed in -/
structure InU (w : World) (v : Value) (xs : List Nat) : Prop where
  sl : ∃ A c, v = .slice A xs.length c ∧ xs.length ≤ 9223372036854775807 ∧ ∀ (j x : Nat), xs[j]? = some x → ∃ b off, A = some ⟨b, off, none⟩ ∧ b < w.heap.size ∧ w.cell? ⟨b, off + j, none⟩ = some (.int .u64 (x : Int)) ∧ x < 18446744073709551616

section
variable {H : Type} {enc : TypeId × Value → H} {w : World}

theorem addr_at {a : Addr} {v : Value} (h : w.cell? (a.add 0) = some v) : ∃ b off, a = ⟨b, off, none⟩ ∧ b < w.heap.size := by
  obtain ⟨b, off, spot⟩ := a
  have h0 : (⟨b, off, spot⟩ : Addr).add 0 = ⟨b, off, spot⟩ := by simp [Addr.add]
  rw [h0] at h
  have hspot : spot = none := World.cell?_spot h
  exact ⟨b, off, by rw [hspot], World.block_lt_of_cell? w _ h⟩

theorem cellsU : Tryd.prog.cellsOf 27 = 1 := by kernel_rfl

set_option maxRecDepth 100000 in
theorem arg_us {ts : List TypeId} {ds : List (DataW H)} {base : Nat} {v : Value} {d : DataW H} {p : List MemPlace} (_hok : Value.okWide Tryd.prog w .any base 35 v) (h : DataW.Trod enc Tryd.prog w 0 (fun _ => true) true 35 v d p)
    (_hsz : (DataW.weightsEach Tryd.prog ts ds).all (· ≤ reachBytes) = true) {j : Nat} (_ht : ts[j]? = some 35) (_hd : ds[j]? = some d) : ∃ xs : List Nat, InU w v xs := by
  obtain ⟨a0, len, cap, rfl⟩ := okWide_slice Tryd.underlying35 _hok
  obtain ⟨fuel, hf⟩ := h
  rcases open_ints Tryd.underlying35 Tryd.underlying27 cellsU hf with ⟨hv, _⟩ | ⟨a, len, cap, zs, hv, _, hl, hm, hz, hx, hc, hw⟩
  · simp only [Value.cells, List.cons.injEq, and_true] at hv
    rw [hv]
    exact ⟨[], ⟨none, 0, rfl, by simp, fun j x h => by simp at h⟩⟩
  · simp only [Value.cells, List.cons.injEq, and_true] at hv
    rw [hv]
    simp only [if_true] at hz
    have hlen : ((zs.take len).map Int.toNat).length = len := by rw [List.length_map, List.length_take]; omega
    refine ⟨(zs.take len).map Int.toNat, ⟨some a, cap, by rw [hlen], ?_, fun k x hk => ?_⟩⟩
    · rw [hlen]; have h2 : maxLen = 9223372036854775807 := rfl; omega
    · obtain ⟨hkl, hke⟩ := List.getElem?_eq_some_iff.1 hk
      rw [hlen] at hkl
      have h1 := hc k (by omega)
      obtain ⟨b, off, rfl, hb⟩ := addr_at (hc 0 (by omega))
      have hzk : zs[k]? = some (zs.getD k 0) := by rw [List.getD_eq_getElem?_getD, List.getElem?_eq_getElem (by omega)]; rfl
      have hwk := hw (zs.getD k 0) (List.mem_of_getElem? hzk)
      obtain ⟨m, hm1, hm2⟩ := wf_u64 hwk
      have hxm : x = m := by
        have e1 : ((zs.take len).map Int.toNat)[k]? = some (zs.getD k 0).toNat := by
          rw [List.getElem?_map, List.getElem?_take, if_pos hkl, hzk]
          rfl
        rw [hk] at e1
        injection e1 with e1
        rw [e1, hm1]
        rfl
      refine ⟨b, off, rfl, hb, ?_, by omega⟩
      rw [← Go.WideShapes.add_plain, h1, hxm, ← hm1]
end
end Go.Proofs.YtidebjcnmabggaaDoor.Mo
