/- define: one more value is written down, if it may be. -/
import Derived.Test.YtclbhbnidodmdaaSmall
import Derived.Test.YtclbhbnidodmdaaMaps
namespace Go
theorem World.grownBy.trans_grown {a b c : World} {row : Option Nat} (h : a.grownBy b row) (k : b.grownBy c row) : a.grownBy c row :=
  ⟨k.os.trans h.os, k.tape.trans h.tape, k.output.trans h.output, Nat.le_trans h.size k.size, fun i hi hne => (k.block i (Nat.lt_of_lt_of_le hi h.size) hne).trans (h.block i hi hne)⟩
end Go

namespace Go.Proofs.Ytclbhbnidodmdaa
open Go.RowKit Go.Maps

/-- a call that writes into block M alone (and new ones), answers whether there is something, and leaves it in the map -/
def Defines (o : Option Defs) (M : Nat) (w : World) (e : Ending) (w' : World) : Prop :=
  e = .returned (.bool o.isSome) ∧ w.grownBy w' (some M) ∧ ∀ ds, o = some ds → MapIs w' M ds

theorem MapIs.put {w' : World} {M : Nat} {ds : Defs} {D : DataW Unit} {id typ : Int} (h2 : w'.ownsMap Try.prog 3 (plainElem Try.prog 3) M (ds.length + 1) (D.put (.int .i64 id) (.lit (.int .i64 typ))))
    (hD : IsMap D) (hw : ∀ d ∈ ds, I64 d.1 ∧ I64 d.2) (hi : I64 id) (ht : I64 typ) (hn : ds.at id = none) (h : ∀ id z, D.atKey (.int .i64 id) z = match ds.at id with | some t => .lit (.int .i64 t) | none => z) : MapIs w' M (ds ++ [(id, typ)]) := by
  refine ⟨_, by simpa using h2, IsMap.put hD _ _, ?_, ?_⟩
  · intro d hd
    rw [List.mem_append] at hd
    rcases hd with hd | hd
    · exact hw d hd
    · simp at hd
      subst hd
      exact ⟨hi, ht⟩
  · intro k z
    rw [Defs.at_snoc]
    by_cases hk : k = id
    · subst hk
      rw [atKey_put_same hD (by trivial), hn]
      simp
    · rw [atKey_put_other (by simpa using hk), h]
      cases ds.at k <;> simp [hk]

theorem addDef_some {np : Nat} {ds : Defs} {id typ t : Int} (h : ds.at id = some t) : addDef np ds id typ = none := by
  unfold addDef defB
  rw [h]
  rfl

theorem addDef_out {np : Nat} {ds : Defs} {id typ : Int} (h : withinB id np 1048575 = false) : addDef np ds id typ = none := by
  unfold addDef defB
  rw [h]
  simp

theorem addDef_ok {np : Nat} {ds : Defs} {id typ : Int} (h : ds.at id = none) (hw : withinB id np 1048575 = true) : addDef np ds id typ = some (ds ++ [(id, typ)]) := by
  unfold addDef defB
  rw [h, hw]
  rfl

theorem defines_no {M : Nat} {w : World} {r : Option Defs} {o : Obj} (h : r = none) : Defines r M w (.returned (.bool false)) (w.alloc o) := by
  subst h
  exact ⟨rfl, World.grownBy_alloc _ _ _, by simp⟩

set_option maxHeartbeats 400000 in
theorem define_any (av cv bv : Value) (P : Option Addr) (np c M : Nat) (ds : Defs) (id typ : Int) (w : World) (hM : MapIs w M ds) (hn : ds.length < 100000) (hi : I64 id) (ht : I64 typ) :
    Calls Try.prog 109 #[.agg #[.slice P np c, av, cv, bv, .map (some M)], .int .i64 id, .int .i64 typ] w (Defines (addDef np ds id typ) M w) := by
  obtain ⟨D, hown, hD, hwd, hat⟩ := hM
  have hh := MapIs.has hat id
  have HAT := hideI hat
  have HWD := hideI hwd
  have HI := hideI hi
  have HT := hideI ht
  clear hat hwd
  cases hd : ds.at id with
  | some t =>
    have HD := hideI hd
    rw [hd] at hh
    clear hd
    go_enter Try.func109, Try.ntmps109
    go_wp2_with (first
      | (at_lookup; refine wpList_lookup_own_ok_int _ rfl _ _ 114 rfl 3 3 .i64 lawInt Try.underlying114 Try.underlying3 (zeroInt _) M ds.length D rfl (hown.alloc _) _ _ rfl (keyOf_int_mk Try.underlying3 HI.out) ?_; intro c1 hat1 hwc1)
      | (go_at_call 102; refine (within_any _ _ _ _).mono ?_; rintro e w' ⟨rfl, rfl⟩))
    go_ret
    exact defines_no (addDef_some HD.out)
  | none =>
    rw [hd] at hh
    have HD := hideI hd
    clear hd
    cases hw : withinB id np 1048575
    · go_enter Try.func109, Try.ntmps109
      go_wp2_with (first
        | (at_lookup; refine wpList_lookup_own_ok_int _ rfl _ _ 114 rfl 3 3 .i64 lawInt Try.underlying114 Try.underlying3 (zeroInt _) M ds.length D rfl (hown.alloc _) _ _ rfl (keyOf_int_mk Try.underlying3 HI.out) ?_; intro c1 hat1 hwc1)
        | (go_at_call 102; refine (within_any _ _ _ _).mono ?_; rintro e w' ⟨rfl, rfl⟩))
      go_ret
      exact defines_no (addDef_out hw)
    · go_enter Try.func109, Try.ntmps109
      go_wp2_with (first
        | (at_lookup; refine wpList_lookup_own_ok_int _ rfl _ _ 114 rfl 3 3 .i64 lawInt Try.underlying114 Try.underlying3 (zeroInt _) M ds.length D rfl (hown.alloc _) _ _ rfl (keyOf_int_mk Try.underlying3 HI.out) ?_; intro c1 hat1 hwc1)
        | (go_at_call 102; refine (within_any _ _ _ _).mono ?_; rintro e w' ⟨rfl, rfl⟩)
        | (at_mapUpdate; refine wpList_mapUpdate_own _ rfl _ _ _ 114 rfl 3 3 lawInt Try.underlying114 _ M ds.length _ rfl (hown.alloc _) (by unfold maxLen; omega) _ _ _ rfl rfl (keyOf_int_mk Try.underlying3 HI.out) _ [] (plainElem_int Try.underlying3 HT.out) ?_; intro w1 hown1 hgrow1))
      go_ret
      refine ⟨by rw [addDef_ok HD.out hw]; rfl, (World.grownBy_alloc _ _ _).trans_grown hgrow1, fun ds' h => ?_⟩
      rw [addDef_ok HD.out hw] at h
      injection h with h
      subst h
      exact MapIs.put hown1 hD HWD.out hi ht HD.out HAT.out

end Go.Proofs.Ytclbhbnidodmdaa
