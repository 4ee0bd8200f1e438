/- Plain facts of what TypeOf and Uses tell. -/
import Derived.Test.YtclbhbnidodmdaaSizes
namespace Go.Proofs.Ytclbhbnidodmdaa
open Go.RowKit Go.Maps

def cntU (id : Int) (us : List (Int × Int)) : Int := (us.countP fun u => u.1 == id : Nat)

theorem cnt_snoc (id : Int) (us : List (Int × Int)) (k t : Int) : cntU id (us ++ [(k, t)]) = cntU id us + if k = id then 1 else 0 := by
  unfold cntU
  rw [List.countP_append]
  by_cases h : k = id <;> simp [h]

theorem wrap_step (c x : Int) (h : c = wrap64 x) : wrap64 (c + 1) = wrap64 (x + 1) := by
  subst h
  unfold wrap64
  omega

/-- what TypeOf and Uses tell, each beside its error -/
def typeOut (f : FuncM) (id : Int) : Int × Int := if (lookM f).1 = 0 then (match (lookM f).2.at id with | some t => (t, 0) | none => (0, 9)) else (0, (lookM f).1)

def useOut (f : FuncM) (id : Int) : Int × Int := if (lookM f).1 = 0 then (match (lookM f).2.at id with | some _ => (cntU id (usesM f), 0) | none => (0, 9)) else (0, (lookM f).1)

theorem typeOut_err {f : FuncM} {id : Int} (h : (lookM f).1 ≠ 0) : typeOut f id = (0, (lookM f).1) := by unfold typeOut; rw [if_neg h]

theorem typeOut_none {f : FuncM} {id : Int} (h : (lookM f).1 = 0) (hd : (lookM f).2.at id = none) : typeOut f id = (0, 9) := by unfold typeOut; rw [if_pos h, hd]

theorem typeOut_some {f : FuncM} {id t : Int} (h : (lookM f).1 = 0) (hd : (lookM f).2.at id = some t) : typeOut f id = (t, 0) := by unfold typeOut; rw [if_pos h, hd]

theorem useOut_err {f : FuncM} {id : Int} (h : (lookM f).1 ≠ 0) : useOut f id = (0, (lookM f).1) := by unfold useOut; rw [if_neg h]

theorem useOut_none {f : FuncM} {id : Int} (h : (lookM f).1 = 0) (hd : (lookM f).2.at id = none) : useOut f id = (0, 9) := by unfold useOut; rw [if_pos h, hd]

theorem useOut_some {f : FuncM} {id t : Int} (h : (lookM f).1 = 0) (hd : (lookM f).2.at id = some t) : useOut f id = (cntU id (usesM f), 0) := by unfold useOut; rw [if_pos h, hd]

theorem look_formed {f : FuncM} (h : (lookM f).1 = 0) : formedM f = some (lookM f).2 := by
  cases hf : formedM f with
  | none => rw [look_none hf] at h; cases h
  | some ds =>
    rw [look_some hf] at h ⊢
    split at h
    · rename_i hu
      rw [if_pos hu]
    · rename_i hu
      exact absurd h hu

theorem wrap_zero (id : Int) : wrap64 (cntU id []) = 0 := by
  unfold wrap64 cntU
  simp

theorem wrap_cnt (id : Int) (us : List (Int × Int)) (h : us.length < 4611686018427387904) : wrap64 (cntU id us) = cntU id us := by
  have h1 : us.countP (fun u => u.1 == id) ≤ us.length := List.countP_le_length
  unfold wrap64 cntU
  omega

end Go.Proofs.Ytclbhbnidodmdaa
