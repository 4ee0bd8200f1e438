/- What InterpSpareUpto rests on, part 1: Base, Law, Spec, Ints, Maps, Reads, Open, RunM, ICalc0, IPairs, ICalc. -/
import Derived.Test.YtncmnbchkabgaaaGreatRows
import Derived.WalkKit
import Derived.WalkSpells
import Derived.WalkLawsBesides
import Derived.ProofKit
import Derived.OpenShut
import Derived.SizedLaws
import GoSem.ClaimWide
import Derived.Deep.QuietTactic
import Derived.BigQuiet
import Derived.Maps.Own
import Derived.Maps.OwnOps
import Derived.Maps.OwnSet
import Derived.Maps.Views
import Derived.Deep.Slices

namespace Go.Proofs.YtncmnbchkabgaaaGreat
open Go.RowKit

/-- a fact put behind a name, so that the walk does not take it for a rule -/
theorem hideI {p : Prop} (h : p) : Hid p := h

theorem res4 {fn : Func} {t u v x : Tmp} (h : fn.results = #[.tmp t, .tmp u, .tmp v, .tmp x]) (tmps : Array Value) (P : Program) (w : World) :
    (results fn tmps).run P w = .ok (.tuple #[tmps.getD t undef, tmps.getD u undef, tmps.getD v undef, tmps.getD x undef]) w := by
  simp [results, h]

/-- a call's end, told by the value alone -/
theorem Calls.same_world {P : Program} {f : FuncId} {args : Array Value} {w : World} {v : Value} (h : Calls P f args w fun e w' => e = .returned v ∧ w' = w) :
    Calls P f args w fun e w' => e = .returned v ∧ w = w' := h.mono fun _ _ ⟨a, b⟩ => ⟨a, b.symm⟩

end Go.Proofs.YtncmnbchkabgaaaGreat

namespace Go.Proofs.YtncmnbchkabgaaaGreat
open Go.ChangeShapes Go.WideShapes Go.ChangeAt Go.RowKit

theorem own : ownKnob Tryz.prog.godebug = none := by kernel_rfl

section
variable {H : Type} {enc : TypeId × Value → H} {P : Program}

theorem law_args (hl : laidOutB P = true) {W W' : World} (hb : Below W.heap.size W W') : ∀ (ts : List TypeId) (vs : List Value) (ds : List (DataW H)) (ps : List MemPlace),
    DataW.TrodAll enc P W 0 (fun _ => true) true ts vs ds ps → (∀ t ∈ ts, P.readableRec t = true ∧ t < P.types.size) → (∀ x ∈ ps, x.block < W.heap.size) →
    DataW.TrodAll enc P W' 0 (fun b => decide (b < W.heap.size)) true ts vs ds ps := by
  intro ts
  induction ts with
  | nil =>
    intro vs ds ps h _ _
    cases vs <;> cases ds <;> first | exact h | exact h.elim
  | cons t ts ih =>
    intro vs ds ps h hr hlt
    cases vs with
    | nil => cases ds <;> exact h.elim
    | cons v vs =>
      cases ds with
      | nil => exact h.elim
      | cons d ds =>
        obtain ⟨p, q, h1, h2, rfl⟩ := h
        have hrt := hr t (List.mem_cons_self ..)
        exact ⟨p, q, Below.trod hl hrt.1 hrt.2 h1 hb (fun x hx => hlt x (List.mem_append_left _ hx)),
          ih vs ds q h2 (fun u hu => hr u (List.mem_cons_of_mem _ hu)) (fun x hx => hlt x (List.mem_append_right _ hx)), rfl⟩

/-- what a law's row asks behind the call -/
theorem law_post (hl : laidOutB P = true) {fn : Func} {s : ChangeSpec} {apart fresh : Bool} {W W' : World} {args : Array Value} {ds : List (DataW H)} {before : List MemPlace} {tb : TypeId}
    (hW : DataW.Whole enc P fn.params.toList s.vars apart W args.toList ds [] before) (hv : s.vars = []) (hr : fn.resultTypes = #[tb]) (htb : P.underlying tb = some .bool)
    (hres : (s.fn H (ds ++ [])).results = [.lit (.bool true)]) (harg : (s.fn H (ds ++ [])).args = ds) (hvar : (s.fn H (ds ++ [])).vars = [])
    (hread : ∀ t ∈ fn.params.toList, P.readableRec t = true ∧ t < P.types.size) (hb : Below W.heap.size W W') :
    s.post enc P fn apart fresh false false W args (.bool true) W' := by
  have hlt : ∀ p ∈ before, p.block < W.heap.size := fun p hp => hW.lt p hp
  have hW0 := hW
  obtain ⟨p, q, hA, hV, rfl, hz, hn⟩ := hW
  rw [hv] at hV
  have hq : q = [] := hV
  subst hq
  refine ⟨ds, [], p ++ [], [], p, [], hW0, ?_, ?_, ?_, ?_, fun h => by cases h⟩
  · rw [hr, hres]
    exact trodAll_cons_mk (shut_bool htb _) trodAll_mk0
  · rw [harg]
    exact law_args hl hb _ _ _ _ hA hread (fun x hx => hlt x (by simpa using hx))
  · rw [hv, hvar]
    rfl
  · exact hb.frame _
end

end Go.Proofs.YtncmnbchkabgaaaGreat

namespace Go.Proofs.YtncmnbchkabgaaaGreat

structure PhiM where
  id : Int
  typ : Int
  fr : List Int
  vals : List Int
structure InstrM where
  op : Int
  id : Int
  args : List Int
  n : Int
structure TermM where
  op : Int
  val : Int
  to : List Int
  n : Int
structure BlockM where
  phis : List PhiM
  code : List InstrM
  term : TermM
structure FuncM where
  params : List Int
  arrays : Int
  cells : Int
  blocks : List BlockM

/-- what an operation takes (bytes), makes, and what its N is; whether there is one -/
def shapeS (op : Int) : List UInt8 × Int × Int × Bool :=
  if op = 1 then ([], 1, 1, true) else
  if op = 2 then ([], 2, 2, true) else
  if 3 ≤ op ∧ op ≤ 12 then ([73, 73], 1, 0, true) else
  if 13 ≤ op ∧ op ≤ 15 then ([73, 73], 2, 0, true) else
  if op = 16 then ([66], 2, 0, true) else
  if op = 17 then ([66, 73, 73], 1, 0, true) else
  if op = 18 then ([], 1, 3, true) else
  if op = 19 ∨ op = 21 then ([73], 1, 3, true) else
  if op = 20 ∨ op = 22 then ([73, 73], 0, 3, true) else
  if op = 23 then ([73], 0, 0, true) else
  if op = 24 then ([], 1, 4, true) else
  if op = 25 then ([73], 0, 4, true) else ([], 0, 0, false)

theorem op_cases (op : Int) : (op = 1 ∨ op = 2 ∨ op = 3 ∨ op = 4 ∨ op = 5 ∨ op = 6 ∨ op = 7 ∨ op = 8 ∨ op = 9 ∨ op = 10 ∨ op = 11 ∨ op = 12 ∨ op = 13) ∨
    (op = 14 ∨ op = 15 ∨ op = 16 ∨ op = 17 ∨ op = 18 ∨ op = 19 ∨ op = 20 ∨ op = 21 ∨ op = 22 ∨ op = 23 ∨ op = 24 ∨ op = 25) ∨ (op < 1 ∨ 25 < op) := by omega

theorem shapeS_none {op : Int} (h : op < 1 ∨ 25 < op) : shapeS op = ([], 0, 0, false) := by
  unfold shapeS
  rw [if_neg (by omega), if_neg (by omega), if_neg (by omega), if_neg (by omega), if_neg (by omega), if_neg (by omega), if_neg (by omega), if_neg (by omega), if_neg (by omega), if_neg (by omega), if_neg (by omega), if_neg (by omega)]

/-- the types of what is taken -/
def takesS (op : Int) : List Int := (shapeS op).1.map fun c => if c = 73 then 1 else 2
def makesS (op : Int) : Int := (shapeS op).2.1
def kindS (op : Int) : Int := (shapeS op).2.2.1
def isOp (op : Int) : Bool := (shapeS op).2.2.2

def withinB (n a b : Int) : Bool := decide (a ≤ n) && decide (n ≤ b)
def isTypeB (t : Int) : Bool := (t == 1) || (t == 2)

def sizeB (b : BlockM) : Nat := b.phis.length + b.code.length + 1
def sizeM (f : FuncM) : Nat := (f.blocks.map sizeB).sum

def limitsB (f : FuncM) : Bool :=
  decide (f.params.length ≤ 16) && (withinB f.arrays 0 8 && (withinB f.cells 0 64 && (withinB f.blocks.length 1 512 && decide (sizeM f ≤ 4096))))

/-- all are blocks, none twice -/
def onceB (nb : Nat) : List Int → List Int → Bool
  | _, [] => true
  | seen, b :: r => withinB b 0 (nb - 1) && !(seen.contains b) && onceB nb (b :: seen) r

def targetsB (nb : Nat) (to : List Int) : Bool := to.all fun b => withinB b 1 (nb - 1)

def fitsB (f : FuncM) (op n : Int) : Bool :=
  if op = 1 then true else
  if op = 2 then withinB n 0 1 else
  if kindS op = 3 then withinB n 0 (f.arrays - 1) else
  if kindS op = 4 then withinB n 0 (f.cells - 1) else n == 0

def phiB (f : FuncM) (p : PhiM) : Bool := isTypeB p.typ && (p.vals.length == p.fr.length && onceB f.blocks.length [] p.fr)

def instrB (f : FuncM) (x : InstrM) : Bool := isOp x.op && (x.args.length == (takesS x.op).length && fitsB f x.op x.n)

def termB (f : FuncM) (t : TermM) : Bool :=
  targetsB f.blocks.length t.to &&
  (if t.op = 1 then t.to.length == 1 && (t.val == -1 && t.n == 0) else
   if t.op = 2 then t.to.length == 2 && t.n == 0 else
   if t.op = 3 then t.to.length == 0 && t.n == 0 else
   if t.op = 4 then t.to.length == 0 && (t.val == -1 && decide (0 ≤ t.n)) else false)

/-- the values that stand so far: ids and types -/
abbrev Defs := List (Int × Int)
def Defs.at (ds : Defs) (id : Int) : Option Int := (ds.find? fun d => d.1 == id).map (·.2)

def defB (np : Nat) (ds : Defs) (id : Int) : Bool := !(ds.at id).isSome && withinB id np 1048575

/-- one more value, if it may be -/
def addDef (np : Nat) (ds : Defs) (id typ : Int) : Option Defs := if defB np ds id then some (ds ++ [(id, typ)]) else none

def phiStep (f : FuncM) (ds : Defs) (p : PhiM) : Option Defs := if phiB f p then addDef f.params.length ds p.id p.typ else none

def instrStep (f : FuncM) (ds : Defs) (x : InstrM) : Option Defs :=
  if instrB f x then (if makesS x.op = 0 then (if x.id = -1 then some ds else none) else addDef f.params.length ds x.id (makesS x.op)) else none

def phisStep (f : FuncM) : Defs → List PhiM → Option Defs
  | ds, [] => some ds
  | ds, p :: r => (phiStep f ds p).bind fun d => phisStep f d r

def codeStep (f : FuncM) : Defs → List InstrM → Option Defs
  | ds, [] => some ds
  | ds, x :: r => (instrStep f ds x).bind fun d => codeStep f d r

def blockStep (f : FuncM) (ds : Defs) (b : BlockM) : Option Defs :=
  (phisStep f ds b.phis).bind fun d => (codeStep f d b.code).bind fun d2 => if termB f b.term then some d2 else none

def blocksStep (f : FuncM) : Defs → List BlockM → Option Defs
  | ds, [] => some ds
  | ds, b :: r => (blockStep f ds b).bind fun d => blocksStep f d r

def paramDefs : Nat → List Int → Defs
  | _, [] => []
  | k, t :: r => ((k : Int), t) :: paramDefs (k + 1) r

/-- the values of a formed function; none: it is not formed -/
def formedM (f : FuncM) : Option Defs :=
  if limitsB f && f.params.all isTypeB && (f.blocks.headD ⟨[], [], ⟨0, 0, [], 0⟩⟩).phis.isEmpty then blocksStep f (paramDefs 0 f.params) f.blocks else none

/-- uses: a value, and the type that is taken -/
def usesPhi (p : PhiM) : List (Int × Int) := p.vals.map fun v => (v, p.typ)
def usesInstr (x : InstrM) : List (Int × Int) := x.args.zip (takesS x.op)
def usesTerm (t : TermM) : List (Int × Int) := if t.op = 2 then [(t.val, 2)] else if t.op = 3 then [(t.val, 0)] else []
def usesBlock (b : BlockM) : List (Int × Int) := b.phis.flatMap usesPhi ++ (b.code.flatMap usesInstr ++ usesTerm b.term)
def usesM (f : FuncM) : List (Int × Int) := f.blocks.flatMap usesBlock

def unknownB (ds : Defs) (us : List (Int × Int)) : Bool := us.any fun u => !(ds.at u.1).isSome
def unfitB (ds : Defs) (us : List (Int × Int)) : Bool := us.any fun u => match ds.at u.1 with | some t => u.2 != 0 && t != u.2 | none => false

/-- what is wrong with a function, as a number; its values, if nothing is -/
def lookM (f : FuncM) : Int × Defs :=
  match formedM f with
  | none => (2, [])
  | some ds => if unknownB ds (usesM f) then (6, []) else if unfitB ds (usesM f) then (3, []) else (0, ds)

end Go.Proofs.YtncmnbchkabgaaaGreat

namespace Go.Proofs.YtncmnbchkabgaaaGreat
open Go.RowKit

/-- the slice value v holds the numbers xs, below block B -/
def Ints (w : World) (B : Nat) (v : Value) (xs : List Int) : Prop :=
  ∃ A c, v = .slice A xs.length c ∧ xs.length ≤ 140737488351232 ∧ ∀ k, k < xs.length → ∃ b off, A = some ⟨b, off, none⟩ ∧ b < B ∧ w.cell? ⟨b, off + k, none⟩ = some (.int .i64 (xs[k]?.getD 0))

theorem Ints.nil (w : World) (B : Nat) : Ints w B (.slice none 0 0) [] := ⟨none, 0, rfl, by simp, fun k hk => by simp at hk⟩

theorem Ints.keep {w w' : World} {B : Nat} {v : Value} {xs : List Int} (h : Ints w B v xs) (hk : Below B w w') : Ints w' B v xs := by
  obtain ⟨A, c, rfl, hm, h⟩ := h
  refine ⟨A, c, rfl, hm, fun k hlt => ?_⟩
  obtain ⟨b, off, rfl, hb, hc⟩ := h k hlt
  exact ⟨b, off, rfl, hb, (hk.cell (p := ⟨b, off + k, none⟩) hb).trans hc⟩

theorem Ints.more {w : World} {B B' : Nat} {v : Value} {xs : List Int} (h : Ints w B v xs) (hB : B ≤ B') : Ints w B' v xs := by
  obtain ⟨A, c, rfl, hm, h⟩ := h
  exact ⟨A, c, rfl, hm, fun k hlt => by obtain ⟨b, off, e, hb, hc⟩ := h k hlt; exact ⟨b, off, e, by omega, hc⟩⟩

/-- equal so far -/
def sameTo (xs ys : List Int) (k : Nat) : Bool := (xs.take k) == (ys.take k)

theorem sameTo_succ {xs ys : List Int} {k : Nat} (h1 : k < xs.length) (h2 : k < ys.length) (h : xs.take k = ys.take k) (he : xs[k]?.getD 0 = ys[k]?.getD 0) : xs.take (k + 1) = ys.take (k + 1) := by
  rw [List.take_add_one, List.take_add_one, h]
  rw [List.getElem?_eq_getElem h1, List.getElem?_eq_getElem h2] at he ⊢
  simp at he
  rw [he]

theorem ne_of_at {xs ys : List Int} {k : Nat} (he : xs[k]?.getD 0 ≠ ys[k]?.getD 0) : xs ≠ ys := fun h => he (by rw [h])

set_option maxHeartbeats 800000 in
theorem sameInts_len (w : World) (B : Nat) (v u : Value) (xs ys : List Int) (hx : Ints w B v xs) (hy : Ints w B u ys) (n : Nat) (hn : Hid (xs.length = n ∧ ys.length = n)) :
    Calls Tryz.prog 28 #[v, u] w fun e w' => e = .returned (.bool (xs == ys)) ∧ ∃ m, w' = w.drewN m := by
  obtain ⟨A, c, rfl, hm, hx⟩ := hx
  obtain ⟨A', c', rfl, hm', hy⟩ := hy
  rw [hn.out.1] at hx hm ⊢
  rw [hn.out.2] at hy hm' ⊢
  have Hx : Hid (∀ k, k < n → ∃ b off, A = some ⟨b, off, none⟩ ∧ b < B ∧ w.cell? ⟨b, off + k, none⟩ = some (.int .i64 (xs[k]?.getD 0))) := hx
  have Hy : Hid (∀ k, k < n → ∃ b off, A' = some ⟨b, off, none⟩ ∧ b < B ∧ w.cell? ⟨b, off + k, none⟩ = some (.int .i64 (ys[k]?.getD 0))) := hy
  clear hx hy hm'
  go_enter Tryz.func28, Tryz.ntmps28
  go_wp2
  go_loopw [5] (fun i wr => ∃ k m : Nat, k ≤ n ∧ i = .int .i64 k ∧ xs.take k = ys.take k ∧ wr = w.drewN m) (fun i _ => n - (intOf i).toNat)
  case atStart => exact ⟨0, 0, Nat.zero_le _, rfl, by simp, rfl⟩
  case round =>
    obtain ⟨k, m, hk, rfl, ht, rfl⟩ := hrel
    have HT : Hid (xs.take k = ys.take k) := ht
    clear ht
    by_cases hlt : k < n
    · obtain ⟨b, off, rfl, hb, hc⟩ := Hx.out k hlt
      obtain ⟨b', off', rfl, hb', hc'⟩ := Hy.out k hlt
      go_wp2
      go_quiet (fail)
      go_wp2
      · have hne : xs[k]?.getD 0 ≠ ys[k]?.getD 0 := bne_iff_ne.1 (by assumption)
        go_ret
        refine ⟨?_, m + nq, by rw [World.drewN_drewN]⟩
        have : (xs == ys) = false := beq_eq_false_iff_ne.2 (ne_of_at (k := k) hne)
        rw [this]
        rfl
      · have hq : (xs[k]?.getD 0 != ys[k]?.getD 0) = false := by assumption
        have heq : xs[k]?.getD 0 = ys[k]?.getD 0 := by simpa using hq
        go_roundw
        case rel => exact ⟨k + 1, _, by omega, by go_num, sameTo_succ (by have := hn.out.1; omega) (by have := hn.out.2; omega) HT.out heq, rfl⟩
        case measure => simp [intOf]; omega
    · go_wp2
      go_ret
      have hk' : k = n := by omega
      subst hk'
      have e : xs = ys := by
        have h := HT.out
        rw [List.take_of_length_le (by rw [hn.out.1]; exact Nat.le_refl _), List.take_of_length_le (by rw [hn.out.2]; exact Nat.le_refl _)] at h
        exact h
      refine ⟨?_, _, rfl⟩
      subst e
      simp

theorem sameInts_ne (w : World) (B : Nat) (v u : Value) (xs ys : List Int) (hx : Ints w B v xs) (hy : Ints w B u ys) (hn : (xs.length : Int) ≠ ys.length) :
    Calls Tryz.prog 28 #[v, u] w fun e w' => e = .returned (.bool (xs == ys)) ∧ ∃ m, w' = w.drewN m := by
  have hf : (xs == ys) = false := beq_eq_false_iff_ne.2 (fun h => hn (by rw [h]))
  rw [hf]
  obtain ⟨A, c, rfl, hm, hx⟩ := hx
  obtain ⟨A', c', rfl, hm', hy⟩ := hy
  clear hx hy hf
  have hb : ((xs.length : Int) == ys.length) = false := beq_eq_false_iff_ne.2 hn
  go_enter Tryz.func28, Tryz.ntmps28
  go_wp2
  go_ret
  exact ⟨rfl, 0, rfl⟩

/-- SameInts: the same numbers? -/
theorem sameInts_any (w : World) (B : Nat) (v u : Value) (xs ys : List Int) (hx : Ints w B v xs) (hy : Ints w B u ys) :
    Calls Tryz.prog 28 #[v, u] w fun e w' => e = .returned (.bool (xs == ys)) ∧ ∃ m, w' = w.drewN m := by
  by_cases h : xs.length = ys.length
  · exact sameInts_len w B v u xs ys hx hy ys.length ⟨h, rfl⟩
  · exact sameInts_ne w B v u xs ys hx hy (by omega)

end Go.Proofs.YtncmnbchkabgaaaGreat

namespace Go.Proofs.YtncmnbchkabgaaaGreat
open Go.RowKit Go.Maps

theorem lawInt : Keyed Tryz.prog 3 := int_keyed Tryz.underlying3
theorem zeroInt (w : World) : (zeroValue 3).run Tryz.prog w = .ok (.int .i64 0) w := by kernel_rfl

/-- an int of Go's -/
def I64 (x : Int) : Prop := (Lit.int .i64 x).wf = true

/-- block M is a map that holds just ds -/
def MapIs (w : World) (M : Nat) (ds : Defs) : Prop :=
  ∃ D : DataW Unit, w.ownsMap Tryz.prog 3 (plainElem Tryz.prog 3) M ds.length D ∧ IsMap D ∧ (∀ d ∈ ds, I64 d.1 ∧ I64 d.2) ∧ ∀ id z, D.atKey (.int .i64 id) z = match ds.at id with | some t => .lit (.int .i64 t) | none => z

theorem Defs.at_snoc (ds : Defs) (id typ k : Int) : Defs.at (ds ++ [(id, typ)]) k = match ds.at k with | some t => some t | none => if k = id then some typ else none := by
  unfold Defs.at
  rw [List.find?_append]
  cases h : List.find? (fun d => d.1 == k) ds with
  | some d => simp
  | none =>
    by_cases hk : k = id
    · subst hk; simp
    · simp [hk, show (id == k) = false from by simpa using fun e => hk e.symm]

theorem MapIs.lt {w : World} {M : Nat} {ds : Defs} (h : MapIs w M ds) : M < w.heap.size := by
  obtain ⟨D, h, _⟩ := h
  exact h.lt

theorem MapIs.kept {w w' : World} {M : Nat} {ds : Defs} {row : Option Nat} (h : MapIs w M ds) (hg : w.grownBy w' row) (hne : some M ≠ row) : MapIs w' M ds := by
  obtain ⟨D, h, r⟩ := h
  exact ⟨D, h.kept hg hne, r⟩

theorem MapIs.has {ds : Defs} {D : DataW Unit} (h : ∀ id z, D.atKey (.int .i64 id) z = match ds.at id with | some t => .lit (.int .i64 t) | none => z) (id : Int) :
    Go.Maps.has D (.int .i64 id) = (ds.at id).isSome := by
  cases hd : ds.at id with
  | none => exact has_false_of_atKey (fun z => by rw [h, hd])
  | some t => exact has_true_of_atKey (y := .lit (.int .i64 t)) (fun z => by rw [h, hd])

theorem MapIs.new (w : World) : MapIs (w.alloc (.map #[] 0)) w.heap.size [] :=
  ⟨.map [], World.ownsMap_made _ _ _ _, ⟨[], rfl⟩, by simp, fun id z => rfl⟩

end Go.Proofs.YtncmnbchkabgaaaGreat

namespace Go.Proofs.YtncmnbchkabgaaaGreat
open Go.RowKit

/-- a list of phis -/
def PhisR (w : World) (B : Nat) (v : Value) (ps : List PhiM) : Prop :=
  ∃ A c, v = .slice A ps.length c ∧ ps.length ≤ 140737488351232 ∧ ∀ k p, ps[k]? = some p → ∃ b off fv vv, A = some ⟨b, off, none⟩ ∧ b < B ∧
    w.cell? ⟨b, off + k * 4, none⟩ = some (.int .i64 p.id) ∧ w.cell? ⟨b, off + k * 4 + 1, none⟩ = some (.int .i64 p.typ) ∧ w.cell? ⟨b, off + k * 4 + 2, none⟩ = some fv ∧ w.cell? ⟨b, off + k * 4 + 3, none⟩ = some vv ∧
    Ints w B fv p.fr ∧ Ints w B vv p.vals ∧ I64 p.id ∧ I64 p.typ

/-- a list of instructions -/
def CodeR (w : World) (B : Nat) (v : Value) (xs : List InstrM) : Prop :=
  ∃ A c, v = .slice A xs.length c ∧ xs.length ≤ 140737488351232 ∧ ∀ k x, xs[k]? = some x → ∃ b off av, A = some ⟨b, off, none⟩ ∧ b < B ∧
    w.cell? ⟨b, off + k * 4, none⟩ = some (.int .i64 x.op) ∧ w.cell? ⟨b, off + k * 4 + 1, none⟩ = some (.int .i64 x.id) ∧ w.cell? ⟨b, off + k * 4 + 2, none⟩ = some av ∧ w.cell? ⟨b, off + k * 4 + 3, none⟩ = some (.int .i64 x.n) ∧
    Ints w B av x.args ∧ I64 x.op ∧ I64 x.id ∧ I64 x.n

/-- a list of blocks -/
def BlocksR (w : World) (B : Nat) (v : Value) (bs : List BlockM) : Prop :=
  ∃ A c, v = .slice A bs.length c ∧ bs.length ≤ 140737488351232 ∧ ∀ k q, bs[k]? = some q → ∃ b off pv cv tv, A = some ⟨b, off, none⟩ ∧ b < B ∧
    w.cell? ⟨b, off + k * 6, none⟩ = some pv ∧ w.cell? ⟨b, off + k * 6 + 1, none⟩ = some cv ∧ w.cell? ⟨b, off + k * 6 + 2, none⟩ = some (.int .i64 q.term.op) ∧ w.cell? ⟨b, off + k * 6 + 3, none⟩ = some (.int .i64 q.term.val) ∧
    w.cell? ⟨b, off + k * 6 + 4, none⟩ = some tv ∧ w.cell? ⟨b, off + k * 6 + 5, none⟩ = some (.int .i64 q.term.n) ∧
    PhisR w B pv q.phis ∧ CodeR w B cv q.code ∧ Ints w B tv q.term.to ∧ I64 q.term.op ∧ I64 q.term.val ∧ I64 q.term.n

section
variable {w w' : World} {B : Nat} {v : Value}
/-- what is kept where all cells below B are kept -/
def Keeps (B : Nat) (w w' : World) : Prop := ∀ b o, b < B → w'.cell? ⟨b, o, none⟩ = w.cell? ⟨b, o, none⟩

theorem Keeps.of_below (h : Below B w w') : Keeps B w w' := fun b o hb => h.cell (p := ⟨b, o, none⟩) hb
theorem Keeps.of_grown {M : Nat} (h : w.grownBy w' (some M)) (hM : B ≤ M) (hB : B ≤ w.heap.size) : Keeps B w w' := fun b o hb =>
  World.cell?_of_block (h.block b (by omega) (by simp; omega))
theorem Keeps.trans {w2 : World} (h : Keeps B w w') (k : Keeps B w' w2) : Keeps B w w2 := fun b o hb => (k b o hb).trans (h b o hb)
theorem Keeps.refl (w : World) : Keeps B w w := fun _ _ _ => rfl
theorem Keeps.alloc (h : Keeps B w w') (hB : B ≤ w'.heap.size) (o : Obj) : Keeps B w (w'.alloc o) := fun b i hb => (World.cell?_alloc_lt w' o ⟨b, i, none⟩ (by simp; omega)).trans (h b i hb)

theorem Ints.keeps {xs : List Int} (h : Ints w B v xs) (hk : Keeps B w w') : Ints w' B v xs := by
  obtain ⟨A, c, rfl, hm, h⟩ := h
  refine ⟨A, c, rfl, hm, fun k hlt => ?_⟩
  obtain ⟨b, off, rfl, hb, hc⟩ := h k hlt
  exact ⟨b, off, rfl, hb, (hk _ _ hb).trans hc⟩

theorem PhisR.keeps {ps : List PhiM} (h : PhisR w B v ps) (hk : Keeps B w w') : PhisR w' B v ps := by
  obtain ⟨A, c, rfl, hm, h⟩ := h
  refine ⟨A, c, rfl, hm, fun k p hp => ?_⟩
  obtain ⟨b, off, fv, vv, rfl, hb, h0, h1, h2, h3, hf, hv, hi, ht⟩ := h k p hp
  exact ⟨b, off, fv, vv, rfl, hb, (hk _ _ hb).trans h0, (hk _ _ hb).trans h1, (hk _ _ hb).trans h2, (hk _ _ hb).trans h3, hf.keeps hk, hv.keeps hk, hi, ht⟩

theorem CodeR.keeps {xs : List InstrM} (h : CodeR w B v xs) (hk : Keeps B w w') : CodeR w' B v xs := by
  obtain ⟨A, c, rfl, hm, h⟩ := h
  refine ⟨A, c, rfl, hm, fun k p hp => ?_⟩
  obtain ⟨b, off, av, rfl, hb, h0, h1, h2, h3, hf, r⟩ := h k p hp
  exact ⟨b, off, av, rfl, hb, (hk _ _ hb).trans h0, (hk _ _ hb).trans h1, (hk _ _ hb).trans h2, (hk _ _ hb).trans h3, hf.keeps hk, r⟩

theorem BlocksR.keeps {bs : List BlockM} (h : BlocksR w B v bs) (hk : Keeps B w w') : BlocksR w' B v bs := by
  obtain ⟨A, c, rfl, hm, h⟩ := h
  refine ⟨A, c, rfl, hm, fun k p hp => ?_⟩
  obtain ⟨b, off, pv, cv, tv, rfl, hb, h0, h1, h2, h3, h4, h5, hp, hc, ht, r⟩ := h k p hp
  exact ⟨b, off, pv, cv, tv, rfl, hb, (hk _ _ hb).trans h0, (hk _ _ hb).trans h1, (hk _ _ hb).trans h2, (hk _ _ hb).trans h3, (hk _ _ hb).trans h4, (hk _ _ hb).trans h5, hp.keeps hk, hc.keeps hk, ht.keeps hk, r⟩
end

/-- a block that stands as it was made reads so -/
theorem row_cells {w w' : World} {g : Nat} {cs : Array Value} {t : TypeId} (h : w.heap[g]? = some (.cells cs t (0, 0))) (hk : w'.heap[g]? = w.heap[g]?) : ∀ o, w'.cell? ⟨g, o, none⟩ = cs[o]? :=
  fun o => cell_of_row w' g o cs t (0, 0) (hk.trans h)

/-- behind two new blocks, and writes to block M alone, both read as they were made -/
theorem two_cells {w w' : World} {c1 c2 : Array Value} {t1 t2 : TypeId} {M : Nat} (hg : ((w.alloc (.cells c1 t1)).alloc (.cells c2 t2)).grownBy w' (some M)) (hM : M < w.heap.size) :
    (∀ o, w'.cell? ⟨w.heap.size, o, none⟩ = c1[o]?) ∧ (∀ o, w'.cell? ⟨w.heap.size + 1, o, none⟩ = c2[o]?) ∧ w.heap.size + 1 < w'.heap.size := by
  have h1 : ((w.alloc (.cells c1 t1)).alloc (.cells c2 t2)).heap[w.heap.size]? = some (.cells c1 t1 (0, 0)) := by
    rw [Below.heap_alloc _ _ _ (by simp)]
    exact heap_alloc_new w _
  have h2 : ((w.alloc (.cells c1 t1)).alloc (.cells c2 t2)).heap[w.heap.size + 1]? = some (.cells c2 t2 (0, 0)) := by
    have := heap_alloc_new (w.alloc (.cells c1 t1)) (.cells c2 t2)
    simpa using this
  have hs := hg.size
  simp at hs
  exact ⟨row_cells h1 (hg.block _ (by simp; omega) (by simp; omega)), row_cells h2 (hg.block _ (by simp) (by simp; omega)), by omega⟩

theorem one_cells {w w' : World} {c1 : Array Value} {t1 : TypeId} (hg : Below (w.heap.size + 1) (w.alloc (.cells c1 t1)) w') : (∀ o, w'.cell? ⟨w.heap.size, o, none⟩ = c1[o]?) ∧ w.heap.size < w'.heap.size := by
  have hs := hg.size
  simp at hs
  exact ⟨row_cells (heap_alloc_new w _) (hg.block _ (by omega)), by omega⟩

theorem keeps_one {w w' : World} {o : Obj} {B : Nat} (hg : Below (w.heap.size + 1) (w.alloc o) w') (hB : B ≤ w.heap.size) : Keeps B w w' :=
  ((Keeps.refl w).alloc hB o).trans (Keeps.of_below (hg.mono (by omega)))

theorem below_one {w w' : World} {o : Obj} (hg : Below (w.heap.size + 1) (w.alloc o) w') : Below w.heap.size w w' :=
  ((Below.refl _ _).alloc (Nat.le_refl _) _).trans (hg.mono (by omega))

end Go.Proofs.YtncmnbchkabgaaaGreat

namespace Go.Proofs.YtncmnbchkabgaaaGreat
open Go.ChangeShapes Go.WideShapes Go.ChangeAt Go.RowKit Go.Deep

theorem list_choose {α : Type} {R : Nat → α → Prop} : ∀ n, (∀ k, k < n → ∃ a, R k a) → ∃ l : List α, l.length = n ∧ ∀ k a, l[k]? = some a → R k a := by
  intro n
  induction n with
  | zero => intro _; exact ⟨[], rfl, fun k a h => by simp at h⟩
  | succ n ih =>
    intro h
    obtain ⟨l, hl, hr⟩ := ih (fun k hk => h k (by omega))
    obtain ⟨a, ha⟩ := h n (by omega)
    refine ⟨l ++ [a], by simp [hl], fun k b hb => ?_⟩
    rw [List.getElem?_append] at hb
    split at hb
    · exact hr k b hb
    · rename_i hk
      have hk2 : k - l.length = 0 := by
        cases hc : k - l.length with
        | zero => rfl
        | succ m => rw [hc] at hb; simp at hb
      rw [hk2] at hb
      simp at hb
      subst hb
      rw [show k = n from by omega]
      exact ha

section
variable {H : Type} {enc : TypeId × Value → H} {w : World}

abbrev Rd (enc : TypeId × Value → H) (w : World) (fuel : Nat) (t : TypeId) (cs : List Value) (x : DataW H × List MemPlace) : Prop := DataW.trod enc Tryz.prog w 0 (fun _ => true) true fuel t cs = some x

/-- no part is longer than the form lets it be -/
def Sz (t : TypeId) (d : DataW H) : Prop := ∀ n ∈ d.weights Tryz.prog t, n ≤ reachBytes

theorem Sz.slice {t e : TypeId} {es sp : List (DataW H)} (h : Sz t (.slice es sp)) (hu : Tryz.prog.underlying t = some (.slice e)) : (es.length + sp.length) * Tryz.prog.bytesOf e ≤ reachBytes ∧ ∀ d ∈ es, Sz e d := by
  unfold Sz at h
  simp only [DataW.weights, hu] at h
  refine ⟨h _ (List.mem_cons_self ..), fun d hd n hn => h n (List.mem_cons_of_mem _ (List.mem_append_left _ ?_))⟩
  clear h
  induction es with
  | nil => cases hd
  | cons a es ih =>
    rw [DataW.weightsAll]
    rcases List.mem_cons.1 hd with rfl | hd
    · exact List.mem_append_left _ hn
    · exact List.mem_append_right _ (ih hd)

theorem Sz.agg {t : TypeId} {fs : Array Field} {ds : List (DataW H)} (h : Sz t (.agg ds)) (hu : Tryz.prog.underlying t = some (.struct fs)) {j : Nat} {f : Field} {d : DataW H} (hf : fs[j]? = some f) (hd : ds[j]? = some d) : Sz f.type d := by
  intro n hn
  unfold Sz at h
  simp only [DataW.weights, hu] at h
  exact h n (DataW.weights_mem_each (by simp [hf]) hd n hn)

theorem reach_small {a b k : Nat} (h : (a + b) * k ≤ reachBytes) (hk : 1 ≤ k) : a ≤ 140737488351232 := by
  have h1 : (a + b) * 1 ≤ (a + b) * k := Nat.mul_le_mul_left _ hk
  have h2 : reachBytes = 140737488351232 := rfl
  omega

theorem bytes3 : Tryz.prog.bytesOf 3 = 8 := by kernel_rfl
theorem bytes75 : Tryz.prog.bytesOf 92 = 64 := by kernel_rfl
theorem bytes49 : Tryz.prog.bytesOf 59 = 48 := by kernel_rfl
theorem bytes55 : Tryz.prog.bytesOf 53 = 96 := by kernel_rfl
theorem cells3 : Tryz.prog.cellsOf 3 = 1 := by kernel_rfl
theorem cells22 : Tryz.prog.cellsOf 22 = 1 := by kernel_rfl
theorem cells23 : Tryz.prog.cellsOf 23 = 1 := by kernel_rfl
theorem cells25 : Tryz.prog.cellsOf 25 = 4 := by kernel_rfl
theorem cells49 : Tryz.prog.cellsOf 59 = 4 := by kernel_rfl
theorem cells50 : Tryz.prog.cellsOf 49 = 1 := by kernel_rfl
theorem cells52 : Tryz.prog.cellsOf 51 = 4 := by kernel_rfl
theorem cells53 : Tryz.prog.cellsOf 48 = 1 := by kernel_rfl
theorem cells55 : Tryz.prog.cellsOf 53 = 6 := by kernel_rfl
theorem cells75 : Tryz.prog.cellsOf 92 = 4 := by kernel_rfl

theorem addr_of {a : Addr} {v : Value} (h : w.cell? (a.add 0) = some v) : ∃ b off, a = ⟨b, off, none⟩ ∧ b < w.heap.size := by
  obtain ⟨b, off, spot⟩ := a
  have h0 : (⟨b, off, spot⟩ : Addr).add 0 = ⟨b, off, spot⟩ := by simp [Addr.add]
  rw [h0] at h
  have hspot : spot = none := World.cell?_spot h
  exact ⟨b, off, by rw [hspot], World.block_lt_of_cell? w _ h⟩

/-- a list of numbers that is read -/
theorem rd_ints {fuel : Nat} {v : Value} {x : DataW H × List MemPlace} (h : Rd enc w fuel 22 [v] x) (hs : Sz 22 x.1) : ∃ xs, Ints w w.heap.size v xs ∧ ∀ n ∈ xs, I64 n := by
  rcases open_ints Tryz.underlying22 Tryz.underlying3 cells3 h with ⟨hv, _⟩ | ⟨a, len, cap, zs, hv, _, hl, hm, hz, hx, hc, hw⟩
  · injection hv with hv
    subst hv
    exact ⟨[], Ints.nil _ _, fun n hn => by cases hn⟩
  · injection hv with hv
    subst hv
    simp only [if_true] at hz
    have hlen : (zs.take len).length = len := by rw [List.length_take]; omega
    refine ⟨zs.take len, ⟨some a, cap, by rw [hlen], ?_, fun k hk => ?_⟩, fun n hn => hw n (List.mem_of_mem_take hn)⟩
    · rw [hlen]
      rw [hx] at hs
      have h1 := (hs.slice Tryz.underlying22).1
      simp only [lits, List.length_map] at h1
      have := reach_small h1 (by rw [bytes3]; omega)
      omega
    · rw [hlen] at hk
      have h1 := hc k (by omega)
      obtain ⟨b, off, rfl, hb⟩ := addr_of (hc 0 (by omega))
      refine ⟨b, off, rfl, hb, ?_⟩
      rw [← Go.WideShapes.add_plain, h1]
      congr 2
      rw [List.getElem?_take, if_pos hk]
      rfl
/-- the cells of the elements of a slice that is read -/
theorem rd_slice {t e : TypeId} (ht : Tryz.prog.underlying t = some (.slice e)) {c : Nat} (hc : Tryz.prog.cellsOf e = c) (hby : 1 ≤ Tryz.prog.bytesOf e) (hpos : 0 < c) {fuel : Nat} {v : Value} {x : DataW H × List MemPlace} (h : Rd enc w fuel t [v] x) (hs : Sz t x.1) :
    ∃ A n cap, v = .slice A n cap ∧ n ≤ 140737488351232 ∧ ∀ k, k < n → ∃ b off cs f y, A = some ⟨b, off, none⟩ ∧ b < w.heap.size ∧ cs.length = c ∧ (∀ j, j < c → w.cell? ⟨b, off + (k * c + j), none⟩ = cs[j]?) ∧ Rd enc w f e cs y ∧ Sz e y.1 := by
  rcases open_slice ht h with ⟨hv, _⟩ | ⟨a, len, cap, m, n, D, Pl, hv, _, hl, hm, hmm, hx, hi⟩
  · injection hv with hv
    subst hv
    exact ⟨none, 0, 0, rfl, by omega, fun k hk => by omega⟩
  · injection hv with hv
    subst hv
    simp only [if_true] at hmm
    rw [hx] at hs
    have h1 := hs.slice ht
    simp only [List.length_map, List.length_range] at h1
    refine ⟨some a, len, cap, rfl, by have := reach_small h1.1 hby; omega, fun k hk => ?_⟩
    obtain ⟨cs0, hcs0, _⟩ := hi 0 (by omega)
    obtain ⟨_, hl0, hat0⟩ := World.cells?_some hcs0
    rw [hc] at hl0 hat0
    have h00 := hat0 0 hpos
    obtain ⟨v0, hv0⟩ : ∃ v0, cs0[0]? = some v0 := ⟨_, List.getElem?_eq_getElem (by omega)⟩
    have h01 : w.cell? (a.add 0) = some v0 := by
      rw [hv0, Nat.zero_mul] at h00
      rw [← h00]
      rfl
    obtain ⟨b, off, rfl, hb⟩ := addr_of h01
    obtain ⟨cs, hcs, hr⟩ := hi k (by omega)
    obtain ⟨_, hlen, hat⟩ := World.cells?_some hcs
    rw [hc] at hlen hat
    refine ⟨b, off, cs, n, _, rfl, hb, hlen, fun j hj => ?_, hr, h1.2 _ (List.mem_map.2 ⟨k, List.mem_range.2 (by omega), rfl⟩)⟩
    rw [← hat j hj, Go.WideShapes.add_plain, Go.WideShapes.add_plain, Nat.add_assoc]

/-- a field of one cell of a struct that is read -/
theorem rd_field {t : TypeId} {fs : Array Field} (ht : Tryz.prog.underlying t = some (.struct fs)) {fuel : Nat} {cs : List Value} {x : DataW H × List MemPlace} (h : Rd enc w fuel t cs x) (hs : Sz t x.1) {j : Nat} {f : Field} (hf : fs[j]? = some f) :
    ∃ n y, Rd enc w n f.type ((cs.drop f.offset).take (Tryz.prog.cellsOf f.type)) y ∧ Sz f.type y.1 := by
  obtain ⟨ys, n, _, hx, _, hlen, hg⟩ := DataW.trod_struct ht h
  have h1 := hg j f hf
  have hj : j < ys.length := by rw [hlen]; exact (Array.getElem?_eq_some_iff.1 hf).1
  rw [List.getElem?_eq_getElem hj] at h1
  rw [hx] at hs
  exact ⟨n, ys[j], h1, hs.agg ht hf (by rw [List.getElem?_map, List.getElem?_eq_getElem hj]; rfl)⟩

theorem drop_take_one {cs : List Value} {j : Nat} {v : Value} (h : cs[j]? = some v) : (cs.drop j).take 1 = [v] := by
  obtain ⟨hj, rfl⟩ := List.getElem?_eq_some_iff.1 h
  rw [List.drop_eq_getElem_cons hj]
  rfl

theorem rd_field1 {t : TypeId} {fs : Array Field} (ht : Tryz.prog.underlying t = some (.struct fs)) {fuel : Nat} {cs : List Value} {x : DataW H × List MemPlace} (h : Rd enc w fuel t cs x) (hs : Sz t x.1) (j : Nat) {f : Field} (hf : fs[j]? = some f)
    (ft : TypeId) (h1 : f.type = ft) (off : Nat) (h2 : f.offset = off) (hc : Tryz.prog.cellsOf ft = 1) {v : Value} (hv : cs[off]? = some v) : ∃ n y, Rd enc w n ft [v] y ∧ Sz ft y.1 := by
  subst h1 h2
  obtain ⟨n, y, hr, hz⟩ := rd_field ht h hs hf
  rw [hc, drop_take_one hv] at hr
  exact ⟨n, y, hr, hz⟩

theorem rd_fieldT {t : TypeId} {fs : Array Field} (ht : Tryz.prog.underlying t = some (.struct fs)) {fuel : Nat} {cs : List Value} {x : DataW H × List MemPlace} (h : Rd enc w fuel t cs x) (hs : Sz t x.1) (j : Nat) {f : Field} (hf : fs[j]? = some f)
    (ft : TypeId) (h1 : f.type = ft) (off : Nat) (h2 : f.offset = off) {c : Nat} (hc : Tryz.prog.cellsOf ft = c) : ∃ n y, Rd enc w n ft ((cs.drop off).take c) y ∧ Sz ft y.1 := by
  subst h1 h2 hc
  exact rd_field ht h hs hf

theorem rd_int {fuel : Nat} {v : Value} {x : DataW H × List MemPlace} (h : Rd enc w fuel 3 [v] x) : ∃ n, v = .int .i64 n ∧ I64 n := by
  obtain ⟨n, hv, _, hw⟩ := DataW.trod_int Tryz.underlying3 h
  injection hv with hv
  exact ⟨n, hv, hw⟩

theorem four {cs : List Value} (h : cs.length = 4) : ∃ a b c d, cs = [a, b, c, d] := by
  match cs, h with
  | [a, b, c, d], _ => exact ⟨a, b, c, d, rfl⟩
theorem six {cs : List Value} (h : cs.length = 6) : ∃ a b c d e f, cs = [a, b, c, d, e, f] := by
  match cs, h with
  | [a, b, c, d, e, f], _ => exact ⟨a, b, c, d, e, f, rfl⟩

theorem rd_phis {fuel : Nat} {v : Value} {x : DataW H × List MemPlace} (h : Rd enc w fuel 48 [v] x) (hs : Sz 48 x.1) :
    ∃ ps, PhisR w w.heap.size v ps ∧ ∀ p ∈ ps, p.vals.length ≤ 140737488351232 ∧ ∀ n ∈ p.vals, I64 n := by
  obtain ⟨A, n, cap, rfl, hn, hk⟩ := rd_slice Tryz.underlying48 cells75 (by rw [bytes75]; omega) (by omega) h hs
  obtain ⟨ps, hl, hps⟩ := list_choose (α := PhiM) (R := fun k p => (∃ b off fv vv, A = some ⟨b, off, none⟩ ∧ b < w.heap.size ∧
    w.cell? ⟨b, off + k * 4, none⟩ = some (.int .i64 p.id) ∧ w.cell? ⟨b, off + k * 4 + 1, none⟩ = some (.int .i64 p.typ) ∧ w.cell? ⟨b, off + k * 4 + 2, none⟩ = some fv ∧ w.cell? ⟨b, off + k * 4 + 3, none⟩ = some vv ∧
    Ints w w.heap.size fv p.fr ∧ Ints w w.heap.size vv p.vals ∧ I64 p.id ∧ I64 p.typ) ∧ p.vals.length ≤ 140737488351232 ∧ ∀ n ∈ p.vals, I64 n) n (fun k hlt => by
      obtain ⟨b, off, cs, f, y, hA, hb, hlen, hc, hr, hz⟩ := hk k hlt
      obtain ⟨c0, c1, c2, c3, rfl⟩ := four hlen
      obtain ⟨n0, y0, r0, z0⟩ := rd_field1 Tryz.underlying92 hr hz 0 rfl 3 rfl 0 rfl cells3 rfl
      obtain ⟨n1, y1, r1, z1⟩ := rd_field1 Tryz.underlying92 hr hz 1 rfl 3 rfl 1 rfl cells3 rfl
      obtain ⟨n2, y2, r2, z2⟩ := rd_field1 Tryz.underlying92 hr hz 2 rfl 22 rfl 2 rfl cells22 rfl
      obtain ⟨n3, y3, r3, z3⟩ := rd_field1 Tryz.underlying92 hr hz 3 rfl 22 rfl 3 rfl cells22 rfl
      obtain ⟨id, rfl, hi⟩ := rd_int r0
      obtain ⟨ty, rfl, ht⟩ := rd_int r1
      obtain ⟨fr, hf, _⟩ := rd_ints r2 z2
      obtain ⟨va, hv, hvi⟩ := rd_ints r3 z3
      refine ⟨⟨id, ty, fr, va⟩, ⟨b, off, _, _, hA, hb, hc 0 (by omega), hc 1 (by omega), hc 2 (by omega), hc 3 (by omega), hf, hv, hi, ht⟩, ?_, hvi⟩
      obtain ⟨_, _, _, hm, _⟩ := hv
      exact hm)
  subst hl
  exact ⟨ps, ⟨A, cap, rfl, hn, fun k p hp => (hps k p hp).1⟩, fun p hp => by obtain ⟨k, hk⟩ := List.mem_iff_getElem?.1 hp; exact (hps k p hk).2⟩

theorem rd_code {fuel : Nat} {v : Value} {x : DataW H × List MemPlace} (h : Rd enc w fuel 49 [v] x) (hs : Sz 49 x.1) :
    ∃ xs, CodeR w w.heap.size v xs ∧ ∀ p ∈ xs, ∀ n ∈ p.args, I64 n := by
  obtain ⟨A, n, cap, rfl, hn, hk⟩ := rd_slice Tryz.underlying49 cells49 (by rw [bytes49]; omega) (by omega) h hs
  obtain ⟨ps, hl, hps⟩ := list_choose (α := InstrM) (R := fun k x => (∃ b off av, A = some ⟨b, off, none⟩ ∧ b < w.heap.size ∧
    w.cell? ⟨b, off + k * 4, none⟩ = some (.int .i64 x.op) ∧ w.cell? ⟨b, off + k * 4 + 1, none⟩ = some (.int .i64 x.id) ∧ w.cell? ⟨b, off + k * 4 + 2, none⟩ = some av ∧ w.cell? ⟨b, off + k * 4 + 3, none⟩ = some (.int .i64 x.n) ∧
    Ints w w.heap.size av x.args ∧ I64 x.op ∧ I64 x.id ∧ I64 x.n) ∧ ∀ n ∈ x.args, I64 n) n (fun k hlt => by
      obtain ⟨b, off, cs, f, y, hA, hb, hlen, hc, hr, hz⟩ := hk k hlt
      obtain ⟨c0, c1, c2, c3, rfl⟩ := four hlen
      obtain ⟨n0, y0, r0, z0⟩ := rd_field1 Tryz.underlying59 hr hz 0 rfl 3 rfl 0 rfl cells3 rfl
      obtain ⟨n1, y1, r1, z1⟩ := rd_field1 Tryz.underlying59 hr hz 1 rfl 3 rfl 1 rfl cells3 rfl
      obtain ⟨n2, y2, r2, z2⟩ := rd_field1 Tryz.underlying59 hr hz 2 rfl 22 rfl 2 rfl cells22 rfl
      obtain ⟨n3, y3, r3, z3⟩ := rd_field1 Tryz.underlying59 hr hz 3 rfl 3 rfl 3 rfl cells3 rfl
      obtain ⟨op, rfl, ho⟩ := rd_int r0
      obtain ⟨id, rfl, hi⟩ := rd_int r1
      obtain ⟨ar, hf, hfi⟩ := rd_ints r2 z2
      obtain ⟨nn, rfl, hnn⟩ := rd_int r3
      exact ⟨⟨op, id, ar, nn⟩, ⟨b, off, _, hA, hb, hc 0 (by omega), hc 1 (by omega), hc 2 (by omega), hc 3 (by omega), hf, ho, hi, hnn⟩, hfi⟩)
  subst hl
  exact ⟨ps, ⟨A, cap, rfl, hn, fun k p hp => (hps k p hp).1⟩, fun p hp => by obtain ⟨k, hk⟩ := List.mem_iff_getElem?.1 hp; exact (hps k p hk).2⟩

/-- what all numbers of a block are like -/
def BlockOk (q : BlockM) : Prop := (∀ p ∈ q.phis, p.vals.length ≤ 140737488351232 ∧ ∀ n ∈ p.vals, I64 n) ∧ (∀ p ∈ q.code, ∀ n ∈ p.args, I64 n) ∧ I64 q.term.val

theorem rd_blocks {fuel : Nat} {v : Value} {x : DataW H × List MemPlace} (h : Rd enc w fuel 23 [v] x) (hs : Sz 23 x.1) :
    ∃ bs, BlocksR w w.heap.size v bs ∧ ∀ q ∈ bs, BlockOk q := by
  obtain ⟨A, n, cap, rfl, hn, hk⟩ := rd_slice Tryz.underlying23 cells55 (by rw [bytes55]; omega) (by omega) h hs
  obtain ⟨ps, hl, hps⟩ := list_choose (α := BlockM) (R := fun k q => (∃ b off pv cv tv, A = some ⟨b, off, none⟩ ∧ b < w.heap.size ∧
    w.cell? ⟨b, off + k * 6, none⟩ = some pv ∧ w.cell? ⟨b, off + k * 6 + 1, none⟩ = some cv ∧ w.cell? ⟨b, off + k * 6 + 2, none⟩ = some (.int .i64 q.term.op) ∧ w.cell? ⟨b, off + k * 6 + 3, none⟩ = some (.int .i64 q.term.val) ∧
    w.cell? ⟨b, off + k * 6 + 4, none⟩ = some tv ∧ w.cell? ⟨b, off + k * 6 + 5, none⟩ = some (.int .i64 q.term.n) ∧
    PhisR w w.heap.size pv q.phis ∧ CodeR w w.heap.size cv q.code ∧ Ints w w.heap.size tv q.term.to ∧ I64 q.term.op ∧ I64 q.term.val ∧ I64 q.term.n) ∧ BlockOk q) n (fun k hlt => by
      obtain ⟨b, off, cs, f, y, hA, hb, hlen, hc, hr, hz⟩ := hk k hlt
      obtain ⟨c0, c1, c2, c3, c4, c5, rfl⟩ := six hlen
      obtain ⟨n0, y0, r0, z0⟩ := rd_field1 Tryz.underlying53 hr hz 0 rfl 48 rfl 0 rfl cells53 rfl
      obtain ⟨n1, y1, r1, z1⟩ := rd_field1 Tryz.underlying53 hr hz 1 rfl 49 rfl 1 rfl cells50 rfl
      obtain ⟨n2, y2, r2, z2⟩ := rd_fieldT Tryz.underlying53 hr hz 2 rfl 51 rfl 2 rfl cells52
      obtain ⟨m0, u0, q0, s0⟩ := rd_field1 Tryz.underlying51 r2 z2 0 rfl 3 rfl 0 rfl cells3 rfl
      obtain ⟨m1, u1, q1, s1⟩ := rd_field1 Tryz.underlying51 r2 z2 1 rfl 3 rfl 1 rfl cells3 rfl
      obtain ⟨m2, u2, q2, s2⟩ := rd_field1 Tryz.underlying51 r2 z2 2 rfl 22 rfl 2 rfl cells22 rfl
      obtain ⟨m3, u3, q3, s3⟩ := rd_field1 Tryz.underlying51 r2 z2 3 rfl 3 rfl 3 rfl cells3 rfl
      obtain ⟨phs, hph, hpo⟩ := rd_phis r0 z0
      obtain ⟨xs, hxs, hxo⟩ := rd_code r1 z1
      obtain ⟨op, rfl, ho⟩ := rd_int q0
      obtain ⟨va, rfl, hva⟩ := rd_int q1
      obtain ⟨to, hto, _⟩ := rd_ints q2 s2
      obtain ⟨nn, rfl, hnn⟩ := rd_int q3
      exact ⟨⟨phs, xs, ⟨op, va, to, nn⟩⟩, ⟨b, off, _, _, _, hA, hb, hc 0 (by omega), hc 1 (by omega), hc 2 (by omega), hc 3 (by omega), hc 4 (by omega), hc 5 (by omega), hph, hxs, hto, ho, hva, hnn⟩, hpo, hxo, hva⟩)
  subst hl
  exact ⟨ps, ⟨A, cap, rfl, hn, fun k p hp => (hps k p hp).1⟩, fun p hp => by obtain ⟨k, hk⟩ := List.mem_iff_getElem?.1 hp; exact (hps k p hk).2⟩

/-- a function that lies in memory as it was handed in -/
structure FnIn (w : World) (f : FuncM) (pv bv : Value) : Prop where
  par : Ints w w.heap.size pv f.params
  blk : BlocksR w w.heap.size bv f.blocks
  ok : ∀ q ∈ f.blocks, BlockOk q

theorem rd_func {fuel : Nat} {cs : List Value} {x : DataW H × List MemPlace} (h : Rd enc w fuel 25 cs x) (hs : Sz 25 x.1) :
    ∃ (f : FuncM) (pv bv : Value), cs = [pv, .int .i64 f.arrays, .int .i64 f.cells, bv] ∧ FnIn w f pv bv := by
  obtain ⟨ys, n, _, hx, hlen, _, hg⟩ := DataW.trod_struct Tryz.underlying25 h
  rw [cells25] at hlen
  obtain ⟨c0, c1, c2, c3, rfl⟩ := four hlen
  obtain ⟨n0, y0, r0, z0⟩ := rd_field1 Tryz.underlying25 h hs 0 rfl 22 rfl 0 rfl cells22 rfl
  obtain ⟨n1, y1, r1, z1⟩ := rd_field1 Tryz.underlying25 h hs 1 rfl 3 rfl 1 rfl cells3 rfl
  obtain ⟨n2, y2, r2, z2⟩ := rd_field1 Tryz.underlying25 h hs 2 rfl 3 rfl 2 rfl cells3 rfl
  obtain ⟨n3, y3, r3, z3⟩ := rd_field1 Tryz.underlying25 h hs 3 rfl 23 rfl 3 rfl cells23 rfl
  obtain ⟨ps, hps, _⟩ := rd_ints r0 z0
  obtain ⟨a, rfl, _⟩ := rd_int r1
  obtain ⟨c, rfl, _⟩ := rd_int r2
  obtain ⟨bs, hbs, hok⟩ := rd_blocks r3 z3
  exact ⟨⟨ps, a, c, bs⟩, c0, c3, rfl, hps, hbs, hok⟩
set_option maxRecDepth 100000 in
/-- the argument of type Func, opened -/
theorem open_func {ts : List TypeId} {ds : List (DataW H)} {base : Nat} {v : Value} {d : DataW H} {p : List MemPlace} (hok : Value.okWide Tryz.prog w .any base 25 v) (h : DataW.Trod enc Tryz.prog w 0 (fun _ => true) true 25 v d p)
    (hsz : (DataW.weightsEach Tryz.prog ts ds).all (· ≤ reachBytes) = true) {j : Nat} (ht : ts[j]? = some 25) (hd : ds[j]? = some d) :
    ∃ (f : FuncM) (pv bv : Value), v = .agg #[pv, .int .i64 f.arrays, .int .i64 f.cells, bv] ∧ FnIn w f pv bv := by
  obtain ⟨cs, rfl, _⟩ := okWide_struct Tryz.underlying25 hok
  obtain ⟨fuel, hf⟩ := h
  have hs : Sz 25 d := by
    intro n hn
    have h1 := List.all_eq_true.1 hsz n (DataW.weights_mem_each ht hd n hn)
    rw [decide_eq_true_eq] at h1
    exact h1
  obtain ⟨f, pv, bv, hcs, hF⟩ := rd_func (x := (d, p)) hf hs
  refine ⟨f, pv, bv, ?_, hF⟩
  congr 1
  have h2 : cs.toList = [pv, .int .i64 f.arrays, .int .i64 f.cells, bv] := hcs
  rw [← Array.toArray_toList (xs := cs), h2]
end

end Go.Proofs.YtncmnbchkabgaaaGreat

namespace Go.Proofs.YtncmnbchkabgaaaGreat
open Go.RowKit

/-- how far a run has come -/
structure StM where
  val : Int → Int
  cells : List Int
  arrs : List (List Int)
  out : List Int
  steps : Nat
  checks : Int
  vis : List Int

/-- how a run ended: End, Value, Trap -/
abbrev EndM := Int × Int × Int

/-- a place in a run: in block 'b', ahead of its instruction (or end) 'k' -/
structure CfgM where
  s : StM
  b : Nat
  k : Nat
  fin : Option EndM

def noBlock : BlockM := ⟨[], [], ⟨0, 0, [], 0⟩⟩
def blkM (f : FuncM) (b : Nat) : BlockM := f.blocks.getD b noBlock

def setV (g : Int → Int) (id v : Int) : Int → Int := fun x => if x = id then v else g x
def setAll (g : Int → Int) : List (Int × Int) → Int → Int
  | [] => g
  | p :: r => setAll (setV g p.1 p.2) r

/-- bits of numbers -/
def bitsS (op : BinOp) (x y : Int) : Int := bits op .i64 x y
def u64 (x : Int) : Int := x % 18446744073709551616
def flagM (b : Bool) : Int := if b then 1 else 0

/-- what a pure operation makes of numbers -/
def calcM (op : Int) (a : List Int) : Int :=
  let x := a.getD 0 0
  let y := a.getD 1 0
  if op = 3 then wrap64 (x + y) else
  if op = 4 then wrap64 (x - y) else
  if op = 5 then wrap64 (x * y) else
  if op = 6 then bitsS .and x y else
  if op = 7 then bitsS .or x y else
  if op = 8 then bitsS .xor x y else
  if op = 9 then wrap64 (x * 2 ^ (u64 y % 64).toNat) else
  if op = 10 then wrap64 (u64 x / 2 ^ (u64 y % 64).toNat) else
  if op = 11 then wrap64 (x.tdiv y) else
  if op = 12 then x.tmod y else
  if op = 13 then flagM (decide (x = y)) else
  if op = 14 then flagM (decide (x < y)) else
  if op = 15 then flagM (decide (u64 x < u64 y)) else
  if op = 16 then flagM (decide (x = 0)) else
  if x = 0 then a.getD 2 0 else y

def divZero (op : Int) (a : List Int) : Bool := (decide (op = 11) || decide (op = 12)) && decide (a.getD 1 0 = 0)

def arrM (s : StM) (n : Int) : List Int := s.arrs.getD n.toNat []
def inArr (s : StM) (n i : Int) : Bool := decide (0 ≤ i) && decide (i < (arrM s n).length)

/-- the look at an element: Checks, and how the run ends if it is not there -/
def lookS (op : Int) (s : StM) : StM := if op = 19 ∨ op = 20 then { s with checks := wrap64 (s.checks + 1) } else s
def missM (op : Int) : EndM := if op = 19 ∨ op = 20 then (2, 0, -2) else (5, 0, 0)

/-- what an instruction makes that makes something -/
def madeM (x : InstrM) (a : List Int) (s : StM) : StM × (Int ⊕ EndM) :=
  if x.op = 1 ∨ x.op = 2 then (s, .inl x.n) else
  if x.op = 18 then (s, .inl (arrM s x.n).length) else
  if x.op = 19 ∨ x.op = 21 then
    if inArr s x.n (a.getD 0 0) then (lookS x.op s, .inl ((arrM s x.n).getD (a.getD 0 0).toNat 0)) else (lookS x.op s, .inr (missM x.op)) else
  if x.op = 24 then (s, .inl (s.cells.getD x.n.toNat 0)) else
  if divZero x.op a then (s, .inr (2, 0, -1)) else (s, .inl (calcM x.op a))

def doM (x : InstrM) (s : StM) : StM × Option EndM :=
  let a := x.args.map s.val
  if x.op = 20 ∨ x.op = 22 then
    if inArr s x.n (a.getD 0 0) then ({ lookS x.op s with arrs := s.arrs.set x.n.toNat ((arrM s x.n).set (a.getD 0 0).toNat (a.getD 1 0)) }, none) else (lookS x.op s, some (missM x.op)) else
  if x.op = 23 then
    if s.out.length = 4096 then (s, some (4, 0, 0)) else ({ s with out := s.out ++ [a.getD 0 0] }, none) else
  if x.op = 25 then ({ s with cells := s.cells.set x.n.toNat (a.getD 0 0) }, none) else
  match madeM x a s with
  | (s1, .inl v) => ({ s1 with val := setV s1.val x.id v }, none)
  | (s1, .inr e) => (s1, some e)

def phiGets (g : Int → Int) (fr : Int) (p : PhiM) : Int := g (p.vals.getD (p.fr.idxOf fr) 0)

/-- a block is come to -/
def arriveM (f : FuncM) (b : Nat) (fr : Int) (s : StM) : StM :=
  { s with vis := s.vis.set b (wrap64 (s.vis.getD b 0 + 1)), val := setAll s.val ((blkM f b).phis.map fun p => (p.id, phiGets s.val fr p)) }

def enterM (f : FuncM) (b : Nat) (fr : Int) (s : StM) : CfgM := ⟨arriveM f b fr s, b, 0, none⟩

def tickM (s : StM) : StM := { s with steps := s.steps + 1 }

def nextM (t : TermM) (s : StM) : Int := if t.op = 2 ∧ s.val t.val = 0 then t.to.getD 1 0 else t.to.getD 0 0

def leaveM (f : FuncM) (b k : Nat) (s : StM) : CfgM :=
  let t := (blkM f b).term
  if t.op = 3 then ⟨s, b, k, some (1, s.val t.val, 0)⟩ else
  if t.op = 4 then ⟨s, b, k, some (2, 0, t.n)⟩ else enterM f (nextM t s).toNat b s

/-- one step -/
def goM (f : FuncM) (c : CfgM) : CfgM :=
  match c.fin with
  | some _ => c
  | none =>
    match (blkM f c.b).code[c.k]? with
    | some x => ⟨(doM x (tickM c.s)).1, c.b, c.k + 1, (doM x (tickM c.s)).2⟩
    | none => leaveM f c.b c.k (tickM c.s)

def goN (f : FuncM) : Nat → CfgM → CfgM
  | 0, c => c
  | n + 1, c => goM f (goN f n c)

/-- an input -/
structure InM where
  args : List Int
  arrs : List (List Int)

def argM (f : FuncM) (I : InM) (i : Nat) : Int :=
  if i < f.params.length ∧ i < I.args.length then
    if f.params.getD i 0 = 2 ∧ I.args.getD i 0 ≠ 0 then 1 else I.args.getD i 0
  else 0

def startS (f : FuncM) (I : InM) : StM where
  val := fun x => if 0 ≤ x then argM f I x.toNat else 0
  cells := List.replicate f.cells.toNat 0
  arrs := (List.range f.arrays.toNat).map fun i => (I.arrs.getD i []).take 4096
  out := []
  steps := 0
  checks := 0
  vis := List.replicate f.blocks.length 0

def startM (f : FuncM) (I : InM) : CfgM := enterM f 0 (-1) (startS f I)

def finM (c : CfgM) : EndM := c.fin.getD (3, 0, 0)

/-- the run, with so much fuel -/
def runM (f : FuncM) (I : InM) (fuel : Nat) : CfgM := goN f (min fuel 200000) (startM f I)

/-! what a run is like -/

theorem goM_fin {f : FuncM} {c : CfgM} (h : c.fin ≠ none) : goM f c = c := by
  unfold goM
  cases hf : c.fin with
  | none => exact absurd hf h
  | some e => rfl

theorem goN_add (f : FuncM) (m : Nat) : ∀ (n : Nat) (c : CfgM), goN f (n + m) c = goN f n (goN f m c)
  | 0, c => by rw [Nat.zero_add]; rfl
  | n + 1, c => by rw [show n + 1 + m = (n + m) + 1 by omega]; show goM f (goN f (n + m) c) = goM f (goN f n (goN f m c)); rw [goN_add f m n c]

theorem goN_fin {f : FuncM} {c : CfgM} (h : c.fin ≠ none) : ∀ n, goN f n c = c
  | 0 => rfl
  | n + 1 => by show goM f (goN f n c) = c; rw [goN_fin h n, goM_fin h]

/-- a run that has ended stays so -/
theorem goN_ended {f : FuncM} {c : CfgM} {m n : Nat} (hmn : m ≤ n) (h : (goN f m c).fin ≠ none) : goN f n c = goN f m c := by
  obtain ⟨d, rfl⟩ : ∃ d, n = d + m := ⟨n - m, by omega⟩
  rw [goN_add, goN_fin h]

theorem madeM_steps (x : InstrM) (a : List Int) (s : StM) : (madeM x a s).1.steps = s.steps := by
  unfold madeM lookS
  repeat' split
  all_goals rfl

theorem lookS_steps (op : Int) (s : StM) : (lookS op s).steps = s.steps := by
  unfold lookS
  split <;> rfl

theorem doM_steps (x : InstrM) (s : StM) : (doM x s).1.steps = s.steps := by
  have hm := madeM_steps x (x.args.map s.val) s
  have hl := lookS_steps x.op s
  unfold doM
  simp only
  repeat' split
  all_goals first | rfl | exact hl | (rename_i h; rw [h] at hm; exact hm)

theorem arriveM_steps (f : FuncM) (b : Nat) (fr : Int) (s : StM) : (arriveM f b fr s).steps = s.steps := rfl

theorem leaveM_steps (f : FuncM) (b k : Nat) (s : StM) : (leaveM f b k s).s.steps = s.steps := by
  unfold leaveM enterM
  simp only
  repeat' split
  all_goals rfl

theorem goM_steps {f : FuncM} {c : CfgM} (h : c.fin = none) : (goM f c).s.steps = c.s.steps + 1 := by
  unfold goM
  rw [h]
  simp only
  split
  · exact (doM_steps _ _).trans rfl
  · exact (leaveM_steps _ _ _ _).trans rfl

/-- a run that goes on has done as many steps as it took -/
theorem goN_steps {f : FuncM} {I : InM} : ∀ {n : Nat}, (goN f n (startM f I)).fin = none → (goN f n (startM f I)).s.steps = n
  | 0, _ => rfl
  | n + 1, h => by
    have h0 : (goN f n (startM f I)).fin = none := by
      cases hf : (goN f n (startM f I)).fin with
      | none => rfl
      | some e =>
        have h1 : goM f (goN f n (startM f I)) = goN f n (startM f I) := goM_fin (by rw [hf]; exact fun h => by cases h)
        rw [show goN f (n + 1) (startM f I) = goM f (goN f n (startM f I)) from rfl, h1, hf] at h
        cases h
    show (goM f (goN f n (startM f I))).s.steps = n + 1
    rw [goM_steps h0, goN_steps h0]

end Go.Proofs.YtncmnbchkabgaaaGreat

namespace Go.Proofs.YtncmnbchkabgaaaGreat
open Go.RowKit

theorem num_add (x y : Int) (w : World) : Calls Tryz.prog 93 #[.int .i64 x, .int .i64 y] w fun e w' => e = .returned (.int .i64 (wrap64 (x + y))) ∧ w' = w := by
  go_enter Tryz.func93, Tryz.ntmps93
  go_wp2
  go_ret
  exact ⟨rfl, rfl⟩
theorem num_sub (x y : Int) (w : World) : Calls Tryz.prog 94 #[.int .i64 x, .int .i64 y] w fun e w' => e = .returned (.int .i64 (wrap64 (x - y))) ∧ w' = w := by
  go_enter Tryz.func94, Tryz.ntmps94
  go_wp2
  go_ret
  exact ⟨rfl, rfl⟩
theorem num_mul (x y : Int) (w : World) : Calls Tryz.prog 95 #[.int .i64 x, .int .i64 y] w fun e w' => e = .returned (.int .i64 (wrap64 (x * y))) ∧ w' = w := by
  go_enter Tryz.func95, Tryz.ntmps95
  go_wp2
  go_ret
  exact ⟨rfl, rfl⟩
theorem num_and (x y : Int) (w : World) : Calls Tryz.prog 96 #[.int .i64 x, .int .i64 y] w fun e w' => e = .returned (.int .i64 (bitsS .and x y)) ∧ w' = w := by
  go_enter Tryz.func96, Tryz.ntmps96
  go_wp2
  go_ret
  exact ⟨rfl, rfl⟩
theorem num_or (x y : Int) (w : World) : Calls Tryz.prog 97 #[.int .i64 x, .int .i64 y] w fun e w' => e = .returned (.int .i64 (bitsS .or x y)) ∧ w' = w := by
  go_enter Tryz.func97, Tryz.ntmps97
  go_wp2
  go_ret
  exact ⟨rfl, rfl⟩
theorem num_xor (x y : Int) (w : World) : Calls Tryz.prog 98 #[.int .i64 x, .int .i64 y] w fun e w' => e = .returned (.int .i64 (bitsS .xor x y)) ∧ w' = w := by
  go_enter Tryz.func98, Tryz.ntmps98
  go_wp2
  go_ret
  exact ⟨rfl, rfl⟩
theorem num_div (x y : Int) (w : World) (hy : ¬ y = 0) : Calls Tryz.prog 101 #[.int .i64 x, .int .i64 y] w fun e w' => e = .returned (.int .i64 (wrap64 (x.tdiv y))) ∧ w' = w := by
  go_enter Tryz.func101, Tryz.ntmps101
  go_wp2
  go_ret
  exact ⟨rfl, rfl⟩
theorem num_rem (x y : Int) (w : World) (hy : ¬ y = 0) : Calls Tryz.prog 102 #[.int .i64 x, .int .i64 y] w fun e w' => e = .returned (.int .i64 (x.tmod y)) ∧ w' = w := by
  go_enter Tryz.func102, Tryz.ntmps102
  go_wp2
  go_ret
  exact ⟨rfl, rfl⟩
theorem flagOf_any (b : Bool) (w : World) : Calls Tryz.prog 148 #[.bool b] w fun e w' => e = .returned (.int .i64 (flagM b)) ∧ w' = w := by
  cases b
  · go_enter Tryz.func148, Tryz.ntmps148
    go_wp2
    go_ret
    exact ⟨rfl, rfl⟩
  · go_enter Tryz.func148, Tryz.ntmps148
    go_wp2
    go_ret
    exact ⟨rfl, rfl⟩
theorem num_eq (x y : Int) (w : World) : Calls Tryz.prog 103 #[.int .i64 x, .int .i64 y] w fun e w' => e = .returned (.int .i64 (flagM (decide (x = y)))) ∧ w' = w := by
  go_enter Tryz.func103, Tryz.ntmps103
  go_wp2_with (go_at_call 148; refine (flagOf_any _ _).mono ?_; rintro e w1 ⟨rfl, rfl⟩)
  go_ret
  exact ⟨by congr 2, rfl⟩
theorem num_lt (x y : Int) (w : World) : Calls Tryz.prog 104 #[.int .i64 x, .int .i64 y] w fun e w' => e = .returned (.int .i64 (flagM (decide (x < y)))) ∧ w' = w := by
  go_enter Tryz.func104, Tryz.ntmps104
  go_wp2_with (go_at_call 148; refine (flagOf_any _ _).mono ?_; rintro e w1 ⟨rfl, rfl⟩)
  go_ret
  exact ⟨rfl, rfl⟩
theorem num_below (x y : Int) (w : World) : Calls Tryz.prog 105 #[.int .i64 x, .int .i64 y] w fun e w' => e = .returned (.int .i64 (flagM (decide (u64 x < u64 y)))) ∧ w' = w := by
  go_enter Tryz.func105, Tryz.ntmps105
  go_wp2_with (go_at_call 148; refine (flagOf_any _ _).mono ?_; rintro e w1 ⟨rfl, rfl⟩)
  go_ret
  exact ⟨rfl, rfl⟩
theorem u64_wrap (y : Int) : IntKind.u64.wrap y = u64 y := by
  unfold u64
  simp [IntKind.wrap, IntKind.bits, IntKind.signed]

theorem u64_pos (y : Int) : 0 ≤ u64 y := by unfold u64; omega

theorem u64_tmod (y : Int) : (IntKind.u64.wrap y).tmod 64 = u64 y % 64 := by
  rw [u64_wrap, Int.tmod_eq_emod_of_nonneg (u64_pos y)]

theorem shift_l (P : Program) (x y : Int) (w : World) : (Op.shift .shl .i64 x .u64 ((IntKind.u64.wrap y).tmod 64)).run P w = .ok (.int .i64 (wrap64 (x * 2 ^ (u64 y % 64).toNat))) w := by
  have h0 : ¬ (u64 y % 64 < 0) := by omega
  have h1 : min (u64 y % 64).toNat IntKind.i64.bits = (u64 y % 64).toNat := by
    have : IntKind.i64.bits = 64 := rfl
    rw [this]; omega
  rw [u64_tmod]
  unfold Op.shift
  rw [if_neg h0]
  simp only [h1]
  show (Sem.run P (pure (Value.int IntKind.i64 (IntKind.i64.wrap (x * 2 ^ (u64 y % 64).toNat)))) w) = _
  rw [show IntKind.i64.wrap (x * 2 ^ (u64 y % 64).toNat) = wrap64 (x * 2 ^ (u64 y % 64).toNat) from (by rw [IntKind.wrap_i64]; unfold wrap64; rfl)]
  rfl

theorem shift_r (P : Program) (x y : Int) (w : World) : (Op.shift .shr .u64 (IntKind.u64.wrap x) .u64 ((IntKind.u64.wrap y).tmod 64)).run P w = .ok (.int .u64 (u64 x / 2 ^ (u64 y % 64).toNat)) w := by
  have h0 : ¬ (u64 y % 64 < 0) := by omega
  have h1 : min (u64 y % 64).toNat IntKind.u64.bits = (u64 y % 64).toNat := by
    have : IntKind.u64.bits = 64 := rfl
    rw [this]; omega
  rw [u64_tmod, u64_wrap]
  unfold Op.shift
  rw [if_neg h0]
  simp only [h1]
  rw [← Int.fdiv_eq_ediv_of_nonneg _ (by exact Int.le_of_lt (Int.pow_pos (by decide)))]
  rfl

theorem num_shl (x y : Int) (w : World) : Calls Tryz.prog 99 #[.int .i64 x, .int .i64 y] w fun e w' => e = .returned (.int .i64 (wrap64 (x * 2 ^ (u64 y % 64).toNat))) ∧ w' = w := by
  have hs := shift_l Tryz.prog x y
  go_enter Tryz.func99, Tryz.ntmps99
  go_wp2
  go_ret
  exact ⟨rfl, rfl⟩
theorem num_shr (x y : Int) (w : World) : Calls Tryz.prog 100 #[.int .i64 x, .int .i64 y] w fun e w' => e = .returned (.int .i64 (wrap64 (u64 x / 2 ^ (u64 y % 64).toNat))) ∧ w' = w := by
  have hs := shift_r Tryz.prog x y
  go_enter Tryz.func100, Tryz.ntmps100
  go_wp2
  go_ret
  exact ⟨rfl, rfl⟩

/-- the function's number, by its operation -/
def fnOf (op : Int) : Nat :=
  if op = 3 then 93 else
  if op = 4 then 94 else
  if op = 5 then 95 else
  if op = 6 then 96 else
  if op = 7 then 97 else
  if op = 8 then 98 else
  if op = 9 then 99 else
  if op = 10 then 100 else
  if op = 11 then 101 else
  if op = 12 then 102 else
  if op = 13 then 103 else
  if op = 14 then 104 else 105

theorem num_any (op : Int) (h1 : 3 ≤ op) (h2 : op ≤ 15) (x y : Int) (r : List Int) (hd : divZero op (x :: y :: r) = false) (w : World) :
    Calls Tryz.prog (fnOf op) #[.int .i64 x, .int .i64 y] w fun e w' => e = .returned (.int .i64 (calcM op (x :: y :: r))) ∧ w' = w := by
  have hy : (op = 11 ∨ op = 12) → ¬ y = 0 := by
    rintro ho rfl
    unfold divZero at hd
    rcases ho with rfl | rfl <;> simp at hd
  obtain rfl | rfl | rfl | rfl | rfl | rfl | rfl | rfl | rfl | rfl | rfl | rfl | rfl : op = 3 ∨ op = 4 ∨ op = 5 ∨ op = 6 ∨ op = 7 ∨ op = 8 ∨ op = 9 ∨ op = 10 ∨ op = 11 ∨ op = 12 ∨ op = 13 ∨ op = 14 ∨ op = 15 := by omega
  · exact num_add x y w
  · exact num_sub x y w
  · exact num_mul x y w
  · exact num_and x y w
  · exact num_or x y w
  · exact num_xor x y w
  · exact num_shl x y w
  · exact num_shr x y w
  · exact num_div x y w (hy (.inl rfl))
  · exact num_rem x y w (hy (.inr rfl))
  · exact num_eq x y w
  · exact num_lt x y w
  · exact num_below x y w
end Go.Proofs.YtncmnbchkabgaaaGreat

namespace Go.Proofs.YtncmnbchkabgaaaGreat
open Go.RowKit Go.Maps

/-- how a function reads -/
def fnElem : Value → Option (DataW Unit × List MemPlace)
  | .func (.func n) fs cs => if fs.size = 0 ∧ cs.size = 0 then some (.lit (.int .i64 n), []) else none
  | .nilFunc => some (.nil, [])
  | _ => none

theorem fnElem_mk (n : Nat) : fnElem (.func (.func n) #[] #[]) = some (.lit (.int .i64 n), []) := rfl

theorem fnElem_inv {v : Value} {n : Nat} {ps : List MemPlace} (h : fnElem v = some (.lit (.int .i64 n), ps)) : v = .func (.func n) #[] #[] := by
  unfold fnElem at h
  split at h
  · rename_i m fs cs
    split at h
    · rename_i hc
      have h4 : ((m : Nat) : Int) = ((n : Nat) : Int) := by simpa using congrArg Prod.fst (Option.some.inj h)
      have h3 : m = n := Int.ofNat.inj h4
      have h1 : fs = #[] := Array.eq_empty_of_size_eq_zero hc.1
      have h2 : cs = #[] := Array.eq_empty_of_size_eq_zero hc.2
      rw [h1, h2, h3]
    · cases h
  · cases h
  · cases h

/-- an entry of a map's literal -/
theorem wpList_insert_own {H : Type} {P : Program} (w : World) {ops : Array Oper} {rest : List Oper} {o : Oper} {a : Act} {Q : Exit → Act → World → Prop}
    (hg : o.guard = none) (m x v : Operand) (t : TypeId) (hop : o.op = Op.insert t m x v)
    (k e : TypeId) (K : Keyed P k) (ht : P.underlying t = some (.map k e)) (R : Value → Option (DataW H × List MemPlace)) (b n : Nat) (D : DataW H)
    (hm : a.eval m = .map (some b)) (hown : w.ownsMap P k R b n D) (hn : n < maxLen) (key val : Value) (kl : Lit) (hx : a.eval x = key) (hv : a.eval v = val) (hkey : keyOf P k key = some kl)
    (d : DataW H) (ps : List MemPlace) (hval : R val = some (d, ps))
    (hK : ∀ w', w'.ownsMap P k R b (n + 1) (D.put kl d) → w.grownBy w' (some b) → wpList P ops Q rest (a.put o.dst undef) w') :
    wpList P ops Q (o :: rest) a w := by
  refine wpList_plain hg fun K' hK' => ?_
  obtain ⟨w', hrun, r1, r2⟩ := hown.update K ht hn hkey hval
  unfold Oper.wp
  simp [execOp, hop, hm, hx, hv, hrun, Result.andThen]
  exact hK' _ _ (hK w' r1 r2)

/-- block M is the map of the operations' functions -/
def OpsAt (w : World) (M : Nat) : Prop :=
  ∃ D : DataW Unit, w.ownsMap Tryz.prog 3 fnElem M 13 D ∧ ∀ op : Int, 3 ≤ op → op ≤ 15 → ∀ z, D.atKey (.int .i64 op) z = .lit (.int .i64 (fnOf op))

theorem OpsAt.below {w w' : World} {M B : Nat} (h : OpsAt w M) (hb : Below B w w') (hM : M < B) : OpsAt w' M := by
  obtain ⟨D, ⟨es, clock, hg, r⟩, q⟩ := h
  exact ⟨D, ⟨es, clock, (hb.block M hM).trans hg, r⟩, q⟩

theorem OpsAt.lt {w : World} {M : Nat} (h : OpsAt w M) : M < w.heap.size := by
  obtain ⟨D, h, _⟩ := h
  exact h.lt

theorem OpsAt.heap {w w' : World} {M : Nat} (h : OpsAt w M) (hb : w'.heap[M]? = w.heap[M]?) : OpsAt w' M := by
  obtain ⟨D, ⟨es, clock, hg, r⟩, q⟩ := h
  exact ⟨D, ⟨es, clock, hb.trans hg, r⟩, q⟩

def PairsPost (w : World) (e : Ending) (w' : World) : Prop := e = .returned (.map (some w.heap.size)) ∧ OpsAt w' w.heap.size ∧ Below w.heap.size w w'

theorem pairs_end {w w' : World} (h : w'.ownsMap Tryz.prog 3 fnElem w.heap.size 13 ((((((((((((((.map [] : DataW Unit).put (.int .i64 3) (.lit (.int .i64 93))).put (.int .i64 4) (.lit (.int .i64 94))).put (.int .i64 5) (.lit (.int .i64 95))).put (.int .i64 6) (.lit (.int .i64 96))).put (.int .i64 7) (.lit (.int .i64 97))).put (.int .i64 8) (.lit (.int .i64 98))).put (.int .i64 9) (.lit (.int .i64 99))).put (.int .i64 10) (.lit (.int .i64 100))).put (.int .i64 11) (.lit (.int .i64 101))).put (.int .i64 12) (.lit (.int .i64 102))).put (.int .i64 13) (.lit (.int .i64 103))).put (.int .i64 14) (.lit (.int .i64 104))).put (.int .i64 15) (.lit (.int .i64 105))))
    (hb : Below w.heap.size w w') : PairsPost w (.returned (.map (some w.heap.size))) w' := by
  refine ⟨rfl, ⟨_, h, fun op h1 h2 z => ?_⟩, hb⟩
  obtain rfl | rfl | rfl | rfl | rfl | rfl | rfl | rfl | rfl | rfl | rfl | rfl | rfl : op = 3 ∨ op = 4 ∨ op = 5 ∨ op = 6 ∨ op = 7 ∨ op = 8 ∨ op = 9 ∨ op = 10 ∨ op = 11 ∨ op = 12 ∨ op = 13 ∨ op = 14 ∨ op = 15 := by omega
  all_goals rfl

set_option maxRecDepth 100000 in
set_option maxHeartbeats 2000000 in
theorem pairs_any (w : World) : Calls Tryz.prog 52 #[] w (PairsPost w) := by
  have hmm := @run_makeMap Tryz.prog
  have hown := World.ownsMap_made w Tryz.prog 3 fnElem
  have hb : Below w.heap.size w (w.alloc (.map #[] 0)) := (Below.refl w.heap.size w).alloc (Nat.le_refl _) _
  go_enter Tryz.func52, Tryz.ntmps52
  go_wp2_with (refine wpList_insert_own _ rfl _ _ _ 64 rfl 3 148 lawInt Tryz.underlying64 fnElem _ _ _ rfl hown (by unfold maxLen; omega) _ _ _ rfl rfl (keyOf_int_mk Tryz.underlying3 (by decide)) _ [] (fnElem_mk _) ?_; clear hown; intro w1 hown hg1; replace hb := hb.grown hg1 hb.size (fun j hj => by cases hj; exact Nat.le_refl _); clear hg1)
  go_ret
  exact pairs_end hown hb

end Go.Proofs.YtncmnbchkabgaaaGreat

namespace Go.Proofs.YtncmnbchkabgaaaGreat
open Go.RowKit Go.Maps

theorem zeroFn (w : World) : (zeroValue 148).run Tryz.prog w = .ok .nilFunc w := by kernel_rfl

theorem OpsAt.get {w : World} {M : Nat} (h : OpsAt w M) {op : Int} (h1 : 3 ≤ op) (h2 : op ≤ 15) :
    (Instr.lookup 64 (.map (some M)) (.int .i64 op) false).run Tryz.prog w = .ok (.func (.func (fnOf op)) #[] #[]) w := by
  obtain ⟨D, hown, hat⟩ := h
  obtain ⟨v, ps, hrun, hv⟩ := hown.lookup lawInt Tryz.underlying64 (zeroFn w) (rfl : fnElem .nilFunc = some (.nil, [])) (keyOf_int_mk Tryz.underlying3 (WalkArith.wf_i64 (by omega)) : keyOf Tryz.prog 3 (.int .i64 op) = some (.int .i64 op))
  rw [hat op h1 h2] at hv
  rw [fnElem_inv hv] at hrun
  exact hrun

theorem enter_fn (op : Int) (h1 : 3 ≤ op) (h2 : op ≤ 15) (args : Array Value) (W : World) : (callFunc (fnOf op) args).run Tryz.prog W = .ok (.enter (fnOf op) args) W := by
  obtain rfl | rfl | rfl | rfl | rfl | rfl | rfl | rfl | rfl | rfl | rfl | rfl | rfl : op = 3 ∨ op = 4 ∨ op = 5 ∨ op = 6 ∨ op = 7 ∨ op = 8 ∨ op = 9 ∨ op = 10 ∨ op = 11 ∨ op = 12 ∨ op = 13 ∨ op = 14 ∨ op = 15 := by omega
  all_goals kernel_rfl

set_option maxRecDepth 100000 in
set_option maxHeartbeats 2000000 in
theorem calc_pair (op : Int) (h1 : 3 ≤ op) (h2 : op ≤ 15) (x y : Int) (r : List Int) (hd : divZero op (x :: y :: r) = false) (M g off n c : Nat) (w : World) (hops : OpsAt w M) (hn : 2 ≤ n) (hn2 : n < 4611686018427387904) (c0 : w.cell? ⟨g, off, none⟩ = some (.int .i64 x)) (c1 : w.cell? ⟨g, off + 1, none⟩ = some (.int .i64 y)) :
    Calls Tryz.prog 152 #[.map (some M), .int .i64 op, .slice (some ⟨g, off, none⟩) n c] w fun e w' => e = .returned (.int .i64 (calcM op (x :: y :: r))) ∧ ∃ m, w' = w.drewN m := by
  obtain ⟨F, hF⟩ : ∃ F, F = fnOf op := ⟨_, rfl⟩
  have hc : ∀ W : World, Calls Tryz.prog F #[.int .i64 x, .int .i64 y] W fun e w' => e = .returned (.int .i64 (calcM op (x :: y :: r))) ∧ w' = W := fun W => by rw [hF]; exact num_any op h1 h2 x y r hd W
  have hl : ∀ k : Nat, (Instr.lookup 64 (.map (some M)) (.int .i64 op) false).run Tryz.prog (w.drewN k) = .ok (.func (.func F) #[] #[]) (w.drewN k) := fun k => by
    rw [hF]
    exact (hops.heap (w' := w.drewN k) rfl).get h1 h2
  have hcf : ∀ (args : Array Value) (W : World), (callFunc F args).run Tryz.prog W = .ok (.enter F args) W := fun args W => by rw [hF]; exact enter_fn op h1 h2 args W
  have d16 : (op == 16) = false := by rw [beq_eq_false_iff_ne]; omega
  have d17 : (op == 17) = false := by rw [beq_eq_false_iff_ne]; omega
  have g0 : (0 : Int) < (n : Int) := by omega
  have g1 : (1 : Int) < (n : Int) := by omega
  have g2 : 0 < n := by omega
  have g3 : 1 < n := by omega
  have g4 : ¬ n = 0 := by omega
  clear hF hops hd
  generalize calcM op (x :: y :: r) = R at hc ⊢
  go_enter Tryz.func152, Tryz.ntmps152
  go_wp2
  go_quiet (refine Calls.quiet_of_same (hc _))
  go_wp2
  go_ret
  exact ⟨rfl, _, rfl⟩

set_option maxRecDepth 100000 in
set_option maxHeartbeats 2000000 in
theorem calc_not (x : Int) (r : List Int) (M : Value) (g off n c : Nat) (w : World) (hn : 1 ≤ n) (c0 : w.cell? ⟨g, off, none⟩ = some (.int .i64 x)) :
    Calls Tryz.prog 152 #[M, .int .i64 16, .slice (some ⟨g, off, none⟩) n c] w fun e w' => e = .returned (.int .i64 (calcM 16 (x :: r))) ∧ ∃ m, w' = w.drewN m := by
  have g2 : 0 < n := by omega
  have g4 : ¬ n = 0 := by omega
  have he : calcM 16 (x :: r) = flagM (x == 0) := by
    unfold calcM
    simp
    congr 1
  rw [he]
  have hc : ∀ W : World, Calls Tryz.prog 148 #[.bool (x == 0)] W fun e w' => e = .returned (.int .i64 (flagM (x == 0))) ∧ w' = W := fun W => flagOf_any _ W
  clear he
  obtain ⟨R, hR⟩ : ∃ R, flagM (x == 0) = R := ⟨_, rfl⟩
  rw [hR] at hc ⊢
  clear hR
  go_enter Tryz.func152, Tryz.ntmps152
  go_wp2_with (go_at_call 148; refine (hc _).mono ?_; rintro e w1 ⟨rfl, rfl⟩)
  go_ret
  exact ⟨rfl, 0, rfl⟩

set_option maxRecDepth 100000 in
set_option maxHeartbeats 2000000 in
theorem calc_sel (x y z : Int) (M : Value) (g off n c : Nat) (w : World) (hn : 3 ≤ n) (c0 : w.cell? ⟨g, off, none⟩ = some (.int .i64 x)) (c1 : w.cell? ⟨g, off + 1, none⟩ = some (.int .i64 y)) (c2 : w.cell? ⟨g, off + 2, none⟩ = some (.int .i64 z)) :
    Calls Tryz.prog 152 #[M, .int .i64 17, .slice (some ⟨g, off, none⟩) n c] w fun e w' => e = .returned (.int .i64 (calcM 17 [x, y, z])) ∧ ∃ m, w' = w.drewN m := by
  have g2 : 0 < n := by omega
  have g4 : ¬ n = 0 := by omega
  have g3 : 1 < n := by omega
  have g5 : 2 < n := by omega
  by_cases hx : x = 0
  · have he : calcM 17 [x, y, z] = z := by unfold calcM; simp [hx]
    rw [he]
    clear he
    have hx1 : (x != 0) = false := by simpa using hx
    clear hx
    go_enter Tryz.func152, Tryz.ntmps152
    go_wp2
    go_ret
    exact ⟨rfl, 0, rfl⟩
  · have he : calcM 17 [x, y, z] = y := by unfold calcM; simp [hx]
    rw [he]
    clear he
    have hx1 : (x != 0) = true := by simpa using hx
    clear hx
    go_enter Tryz.func152, Tryz.ntmps152
    go_wp2
    go_ret
    exact ⟨rfl, 0, rfl⟩

theorem takes_two {op : Int} (h1 : 3 ≤ op) (h2 : op ≤ 15) : (takesS op).length = 2 := by
  obtain rfl | rfl | rfl | rfl | rfl | rfl | rfl | rfl | rfl | rfl | rfl | rfl | rfl : op = 3 ∨ op = 4 ∨ op = 5 ∨ op = 6 ∨ op = 7 ∨ op = 8 ∨ op = 9 ∨ op = 10 ∨ op = 11 ∨ op = 12 ∨ op = 13 ∨ op = 14 ∨ op = 15 := by omega
  all_goals rfl

/-- what operations make, by the map -/
theorem calc_any (op : Int) (h1 : 3 ≤ op) (h2 : op ≤ 17) (xs : List Int) (hl : xs.length = (takesS op).length) (hd : divZero op xs = false) (M B : Nat) (av : Value) (w : World) (hops : OpsAt w M) (ha : Ints w B av xs) :
    Calls Tryz.prog 152 #[.map (some M), .int .i64 op, av] w fun e w' => e = .returned (.int .i64 (calcM op xs)) ∧ ∃ m, w' = w.drewN m := by
  obtain ⟨A, c, rfl, _, hat⟩ := ha
  by_cases h15 : op ≤ 15
  · rw [takes_two h1 h15] at hl
    obtain ⟨x, y, rfl⟩ : ∃ x y, xs = [x, y] := by
      match xs, hl with
      | [x, y], _ => exact ⟨x, y, rfl⟩
    obtain ⟨g, off, rfl, _, c0⟩ := hat 0 (by simp)
    obtain ⟨_, _, e, _, c1⟩ := hat 1 (by simp)
    cases e
    exact calc_pair op h1 h15 x y [] hd M g off 2 c w hops (by omega) (by omega) (by simpa using c0) (by simpa using c1)
  · obtain rfl | rfl : op = 16 ∨ op = 17 := by omega
    · have hl1 : xs.length = 1 := hl
      obtain ⟨x, rfl⟩ : ∃ x, xs = [x] := by
        match xs, hl1 with
        | [x], _ => exact ⟨x, rfl⟩
      obtain ⟨g, off, rfl, _, c0⟩ := hat 0 (by simp)
      exact calc_not x [] _ g off 1 c w (by omega) (by simpa using c0)
    · have hl1 : xs.length = 3 := hl
      obtain ⟨x, y, z, rfl⟩ : ∃ x y z, xs = [x, y, z] := by
        match xs, hl1 with
        | [x, y, z], _ => exact ⟨x, y, z, rfl⟩
      obtain ⟨g, off, rfl, _, c0⟩ := hat 0 (by simp)
      obtain ⟨_, _, e, _, c1⟩ := hat 1 (by simp)
      cases e
      obtain ⟨_, _, e, _, c2⟩ := hat 2 (by simp)
      cases e
      exact calc_sel x y z _ g off 3 c w (by omega) (by simpa using c0) (by simpa using c1) (by simpa using c2)

set_option maxRecDepth 100000 in
theorem divZero_any (op : Int) (xs : List Int) (hl : (op = 11 ∨ op = 12) → 2 ≤ xs.length) (B : Nat) (av : Value) (w : World) (ha : Ints w B av xs) :
    Calls Tryz.prog 151 #[.int .i64 op, av] w fun e w' => e = .returned (.bool (divZero op xs)) ∧ w' = w := by
  obtain ⟨A, c, rfl, _, hat⟩ := ha
  by_cases h11 : op = 11
  · have hl2 := hl (.inl h11)
    subst h11
    obtain ⟨g, off, rfl, _, c1⟩ := hat 1 (by omega)
    have g3 : 1 < xs.length := by omega
    have he : divZero 11 xs = (xs[1]?.getD 0 == 0) := by unfold divZero; simp [List.getD_eq_getElem?_getD]; rfl
    rw [he]
    clear he hat hl hl2
    obtain ⟨n, hn⟩ : ∃ n, xs.length = n := ⟨_, rfl⟩
    rw [hn] at g3 ⊢
    generalize xs[1]?.getD 0 = y at c1 ⊢
    clear hn
    go_enter Tryz.func151, Tryz.ntmps151
    go_wp2
    go_ret
    exact ⟨rfl, rfl⟩
  · by_cases h12 : op = 12
    · have hl2 := hl (.inr h12)
      subst h12
      obtain ⟨g, off, rfl, _, c1⟩ := hat 1 (by omega)
      have g3 : 1 < xs.length := by omega
      have he : divZero 12 xs = (xs[1]?.getD 0 == 0) := by unfold divZero; simp [List.getD_eq_getElem?_getD]; rfl
      rw [he]
      clear he hat hl hl2
      obtain ⟨n, hn⟩ : ∃ n, xs.length = n := ⟨_, rfl⟩
      rw [hn] at g3 ⊢
      generalize xs[1]?.getD 0 = y at c1 ⊢
      clear hn
      go_enter Tryz.func151, Tryz.ntmps151
      go_wp2
      go_ret
      exact ⟨rfl, rfl⟩
    · have he : divZero op xs = false := by unfold divZero; simp [h11, h12]
      rw [he]
      have d1 : (op == 11) = false := by simpa using h11
      have d2 : (op == 12) = false := by simpa using h12
      clear he hat hl h11 h12
      go_enter Tryz.func151, Tryz.ntmps151
      go_wp2
      go_ret
      exact ⟨rfl, rfl⟩
end Go.Proofs.YtncmnbchkabgaaaGreat
