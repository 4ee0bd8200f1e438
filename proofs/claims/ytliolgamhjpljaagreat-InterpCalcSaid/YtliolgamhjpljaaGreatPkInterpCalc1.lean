/- What InterpCalc rests on, part 1: Spec, Base, Ints, RunM, ICalc0, Maps, IPairs, ICalc, Reads, IMach, IStep, IFind. -/
import Derived.Test.YtliolgamhjpljaaGreatRows
import GoSem.ClaimWide
import Derived.WalkKit
import Derived.WalkSpells
import Derived.WalkLawsBesides
import Derived.Deep.QuietTactic
import Derived.BigQuiet
import Derived.Maps.Own
import Derived.Maps.OwnOps
import Derived.Maps.OwnSet
import Derived.Maps.Views
import Derived.Laws.OwnMore
import Derived.OneCell
import Derived.Deep.Onto
import Derived.Deep.AppendLies
import Derived.WalkSmall
import Derived.Deep.RegionWith
import Derived.BigRegion

namespace Go.Proofs.YtliolgamhjpljaaGreat

structure PhiM where
  id : Int
  typ : Int
  fr : List Int
  vals : List Int
structure InstrM where
  op : Int
  id : Int
  args : List Int
  n : Int
structure TermM where
  op : Int
  val : Int
  to : List Int
  n : Int
structure BlockM where
  phis : List PhiM
  code : List InstrM
  term : TermM
structure FuncM where
  params : List Int
  arrays : Int
  cells : Int
  blocks : List BlockM

/-- what an operation takes (bytes), makes, and what its N is; whether there is one -/
def shapeS (op : Int) : List UInt8 × Int × Int × Bool :=
  if op = 1 then ([], 1, 1, true) else
  if op = 2 then ([], 2, 2, true) else
  if 3 ≤ op ∧ op ≤ 12 then ([73, 73], 1, 0, true) else
  if 13 ≤ op ∧ op ≤ 15 then ([73, 73], 2, 0, true) else
  if op = 16 then ([66], 2, 0, true) else
  if op = 17 then ([66, 73, 73], 1, 0, true) else
  if op = 18 then ([], 1, 3, true) else
  if op = 19 ∨ op = 21 then ([73], 1, 3, true) else
  if op = 20 ∨ op = 22 then ([73, 73], 0, 3, true) else
  if op = 23 then ([73], 0, 0, true) else
  if op = 24 then ([], 1, 4, true) else
  if op = 25 then ([73], 0, 4, true) else ([], 0, 0, false)

theorem op_cases (op : Int) : (op = 1 ∨ op = 2 ∨ op = 3 ∨ op = 4 ∨ op = 5 ∨ op = 6 ∨ op = 7 ∨ op = 8 ∨ op = 9 ∨ op = 10 ∨ op = 11 ∨ op = 12 ∨ op = 13) ∨
    (op = 14 ∨ op = 15 ∨ op = 16 ∨ op = 17 ∨ op = 18 ∨ op = 19 ∨ op = 20 ∨ op = 21 ∨ op = 22 ∨ op = 23 ∨ op = 24 ∨ op = 25) ∨ (op < 1 ∨ 25 < op) := by omega

theorem shapeS_none {op : Int} (h : op < 1 ∨ 25 < op) : shapeS op = ([], 0, 0, false) := by
  unfold shapeS
  rw [if_neg (by omega), if_neg (by omega), if_neg (by omega), if_neg (by omega), if_neg (by omega), if_neg (by omega), if_neg (by omega), if_neg (by omega), if_neg (by omega), if_neg (by omega), if_neg (by omega), if_neg (by omega)]

/-- the types of what is taken -/
def takesS (op : Int) : List Int := (shapeS op).1.map fun c => if c = 73 then 1 else 2
def makesS (op : Int) : Int := (shapeS op).2.1
def kindS (op : Int) : Int := (shapeS op).2.2.1
def isOp (op : Int) : Bool := (shapeS op).2.2.2

def withinB (n a b : Int) : Bool := decide (a ≤ n) && decide (n ≤ b)
def isTypeB (t : Int) : Bool := (t == 1) || (t == 2)

def sizeB (b : BlockM) : Nat := b.phis.length + b.code.length + 1
def sizeM (f : FuncM) : Nat := (f.blocks.map sizeB).sum

def limitsB (f : FuncM) : Bool :=
  decide (f.params.length ≤ 16) && (withinB f.arrays 0 8 && (withinB f.cells 0 64 && (withinB f.blocks.length 1 512 && decide (sizeM f ≤ 4096))))

/-- all are blocks, none twice -/
def onceB (nb : Nat) : List Int → List Int → Bool
  | _, [] => true
  | seen, b :: r => withinB b 0 (nb - 1) && !(seen.contains b) && onceB nb (b :: seen) r

def targetsB (nb : Nat) (to : List Int) : Bool := to.all fun b => withinB b 1 (nb - 1)

def fitsB (f : FuncM) (op n : Int) : Bool :=
  if op = 1 then true else
  if op = 2 then withinB n 0 1 else
  if kindS op = 3 then withinB n 0 (f.arrays - 1) else
  if kindS op = 4 then withinB n 0 (f.cells - 1) else n == 0

def phiB (f : FuncM) (p : PhiM) : Bool := isTypeB p.typ && (p.vals.length == p.fr.length && onceB f.blocks.length [] p.fr)

def instrB (f : FuncM) (x : InstrM) : Bool := isOp x.op && (x.args.length == (takesS x.op).length && fitsB f x.op x.n)

def termB (f : FuncM) (t : TermM) : Bool :=
  targetsB f.blocks.length t.to &&
  (if t.op = 1 then t.to.length == 1 && (t.val == -1 && t.n == 0) else
   if t.op = 2 then t.to.length == 2 && t.n == 0 else
   if t.op = 3 then t.to.length == 0 && t.n == 0 else
   if t.op = 4 then t.to.length == 0 && (t.val == -1 && decide (0 ≤ t.n)) else false)

/-- the values that stand so far: ids and types -/
abbrev Defs := List (Int × Int)
def Defs.at (ds : Defs) (id : Int) : Option Int := (ds.find? fun d => d.1 == id).map (·.2)

def defB (np : Nat) (ds : Defs) (id : Int) : Bool := !(ds.at id).isSome && withinB id np 1048575

/-- one more value, if it may be -/
def addDef (np : Nat) (ds : Defs) (id typ : Int) : Option Defs := if defB np ds id then some (ds ++ [(id, typ)]) else none

def phiStep (f : FuncM) (ds : Defs) (p : PhiM) : Option Defs := if phiB f p then addDef f.params.length ds p.id p.typ else none

def instrStep (f : FuncM) (ds : Defs) (x : InstrM) : Option Defs :=
  if instrB f x then (if makesS x.op = 0 then (if x.id = -1 then some ds else none) else addDef f.params.length ds x.id (makesS x.op)) else none

def phisStep (f : FuncM) : Defs → List PhiM → Option Defs
  | ds, [] => some ds
  | ds, p :: r => (phiStep f ds p).bind fun d => phisStep f d r

def codeStep (f : FuncM) : Defs → List InstrM → Option Defs
  | ds, [] => some ds
  | ds, x :: r => (instrStep f ds x).bind fun d => codeStep f d r

def blockStep (f : FuncM) (ds : Defs) (b : BlockM) : Option Defs :=
  (phisStep f ds b.phis).bind fun d => (codeStep f d b.code).bind fun d2 => if termB f b.term then some d2 else none

def blocksStep (f : FuncM) : Defs → List BlockM → Option Defs
  | ds, [] => some ds
  | ds, b :: r => (blockStep f ds b).bind fun d => blocksStep f d r

def paramDefs : Nat → List Int → Defs
  | _, [] => []
  | k, t :: r => ((k : Int), t) :: paramDefs (k + 1) r

/-- the values of a formed function; none: it is not formed -/
def formedM (f : FuncM) : Option Defs :=
  if limitsB f && f.params.all isTypeB && (f.blocks.headD ⟨[], [], ⟨0, 0, [], 0⟩⟩).phis.isEmpty then blocksStep f (paramDefs 0 f.params) f.blocks else none

/-- uses: a value, and the type that is taken -/
def usesPhi (p : PhiM) : List (Int × Int) := p.vals.map fun v => (v, p.typ)
def usesInstr (x : InstrM) : List (Int × Int) := x.args.zip (takesS x.op)
def usesTerm (t : TermM) : List (Int × Int) := if t.op = 2 then [(t.val, 2)] else if t.op = 3 then [(t.val, 0)] else []
def usesBlock (b : BlockM) : List (Int × Int) := b.phis.flatMap usesPhi ++ (b.code.flatMap usesInstr ++ usesTerm b.term)
def usesM (f : FuncM) : List (Int × Int) := f.blocks.flatMap usesBlock

def unknownB (ds : Defs) (us : List (Int × Int)) : Bool := us.any fun u => !(ds.at u.1).isSome
def unfitB (ds : Defs) (us : List (Int × Int)) : Bool := us.any fun u => match ds.at u.1 with | some t => u.2 != 0 && t != u.2 | none => false

/-- what is wrong with a function, as a number; its values, if nothing is -/
def lookM (f : FuncM) : Int × Defs :=
  match formedM f with
  | none => (2, [])
  | some ds => if unknownB ds (usesM f) then (6, []) else if unfitB ds (usesM f) then (3, []) else (0, ds)

end Go.Proofs.YtliolgamhjpljaaGreat

namespace Go.Proofs.YtliolgamhjpljaaGreat
open Go.RowKit

/-- a fact put behind a name, so that the walk does not take it for a rule -/
theorem hideI {p : Prop} (h : p) : Hid p := h

theorem res4 {fn : Func} {t u v x : Tmp} (h : fn.results = #[.tmp t, .tmp u, .tmp v, .tmp x]) (tmps : Array Value) (P : Program) (w : World) :
    (results fn tmps).run P w = .ok (.tuple #[tmps.getD t undef, tmps.getD u undef, tmps.getD v undef, tmps.getD x undef]) w := by
  simp [results, h]

/-- a call's end, told by the value alone -/
theorem Calls.same_world {P : Program} {f : FuncId} {args : Array Value} {w : World} {v : Value} (h : Calls P f args w fun e w' => e = .returned v ∧ w' = w) :
    Calls P f args w fun e w' => e = .returned v ∧ w = w' := h.mono fun _ _ ⟨a, b⟩ => ⟨a, b.symm⟩

end Go.Proofs.YtliolgamhjpljaaGreat

namespace Go.Proofs.YtliolgamhjpljaaGreat
open Go.RowKit

/-- the slice value v holds the numbers xs, below block B -/
def Ints (w : World) (B : Nat) (v : Value) (xs : List Int) : Prop :=
  ∃ A c, v = .slice A xs.length c ∧ xs.length ≤ 140737488351232 ∧ ∀ k, k < xs.length → ∃ b off, A = some ⟨b, off, none⟩ ∧ b < B ∧ w.cell? ⟨b, off + k, none⟩ = some (.int .i64 (xs[k]?.getD 0))

theorem Ints.nil (w : World) (B : Nat) : Ints w B (.slice none 0 0) [] := ⟨none, 0, rfl, by simp, fun k hk => by simp at hk⟩

theorem Ints.keep {w w' : World} {B : Nat} {v : Value} {xs : List Int} (h : Ints w B v xs) (hk : Below B w w') : Ints w' B v xs := by
  obtain ⟨A, c, rfl, hm, h⟩ := h
  refine ⟨A, c, rfl, hm, fun k hlt => ?_⟩
  obtain ⟨b, off, rfl, hb, hc⟩ := h k hlt
  exact ⟨b, off, rfl, hb, (hk.cell (p := ⟨b, off + k, none⟩) hb).trans hc⟩

theorem Ints.more {w : World} {B B' : Nat} {v : Value} {xs : List Int} (h : Ints w B v xs) (hB : B ≤ B') : Ints w B' v xs := by
  obtain ⟨A, c, rfl, hm, h⟩ := h
  exact ⟨A, c, rfl, hm, fun k hlt => by obtain ⟨b, off, e, hb, hc⟩ := h k hlt; exact ⟨b, off, e, by omega, hc⟩⟩

/-- equal so far -/
def sameTo (xs ys : List Int) (k : Nat) : Bool := (xs.take k) == (ys.take k)

theorem sameTo_succ {xs ys : List Int} {k : Nat} (h1 : k < xs.length) (h2 : k < ys.length) (h : xs.take k = ys.take k) (he : xs[k]?.getD 0 = ys[k]?.getD 0) : xs.take (k + 1) = ys.take (k + 1) := by
  rw [List.take_add_one, List.take_add_one, h]
  rw [List.getElem?_eq_getElem h1, List.getElem?_eq_getElem h2] at he ⊢
  simp at he
  rw [he]

theorem ne_of_at {xs ys : List Int} {k : Nat} (he : xs[k]?.getD 0 ≠ ys[k]?.getD 0) : xs ≠ ys := fun h => he (by rw [h])

set_option maxHeartbeats 800000 in
theorem sameInts_len (w : World) (B : Nat) (v u : Value) (xs ys : List Int) (hx : Ints w B v xs) (hy : Ints w B u ys) (n : Nat) (hn : Hid (xs.length = n ∧ ys.length = n)) :
    Calls Tryz.prog 21 #[v, u] w fun e w' => e = .returned (.bool (xs == ys)) ∧ ∃ m, w' = w.drewN m := by
  obtain ⟨A, c, rfl, hm, hx⟩ := hx
  obtain ⟨A', c', rfl, hm', hy⟩ := hy
  rw [hn.out.1] at hx hm ⊢
  rw [hn.out.2] at hy hm' ⊢
  have Hx : Hid (∀ k, k < n → ∃ b off, A = some ⟨b, off, none⟩ ∧ b < B ∧ w.cell? ⟨b, off + k, none⟩ = some (.int .i64 (xs[k]?.getD 0))) := hx
  have Hy : Hid (∀ k, k < n → ∃ b off, A' = some ⟨b, off, none⟩ ∧ b < B ∧ w.cell? ⟨b, off + k, none⟩ = some (.int .i64 (ys[k]?.getD 0))) := hy
  clear hx hy hm'
  go_enter Tryz.func21, Tryz.ntmps21
  go_wp2
  go_loopw [5] (fun i wr => ∃ k m : Nat, k ≤ n ∧ i = .int .i64 k ∧ xs.take k = ys.take k ∧ wr = w.drewN m) (fun i _ => n - (intOf i).toNat)
  case atStart => exact ⟨0, 0, Nat.zero_le _, rfl, by simp, rfl⟩
  case round =>
    obtain ⟨k, m, hk, rfl, ht, rfl⟩ := hrel
    have HT : Hid (xs.take k = ys.take k) := ht
    clear ht
    by_cases hlt : k < n
    · obtain ⟨b, off, rfl, hb, hc⟩ := Hx.out k hlt
      obtain ⟨b', off', rfl, hb', hc'⟩ := Hy.out k hlt
      go_wp2
      go_quiet (fail)
      go_wp2
      · have hne : xs[k]?.getD 0 ≠ ys[k]?.getD 0 := bne_iff_ne.1 (by assumption)
        go_ret
        refine ⟨?_, m + nq, by rw [World.drewN_drewN]⟩
        have : (xs == ys) = false := beq_eq_false_iff_ne.2 (ne_of_at (k := k) hne)
        rw [this]
        rfl
      · have hq : (xs[k]?.getD 0 != ys[k]?.getD 0) = false := by assumption
        have heq : xs[k]?.getD 0 = ys[k]?.getD 0 := by simpa using hq
        go_roundw
        case rel => exact ⟨k + 1, _, by omega, by go_num, sameTo_succ (by have := hn.out.1; omega) (by have := hn.out.2; omega) HT.out heq, rfl⟩
        case measure => simp [intOf]; omega
    · go_wp2
      go_ret
      have hk' : k = n := by omega
      subst hk'
      have e : xs = ys := by
        have h := HT.out
        rw [List.take_of_length_le (by rw [hn.out.1]; exact Nat.le_refl _), List.take_of_length_le (by rw [hn.out.2]; exact Nat.le_refl _)] at h
        exact h
      refine ⟨?_, _, rfl⟩
      subst e
      simp

theorem sameInts_ne (w : World) (B : Nat) (v u : Value) (xs ys : List Int) (hx : Ints w B v xs) (hy : Ints w B u ys) (hn : (xs.length : Int) ≠ ys.length) :
    Calls Tryz.prog 21 #[v, u] w fun e w' => e = .returned (.bool (xs == ys)) ∧ ∃ m, w' = w.drewN m := by
  have hf : (xs == ys) = false := beq_eq_false_iff_ne.2 (fun h => hn (by rw [h]))
  rw [hf]
  obtain ⟨A, c, rfl, hm, hx⟩ := hx
  obtain ⟨A', c', rfl, hm', hy⟩ := hy
  clear hx hy hf
  have hb : ((xs.length : Int) == ys.length) = false := beq_eq_false_iff_ne.2 hn
  go_enter Tryz.func21, Tryz.ntmps21
  go_wp2
  go_ret
  exact ⟨rfl, 0, rfl⟩

/-- SameInts: the same numbers? -/
theorem sameInts_any (w : World) (B : Nat) (v u : Value) (xs ys : List Int) (hx : Ints w B v xs) (hy : Ints w B u ys) :
    Calls Tryz.prog 21 #[v, u] w fun e w' => e = .returned (.bool (xs == ys)) ∧ ∃ m, w' = w.drewN m := by
  by_cases h : xs.length = ys.length
  · exact sameInts_len w B v u xs ys hx hy ys.length ⟨h, rfl⟩
  · exact sameInts_ne w B v u xs ys hx hy (by omega)

end Go.Proofs.YtliolgamhjpljaaGreat

namespace Go.Proofs.YtliolgamhjpljaaGreat
open Go.RowKit

/-- how far a run has come -/
structure StM where
  val : Int → Int
  cells : List Int
  arrs : List (List Int)
  out : List Int
  steps : Nat
  checks : Int
  vis : List Int

/-- how a run ended: End, Value, Trap -/
abbrev EndM := Int × Int × Int

/-- a place in a run: in block 'b', ahead of its instruction (or end) 'k' -/
structure CfgM where
  s : StM
  b : Nat
  k : Nat
  fin : Option EndM

def noBlock : BlockM := ⟨[], [], ⟨0, 0, [], 0⟩⟩
def blkM (f : FuncM) (b : Nat) : BlockM := f.blocks.getD b noBlock

def setV (g : Int → Int) (id v : Int) : Int → Int := fun x => if x = id then v else g x
def setAll (g : Int → Int) : List (Int × Int) → Int → Int
  | [] => g
  | p :: r => setAll (setV g p.1 p.2) r

/-- bits of numbers -/
def bitsS (op : BinOp) (x y : Int) : Int := bits op .i64 x y
def u64 (x : Int) : Int := x % 18446744073709551616
def flagM (b : Bool) : Int := if b then 1 else 0

/-- what a pure operation makes of numbers -/
def calcM (op : Int) (a : List Int) : Int :=
  let x := a.getD 0 0
  let y := a.getD 1 0
  if op = 3 then wrap64 (x + y) else
  if op = 4 then wrap64 (x - y) else
  if op = 5 then wrap64 (x * y) else
  if op = 6 then bitsS .and x y else
  if op = 7 then bitsS .or x y else
  if op = 8 then bitsS .xor x y else
  if op = 9 then wrap64 (x * 2 ^ (u64 y % 64).toNat) else
  if op = 10 then wrap64 (u64 x / 2 ^ (u64 y % 64).toNat) else
  if op = 11 then wrap64 (x.tdiv y) else
  if op = 12 then x.tmod y else
  if op = 13 then flagM (decide (x = y)) else
  if op = 14 then flagM (decide (x < y)) else
  if op = 15 then flagM (decide (u64 x < u64 y)) else
  if op = 16 then flagM (decide (x = 0)) else
  if x = 0 then a.getD 2 0 else y

def divZero (op : Int) (a : List Int) : Bool := (decide (op = 11) || decide (op = 12)) && decide (a.getD 1 0 = 0)

def arrM (s : StM) (n : Int) : List Int := s.arrs.getD n.toNat []
def inArr (s : StM) (n i : Int) : Bool := decide (0 ≤ i) && decide (i < (arrM s n).length)

/-- the look at an element: Checks, and how the run ends if it is not there -/
def lookS (op : Int) (s : StM) : StM := if op = 19 ∨ op = 20 then { s with checks := wrap64 (s.checks + 1) } else s
def missM (op : Int) : EndM := if op = 19 ∨ op = 20 then (2, 0, -2) else (5, 0, 0)

/-- what an instruction makes that makes something -/
def madeM (x : InstrM) (a : List Int) (s : StM) : StM × (Int ⊕ EndM) :=
  if x.op = 1 ∨ x.op = 2 then (s, .inl x.n) else
  if x.op = 18 then (s, .inl (arrM s x.n).length) else
  if x.op = 19 ∨ x.op = 21 then
    if inArr s x.n (a.getD 0 0) then (lookS x.op s, .inl ((arrM s x.n).getD (a.getD 0 0).toNat 0)) else (lookS x.op s, .inr (missM x.op)) else
  if x.op = 24 then (s, .inl (s.cells.getD x.n.toNat 0)) else
  if divZero x.op a then (s, .inr (2, 0, -1)) else (s, .inl (calcM x.op a))

def doM (x : InstrM) (s : StM) : StM × Option EndM :=
  let a := x.args.map s.val
  if x.op = 20 ∨ x.op = 22 then
    if inArr s x.n (a.getD 0 0) then ({ lookS x.op s with arrs := s.arrs.set x.n.toNat ((arrM s x.n).set (a.getD 0 0).toNat (a.getD 1 0)) }, none) else (lookS x.op s, some (missM x.op)) else
  if x.op = 23 then
    if s.out.length = 4096 then (s, some (4, 0, 0)) else ({ s with out := s.out ++ [a.getD 0 0] }, none) else
  if x.op = 25 then ({ s with cells := s.cells.set x.n.toNat (a.getD 0 0) }, none) else
  match madeM x a s with
  | (s1, .inl v) => ({ s1 with val := setV s1.val x.id v }, none)
  | (s1, .inr e) => (s1, some e)

def phiGets (g : Int → Int) (fr : Int) (p : PhiM) : Int := g (p.vals.getD (p.fr.idxOf fr) 0)

/-- a block is come to -/
def arriveM (f : FuncM) (b : Nat) (fr : Int) (s : StM) : StM :=
  { s with vis := s.vis.set b (wrap64 (s.vis.getD b 0 + 1)), val := setAll s.val ((blkM f b).phis.map fun p => (p.id, phiGets s.val fr p)) }

def enterM (f : FuncM) (b : Nat) (fr : Int) (s : StM) : CfgM := ⟨arriveM f b fr s, b, 0, none⟩

def tickM (s : StM) : StM := { s with steps := s.steps + 1 }

def nextM (t : TermM) (s : StM) : Int := if t.op = 2 ∧ s.val t.val = 0 then t.to.getD 1 0 else t.to.getD 0 0

def leaveM (f : FuncM) (b k : Nat) (s : StM) : CfgM :=
  let t := (blkM f b).term
  if t.op = 3 then ⟨s, b, k, some (1, s.val t.val, 0)⟩ else
  if t.op = 4 then ⟨s, b, k, some (2, 0, t.n)⟩ else enterM f (nextM t s).toNat b s

/-- one step -/
def goM (f : FuncM) (c : CfgM) : CfgM :=
  match c.fin with
  | some _ => c
  | none =>
    match (blkM f c.b).code[c.k]? with
    | some x => ⟨(doM x (tickM c.s)).1, c.b, c.k + 1, (doM x (tickM c.s)).2⟩
    | none => leaveM f c.b c.k (tickM c.s)

def goN (f : FuncM) : Nat → CfgM → CfgM
  | 0, c => c
  | n + 1, c => goM f (goN f n c)

/-- an input -/
structure InM where
  args : List Int
  arrs : List (List Int)

def argM (f : FuncM) (I : InM) (i : Nat) : Int :=
  if i < f.params.length ∧ i < I.args.length then
    if f.params.getD i 0 = 2 ∧ I.args.getD i 0 ≠ 0 then 1 else I.args.getD i 0
  else 0

def startS (f : FuncM) (I : InM) : StM where
  val := fun x => if 0 ≤ x then argM f I x.toNat else 0
  cells := List.replicate f.cells.toNat 0
  arrs := (List.range f.arrays.toNat).map fun i => (I.arrs.getD i []).take 4096
  out := []
  steps := 0
  checks := 0
  vis := List.replicate f.blocks.length 0

def startM (f : FuncM) (I : InM) : CfgM := enterM f 0 (-1) (startS f I)

def finM (c : CfgM) : EndM := c.fin.getD (3, 0, 0)

/-- the run, with so much fuel -/
def runM (f : FuncM) (I : InM) (fuel : Nat) : CfgM := goN f (min fuel 200000) (startM f I)

/-! what a run is like -/

theorem goM_fin {f : FuncM} {c : CfgM} (h : c.fin ≠ none) : goM f c = c := by
  unfold goM
  cases hf : c.fin with
  | none => exact absurd hf h
  | some e => rfl

theorem goN_add (f : FuncM) (m : Nat) : ∀ (n : Nat) (c : CfgM), goN f (n + m) c = goN f n (goN f m c)
  | 0, c => by rw [Nat.zero_add]; rfl
  | n + 1, c => by rw [show n + 1 + m = (n + m) + 1 by omega]; show goM f (goN f (n + m) c) = goM f (goN f n (goN f m c)); rw [goN_add f m n c]

theorem goN_fin {f : FuncM} {c : CfgM} (h : c.fin ≠ none) : ∀ n, goN f n c = c
  | 0 => rfl
  | n + 1 => by show goM f (goN f n c) = c; rw [goN_fin h n, goM_fin h]

/-- a run that has ended stays so -/
theorem goN_ended {f : FuncM} {c : CfgM} {m n : Nat} (hmn : m ≤ n) (h : (goN f m c).fin ≠ none) : goN f n c = goN f m c := by
  obtain ⟨d, rfl⟩ : ∃ d, n = d + m := ⟨n - m, by omega⟩
  rw [goN_add, goN_fin h]

theorem madeM_steps (x : InstrM) (a : List Int) (s : StM) : (madeM x a s).1.steps = s.steps := by
  unfold madeM lookS
  repeat' split
  all_goals rfl

theorem lookS_steps (op : Int) (s : StM) : (lookS op s).steps = s.steps := by
  unfold lookS
  split <;> rfl

theorem doM_steps (x : InstrM) (s : StM) : (doM x s).1.steps = s.steps := by
  have hm := madeM_steps x (x.args.map s.val) s
  have hl := lookS_steps x.op s
  unfold doM
  simp only
  repeat' split
  all_goals first | rfl | exact hl | (rename_i h; rw [h] at hm; exact hm)

theorem arriveM_steps (f : FuncM) (b : Nat) (fr : Int) (s : StM) : (arriveM f b fr s).steps = s.steps := rfl

theorem leaveM_steps (f : FuncM) (b k : Nat) (s : StM) : (leaveM f b k s).s.steps = s.steps := by
  unfold leaveM enterM
  simp only
  repeat' split
  all_goals rfl

theorem goM_steps {f : FuncM} {c : CfgM} (h : c.fin = none) : (goM f c).s.steps = c.s.steps + 1 := by
  unfold goM
  rw [h]
  simp only
  split
  · exact (doM_steps _ _).trans rfl
  · exact (leaveM_steps _ _ _ _).trans rfl

/-- a run that goes on has done as many steps as it took -/
theorem goN_steps {f : FuncM} {I : InM} : ∀ {n : Nat}, (goN f n (startM f I)).fin = none → (goN f n (startM f I)).s.steps = n
  | 0, _ => rfl
  | n + 1, h => by
    have h0 : (goN f n (startM f I)).fin = none := by
      cases hf : (goN f n (startM f I)).fin with
      | none => rfl
      | some e =>
        have h1 : goM f (goN f n (startM f I)) = goN f n (startM f I) := goM_fin (by rw [hf]; exact fun h => by cases h)
        rw [show goN f (n + 1) (startM f I) = goM f (goN f n (startM f I)) from rfl, h1, hf] at h
        cases h
    show (goM f (goN f n (startM f I))).s.steps = n + 1
    rw [goM_steps h0, goN_steps h0]

end Go.Proofs.YtliolgamhjpljaaGreat

namespace Go.Proofs.YtliolgamhjpljaaGreat
open Go.RowKit

theorem num_add (x y : Int) (w : World) : Calls Tryz.prog 58 #[.int .i64 x, .int .i64 y] w fun e w' => e = .returned (.int .i64 (wrap64 (x + y))) ∧ w' = w := by
  go_enter Tryz.func58, Tryz.ntmps58
  go_wp2
  go_ret
  exact ⟨rfl, rfl⟩
theorem num_sub (x y : Int) (w : World) : Calls Tryz.prog 59 #[.int .i64 x, .int .i64 y] w fun e w' => e = .returned (.int .i64 (wrap64 (x - y))) ∧ w' = w := by
  go_enter Tryz.func59, Tryz.ntmps59
  go_wp2
  go_ret
  exact ⟨rfl, rfl⟩
theorem num_mul (x y : Int) (w : World) : Calls Tryz.prog 60 #[.int .i64 x, .int .i64 y] w fun e w' => e = .returned (.int .i64 (wrap64 (x * y))) ∧ w' = w := by
  go_enter Tryz.func60, Tryz.ntmps60
  go_wp2
  go_ret
  exact ⟨rfl, rfl⟩
theorem num_and (x y : Int) (w : World) : Calls Tryz.prog 61 #[.int .i64 x, .int .i64 y] w fun e w' => e = .returned (.int .i64 (bitsS .and x y)) ∧ w' = w := by
  go_enter Tryz.func61, Tryz.ntmps61
  go_wp2
  go_ret
  exact ⟨rfl, rfl⟩
theorem num_or (x y : Int) (w : World) : Calls Tryz.prog 62 #[.int .i64 x, .int .i64 y] w fun e w' => e = .returned (.int .i64 (bitsS .or x y)) ∧ w' = w := by
  go_enter Tryz.func62, Tryz.ntmps62
  go_wp2
  go_ret
  exact ⟨rfl, rfl⟩
theorem num_xor (x y : Int) (w : World) : Calls Tryz.prog 63 #[.int .i64 x, .int .i64 y] w fun e w' => e = .returned (.int .i64 (bitsS .xor x y)) ∧ w' = w := by
  go_enter Tryz.func63, Tryz.ntmps63
  go_wp2
  go_ret
  exact ⟨rfl, rfl⟩
theorem num_div (x y : Int) (w : World) (hy : ¬ y = 0) : Calls Tryz.prog 66 #[.int .i64 x, .int .i64 y] w fun e w' => e = .returned (.int .i64 (wrap64 (x.tdiv y))) ∧ w' = w := by
  go_enter Tryz.func66, Tryz.ntmps66
  go_wp2
  go_ret
  exact ⟨rfl, rfl⟩
theorem num_rem (x y : Int) (w : World) (hy : ¬ y = 0) : Calls Tryz.prog 67 #[.int .i64 x, .int .i64 y] w fun e w' => e = .returned (.int .i64 (x.tmod y)) ∧ w' = w := by
  go_enter Tryz.func67, Tryz.ntmps67
  go_wp2
  go_ret
  exact ⟨rfl, rfl⟩
theorem flagOf_any (b : Bool) (w : World) : Calls Tryz.prog 71 #[.bool b] w fun e w' => e = .returned (.int .i64 (flagM b)) ∧ w' = w := by
  cases b
  · go_enter Tryz.func71, Tryz.ntmps71
    go_wp2
    go_ret
    exact ⟨rfl, rfl⟩
  · go_enter Tryz.func71, Tryz.ntmps71
    go_wp2
    go_ret
    exact ⟨rfl, rfl⟩
theorem num_eq (x y : Int) (w : World) : Calls Tryz.prog 68 #[.int .i64 x, .int .i64 y] w fun e w' => e = .returned (.int .i64 (flagM (decide (x = y)))) ∧ w' = w := by
  go_enter Tryz.func68, Tryz.ntmps68
  go_wp2_with (go_at_call 71; refine (flagOf_any _ _).mono ?_; rintro e w1 ⟨rfl, rfl⟩)
  go_ret
  exact ⟨by congr 2, rfl⟩
theorem num_lt (x y : Int) (w : World) : Calls Tryz.prog 69 #[.int .i64 x, .int .i64 y] w fun e w' => e = .returned (.int .i64 (flagM (decide (x < y)))) ∧ w' = w := by
  go_enter Tryz.func69, Tryz.ntmps69
  go_wp2_with (go_at_call 71; refine (flagOf_any _ _).mono ?_; rintro e w1 ⟨rfl, rfl⟩)
  go_ret
  exact ⟨rfl, rfl⟩
theorem num_below (x y : Int) (w : World) : Calls Tryz.prog 70 #[.int .i64 x, .int .i64 y] w fun e w' => e = .returned (.int .i64 (flagM (decide (u64 x < u64 y)))) ∧ w' = w := by
  go_enter Tryz.func70, Tryz.ntmps70
  go_wp2_with (go_at_call 71; refine (flagOf_any _ _).mono ?_; rintro e w1 ⟨rfl, rfl⟩)
  go_ret
  exact ⟨rfl, rfl⟩
theorem u64_wrap (y : Int) : IntKind.u64.wrap y = u64 y := by
  unfold u64
  simp [IntKind.wrap, IntKind.bits, IntKind.signed]

theorem u64_pos (y : Int) : 0 ≤ u64 y := by unfold u64; omega

theorem u64_tmod (y : Int) : (IntKind.u64.wrap y).tmod 64 = u64 y % 64 := by
  rw [u64_wrap, Int.tmod_eq_emod_of_nonneg (u64_pos y)]

theorem shift_l (P : Program) (x y : Int) (w : World) : (Op.shift .shl .i64 x .u64 ((IntKind.u64.wrap y).tmod 64)).run P w = .ok (.int .i64 (wrap64 (x * 2 ^ (u64 y % 64).toNat))) w := by
  have h0 : ¬ (u64 y % 64 < 0) := by omega
  have h1 : min (u64 y % 64).toNat IntKind.i64.bits = (u64 y % 64).toNat := by
    have : IntKind.i64.bits = 64 := rfl
    rw [this]; omega
  rw [u64_tmod]
  unfold Op.shift
  rw [if_neg h0]
  simp only [h1]
  show (Sem.run P (pure (Value.int IntKind.i64 (IntKind.i64.wrap (x * 2 ^ (u64 y % 64).toNat)))) w) = _
  rw [show IntKind.i64.wrap (x * 2 ^ (u64 y % 64).toNat) = wrap64 (x * 2 ^ (u64 y % 64).toNat) from (by rw [IntKind.wrap_i64]; unfold wrap64; rfl)]
  rfl

theorem shift_r (P : Program) (x y : Int) (w : World) : (Op.shift .shr .u64 (IntKind.u64.wrap x) .u64 ((IntKind.u64.wrap y).tmod 64)).run P w = .ok (.int .u64 (u64 x / 2 ^ (u64 y % 64).toNat)) w := by
  have h0 : ¬ (u64 y % 64 < 0) := by omega
  have h1 : min (u64 y % 64).toNat IntKind.u64.bits = (u64 y % 64).toNat := by
    have : IntKind.u64.bits = 64 := rfl
    rw [this]; omega
  rw [u64_tmod, u64_wrap]
  unfold Op.shift
  rw [if_neg h0]
  simp only [h1]
  rw [← Int.fdiv_eq_ediv_of_nonneg _ (by exact Int.le_of_lt (Int.pow_pos (by decide)))]
  rfl

theorem num_shl (x y : Int) (w : World) : Calls Tryz.prog 64 #[.int .i64 x, .int .i64 y] w fun e w' => e = .returned (.int .i64 (wrap64 (x * 2 ^ (u64 y % 64).toNat))) ∧ w' = w := by
  have hs := shift_l Tryz.prog x y
  go_enter Tryz.func64, Tryz.ntmps64
  go_wp2
  go_ret
  exact ⟨rfl, rfl⟩
theorem num_shr (x y : Int) (w : World) : Calls Tryz.prog 65 #[.int .i64 x, .int .i64 y] w fun e w' => e = .returned (.int .i64 (wrap64 (u64 x / 2 ^ (u64 y % 64).toNat))) ∧ w' = w := by
  have hs := shift_r Tryz.prog x y
  go_enter Tryz.func65, Tryz.ntmps65
  go_wp2
  go_ret
  exact ⟨rfl, rfl⟩

/-- the function's number, by its operation -/
def fnOf (op : Int) : Nat :=
  if op = 3 then 58 else
  if op = 4 then 59 else
  if op = 5 then 60 else
  if op = 6 then 61 else
  if op = 7 then 62 else
  if op = 8 then 63 else
  if op = 9 then 64 else
  if op = 10 then 65 else
  if op = 11 then 66 else
  if op = 12 then 67 else
  if op = 13 then 68 else
  if op = 14 then 69 else 70

theorem num_any (op : Int) (h1 : 3 ≤ op) (h2 : op ≤ 15) (x y : Int) (r : List Int) (hd : divZero op (x :: y :: r) = false) (w : World) :
    Calls Tryz.prog (fnOf op) #[.int .i64 x, .int .i64 y] w fun e w' => e = .returned (.int .i64 (calcM op (x :: y :: r))) ∧ w' = w := by
  have hy : (op = 11 ∨ op = 12) → ¬ y = 0 := by
    rintro ho rfl
    unfold divZero at hd
    rcases ho with rfl | rfl <;> simp at hd
  obtain rfl | rfl | rfl | rfl | rfl | rfl | rfl | rfl | rfl | rfl | rfl | rfl | rfl : op = 3 ∨ op = 4 ∨ op = 5 ∨ op = 6 ∨ op = 7 ∨ op = 8 ∨ op = 9 ∨ op = 10 ∨ op = 11 ∨ op = 12 ∨ op = 13 ∨ op = 14 ∨ op = 15 := by omega
  · exact num_add x y w
  · exact num_sub x y w
  · exact num_mul x y w
  · exact num_and x y w
  · exact num_or x y w
  · exact num_xor x y w
  · exact num_shl x y w
  · exact num_shr x y w
  · exact num_div x y w (hy (.inl rfl))
  · exact num_rem x y w (hy (.inr rfl))
  · exact num_eq x y w
  · exact num_lt x y w
  · exact num_below x y w
end Go.Proofs.YtliolgamhjpljaaGreat

namespace Go.Proofs.YtliolgamhjpljaaGreat
open Go.RowKit Go.Maps

theorem lawInt : Keyed Tryz.prog 3 := int_keyed Tryz.underlying3
theorem zeroInt (w : World) : (zeroValue 3).run Tryz.prog w = .ok (.int .i64 0) w := by kernel_rfl

/-- an int of Go's -/
def I64 (x : Int) : Prop := (Lit.int .i64 x).wf = true

/-- block M is a map that holds just ds -/
def MapIs (w : World) (M : Nat) (ds : Defs) : Prop :=
  ∃ D : DataW Unit, w.ownsMap Tryz.prog 3 (plainElem Tryz.prog 3) M ds.length D ∧ IsMap D ∧ (∀ d ∈ ds, I64 d.1 ∧ I64 d.2) ∧ ∀ id z, D.atKey (.int .i64 id) z = match ds.at id with | some t => .lit (.int .i64 t) | none => z

theorem Defs.at_snoc (ds : Defs) (id typ k : Int) : Defs.at (ds ++ [(id, typ)]) k = match ds.at k with | some t => some t | none => if k = id then some typ else none := by
  unfold Defs.at
  rw [List.find?_append]
  cases h : List.find? (fun d => d.1 == k) ds with
  | some d => simp
  | none =>
    by_cases hk : k = id
    · subst hk; simp
    · simp [hk, show (id == k) = false from by simpa using fun e => hk e.symm]

theorem MapIs.lt {w : World} {M : Nat} {ds : Defs} (h : MapIs w M ds) : M < w.heap.size := by
  obtain ⟨D, h, _⟩ := h
  exact h.lt

theorem MapIs.kept {w w' : World} {M : Nat} {ds : Defs} {row : Option Nat} (h : MapIs w M ds) (hg : w.grownBy w' row) (hne : some M ≠ row) : MapIs w' M ds := by
  obtain ⟨D, h, r⟩ := h
  exact ⟨D, h.kept hg hne, r⟩

theorem MapIs.has {ds : Defs} {D : DataW Unit} (h : ∀ id z, D.atKey (.int .i64 id) z = match ds.at id with | some t => .lit (.int .i64 t) | none => z) (id : Int) :
    Go.Maps.has D (.int .i64 id) = (ds.at id).isSome := by
  cases hd : ds.at id with
  | none => exact has_false_of_atKey (fun z => by rw [h, hd])
  | some t => exact has_true_of_atKey (y := .lit (.int .i64 t)) (fun z => by rw [h, hd])

theorem MapIs.new (w : World) : MapIs (w.alloc (.map #[] 0)) w.heap.size [] :=
  ⟨.map [], World.ownsMap_made _ _ _ _, ⟨[], rfl⟩, by simp, fun id z => rfl⟩

end Go.Proofs.YtliolgamhjpljaaGreat

namespace Go.Proofs.YtliolgamhjpljaaGreat
open Go.RowKit Go.Maps

/-- how a function reads -/
def fnElem : Value → Option (DataW Unit × List MemPlace)
  | .func (.func n) fs cs => if fs.size = 0 ∧ cs.size = 0 then some (.lit (.int .i64 n), []) else none
  | .nilFunc => some (.nil, [])
  | _ => none

theorem fnElem_mk (n : Nat) : fnElem (.func (.func n) #[] #[]) = some (.lit (.int .i64 n), []) := rfl

theorem fnElem_inv {v : Value} {n : Nat} {ps : List MemPlace} (h : fnElem v = some (.lit (.int .i64 n), ps)) : v = .func (.func n) #[] #[] := by
  unfold fnElem at h
  split at h
  · rename_i m fs cs
    split at h
    · rename_i hc
      have h4 : ((m : Nat) : Int) = ((n : Nat) : Int) := by simpa using congrArg Prod.fst (Option.some.inj h)
      have h3 : m = n := Int.ofNat.inj h4
      have h1 : fs = #[] := Array.eq_empty_of_size_eq_zero hc.1
      have h2 : cs = #[] := Array.eq_empty_of_size_eq_zero hc.2
      rw [h1, h2, h3]
    · cases h
  · cases h
  · cases h

/-- an entry of a map's literal -/
theorem wpList_insert_own {H : Type} {P : Program} (w : World) {ops : Array Oper} {rest : List Oper} {o : Oper} {a : Act} {Q : Exit → Act → World → Prop}
    (hg : o.guard = none) (m x v : Operand) (t : TypeId) (hop : o.op = Op.insert t m x v)
    (k e : TypeId) (K : Keyed P k) (ht : P.underlying t = some (.map k e)) (R : Value → Option (DataW H × List MemPlace)) (b n : Nat) (D : DataW H)
    (hm : a.eval m = .map (some b)) (hown : w.ownsMap P k R b n D) (hn : n < maxLen) (key val : Value) (kl : Lit) (hx : a.eval x = key) (hv : a.eval v = val) (hkey : keyOf P k key = some kl)
    (d : DataW H) (ps : List MemPlace) (hval : R val = some (d, ps))
    (hK : ∀ w', w'.ownsMap P k R b (n + 1) (D.put kl d) → w.grownBy w' (some b) → wpList P ops Q rest (a.put o.dst undef) w') :
    wpList P ops Q (o :: rest) a w := by
  refine wpList_plain hg fun K' hK' => ?_
  obtain ⟨w', hrun, r1, r2⟩ := hown.update K ht hn hkey hval
  unfold Oper.wp
  simp [execOp, hop, hm, hx, hv, hrun, Result.andThen]
  exact hK' _ _ (hK w' r1 r2)

/-- block M is the map of the operations' functions -/
def OpsAt (w : World) (M : Nat) : Prop :=
  ∃ D : DataW Unit, w.ownsMap Tryz.prog 3 fnElem M 13 D ∧ ∀ op : Int, 3 ≤ op → op ≤ 15 → ∀ z, D.atKey (.int .i64 op) z = .lit (.int .i64 (fnOf op))

theorem OpsAt.below {w w' : World} {M B : Nat} (h : OpsAt w M) (hb : Below B w w') (hM : M < B) : OpsAt w' M := by
  obtain ⟨D, ⟨es, clock, hg, r⟩, q⟩ := h
  exact ⟨D, ⟨es, clock, (hb.block M hM).trans hg, r⟩, q⟩

theorem OpsAt.lt {w : World} {M : Nat} (h : OpsAt w M) : M < w.heap.size := by
  obtain ⟨D, h, _⟩ := h
  exact h.lt

theorem OpsAt.heap {w w' : World} {M : Nat} (h : OpsAt w M) (hb : w'.heap[M]? = w.heap[M]?) : OpsAt w' M := by
  obtain ⟨D, ⟨es, clock, hg, r⟩, q⟩ := h
  exact ⟨D, ⟨es, clock, hb.trans hg, r⟩, q⟩

def PairsPost (w : World) (e : Ending) (w' : World) : Prop := e = .returned (.map (some w.heap.size)) ∧ OpsAt w' w.heap.size ∧ Below w.heap.size w w'

theorem pairs_end {w w' : World} (h : w'.ownsMap Tryz.prog 3 fnElem w.heap.size 13 ((((((((((((((.map [] : DataW Unit).put (.int .i64 3) (.lit (.int .i64 58))).put (.int .i64 4) (.lit (.int .i64 59))).put (.int .i64 5) (.lit (.int .i64 60))).put (.int .i64 6) (.lit (.int .i64 61))).put (.int .i64 7) (.lit (.int .i64 62))).put (.int .i64 8) (.lit (.int .i64 63))).put (.int .i64 9) (.lit (.int .i64 64))).put (.int .i64 10) (.lit (.int .i64 65))).put (.int .i64 11) (.lit (.int .i64 66))).put (.int .i64 12) (.lit (.int .i64 67))).put (.int .i64 13) (.lit (.int .i64 68))).put (.int .i64 14) (.lit (.int .i64 69))).put (.int .i64 15) (.lit (.int .i64 70))))
    (hb : Below w.heap.size w w') : PairsPost w (.returned (.map (some w.heap.size))) w' := by
  refine ⟨rfl, ⟨_, h, fun op h1 h2 z => ?_⟩, hb⟩
  obtain rfl | rfl | rfl | rfl | rfl | rfl | rfl | rfl | rfl | rfl | rfl | rfl | rfl : op = 3 ∨ op = 4 ∨ op = 5 ∨ op = 6 ∨ op = 7 ∨ op = 8 ∨ op = 9 ∨ op = 10 ∨ op = 11 ∨ op = 12 ∨ op = 13 ∨ op = 14 ∨ op = 15 := by omega
  all_goals rfl

set_option maxRecDepth 100000 in
set_option maxHeartbeats 2000000 in
theorem pairs_any (w : World) : Calls Tryz.prog 31 #[] w (PairsPost w) := by
  have hmm := @run_makeMap Tryz.prog
  have hown := World.ownsMap_made w Tryz.prog 3 fnElem
  have hb : Below w.heap.size w (w.alloc (.map #[] 0)) := (Below.refl w.heap.size w).alloc (Nat.le_refl _) _
  go_enter Tryz.func31, Tryz.ntmps31
  go_wp2_with (refine wpList_insert_own _ rfl _ _ _ 65 rfl 3 118 lawInt Tryz.underlying65 fnElem _ _ _ rfl hown (by unfold maxLen; omega) _ _ _ rfl rfl (keyOf_int_mk Tryz.underlying3 (by decide)) _ [] (fnElem_mk _) ?_; clear hown; intro w1 hown hg1; replace hb := hb.grown hg1 hb.size (fun j hj => by cases hj; exact Nat.le_refl _); clear hg1)
  go_ret
  exact pairs_end hown hb

end Go.Proofs.YtliolgamhjpljaaGreat

namespace Go.Proofs.YtliolgamhjpljaaGreat
open Go.RowKit Go.Maps

theorem isPure_any (op : Int) (w : World) : Calls Tryz.prog 29 #[.int .i64 op] w fun e w' => e = .returned (.bool (decide (3 ≤ op) && decide (op ≤ 17))) ∧ w' = w := by
  by_cases h1 : 3 ≤ op
  · have h1' : decide ((3 : Int) ≤ op) = true := by simpa using h1
    go_enter Tryz.func29, Tryz.ntmps29
    go_wp2
    go_ret
    exact ⟨by simp [h1'], rfl⟩
  · have h1' : decide ((3 : Int) ≤ op) = false := by simpa using h1
    go_enter Tryz.func29, Tryz.ntmps29
    go_wp2
    go_ret
    exact ⟨by simp [h1'], rfl⟩

theorem zeroFn (w : World) : (zeroValue 118).run Tryz.prog w = .ok .nilFunc w := by kernel_rfl

theorem OpsAt.get {w : World} {M : Nat} (h : OpsAt w M) {op : Int} (h1 : 3 ≤ op) (h2 : op ≤ 15) :
    (Instr.lookup 65 (.map (some M)) (.int .i64 op) false).run Tryz.prog w = .ok (.func (.func (fnOf op)) #[] #[]) w := by
  obtain ⟨D, hown, hat⟩ := h
  obtain ⟨v, ps, hrun, hv⟩ := hown.lookup lawInt Tryz.underlying65 (zeroFn w) (rfl : fnElem .nilFunc = some (.nil, [])) (keyOf_int_mk Tryz.underlying3 (WalkArith.wf_i64 (by omega)) : keyOf Tryz.prog 3 (.int .i64 op) = some (.int .i64 op))
  rw [hat op h1 h2] at hv
  rw [fnElem_inv hv] at hrun
  exact hrun

theorem enter_fn (op : Int) (h1 : 3 ≤ op) (h2 : op ≤ 15) (args : Array Value) (W : World) : (callFunc (fnOf op) args).run Tryz.prog W = .ok (.enter (fnOf op) args) W := by
  obtain rfl | rfl | rfl | rfl | rfl | rfl | rfl | rfl | rfl | rfl | rfl | rfl | rfl : op = 3 ∨ op = 4 ∨ op = 5 ∨ op = 6 ∨ op = 7 ∨ op = 8 ∨ op = 9 ∨ op = 10 ∨ op = 11 ∨ op = 12 ∨ op = 13 ∨ op = 14 ∨ op = 15 := by omega
  all_goals kernel_rfl

set_option maxRecDepth 100000 in
set_option maxHeartbeats 2000000 in
theorem calc_pair (op : Int) (h1 : 3 ≤ op) (h2 : op ≤ 15) (x y : Int) (r : List Int) (hd : divZero op (x :: y :: r) = false) (M g off n c : Nat) (w : World) (hops : OpsAt w M) (hn : 2 ≤ n) (hn2 : n < 4611686018427387904) (c0 : w.cell? ⟨g, off, none⟩ = some (.int .i64 x)) (c1 : w.cell? ⟨g, off + 1, none⟩ = some (.int .i64 y)) :
    Calls Tryz.prog 32 #[.map (some M), .int .i64 op, .slice (some ⟨g, off, none⟩) n c] w fun e w' => e = .returned (.int .i64 (calcM op (x :: y :: r))) ∧ ∃ m, w' = w.drewN m := by
  obtain ⟨F, hF⟩ : ∃ F, F = fnOf op := ⟨_, rfl⟩
  have hc : ∀ W : World, Calls Tryz.prog F #[.int .i64 x, .int .i64 y] W fun e w' => e = .returned (.int .i64 (calcM op (x :: y :: r))) ∧ w' = W := fun W => by rw [hF]; exact num_any op h1 h2 x y r hd W
  have hl : ∀ k : Nat, (Instr.lookup 65 (.map (some M)) (.int .i64 op) false).run Tryz.prog (w.drewN k) = .ok (.func (.func F) #[] #[]) (w.drewN k) := fun k => by
    rw [hF]
    exact (hops.heap (w' := w.drewN k) rfl).get h1 h2
  have hcf : ∀ (args : Array Value) (W : World), (callFunc F args).run Tryz.prog W = .ok (.enter F args) W := fun args W => by rw [hF]; exact enter_fn op h1 h2 args W
  have d16 : (op == 16) = false := by rw [beq_eq_false_iff_ne]; omega
  have d17 : (op == 17) = false := by rw [beq_eq_false_iff_ne]; omega
  have g0 : (0 : Int) < (n : Int) := by omega
  have g1 : (1 : Int) < (n : Int) := by omega
  have g2 : 0 < n := by omega
  have g3 : 1 < n := by omega
  have g4 : ¬ n = 0 := by omega
  clear hF hops hd
  generalize calcM op (x :: y :: r) = R at hc ⊢
  go_enter Tryz.func32, Tryz.ntmps32
  go_wp2
  go_quiet (refine Calls.quiet_of_same (hc _))
  go_wp2
  go_ret
  exact ⟨rfl, _, rfl⟩

set_option maxRecDepth 100000 in
set_option maxHeartbeats 2000000 in
theorem calc_not (x : Int) (r : List Int) (M : Value) (g off n c : Nat) (w : World) (hn : 1 ≤ n) (c0 : w.cell? ⟨g, off, none⟩ = some (.int .i64 x)) :
    Calls Tryz.prog 32 #[M, .int .i64 16, .slice (some ⟨g, off, none⟩) n c] w fun e w' => e = .returned (.int .i64 (calcM 16 (x :: r))) ∧ ∃ m, w' = w.drewN m := by
  have g2 : 0 < n := by omega
  have g4 : ¬ n = 0 := by omega
  have he : calcM 16 (x :: r) = flagM (x == 0) := by
    unfold calcM
    simp
    congr 1
  rw [he]
  have hc : ∀ W : World, Calls Tryz.prog 71 #[.bool (x == 0)] W fun e w' => e = .returned (.int .i64 (flagM (x == 0))) ∧ w' = W := fun W => flagOf_any _ W
  clear he
  obtain ⟨R, hR⟩ : ∃ R, flagM (x == 0) = R := ⟨_, rfl⟩
  rw [hR] at hc ⊢
  clear hR
  go_enter Tryz.func32, Tryz.ntmps32
  go_wp2_with (go_at_call 71; refine (hc _).mono ?_; rintro e w1 ⟨rfl, rfl⟩)
  go_ret
  exact ⟨rfl, 0, rfl⟩

set_option maxRecDepth 100000 in
set_option maxHeartbeats 2000000 in
theorem calc_sel (x y z : Int) (M : Value) (g off n c : Nat) (w : World) (hn : 3 ≤ n) (c0 : w.cell? ⟨g, off, none⟩ = some (.int .i64 x)) (c1 : w.cell? ⟨g, off + 1, none⟩ = some (.int .i64 y)) (c2 : w.cell? ⟨g, off + 2, none⟩ = some (.int .i64 z)) :
    Calls Tryz.prog 32 #[M, .int .i64 17, .slice (some ⟨g, off, none⟩) n c] w fun e w' => e = .returned (.int .i64 (calcM 17 [x, y, z])) ∧ ∃ m, w' = w.drewN m := by
  have g2 : 0 < n := by omega
  have g4 : ¬ n = 0 := by omega
  have g3 : 1 < n := by omega
  have g5 : 2 < n := by omega
  by_cases hx : x = 0
  · have he : calcM 17 [x, y, z] = z := by unfold calcM; simp [hx]
    rw [he]
    clear he
    have hx1 : (x != 0) = false := by simpa using hx
    clear hx
    go_enter Tryz.func32, Tryz.ntmps32
    go_wp2
    go_ret
    exact ⟨rfl, 0, rfl⟩
  · have he : calcM 17 [x, y, z] = y := by unfold calcM; simp [hx]
    rw [he]
    clear he
    have hx1 : (x != 0) = true := by simpa using hx
    clear hx
    go_enter Tryz.func32, Tryz.ntmps32
    go_wp2
    go_ret
    exact ⟨rfl, 0, rfl⟩

theorem takes_two {op : Int} (h1 : 3 ≤ op) (h2 : op ≤ 15) : (takesS op).length = 2 := by
  obtain rfl | rfl | rfl | rfl | rfl | rfl | rfl | rfl | rfl | rfl | rfl | rfl | rfl : op = 3 ∨ op = 4 ∨ op = 5 ∨ op = 6 ∨ op = 7 ∨ op = 8 ∨ op = 9 ∨ op = 10 ∨ op = 11 ∨ op = 12 ∨ op = 13 ∨ op = 14 ∨ op = 15 := by omega
  all_goals rfl

/-- what operations make, by the map -/
theorem calc_any (op : Int) (h1 : 3 ≤ op) (h2 : op ≤ 17) (xs : List Int) (hl : xs.length = (takesS op).length) (hd : divZero op xs = false) (M B : Nat) (av : Value) (w : World) (hops : OpsAt w M) (ha : Ints w B av xs) :
    Calls Tryz.prog 32 #[.map (some M), .int .i64 op, av] w fun e w' => e = .returned (.int .i64 (calcM op xs)) ∧ ∃ m, w' = w.drewN m := by
  obtain ⟨A, c, rfl, _, hat⟩ := ha
  by_cases h15 : op ≤ 15
  · rw [takes_two h1 h15] at hl
    obtain ⟨x, y, rfl⟩ : ∃ x y, xs = [x, y] := by
      match xs, hl with
      | [x, y], _ => exact ⟨x, y, rfl⟩
    obtain ⟨g, off, rfl, _, c0⟩ := hat 0 (by simp)
    obtain ⟨_, _, e, _, c1⟩ := hat 1 (by simp)
    cases e
    exact calc_pair op h1 h15 x y [] hd M g off 2 c w hops (by omega) (by omega) (by simpa using c0) (by simpa using c1)
  · obtain rfl | rfl : op = 16 ∨ op = 17 := by omega
    · have hl1 : xs.length = 1 := hl
      obtain ⟨x, rfl⟩ : ∃ x, xs = [x] := by
        match xs, hl1 with
        | [x], _ => exact ⟨x, rfl⟩
      obtain ⟨g, off, rfl, _, c0⟩ := hat 0 (by simp)
      exact calc_not x [] _ g off 1 c w (by omega) (by simpa using c0)
    · have hl1 : xs.length = 3 := hl
      obtain ⟨x, y, z, rfl⟩ : ∃ x y z, xs = [x, y, z] := by
        match xs, hl1 with
        | [x, y, z], _ => exact ⟨x, y, z, rfl⟩
      obtain ⟨g, off, rfl, _, c0⟩ := hat 0 (by simp)
      obtain ⟨_, _, e, _, c1⟩ := hat 1 (by simp)
      cases e
      obtain ⟨_, _, e, _, c2⟩ := hat 2 (by simp)
      cases e
      exact calc_sel x y z _ g off 3 c w (by omega) (by simpa using c0) (by simpa using c1) (by simpa using c2)

set_option maxRecDepth 100000 in
theorem divZero_any (op : Int) (xs : List Int) (hl : (op = 11 ∨ op = 12) → 2 ≤ xs.length) (B : Nat) (av : Value) (w : World) (ha : Ints w B av xs) :
    Calls Tryz.prog 30 #[.int .i64 op, av] w fun e w' => e = .returned (.bool (divZero op xs)) ∧ w' = w := by
  obtain ⟨A, c, rfl, _, hat⟩ := ha
  by_cases h11 : op = 11
  · have hl2 := hl (.inl h11)
    subst h11
    obtain ⟨g, off, rfl, _, c1⟩ := hat 1 (by omega)
    have g3 : 1 < xs.length := by omega
    have he : divZero 11 xs = (xs[1]?.getD 0 == 0) := by unfold divZero; simp [List.getD_eq_getElem?_getD]; rfl
    rw [he]
    clear he hat hl hl2
    obtain ⟨n, hn⟩ : ∃ n, xs.length = n := ⟨_, rfl⟩
    rw [hn] at g3 ⊢
    generalize xs[1]?.getD 0 = y at c1 ⊢
    clear hn
    go_enter Tryz.func30, Tryz.ntmps30
    go_wp2
    go_ret
    exact ⟨rfl, rfl⟩
  · by_cases h12 : op = 12
    · have hl2 := hl (.inr h12)
      subst h12
      obtain ⟨g, off, rfl, _, c1⟩ := hat 1 (by omega)
      have g3 : 1 < xs.length := by omega
      have he : divZero 12 xs = (xs[1]?.getD 0 == 0) := by unfold divZero; simp [List.getD_eq_getElem?_getD]; rfl
      rw [he]
      clear he hat hl hl2
      obtain ⟨n, hn⟩ : ∃ n, xs.length = n := ⟨_, rfl⟩
      rw [hn] at g3 ⊢
      generalize xs[1]?.getD 0 = y at c1 ⊢
      clear hn
      go_enter Tryz.func30, Tryz.ntmps30
      go_wp2
      go_ret
      exact ⟨rfl, rfl⟩
    · have he : divZero op xs = false := by unfold divZero; simp [h11, h12]
      rw [he]
      have d1 : (op == 11) = false := by simpa using h11
      have d2 : (op == 12) = false := by simpa using h12
      clear he hat hl h11 h12
      go_enter Tryz.func30, Tryz.ntmps30
      go_wp2
      go_ret
      exact ⟨rfl, rfl⟩
end Go.Proofs.YtliolgamhjpljaaGreat

namespace Go.Proofs.YtliolgamhjpljaaGreat
open Go.RowKit

/-- a list of phis -/
def PhisR (w : World) (B : Nat) (v : Value) (ps : List PhiM) : Prop :=
  ∃ A c, v = .slice A ps.length c ∧ ps.length ≤ 140737488351232 ∧ ∀ k p, ps[k]? = some p → ∃ b off fv vv, A = some ⟨b, off, none⟩ ∧ b < B ∧
    w.cell? ⟨b, off + k * 4, none⟩ = some (.int .i64 p.id) ∧ w.cell? ⟨b, off + k * 4 + 1, none⟩ = some (.int .i64 p.typ) ∧ w.cell? ⟨b, off + k * 4 + 2, none⟩ = some fv ∧ w.cell? ⟨b, off + k * 4 + 3, none⟩ = some vv ∧
    Ints w B fv p.fr ∧ Ints w B vv p.vals ∧ I64 p.id ∧ I64 p.typ

/-- a list of instructions -/
def CodeR (w : World) (B : Nat) (v : Value) (xs : List InstrM) : Prop :=
  ∃ A c, v = .slice A xs.length c ∧ xs.length ≤ 140737488351232 ∧ ∀ k x, xs[k]? = some x → ∃ b off av, A = some ⟨b, off, none⟩ ∧ b < B ∧
    w.cell? ⟨b, off + k * 4, none⟩ = some (.int .i64 x.op) ∧ w.cell? ⟨b, off + k * 4 + 1, none⟩ = some (.int .i64 x.id) ∧ w.cell? ⟨b, off + k * 4 + 2, none⟩ = some av ∧ w.cell? ⟨b, off + k * 4 + 3, none⟩ = some (.int .i64 x.n) ∧
    Ints w B av x.args ∧ I64 x.op ∧ I64 x.id ∧ I64 x.n

/-- a list of blocks -/
def BlocksR (w : World) (B : Nat) (v : Value) (bs : List BlockM) : Prop :=
  ∃ A c, v = .slice A bs.length c ∧ bs.length ≤ 140737488351232 ∧ ∀ k q, bs[k]? = some q → ∃ b off pv cv tv, A = some ⟨b, off, none⟩ ∧ b < B ∧
    w.cell? ⟨b, off + k * 6, none⟩ = some pv ∧ w.cell? ⟨b, off + k * 6 + 1, none⟩ = some cv ∧ w.cell? ⟨b, off + k * 6 + 2, none⟩ = some (.int .i64 q.term.op) ∧ w.cell? ⟨b, off + k * 6 + 3, none⟩ = some (.int .i64 q.term.val) ∧
    w.cell? ⟨b, off + k * 6 + 4, none⟩ = some tv ∧ w.cell? ⟨b, off + k * 6 + 5, none⟩ = some (.int .i64 q.term.n) ∧
    PhisR w B pv q.phis ∧ CodeR w B cv q.code ∧ Ints w B tv q.term.to ∧ I64 q.term.op ∧ I64 q.term.val ∧ I64 q.term.n

section
variable {w w' : World} {B : Nat} {v : Value}
/-- what is kept where all cells below B are kept -/
def Keeps (B : Nat) (w w' : World) : Prop := ∀ b o, b < B → w'.cell? ⟨b, o, none⟩ = w.cell? ⟨b, o, none⟩

theorem Keeps.of_below (h : Below B w w') : Keeps B w w' := fun b o hb => h.cell (p := ⟨b, o, none⟩) hb
theorem Keeps.of_grown {M : Nat} (h : w.grownBy w' (some M)) (hM : B ≤ M) (hB : B ≤ w.heap.size) : Keeps B w w' := fun b o hb =>
  World.cell?_of_block (h.block b (by omega) (by simp; omega))
theorem Keeps.trans {w2 : World} (h : Keeps B w w') (k : Keeps B w' w2) : Keeps B w w2 := fun b o hb => (k b o hb).trans (h b o hb)
theorem Keeps.refl (w : World) : Keeps B w w := fun _ _ _ => rfl
theorem Keeps.alloc (h : Keeps B w w') (hB : B ≤ w'.heap.size) (o : Obj) : Keeps B w (w'.alloc o) := fun b i hb => (World.cell?_alloc_lt w' o ⟨b, i, none⟩ (by simp; omega)).trans (h b i hb)

theorem Ints.keeps {xs : List Int} (h : Ints w B v xs) (hk : Keeps B w w') : Ints w' B v xs := by
  obtain ⟨A, c, rfl, hm, h⟩ := h
  refine ⟨A, c, rfl, hm, fun k hlt => ?_⟩
  obtain ⟨b, off, rfl, hb, hc⟩ := h k hlt
  exact ⟨b, off, rfl, hb, (hk _ _ hb).trans hc⟩

theorem PhisR.keeps {ps : List PhiM} (h : PhisR w B v ps) (hk : Keeps B w w') : PhisR w' B v ps := by
  obtain ⟨A, c, rfl, hm, h⟩ := h
  refine ⟨A, c, rfl, hm, fun k p hp => ?_⟩
  obtain ⟨b, off, fv, vv, rfl, hb, h0, h1, h2, h3, hf, hv, hi, ht⟩ := h k p hp
  exact ⟨b, off, fv, vv, rfl, hb, (hk _ _ hb).trans h0, (hk _ _ hb).trans h1, (hk _ _ hb).trans h2, (hk _ _ hb).trans h3, hf.keeps hk, hv.keeps hk, hi, ht⟩

theorem CodeR.keeps {xs : List InstrM} (h : CodeR w B v xs) (hk : Keeps B w w') : CodeR w' B v xs := by
  obtain ⟨A, c, rfl, hm, h⟩ := h
  refine ⟨A, c, rfl, hm, fun k p hp => ?_⟩
  obtain ⟨b, off, av, rfl, hb, h0, h1, h2, h3, hf, r⟩ := h k p hp
  exact ⟨b, off, av, rfl, hb, (hk _ _ hb).trans h0, (hk _ _ hb).trans h1, (hk _ _ hb).trans h2, (hk _ _ hb).trans h3, hf.keeps hk, r⟩

theorem BlocksR.keeps {bs : List BlockM} (h : BlocksR w B v bs) (hk : Keeps B w w') : BlocksR w' B v bs := by
  obtain ⟨A, c, rfl, hm, h⟩ := h
  refine ⟨A, c, rfl, hm, fun k p hp => ?_⟩
  obtain ⟨b, off, pv, cv, tv, rfl, hb, h0, h1, h2, h3, h4, h5, hp, hc, ht, r⟩ := h k p hp
  exact ⟨b, off, pv, cv, tv, rfl, hb, (hk _ _ hb).trans h0, (hk _ _ hb).trans h1, (hk _ _ hb).trans h2, (hk _ _ hb).trans h3, (hk _ _ hb).trans h4, (hk _ _ hb).trans h5, hp.keeps hk, hc.keeps hk, ht.keeps hk, r⟩
end

/-- a block that stands as it was made reads so -/
theorem row_cells {w w' : World} {g : Nat} {cs : Array Value} {t : TypeId} (h : w.heap[g]? = some (.cells cs t (0, 0))) (hk : w'.heap[g]? = w.heap[g]?) : ∀ o, w'.cell? ⟨g, o, none⟩ = cs[o]? :=
  fun o => cell_of_row w' g o cs t (0, 0) (hk.trans h)

/-- behind two new blocks, and writes to block M alone, both read as they were made -/
theorem two_cells {w w' : World} {c1 c2 : Array Value} {t1 t2 : TypeId} {M : Nat} (hg : ((w.alloc (.cells c1 t1)).alloc (.cells c2 t2)).grownBy w' (some M)) (hM : M < w.heap.size) :
    (∀ o, w'.cell? ⟨w.heap.size, o, none⟩ = c1[o]?) ∧ (∀ o, w'.cell? ⟨w.heap.size + 1, o, none⟩ = c2[o]?) ∧ w.heap.size + 1 < w'.heap.size := by
  have h1 : ((w.alloc (.cells c1 t1)).alloc (.cells c2 t2)).heap[w.heap.size]? = some (.cells c1 t1 (0, 0)) := by
    rw [Below.heap_alloc _ _ _ (by simp)]
    exact heap_alloc_new w _
  have h2 : ((w.alloc (.cells c1 t1)).alloc (.cells c2 t2)).heap[w.heap.size + 1]? = some (.cells c2 t2 (0, 0)) := by
    have := heap_alloc_new (w.alloc (.cells c1 t1)) (.cells c2 t2)
    simpa using this
  have hs := hg.size
  simp at hs
  exact ⟨row_cells h1 (hg.block _ (by simp; omega) (by simp; omega)), row_cells h2 (hg.block _ (by simp) (by simp; omega)), by omega⟩

theorem one_cells {w w' : World} {c1 : Array Value} {t1 : TypeId} (hg : Below (w.heap.size + 1) (w.alloc (.cells c1 t1)) w') : (∀ o, w'.cell? ⟨w.heap.size, o, none⟩ = c1[o]?) ∧ w.heap.size < w'.heap.size := by
  have hs := hg.size
  simp at hs
  exact ⟨row_cells (heap_alloc_new w _) (hg.block _ (by omega)), by omega⟩

theorem keeps_one {w w' : World} {o : Obj} {B : Nat} (hg : Below (w.heap.size + 1) (w.alloc o) w') (hB : B ≤ w.heap.size) : Keeps B w w' :=
  ((Keeps.refl w).alloc hB o).trans (Keeps.of_below (hg.mono (by omega)))

theorem below_one {w w' : World} {o : Obj} (hg : Below (w.heap.size + 1) (w.alloc o) w') : Below w.heap.size w w' :=
  ((Below.refl _ _).alloc (Nat.le_refl _) _).trans (hg.mono (by omega))

end Go.Proofs.YtliolgamhjpljaaGreat

namespace Go.Proofs.YtliolgamhjpljaaGreat
open Go.RowKit Go.Maps

inductive MTag
  | vals
  | cells
  | vis
  | arrs
  | out
  | arr (i : Nat)
  deriving DecidableEq

structure MRow where
  elem : TypeId
  len : Nat
  cells : List Value

abbrev MVals := MTag → Value

def intRow (xs : List Int) : MRow := ⟨3, xs.length, xs.map (Value.int .i64)⟩

def mRow (s : StM) (nv : Nat) (val : MVals) : MTag → Option MRow
  | .vals => some (intRow ((List.range nv).map fun (i : Nat) => s.val i))
  | .cells => some (intRow s.cells)
  | .vis => some (intRow s.vis)
  | .out => some (intRow s.out)
  | .arrs => some ⟨22, s.arrs.length, (List.range s.arrs.length).map fun i => val (.arr i)⟩
  | .arr i => s.arrs[i]?.map intRow

/-- what does not change in a run -/
structure MachC where
  f : FuncM
  B : Nat
  m : Nat
  M : Nat
  nv : Nat
  bv : Value
  fuel : Int

def machCells (c : MachC) (val : MVals) (s : StM) : Array Value :=
  #[.int .i64 0, .int .i64 0, .int .i64 0, val .out, val .arrs, .int .i64 s.steps, .int .i64 s.checks, val .vis, .map (some c.M), c.bv, .int .i64 c.fuel, val .vals, val .cells]

/-- what is kept: the blocks K, and the streams -/
structure KF (K : Nat → Prop) (w w' : World) : Prop where
  os : w'.os = w.os
  tape : w'.tape = w.tape
  output : w'.output = w.output
  size : w.heap.size ≤ w'.heap.size
  block : ∀ b, K b → w'.heap[b]? = w.heap[b]?

section
variable {K K' : Nat → Prop} {w w' w2 : World}
theorem KF.refl (w : World) : KF K w w := ⟨rfl, rfl, rfl, Nat.le_refl _, fun _ _ => rfl⟩
theorem KF.trans (h : KF K w w') (k : KF K w' w2) : KF K w w2 :=
  ⟨k.os.trans h.os, k.tape.trans h.tape, k.output.trans h.output, Nat.le_trans h.size k.size, fun b hb => (k.block b hb).trans (h.block b hb)⟩
theorem KF.mono (h : KF K w w') (hk : ∀ b, K' b → K b) : KF K' w w' := ⟨h.os, h.tape, h.output, h.size, fun b hb => h.block b (hk b hb)⟩
theorem KF.drewN (h : KF K w w') (n : Nat) : KF K w (w'.drewN n) := ⟨h.os, h.tape, h.output, h.size, h.block⟩
theorem KF.of_below (h : Below w.heap.size w w') (hl : ∀ b, K b → b < w.heap.size) : KF K w w' := ⟨h.os, h.tape, h.output, h.size, fun b hb => h.block b (hl b hb)⟩
theorem KF.alloc (h : KF K w w') (hl : ∀ b, K b → b < w.heap.size) (o : Obj) : KF K w (w'.alloc o) :=
  h.trans ⟨rfl, rfl, rfl, by simp, fun b hb => Below.heap_alloc _ _ _ (Nat.lt_of_lt_of_le (hl b hb) h.size)⟩
theorem KF.setCell (h : KF K w w') {a : Addr} (ha : ¬ K a.block) (u : Value) : KF K w (w'.setCell a u) :=
  h.trans ⟨rfl, rfl, rfl, by simp, fun b hb => Below.heap_setCell _ _ _ _ (fun e => ha (e ▸ hb))⟩
theorem KF.row {g : Nat} {cs : Array Value} {t : TypeId} (h : KF K w w') (hg : w.heap[g]? = some (.cells cs t (0, 0))) (hK : K g) : ∀ o, w'.cell? ⟨g, o, none⟩ = cs[o]? := row_cells hg (h.block g hK)
theorem KF.blk {g : Nat} {o : Obj} (h : KF K w w') (hg : w.heap[g]? = some o) (hK : K g) : w'.heap[g]? = some o := (h.block g hK).trans hg
theorem KF.keeps {B : Nat} (h : KF K w w') (hB : ∀ b, b < B → K b) : Keeps B w w' := fun b o hb => World.cell?_of_block (a := ⟨b, o, none⟩) (h.block b (hB b hb))
theorem KF.below {B : Nat} (h : KF K w w') (hB : ∀ b, b < B → K b) : Below B w w' := ⟨h.os, h.tape, h.output, h.size, fun b hb => h.block b (hB b hb)⟩
end

/-- the machine at 's' -/
structure MachR (c : MachC) (K : Nat → Prop) (w : World) (val : MVals) (s : StM) : Prop where
  blk : w.heap[c.m]? = some (.cells (machCells c val s) 67 (0, 0))
  rows : ∀ t d, mRow s c.nv val t = some d → w.ownsRow 0 d.elem 1 (val t) d.len d.cells
  apart : ∀ t t' d d' g, mRow s c.nv val t = some d → mRow s c.nv val t' = some d' → (val t).ownBlock = some g → (val t').ownBlock = some g → t = t'
  off : ∀ t d g, mRow s c.nv val t = some d → (val t).ownBlock = some g → g ≠ c.m ∧ ¬ K g
  offm : ¬ K c.m
  low : ∀ b, K b → b < w.heap.size
  kB : ∀ b, b < c.B → K b
  kM : K c.M
  ops : OpsAt w c.M
  blks : BlocksR w c.B c.bv c.f.blocks

section
variable {c : MachC} {K K' : Nat → Prop} {w w' : World} {val val' : MVals} {s s' : StM}

theorem MachR.own_lt (h : MachR c K w val s) {t : MTag} {d : MRow} {g : Nat} (ht : mRow s c.nv val t = some d) (hg : (val t).ownBlock = some g) : g < w.heap.size := ((h.rows t d ht).lt g hg).2

theorem MachR.m_lt (h : MachR c K w val s) : c.m < w.heap.size := (Array.getElem?_eq_some_iff.1 h.blk).1

theorem owns_kept {base : Nat} {e : TypeId} {size : Nat} {v : Value} {n : Nat} {xs : List Value} (h : w.ownsRow base e size v n xs) (hk : ∀ g, v.ownBlock = some g → w'.heap[g]? = w.heap[g]?) : w'.ownsRow base e size v n xs := by
  refine ⟨h.1, ?_⟩
  rcases h.2 with h2 | ⟨g, cap, cur, hv, hb, hg, r⟩
  · exact .inl h2
  · exact .inr ⟨g, cap, cur, hv, hb, (hk g (by rw [hv]; rfl)).trans hg, r⟩

theorem MachR.kept (h : MachR c K w val s) (hk : KF K w w') (hm : w'.heap[c.m]? = w.heap[c.m]?) (ho : ∀ t d g, mRow s c.nv val t = some d → (val t).ownBlock = some g → w'.heap[g]? = w.heap[g]?) : MachR c K w' val s :=
  ⟨hm.trans h.blk, fun t d ht => owns_kept (h.rows t d ht) fun g hg => ho t d g ht hg, h.apart, h.off, h.offm, fun b hb => Nat.lt_of_lt_of_le (h.low b hb) hk.size, h.kB, h.kM, h.ops.heap (hk.block _ h.kM), h.blks.keeps (hk.keeps h.kB)⟩

theorem MachR.below (h : MachR c K w val s) (hb : Below w.heap.size w w') : MachR c K w' val s :=
  h.kept (KF.of_below hb h.low) (hb.block _ h.m_lt) fun _ _ _ ht hg => hb.block _ (h.own_lt ht hg)

theorem MachR.drewN (h : MachR c K w val s) (n : Nat) : MachR c K (w.drewN n) val s := h.below (below_drewN (Below.refl _ w) n)

/-- less is kept -/
theorem MachR.less (h : MachR c K w val s) (hk : ∀ b, K' b → K b) (hB : ∀ b, b < c.B → K' b) (hM : K' c.M) : MachR c K' w val s :=
  ⟨h.blk, h.rows, h.apart, fun t d g ht hg => ⟨(h.off t d g ht hg).1, fun e => (h.off t d g ht hg).2 (hk _ e)⟩, fun e => h.offm (hk _ e), fun b hb => h.low b (hk b hb), hB, hM, h.ops, h.blks⟩

/-- a new block is kept, too -/
theorem MachR.add (h : MachR c K w val s) (o : Obj) : MachR c (fun b => K b ∨ b = w.heap.size) (w.alloc o) val s := by
  have h1 := h.below ((Below.refl w.heap.size w).alloc (Nat.le_refl _) o)
  refine ⟨h1.blk, h1.rows, h1.apart, fun t d g ht hg => ⟨(h.off t d g ht hg).1, fun e => ?_⟩, fun e => ?_, fun b hb => ?_, fun b hb => .inl (h.kB b hb), .inl h.kM, h1.ops, h1.blks⟩
  · rcases e with e | e
    · exact (h.off t d g ht hg).2 e
    · have := h.own_lt ht hg; omega
  · rcases e with e | e
    · exact h.offm e
    · have := h.m_lt; omega
  · rcases hb with hb | hb
    · exact h1.low b hb
    · subst hb; simp

/-- all new blocks of a call are kept, too -/
theorem MachR.adds (h : MachR c K w val s) (hb : Below w.heap.size w w') : MachR c (fun b => K b ∨ (w.heap.size ≤ b ∧ b < w'.heap.size)) w' val s := by
  have h1 := h.below hb
  refine ⟨h1.blk, h1.rows, h1.apart, fun t d g ht hg => ⟨(h.off t d g ht hg).1, fun e => ?_⟩, fun e => ?_, fun b hb => ?_, fun b hb => .inl (h.kB b hb), .inl h.kM, h1.ops, h1.blks⟩
  · rcases e with e | e
    · exact (h.off t d g ht hg).2 e
    · have := h.own_lt ht hg; omega
  · rcases e with e | e
    · exact h.offm e
    · have := h.m_lt; omega
  · rcases hb with hb | hb
    · exact h1.low b hb
    · exact hb.2

theorem MachR.cells (h : MachR c K w val s) : ∀ o, w.cell? ⟨c.m, o, none⟩ = (machCells c val s)[o]? := row_cells h.blk rfl
theorem MachR.free (h : MachR c K w val s) (o : Nat) : w.frozen? ⟨c.m, o, none⟩ = false := frozen_of_row w c.m o _ _ h.blk

theorem MachR.slice (h : MachR c K w val s) {t : MTag} {d : MRow} (ht : mRow s c.nv val t = some d) (h0 : 0 < d.len) : ∃ g cap, val t = .slice (some ⟨g, 0, none⟩) d.len cap := by
  obtain ⟨g, cap, hv, _⟩ := (h.rows t d ht).form h0
  exact ⟨g, cap, hv⟩

theorem MachR.cell (h : MachR c K w val s) {t : MTag} {d : MRow} {g cap : Nat} (ht : mRow s c.nv val t = some d) (hv : val t = .slice (some ⟨g, 0, none⟩) d.len cap) {j : Nat} (hj : j < d.len) :
    w.cell? ⟨g, j, none⟩ = d.cells[j]? ∧ w.frozen? ⟨g, j, none⟩ = false := by
  have h0 := h.rows t d ht
  rw [hv] at h0
  exact ⟨World.ownsRow.cellAt h0 j (by omega), World.ownsRow.frozenAt h0 j⟩

/-- an element of a row is written -/
theorem MachR.store (h : MachR c K w val s) {t : MTag} {d : MRow} {g cap j : Nat} {u : Value} (ht : mRow s c.nv val t = some d) (hv : val t = .slice (some ⟨g, 0, none⟩) d.len cap)
    (h1 : mRow s' c.nv val t = some { d with cells := d.cells.set j u }) (h2 : ∀ t', t' ≠ t → mRow s' c.nv val t' = mRow s c.nv val t') (hs : s'.steps = s.steps) (hc : s'.checks = s.checks) :
    MachR c K (w.setCell ⟨g, j, none⟩ u) val s' ∧ KF K w (w.setCell ⟨g, j, none⟩ u) := by
  have hown : (val t).ownBlock = some g := by rw [hv]; rfl
  have hoff := h.off t d g ht hown
  have h0 := h.rows t d ht
  rw [hv] at h0
  have hst := World.ownsRow.stored h0 j u
  have hk : KF K w (w.setCell ⟨g, j, none⟩ u) := (KF.refl w).setCell hoff.2 u
  have back : ∀ t' d', mRow s' c.nv val t' = some d' → ∃ d2, mRow s c.nv val t' = some d2 := fun t' d' hd' => by
    by_cases e : t' = t
    · subst e; exact ⟨d, ht⟩
    · exact ⟨d', by rw [← h2 t' e]; exact hd'⟩
  refine ⟨⟨?_, fun t' d' hd' => ?_, fun t1 t2 d1 d2 g1 e1 e2 => ?_, fun t' d' g' hd' hg' => ?_, h.offm, fun b hb => by simpa using h.low b hb, h.kB, h.kM, h.ops.heap (hk.block _ h.kM), h.blks.keeps (hk.keeps h.kB)⟩, hk⟩
  · rw [Below.heap_setCell _ _ _ _ (fun e => hoff.1 e.symm)]
    have e : machCells c val s' = machCells c val s := by unfold machCells; rw [hs, hc]
    rw [e]
    exact h.blk
  · by_cases e : t' = t
    · subst e
      rw [h1] at hd'
      cases hd'
      rw [hv]
      exact hst.1
    · rw [h2 t' e] at hd'
      exact ownsRow_setCell_other (h.rows t' d' hd') (fun e2 => e (h.apart t' t d' d g hd' ht e2 hown)) u
  · obtain ⟨x1, hx1⟩ := back t1 d1 e1
    obtain ⟨x2, hx2⟩ := back t2 d2 e2
    exact h.apart t1 t2 x1 x2 g1 hx1 hx2
  · obtain ⟨x1, hx1⟩ := back t' d' hd'
    exact h.off t' x1 g' hx1 hg'

/-- a field of the machine is written -/
theorem MachR.field (h : MachR c K w val s) {j : Nat} {u : Value} (hr : ∀ t, mRow s' c.nv val t = mRow s c.nv val t) (hc : (machCells c val s).setIfInBounds j u = machCells c val s') :
    MachR c K (w.setCell ⟨c.m, j, none⟩ u) val s' ∧ KF K w (w.setCell ⟨c.m, j, none⟩ u) := by
  have hk : KF K w (w.setCell ⟨c.m, j, none⟩ u) := (KF.refl w).setCell h.offm u
  refine ⟨⟨?_, fun t d ht => ?_, fun t1 t2 d1 d2 g1 e1 e2 => ?_, fun t d g ht hg => ?_, h.offm, fun b hb => by simpa using h.low b hb, h.kB, h.kM, h.ops.heap (hk.block _ h.kM), h.blks.keeps (hk.keeps h.kB)⟩, hk⟩
  · rw [heap_setCell_same w c.m j _ _ u h.blk, hc]
  · rw [hr] at ht
    exact ownsRow_setCell_other (h.rows t d ht) (fun e => (h.off t d _ ht e).1 rfl) u
  · rw [hr] at e1 e2
    exact h.apart t1 t2 d1 d2 g1 e1 e2
  · rw [hr] at ht
    exact h.off t d g ht hg

theorem MachR.tick (h : MachR c K w val s) : MachR c K (w.setCell ⟨c.m, 5, none⟩ (.int .i64 ((s.steps : Int) + 1))) val (tickM s) ∧ KF K w (w.setCell ⟨c.m, 5, none⟩ (.int .i64 ((s.steps : Int) + 1))) :=
  h.field (fun t => by cases t <;> rfl) (by unfold machCells tickM; simp)

theorem MachR.look (h : MachR c K w val s) {op : Int} (ho : op = 19 ∨ op = 20) : MachR c K (w.setCell ⟨c.m, 6, none⟩ (.int .i64 (wrap64 (s.checks + 1)))) val (lookS op s) ∧ KF K w (w.setCell ⟨c.m, 6, none⟩ (.int .i64 (wrap64 (s.checks + 1)))) := by
  have e : lookS op s = { s with checks := wrap64 (s.checks + 1) } := by unfold lookS; rw [if_pos ho]
  rw [e]
  exact h.field (fun t => by cases t <;> rfl) (by unfold machCells; simp)

/-- a number is told -/
theorem MachR.told (h : MachR c K w val s) {w1 : World} {v' : Value} {n : Int} {g1 cap1 : Nat} (hg : w.grownBy w1 (val .out).ownBlock) (hv : v' = .slice (some ⟨g1, 0, none⟩) (s.out.length + 1) cap1)
    (hown : w1.ownsRow 0 3 1 v' (s.out.length + 1) (s.out.map (Value.int .i64) ++ [.int .i64 n])) (hnew : (val .out).ownBlock = some g1 ∨ w.heap.size ≤ g1) :
    MachR c K (w1.setCell ⟨c.m, 3, none⟩ v') (fun t => if t = .out then v' else val t) { s with out := s.out ++ [n] } ∧ KF K w (w1.setCell ⟨c.m, 3, none⟩ v') := by
  have ho : mRow s c.nv val .out = some (intRow s.out) := rfl
  have hk1 : KF K w w1 := ⟨hg.os, hg.tape, hg.output, hg.size, fun b hb => hg.block b (h.low b hb) (fun e => (h.off .out _ b ho e.symm).2 hb)⟩
  have hm1 : w1.heap[c.m]? = w.heap[c.m]? := hg.block c.m h.m_lt (fun e => (h.off .out _ c.m ho e.symm).1 rfl)
  have hk : KF K w (w1.setCell ⟨c.m, 3, none⟩ v') := hk1.setCell h.offm v'
  have hv1 : v'.ownBlock = some g1 := by rw [hv]; rfl
  have hgm : g1 ≠ c.m := by
    rcases hnew with e | e
    · exact (h.off .out _ g1 ho e).1
    · have := h.m_lt; omega
  have row : ∀ t, t ≠ .out → mRow { s with out := s.out ++ [n] } c.nv (fun t => if t = .out then v' else val t) t = mRow s c.nv val t := fun t ht => by
    cases t with
    | out => exact absurd rfl ht
    | arrs => simp [mRow]
    | _ => rfl
  have away : ∀ t d, t ≠ .out → mRow s c.nv val t = some d → (val t).ownBlock ≠ some g1 := fun t d ht hd e => by
    rcases hnew with e2 | e2
    · exact ht (h.apart t .out d _ g1 hd ho e e2)
    · have := h.own_lt hd e; omega
  refine ⟨⟨?_, fun t d hd => ?_, fun t1 t2 d1 d2 g e1 e2 f1 f2 => ?_, fun t d g hd hg2 => ?_, h.offm, fun b hb => by have := h.low b hb; have := hg.size; simp; omega, h.kB, h.kM, h.ops.heap (hk.block _ h.kM), h.blks.keeps (hk.keeps h.kB)⟩, hk⟩
  · rw [heap_setCell_same w1 c.m 3 _ _ v' (hm1.trans h.blk)]
    congr 2
  · by_cases e : t = .out
    · subst e
      rw [if_pos rfl]
      have : d = intRow (s.out ++ [n]) := by injection hd with hd; exact hd.symm
      subst this
      have h2 := ownsRow_setCell_other hown (a := ⟨c.m, 3, none⟩) (by rw [hv1]; intro e; exact hgm (Option.some.inj e)) v'
      unfold intRow
      simp only [List.length_append, List.length_cons, List.length_nil, List.map_append, List.map_cons, List.map_nil]
      exact h2
    · rw [if_neg e]
      rw [row t e] at hd
      refine owns_kept (h.rows t d hd) fun g hg2 => ?_
      rw [Below.heap_setCell _ _ _ _ (h.off t d g hd hg2).1]
      exact hg.block g (h.own_lt hd hg2) (fun e2 => e (h.apart t .out d _ g hd ho hg2 e2.symm))
  · by_cases x1 : t1 = .out
    · by_cases x2 : t2 = .out
      · rw [x1, x2]
      · rw [if_pos x1, hv1] at f1
        rw [if_neg x2] at f2
        rw [row t2 x2] at e2
        exact absurd (by rw [f2, ← f1]) (away t2 d2 x2 e2)
    · by_cases x2 : t2 = .out
      · rw [if_pos x2, hv1] at f2
        rw [if_neg x1] at f1
        rw [row t1 x1] at e1
        exact absurd (by rw [f1, ← f2]) (away t1 d1 x1 e1)
      · rw [if_neg x1] at f1
        rw [if_neg x2] at f2
        rw [row t1 x1] at e1
        rw [row t2 x2] at e2
        exact h.apart t1 t2 d1 d2 g e1 e2 f1 f2
  · by_cases x : t = .out
    · rw [if_pos x, hv1] at hg2
      obtain rfl := Option.some.inj hg2
      refine ⟨hgm, fun hK => ?_⟩
      rcases hnew with e | e
      · exact (h.off .out _ g1 ho e).2 hK
      · have := h.low g1 hK; omega
    · rw [if_neg x] at hg2
      rw [row t x] at hd
      exact h.off t d g hd hg2
end

/-- how a run ends, as the machine says it -/
def endV (e : EndM) : Value := .iface 104 (.agg #[.int .i64 e.1, .int .i64 e.2.1, .int .i64 e.2.2])
def endE (e : EndM) : Ending := .panicked [{ v := endV e, recovered := false }]

end Go.Proofs.YtliolgamhjpljaaGreat

namespace Go.Proofs.YtliolgamhjpljaaGreat
open Go.RowKit Go.Maps

section
variable {c : MachC} {K : Nat → Prop} {w : World} {val : MVals} {s : StM}

theorem trap_any (p : Value) (n : Int) (w : World) : Calls Tryz.prog 97 #[p, .int .i64 n] w fun e w' => e = endE (2, 0, n) ∧ w' = w := by
  go_enter Tryz.func97, Tryz.ntmps97
  go_wp2
  exact ⟨rfl, rfl, rfl⟩

set_option maxRecDepth 100000 in
theorem step_go (h : MachR c K w val s) (hf : (s.steps : Int) ≠ c.fuel) (hs : s.steps < 1000000) :
    Calls Tryz.prog 49 #[.pointer (some ⟨c.m, 0, none⟩)] w fun e w' => e = .returned (.tuple #[]) ∧ MachR c K w' val (tickM s) ∧ KF K w w' := by
  have H := hideI h
  have HM := hideI (h.m_lt)
  have hx0 := h.cells
  have c5 := hx0 5
  have c10 := hx0 10
  have fr := h.free 5
  have hne : ((s.steps : Int) == c.fuel) = false := by simpa using hf
  have hw : IntKind.i64.wrap ((s.steps : Int) + 1) = (s.steps : Int) + 1 := IntWalk.i64_in _ (by omega)
  clear hx0 h hf hs
  obtain ⟨z, hz⟩ : ∃ z : Int, z = (s.steps : Int) := ⟨_, rfl⟩
  simp only [machCells] at c5 c10
  rw [← hz] at c5 hne hw
  have HZ := hideI hz
  clear hz
  go_enter Tryz.func49, Tryz.ntmps49
  go_wp2
  go_quiet (fail)
  go_wp2
  go_end0
  have h2 := (H.out.drewN nq).tick
  rw [← HZ.out] at h2
  exact ⟨rfl, h2.1, (KF.refl _).trans ((KF.drewN (KF.refl _) nq).trans h2.2)⟩

set_option maxRecDepth 100000 in
theorem step_stop (h : MachR c K w val s) (hf : (s.steps : Int) = c.fuel) :
    Calls Tryz.prog 49 #[.pointer (some ⟨c.m, 0, none⟩)] w fun e w' => e = endE (3, 0, 0) ∧ MachR c K w' val s ∧ KF K w w' := by
  have H := hideI h
  have hx0 := h.cells
  have c5 := hx0 5
  have c10 := hx0 10
  clear hx0 h
  simp only [machCells] at c5 c10
  rw [hf] at c5
  clear hf
  have hne : (c.fuel == c.fuel) = true := by simp
  go_enter Tryz.func49, Tryz.ntmps49
  go_wp2
  go_quiet (fail)
  go_wp2
  exact ⟨rfl, rfl, H.out.drewN nq, KF.drewN (KF.refl _) nq⟩

set_option maxRecDepth 100000 in
theorem tell_full (h : MachR c K w val s) (hf : s.out.length = 4096) (n : Int) :
    Calls Tryz.prog 95 #[.pointer (some ⟨c.m, 0, none⟩), .int .i64 n] w fun e w' => e = endE (4, 0, 0) ∧ MachR c K w' val s ∧ KF K w w' := by
  have H := hideI h
  have hx0 := h.cells
  have c3 := hx0 3
  obtain ⟨g, cap, hv⟩ := h.slice (t := .out) (d := intRow s.out) rfl (by show 0 < s.out.length; omega)
  have hl : (intRow s.out).len = 4096 := hf
  rw [hl] at hv
  simp only [machCells] at c3
  rw [hv] at c3
  clear hx0 h hv hl hf
  go_enter Tryz.func95, Tryz.ntmps95
  go_wp2
  exact ⟨rfl, rfl, H.out, KF.refl _⟩

theorem one_newI (w : World) (x : Int) : ∀ j u, [Value.int .i64 x][j]? = some u → (w.alloc (.cells #[.int .i64 x] 3)).cell? ((⟨w.heap.size, 0, none⟩ : Addr).add j) = some u :=
  World.news_of_block (heap_alloc_new w _)

set_option maxRecDepth 100000 in
set_option maxHeartbeats 1000000 in
theorem tell_go (h : MachR c K w val s) (hf : s.out.length < 4096) (n : Int) :
    Calls Tryz.prog 95 #[.pointer (some ⟨c.m, 0, none⟩), .int .i64 n] w fun e w' => e = .returned (.tuple #[]) ∧ ∃ val', MachR c K w' val' { s with out := s.out ++ [n] } ∧ KF K w w' := by
  obtain ⟨i1, hjx, hj2⟩ : ∃ i, Tryz.prog.info? 3 = some i ∧ i.zero = some (.int .i64 0) ∧ i.size = 1 ∧ i.bytes = 8 := ⟨_, rfl, rfl, rfl, rfl⟩
  obtain ⟨hy0, hy1, hy2⟩ := hj2
  have H := hideI h
  have HL := hideI hf
  have hx0 := h.cells
  have c3 := hx0 3
  have fr := h.free 3
  have hrow : w.ownsRow 0 3 1 (val .out) s.out.length (s.out.map (Value.int .i64)) := h.rows .out _ rfl
  have hlt : ((s.out.length : Int) == 4096) = false := by rw [beq_eq_false_iff_ne]; omega
  have HM := hideI h.m_lt
  have hml := h.m_lt
  have hown : ∃ v, val .out = v := ⟨_, rfl⟩
  obtain ⟨v, hv⟩ := hown
  obtain ⟨A, cp, hA⟩ : ∃ A cp, v = .slice A s.out.length cp := by
    rw [← hv]
    rcases hrow.2 with ⟨e, e0⟩ | ⟨g, cap, cur, e, _⟩
    · exact ⟨none, 0, by rw [e, e0]⟩
    · exact ⟨_, _, e⟩
  subst hA
  simp only [machCells] at c3
  rw [hv] at c3 hrow
  have HV := hideI hv
  have HROW := hideI hrow
  have HMAP : Hid (s.out.map (Value.int .i64) = s.out.map (Value.int .i64)) := rfl
  obtain ⟨L, hL⟩ : ∃ L, L = s.out.length := ⟨_, rfl⟩
  rw [← hL] at hlt c3 HV HROW HL
  have HLL := hideI hL
  clear hx0 h hv hrow hf hL
  go_enter Tryz.func95, Tryz.ntmps95
  go_wp2_with (at_builtin; go_must (refine wpList_append_lies _ rfl _ _ _ rfl 0 3 i1 (.int .i64 0) 1 8 Tryz.underlying22 hjx hy0 hy1 hy2 rfl (by decide) _ _ _ rfl (HROW.out.alloc _) ⟨w.heap.size, 0, none⟩ 1 1 [.int .i64 n] rfl rfl (one_newI w _) (by simp [Value.oneCell']) (by decide) (by have := HL.out; unfold maxLen; omega) (by have := HL.out; omega) (Nat.zero_le _) _ rfl ?_); intro g1 cap1 w1 hown1 hg1 hat1 hlt1; have hg2 : (w.alloc (.cells #[.int .i64 n] 3)).grownBy w1 (Value.slice A L cp).ownBlock := hg1; have hat2 : (Value.slice A L cp).ownBlock = some g1 ∨ g1 = (w.alloc (.cells #[.int .i64 n] 3)).heap.size := hat1; clear hg1 hat1; have HG := hideI hg2; have HAT := hideI hat2; have HOWN := hideI hown1; clear hg2 hat2 hown1 hlt1; have hblk : w1.heap[c.m]? = w.heap[c.m]? := (HG.out.block c.m (by simp; exact Nat.lt_succ_of_lt HM.out) (fun e => (H.out.off .out _ _ rfl (by rw [HV.out]; exact e.symm)).1 rfl)).trans (Below.heap_alloc _ _ _ HM.out); have c3' : w1.cell? ⟨c.m, 3, none⟩ = some (.slice A L cp) := (World.cell?_of_block (a := ⟨c.m, 3, none⟩) hblk).trans c3; have fr' : w1.frozen? ⟨c.m, 3, none⟩ = false := (World.frozen?_of_block (a := ⟨c.m, 3, none⟩) hblk).trans fr; clear hblk)
  go_end0
  have hal := H.out.below ((Below.refl w.heap.size w).alloc (Nat.le_refl _) (.cells #[.int .i64 n] 3))
  have h2 := hal.told (n := n) (g1 := g1) (cap1 := cap1) (by rw [HV.out]; exact HG.out) rfl (by rw [← HLL.out]; exact HOWN.out) (by rw [HV.out]; rcases HAT.out with e | e; exact .inl e; exact .inr (by rw [e]; exact Nat.le_refl _))
  rw [← HLL.out] at h2
  exact ⟨rfl, ⟨_, h2.1⟩, ((KF.refl _).alloc H.out.low _).trans h2.2⟩
end
end Go.Proofs.YtliolgamhjpljaaGreat

namespace Go.Proofs.YtliolgamhjpljaaGreat
open Go.RowKit Go.Maps

section
variable {c : MachC} {K : Nat → Prop} {w : World} {val : MVals} {s : StM}

/-- an array, as it lies -/
structure ArrAt (c : MachC) (w : World) (val : MVals) (s : StM) (k : Nat) (a : List Int) (ga ca : Nat) (A : Option Addr) (cp : Nat) : Prop where
  arrs : val .arrs = .slice (some ⟨ga, 0, none⟩) s.arrs.length ca
  at_ : w.cell? ⟨ga, k, none⟩ = some (.slice A a.length cp)
  own : val (.arr k) = .slice A a.length cp
  ne : ga ≠ c.m
  lt : ga < w.heap.size
  klt : k < s.arrs.length

theorem MachR.arrAt (h : MachR c K w val s) {k : Nat} {a : List Int} (hk : s.arrs[k]? = some a) : ∃ ga ca A cp, ArrAt c w val s k a ga ca A cp := by
  have hlt := (List.getElem?_eq_some_iff.1 hk).1
  have hr : mRow s c.nv val .arrs = some ⟨22, s.arrs.length, (List.range s.arrs.length).map fun i => val (.arr i)⟩ := rfl
  obtain ⟨ga, ca, hv⟩ := h.slice hr (by show 0 < s.arrs.length; omega)
  have hra : mRow s c.nv val (.arr k) = some (intRow a) := by simp [mRow, hk]
  have hrow := h.rows _ _ hra
  obtain ⟨A, cp, hA⟩ : ∃ A cp, val (.arr k) = .slice A a.length cp := by
    rcases hrow.2 with ⟨e, e0⟩ | ⟨g, cap, cur, e, _⟩
    · exact ⟨none, 0, by rw [e]; congr 1; exact e0.symm⟩
    · exact ⟨_, _, e⟩
  have hc := h.cell hr hv (j := k) hlt
  refine ⟨ga, ca, A, cp, hv, ?_, hA, (h.off .arrs _ ga hr (by rw [hv]; rfl)).1, h.own_lt hr (by rw [hv]; rfl), hlt⟩
  rw [hc.1]
  simp [hlt, hA]

theorem miss_no {op : Int} (h1 : ¬ op = 19) (h2 : ¬ op = 20) : missM op = (5, 0, 0) := by
  unfold missM
  rw [if_neg]
  rintro (e | e)
  · exact h1 e
  · exact h2 e

theorem look_no {op : Int} (h1 : ¬ op = 19) (h2 : ¬ op = 20) (s : StM) : lookS op s = s := by
  unfold lookS
  rw [if_neg]
  rintro (e | e)
  · exact h1 e
  · exact h2 e

set_option maxRecDepth 100000 in
set_option maxHeartbeats 1000000 in
theorem find_ok (h : MachR c K w val s) {k : Nat} {a : List Int} (hk : s.arrs[k]? = some a) (op id : Int) (av : Value) (i : Nat) (hi : i < a.length) :
    Calls Tryz.prog 94 #[.pointer (some ⟨c.m, 0, none⟩), .agg #[.int .i64 op, .int .i64 id, av, .int .i64 k], .int .i64 i] w fun e w' => e = .returned (.tuple #[]) ∧ MachR c K w' val (lookS op s) ∧ KF K w w' := by
  obtain ⟨ga, ca, A, cp, X⟩ := h.arrAt hk
  have H := hideI h
  have hml := h.m_lt
  have hx0 := h.cells
  have c4 := hx0 4
  have c6 := hx0 6
  have fr := h.free 6
  simp only [machCells] at c4 c6
  rw [X.arrs] at c4
  have a0 := X.at_
  have a1 := X.ne
  have a1' : c.m ≠ ga := fun e => a1 e.symm
  have a2 := X.lt
  have a3 := X.klt
  obtain ⟨na, hna⟩ : ∃ na, na = s.arrs.length := ⟨_, rfl⟩
  obtain ⟨la, hla⟩ : ∃ la, la = a.length := ⟨_, rfl⟩
  rw [← hna] at c4 a3
  rw [← hla] at a0 hi
  have HAL : Hid (∀ (W : World) (t : StM) (o : Obj) (n : Nat), MachR c K W val t ∧ KF K w W → MachR c K ((W.alloc o).drewN n) val t ∧ KF K w ((W.alloc o).drewN n)) := hideI fun W t o n hW => ⟨(hW.1.below ((Below.refl W.heap.size W).alloc (Nat.le_refl _) o)).drewN n, KF.drewN (hW.2.alloc H.out.low o) n⟩
  clear hx0 h X hk hna hla
  have hi0 : decide ((0 : Int) ≤ (i : Int)) = true := by simp
  by_cases e19 : op = 19
  · subst e19
    go_enter Tryz.func94, Tryz.ntmps94
    go_wp2
    go_quiet (fail)
    go_wp2
    go_end0
    exact ⟨rfl, HAL.out _ _ _ _ (H.out.look (.inl rfl))⟩
  by_cases e20 : op = 20
  · subst e20
    go_enter Tryz.func94, Tryz.ntmps94
    go_wp2
    go_quiet (fail)
    go_wp2
    go_end0
    exact ⟨rfl, HAL.out _ _ _ _ (H.out.look (.inr rfl))⟩
  have d19 : (op == 19) = false := by simpa using e19
  have d20 : (op == 20) = false := by simpa using e20
  have HE : Hid (lookS op s = s) := hideI (look_no e19 e20 s)
  have HE2 : Hid (missM op = (5, 0, 0)) := hideI (miss_no e19 e20)
  clear e19 e20
  go_enter Tryz.func94, Tryz.ntmps94
  go_wp2
  go_quiet (fail)
  go_wp2
  go_end0
  rw [HE.out]
  exact ⟨rfl, HAL.out _ _ _ _ ⟨H.out, KF.refl _⟩⟩

set_option maxRecDepth 100000 in
set_option maxHeartbeats 1000000 in
theorem find_neg (h : MachR c K w val s) {k : Nat} {a : List Int} (hk : s.arrs[k]? = some a) (op id : Int) (av : Value) (i : Int) (hi : ¬ (0 : Int) ≤ i) :
    Calls Tryz.prog 94 #[.pointer (some ⟨c.m, 0, none⟩), .agg #[.int .i64 op, .int .i64 id, av, .int .i64 k], .int .i64 i] w fun e w' => e = endE (missM op) ∧ MachR c K w' val (lookS op s) ∧ KF K w w' := by
  obtain ⟨ga, ca, A, cp, X⟩ := h.arrAt hk
  have H := hideI h
  have hml := h.m_lt
  have hx0 := h.cells
  have c4 := hx0 4
  have c6 := hx0 6
  have fr := h.free 6
  simp only [machCells] at c4 c6
  rw [X.arrs] at c4
  have a0 := X.at_
  have a1 := X.ne
  have a1' : c.m ≠ ga := fun e => a1 e.symm
  have a2 := X.lt
  have a3 := X.klt
  obtain ⟨na, hna⟩ : ∃ na, na = s.arrs.length := ⟨_, rfl⟩
  obtain ⟨la, hla⟩ : ∃ la, la = a.length := ⟨_, rfl⟩
  rw [← hna] at c4 a3
  rw [← hla] at a0
  have HAL : Hid (∀ (W : World) (t : StM) (o : Obj) (n : Nat), MachR c K W val t ∧ KF K w W → MachR c K ((W.alloc o).drewN n) val t ∧ KF K w ((W.alloc o).drewN n)) := hideI fun W t o n hW => ⟨(hW.1.below ((Below.refl W.heap.size W).alloc (Nat.le_refl _) o)).drewN n, KF.drewN (hW.2.alloc H.out.low o) n⟩
  clear hx0 h X hk hna hla
  have hi0 : decide ((0 : Int) ≤ i) = false := by simpa using hi
  clear hi
  by_cases e19 : op = 19
  · subst e19
    go_enter Tryz.func94, Tryz.ntmps94
    go_wp2
    go_quiet (fail)
    go_wp2_with (go_at_call 97; refine (trap_any _ _ _).mono ?_; rintro e w1 ⟨he, rfl⟩; simp only [endE, endV] at he; subst he)
    exact ⟨rfl, rfl, HAL.out _ _ _ _ (H.out.look (.inl rfl))⟩
  by_cases e20 : op = 20
  · subst e20
    go_enter Tryz.func94, Tryz.ntmps94
    go_wp2
    go_quiet (fail)
    go_wp2_with (go_at_call 97; refine (trap_any _ _ _).mono ?_; rintro e w1 ⟨he, rfl⟩; simp only [endE, endV] at he; subst he)
    exact ⟨rfl, rfl, HAL.out _ _ _ _ (H.out.look (.inr rfl))⟩
  have d19 : (op == 19) = false := by simpa using e19
  have d20 : (op == 20) = false := by simpa using e20
  have HE : Hid (lookS op s = s) := hideI (look_no e19 e20 s)
  have HE2 : Hid (missM op = (5, 0, 0)) := hideI (miss_no e19 e20)
  clear e19 e20
  go_enter Tryz.func94, Tryz.ntmps94
  go_wp2
  go_quiet (fail)
  go_wp2
  rw [HE.out, HE2.out]
  exact ⟨rfl, rfl, HAL.out _ _ _ _ ⟨H.out, KF.refl _⟩⟩

set_option maxRecDepth 100000 in
set_option maxHeartbeats 1000000 in
theorem find_far (h : MachR c K w val s) {k : Nat} {a : List Int} (hk : s.arrs[k]? = some a) (op id : Int) (av : Value) (i : Nat) (hi : a.length ≤ i) :
    Calls Tryz.prog 94 #[.pointer (some ⟨c.m, 0, none⟩), .agg #[.int .i64 op, .int .i64 id, av, .int .i64 k], .int .i64 i] w fun e w' => e = endE (missM op) ∧ MachR c K w' val (lookS op s) ∧ KF K w w' := by
  obtain ⟨ga, ca, A, cp, X⟩ := h.arrAt hk
  have H := hideI h
  have hml := h.m_lt
  have hx0 := h.cells
  have c4 := hx0 4
  have c6 := hx0 6
  have fr := h.free 6
  simp only [machCells] at c4 c6
  rw [X.arrs] at c4
  have a0 := X.at_
  have a1 := X.ne
  have a1' : c.m ≠ ga := fun e => a1 e.symm
  have a2 := X.lt
  have a3 := X.klt
  obtain ⟨na, hna⟩ : ∃ na, na = s.arrs.length := ⟨_, rfl⟩
  obtain ⟨la, hla⟩ : ∃ la, la = a.length := ⟨_, rfl⟩
  rw [← hna] at c4 a3
  rw [← hla] at a0 hi
  have HAL : Hid (∀ (W : World) (t : StM) (o : Obj) (n : Nat), MachR c K W val t ∧ KF K w W → MachR c K ((W.alloc o).drewN n) val t ∧ KF K w ((W.alloc o).drewN n)) := hideI fun W t o n hW => ⟨(hW.1.below ((Below.refl W.heap.size W).alloc (Nat.le_refl _) o)).drewN n, KF.drewN (hW.2.alloc H.out.low o) n⟩
  clear hx0 h X hk hna hla
  have hi0 : decide ((0 : Int) ≤ (i : Int)) = true := by simp
  have hi1 : decide ((i : Int) < (la : Int)) = false := by simp; omega
  have hi2 : decide (i < la) = false := by simp; omega
  have hi3 : ¬ i < la := by omega
  clear hi
  by_cases e19 : op = 19
  · subst e19
    go_enter Tryz.func94, Tryz.ntmps94
    go_wp2
    go_quiet (fail)
    go_wp2_with (go_at_call 97; refine (trap_any _ _ _).mono ?_; rintro e w1 ⟨he, rfl⟩; simp only [endE, endV] at he; subst he)
    exact ⟨rfl, rfl, HAL.out _ _ _ _ (H.out.look (.inl rfl))⟩
  by_cases e20 : op = 20
  · subst e20
    go_enter Tryz.func94, Tryz.ntmps94
    go_wp2
    go_quiet (fail)
    go_wp2_with (go_at_call 97; refine (trap_any _ _ _).mono ?_; rintro e w1 ⟨he, rfl⟩; simp only [endE, endV] at he; subst he)
    exact ⟨rfl, rfl, HAL.out _ _ _ _ (H.out.look (.inr rfl))⟩
  have d19 : (op == 19) = false := by simpa using e19
  have d20 : (op == 20) = false := by simpa using e20
  have HE : Hid (lookS op s = s) := hideI (look_no e19 e20 s)
  have HE2 : Hid (missM op = (5, 0, 0)) := hideI (miss_no e19 e20)
  clear e19 e20
  go_enter Tryz.func94, Tryz.ntmps94
  go_wp2
  go_quiet (fail)
  go_wp2
  rw [HE.out, HE2.out]
  exact ⟨rfl, rfl, HAL.out _ _ _ _ ⟨H.out, KF.refl _⟩⟩

/-- findElement, whatever the element -/
theorem element_any (h : MachR c K w val s) {k : Nat} {a : List Int} (hk : s.arrs[k]? = some a) (op id : Int) (av : Value) (i : Int) :
    Calls Tryz.prog 94 #[.pointer (some ⟨c.m, 0, none⟩), .agg #[.int .i64 op, .int .i64 id, av, .int .i64 k], .int .i64 i] w fun e w' =>
      (inArr s k i = true ∧ e = .returned (.tuple #[]) ∨ inArr s k i = false ∧ e = endE (missM op)) ∧ MachR c K w' val (lookS op s) ∧ KF K w w' := by
  have ha : arrM s k = a := by unfold arrM; rw [List.getD_eq_getElem?_getD, Int.toNat_natCast, hk]; rfl
  have hin : inArr s k i = (decide (0 ≤ i) && decide (i < (a.length : Int))) := by unfold inArr; rw [ha]
  rw [hin]
  by_cases h0 : 0 ≤ i
  · obtain ⟨j, rfl⟩ := Int.eq_ofNat_of_zero_le h0
    by_cases hl : j < a.length
    · exact (find_ok h hk op id av j hl).mono fun e w' ⟨e1, e2⟩ => ⟨.inl ⟨by simp [hl], e1⟩, e2⟩
    · exact (find_far h hk op id av j (by omega)).mono fun e w' ⟨e1, e2⟩ => ⟨.inr ⟨by simp; omega, e1⟩, e2⟩
  · exact (find_neg h hk op id av i h0).mono fun e w' ⟨e1, e2⟩ => ⟨.inr ⟨by simp [h0], e1⟩, e2⟩
end
end Go.Proofs.YtliolgamhjpljaaGreat
