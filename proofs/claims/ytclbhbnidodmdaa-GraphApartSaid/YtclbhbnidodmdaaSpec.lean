/- Functions of the middle end as plain data, and what the chapter says of them: no word of the program here. -/
import GoSem.ClaimWide
namespace Go.Proofs.Ytclbhbnidodmdaa

structure PhiM where
  id : Int
  typ : Int
  fr : List Int
  vals : List Int
structure InstrM where
  op : Int
  id : Int
  args : List Int
  n : Int
structure TermM where
  op : Int
  val : Int
  to : List Int
  n : Int
structure BlockM where
  phis : List PhiM
  code : List InstrM
  term : TermM
structure FuncM where
  params : List Int
  arrays : Int
  cells : Int
  blocks : List BlockM

/-- what an operation takes (bytes), makes, and what its N is; whether there is one -/
def shapeS (op : Int) : List UInt8 × Int × Int × Bool :=
  if op = 1 then ([], 1, 1, true) else
  if op = 2 then ([], 2, 2, true) else
  if 3 ≤ op ∧ op ≤ 12 then ([73, 73], 1, 0, true) else
  if 13 ≤ op ∧ op ≤ 15 then ([73, 73], 2, 0, true) else
  if op = 16 then ([66], 2, 0, true) else
  if op = 17 then ([66, 73, 73], 1, 0, true) else
  if op = 18 then ([], 1, 3, true) else
  if op = 19 ∨ op = 21 then ([73], 1, 3, true) else
  if op = 20 ∨ op = 22 then ([73, 73], 0, 3, true) else
  if op = 23 then ([73], 0, 0, true) else
  if op = 24 then ([], 1, 4, true) else
  if op = 25 then ([73], 0, 4, true) else ([], 0, 0, false)

theorem op_cases (op : Int) : (op = 1 ∨ op = 2 ∨ op = 3 ∨ op = 4 ∨ op = 5 ∨ op = 6 ∨ op = 7 ∨ op = 8 ∨ op = 9 ∨ op = 10 ∨ op = 11 ∨ op = 12 ∨ op = 13) ∨
    (op = 14 ∨ op = 15 ∨ op = 16 ∨ op = 17 ∨ op = 18 ∨ op = 19 ∨ op = 20 ∨ op = 21 ∨ op = 22 ∨ op = 23 ∨ op = 24 ∨ op = 25) ∨ (op < 1 ∨ 25 < op) := by omega

theorem shapeS_none {op : Int} (h : op < 1 ∨ 25 < op) : shapeS op = ([], 0, 0, false) := by
  unfold shapeS
  rw [if_neg (by omega), if_neg (by omega), if_neg (by omega), if_neg (by omega), if_neg (by omega), if_neg (by omega), if_neg (by omega), if_neg (by omega), if_neg (by omega), if_neg (by omega), if_neg (by omega), if_neg (by omega)]

/-- the types of what is taken -/
def takesS (op : Int) : List Int := (shapeS op).1.map fun c => if c = 73 then 1 else 2
def makesS (op : Int) : Int := (shapeS op).2.1
def kindS (op : Int) : Int := (shapeS op).2.2.1
def isOp (op : Int) : Bool := (shapeS op).2.2.2

def withinB (n a b : Int) : Bool := decide (a ≤ n) && decide (n ≤ b)
def isTypeB (t : Int) : Bool := (t == 1) || (t == 2)

def sizeB (b : BlockM) : Nat := b.phis.length + b.code.length + 1
def sizeM (f : FuncM) : Nat := (f.blocks.map sizeB).sum

def limitsB (f : FuncM) : Bool :=
  decide (f.params.length ≤ 16) && (withinB f.arrays 0 8 && (withinB f.cells 0 64 && (withinB f.blocks.length 1 512 && decide (sizeM f ≤ 4096))))

/-- all are blocks, none twice -/
def onceB (nb : Nat) : List Int → List Int → Bool
  | _, [] => true
  | seen, b :: r => withinB b 0 (nb - 1) && !(seen.contains b) && onceB nb (b :: seen) r

def targetsB (nb : Nat) (to : List Int) : Bool := to.all fun b => withinB b 1 (nb - 1)

def fitsB (f : FuncM) (op n : Int) : Bool :=
  if op = 1 then true else
  if op = 2 then withinB n 0 1 else
  if kindS op = 3 then withinB n 0 (f.arrays - 1) else
  if kindS op = 4 then withinB n 0 (f.cells - 1) else n == 0

def phiB (f : FuncM) (p : PhiM) : Bool := isTypeB p.typ && (p.vals.length == p.fr.length && onceB f.blocks.length [] p.fr)

def instrB (f : FuncM) (x : InstrM) : Bool := isOp x.op && (x.args.length == (takesS x.op).length && fitsB f x.op x.n)

def termB (f : FuncM) (t : TermM) : Bool :=
  targetsB f.blocks.length t.to &&
  (if t.op = 1 then t.to.length == 1 && (t.val == -1 && t.n == 0) else
   if t.op = 2 then t.to.length == 2 && t.n == 0 else
   if t.op = 3 then t.to.length == 0 && t.n == 0 else
   if t.op = 4 then t.to.length == 0 && (t.val == -1 && decide (0 ≤ t.n)) else false)

/-- the values that stand so far: ids and types -/
abbrev Defs := List (Int × Int)
def Defs.at (ds : Defs) (id : Int) : Option Int := (ds.find? fun d => d.1 == id).map (·.2)

def defB (np : Nat) (ds : Defs) (id : Int) : Bool := !(ds.at id).isSome && withinB id np 1048575

/-- one more value, if it may be -/
def addDef (np : Nat) (ds : Defs) (id typ : Int) : Option Defs := if defB np ds id then some (ds ++ [(id, typ)]) else none

def phiStep (f : FuncM) (ds : Defs) (p : PhiM) : Option Defs := if phiB f p then addDef f.params.length ds p.id p.typ else none

def instrStep (f : FuncM) (ds : Defs) (x : InstrM) : Option Defs :=
  if instrB f x then (if makesS x.op = 0 then (if x.id = -1 then some ds else none) else addDef f.params.length ds x.id (makesS x.op)) else none

def phisStep (f : FuncM) : Defs → List PhiM → Option Defs
  | ds, [] => some ds
  | ds, p :: r => (phiStep f ds p).bind fun d => phisStep f d r

def codeStep (f : FuncM) : Defs → List InstrM → Option Defs
  | ds, [] => some ds
  | ds, x :: r => (instrStep f ds x).bind fun d => codeStep f d r

def blockStep (f : FuncM) (ds : Defs) (b : BlockM) : Option Defs :=
  (phisStep f ds b.phis).bind fun d => (codeStep f d b.code).bind fun d2 => if termB f b.term then some d2 else none

def blocksStep (f : FuncM) : Defs → List BlockM → Option Defs
  | ds, [] => some ds
  | ds, b :: r => (blockStep f ds b).bind fun d => blocksStep f d r

def paramDefs : Nat → List Int → Defs
  | _, [] => []
  | k, t :: r => ((k : Int), t) :: paramDefs (k + 1) r

/-- the values of a formed function; none: it is not formed -/
def formedM (f : FuncM) : Option Defs :=
  if limitsB f && f.params.all isTypeB && (f.blocks.headD ⟨[], [], ⟨0, 0, [], 0⟩⟩).phis.isEmpty then blocksStep f (paramDefs 0 f.params) f.blocks else none

/-- uses: a value, and the type that is taken -/
def usesPhi (p : PhiM) : List (Int × Int) := p.vals.map fun v => (v, p.typ)
def usesInstr (x : InstrM) : List (Int × Int) := x.args.zip (takesS x.op)
def usesTerm (t : TermM) : List (Int × Int) := if t.op = 2 then [(t.val, 2)] else if t.op = 3 then [(t.val, 0)] else []
def usesBlock (b : BlockM) : List (Int × Int) := b.phis.flatMap usesPhi ++ (b.code.flatMap usesInstr ++ usesTerm b.term)
def usesM (f : FuncM) : List (Int × Int) := f.blocks.flatMap usesBlock

def unknownB (ds : Defs) (us : List (Int × Int)) : Bool := us.any fun u => !(ds.at u.1).isSome
def unfitB (ds : Defs) (us : List (Int × Int)) : Bool := us.any fun u => match ds.at u.1 with | some t => u.2 != 0 && t != u.2 | none => false

/-- what is wrong with a function, as a number; its values, if nothing is -/
def lookM (f : FuncM) : Int × Defs :=
  match formedM f with
  | none => (2, [])
  | some ds => if unknownB ds (usesM f) then (6, []) else if unfitB ds (usesM f) then (3, []) else (0, ds)

end Go.Proofs.Ytclbhbnidodmdaa
