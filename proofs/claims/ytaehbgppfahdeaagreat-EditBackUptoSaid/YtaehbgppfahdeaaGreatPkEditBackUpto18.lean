/- What EditBackUpto rests on, part 18: RCopyB, RMapM, RCopyF, RMapF, RTo. -/
import Derived.Test.YtaehbgppfahdeaaGreatPkEditBackUpto17

namespace Go.Proofs.YtaehbgppfahdeaaGreat
open Go.RowKit
def oneF (q:BlockM) (i j:Nat):FuncM:=⟨[],0,0,[⟨q.phis.take i,q.code.take j,q.term⟩]⟩
def CbD (i j:Nat):Tag → Prop
 | .params => False
 | .blocks => False
 | .phis k => k=0
 | .code k => k=0
 | .ends k => k=0
 | .fr k a => k=0 ∧ a < i
 | .vals k a => k=0 ∧ a < i
 | .args k a => k=0 ∧ a < j
structure SmallB (q:BlockM):Prop where
 phis:q.phis.length ≤ 100000
 code:q.code.length ≤ 100000
 ends:q.term.to.length ≤ 100000
 fr:∀ p ∈ q.phis,p.fr.length ≤ 100000 ∧ p.vals.length ≤ 100000
 args:∀ x ∈ q.code,x.args.length ≤ 100000
def CopyPost (q:BlockM) (w:World) (e:Ending) (w':World):Prop :=
 ∃ val:Vals,e=.returned (.agg #[val (.phis 0),val (.code 0),.int .i64 q.term.op,.int .i64 q.term.val,val (.ends 0),.int .i64 q.term.n]) ∧ OwnG w' w.heap.size (rowOf (oneF q q.phis.length q.code.length) val) val (CbD q.phis.length q.code.length) ∧ Below w.heap.size w w'
def outV (q:BlockM) (val:Vals):Array Value:=#[val (.phis 0),val (.code 0),.int .i64 q.term.op,.int .i64 q.term.val,val (.ends 0),.int .i64 q.term.n]
def CbSt (q:BlockM) (w wx:World) (g3 gr gb:Nat) (bx rs:Array Value) (i j:Nat) (val:Vals):Prop :=
 OwnC w wx (rowOf (oneF q i j) val) val (CbD i j) [(g3,outV q val,62),(gr,rs,62),(gb,bx,62)]
end Go.Proofs.YtaehbgppfahdeaaGreat

namespace Go.Proofs.YtaehbgppfahdeaaGreat
open Go.RowKit
def oneB (q:BlockM):FuncM:=⟨[],0,0,[q]⟩
def rowV (h:Int → Int) (q:BlockM) (i k:Nat) (p:PhiM) (val:Vals):Rows:=upd (rowOf (stF h (oneB q) 0 i 0) val) (.vals 0 i) (some (intsRow (partM h p.vals k)))
def rowA (h:Int → Int) (q:BlockM) (m i k:Nat) (x:InstrM) (val:Vals):Rows:=upd (rowOf (stF h (oneB q) 0 m i) val) (.args 0 i) (some (intsRow (partM h x.args k)))
section
variable {h:Int → Int} {q:BlockM} {val:Vals} {i k m:Nat} {p:PhiM} {x:InstrM} {w0 w:World} {D:Tag → Prop} {bl:List VarD} {row:Rows}
end
def MapPost (q:BlockM) (h:Int → Int) (w:World) (e:Ending) (w':World):Prop :=
 ∃ val:Vals,e=.returned (.agg #[val (.phis 0),val (.code 0),.int .i64 q.term.op,.int .i64 (mapT h q.term).val,val (.ends 0),.int .i64 q.term.n]) ∧ OwnG w' w.heap.size (rowOf (stF h (oneB q) 0 q.phis.length q.code.length) val) val (CbD q.phis.length q.code.length) ∧ Below w.heap.size w w'
end Go.Proofs.YtaehbgppfahdeaaGreat

namespace Go.Proofs.YtaehbgppfahdeaaGreat
open Go.RowKit
def cutB (f:FuncM) (k:Nat):FuncM:={ f with blocks:=f.blocks.take k }
def sh:Tag → Tag
 | .phis _ => .phis 0
 | .code _ => .code 0
 | .ends _ => .ends 0
 | .fr _ a => .fr 0 a
 | .vals _ a => .vals 0 a
 | .args _ a => .args 0 a
 | .params => .params
 | .blocks => .blocks
structure SmallFn (f:FuncM):Prop where
 params:f.params.length ≤ 100000
 blocks:f.blocks.length ≤ 100000
 each:∀ b ∈ f.blocks,SmallB b
def CopyFPost (f:FuncM) (w:World) (e:Ending) (w':World):Prop :=
 ∃ val:Vals,e=.returned (.agg #[val .params,.int .i64 f.arrays,.int .i64 f.cells,val .blocks]) ∧ OwnG w' w.heap.size (rowOf f val) val (EE f f.blocks.length) ∧ Below w.heap.size w w'
def outF (f:FuncM) (val:Vals):Array Value:=#[val .params,.int .i64 f.arrays,.int .i64 f.cells,val .blocks]
def CpSt (f:FuncM) (w wx:World) (g3 gr gb:Nat) (bx rs:Array Value) (k:Nat) (val:Vals):Prop :=
 OwnC w wx (rowOf (cutB f k) val) val (EE (cutB f k) k) [(g3,outF f val,25),(gr,rs,25),(gb,bx,25)]
end Go.Proofs.YtaehbgppfahdeaaGreat

namespace Go.Proofs.YtaehbgppfahdeaaGreat
open Go.RowKit
def setV (V val1:Vals) (k:Nat):Vals:=fun t => if blkOf t=some k then val1 (sh t) else V t
section
variable {f:FuncM} {h:Int → Int} {V val1:Vals} {k:Nat} {b:BlockM}
end
end Go.Proofs.YtaehbgppfahdeaaGreat

namespace Go.Proofs.YtaehbgppfahdeaaGreat
open Go.RowKit
def PairsR (w:World) (B:Nat) (v:Value) (l:List (Int × Int)):Prop :=
 ∃ A c,v=.slice A l.length c ∧ l.length ≤ 100000 ∧ ∀ k p,l[k]?=some p → ∃ b off,A=some ⟨b,off,none⟩ ∧ b < B ∧ w.cell? ⟨b,off + k * 2,none⟩=some (.int .i64 p.1) ∧ w.cell? ⟨b,off + k * 2 + 1,none⟩=some (.int .i64 p.2)
def toM:List (Int × Int) → Int → Int
 | [],id => id
 | p :: r,id => if p.1=id then p.2 else toM r id
end Go.Proofs.YtaehbgppfahdeaaGreat
