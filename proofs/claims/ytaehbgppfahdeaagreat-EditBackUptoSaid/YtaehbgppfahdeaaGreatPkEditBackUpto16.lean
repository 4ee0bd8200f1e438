/- What EditBackUpto rests on, part 16: LExits, LpM, LAddL, LAround, LFunc. -/
import Derived.Test.YtaehbgppfahdeaaGreatPkEditBackUpto15
import Derived.Deep.AppendLies

namespace Go.Proofs.YtaehbgppfahdeaaGreat
open Go.RowKit Go.Maps
structure ExS (bs:List BlockM) (P:Nat → Bool) (l:List Nat) (i:Nat) (c:Nat) (j:Nat) (S:List Nat):Prop where
 is:∀ x,x ∈ S ↔ (P x=false ∧ ((∃ k b,k < i ∧ l[k]?=some b ∧ x ∈ succM bs b) ∨ x ∈ (succM bs c).take j))
section
variable {bs:List BlockM} {P:Nat → Bool} {l:List Nat} {i c j t:Nat} {S:List Nat}
end
end Go.Proofs.YtaehbgppfahdeaaGreat

namespace Go.Proofs.YtaehbgppfahdeaaGreat
open Go.RowKit Go.Maps
structure LpM where
 head:Nat
 blocks:List Nat
 latches:List Nat
 exits:List Nat
 parent:Int
def SubR (w:World) (base:Nat) (vr b:Value) (l:List Nat):Prop :=
 w.ownsRow base 3 1 b l.length (natInts l) ∧ ∀ k,b.ownBlock=some k → vr.ownBlock ≠ some k
structure LpAt (w:World) (base:Nat) (vr:Value) (cs:List Value) (i:Nat) (lp:LpM):Prop where
 ex:∃ b1 b2 b3:Value,cs[i * 5]?=some (.int .i64 (lp.head:Int)) ∧ cs[i * 5 + 1]?=some b1 ∧ cs[i * 5 + 2]?=some b2 ∧ cs[i * 5 + 3]?=some b3 ∧ cs[i * 5 + 4]?=some (.int .i64 lp.parent) ∧
  SubR w base vr b1 lp.blocks ∧ SubR w base vr b2 lp.latches ∧ SubR w base vr b3 lp.exits
structure LoopsR (w:World) (base:Nat) (v:Value) (ls:List LpM):Prop where
 ex:∃ cs:List Value,w.ownsRow base 88 5 v ls.length cs ∧ ∀ (i:Nat) lp,ls[i]?=some lp → LpAt w base v cs i lp
section
variable {w w' w1:World} {base base' B:Nat} {v vr b:Value} {l:List Nat} {ls:List LpM} {o:Obj}
end
end Go.Proofs.YtaehbgppfahdeaaGreat

namespace Go.Proofs.YtaehbgppfahdeaaGreat
open Go.RowKit Go.Maps
def lpOf (bs:List BlockM) (D L:Nat → Nat → Bool) (h:Nat):LpM:=⟨h,blocksM bs.length L h,latchesM bs D h,exitsM bs L h,0⟩
def AddLPost (f7:Array Value) (gn base:Nat) (ls:List LpM) (w:World) (e:Ending) (w':World):Prop :=
 ∃ g cap:Nat,e=.returned (.tuple #[]) ∧ w'.heap[gn]?=some (.cells (f7.push (.slice (some ⟨g,0,none⟩) ls.length cap)) 248 (0,0)) ∧ LoopsR w' base (.slice (some ⟨g,0,none⟩) ls.length cap) ls ∧ Below gn w w'
end Go.Proofs.YtaehbgppfahdeaaGreat

namespace Go.Proofs.YtaehbgppfahdeaaGreat
open Go.RowKit Go.Maps
def noLp:LpM:=⟨0,[],[],[],0⟩
def lessB (ls:List LpM) (i:Nat) (a:Int) (k:Nat):Bool :=
 decide (k ≠ i) && (decide ((ls.getD i noLp).head ∈ (ls.getD k noLp).blocks) && (decide (a=-1) || decide ((ls.getD k noLp).blocks.length < (ls.getD a.toNat noLp).blocks.length)))
def arM (ls:List LpM) (i:Nat):Nat → Int
 | 0 => -1
 | k + 1 => if lessB ls i (arM ls i k) k=true then (k:Int) else arM ls i k
def Rising (ls:List LpM):Prop:=∀ x ∈ ls,x.blocks.Pairwise (· < ·) ∧ x.blocks.length ≤ 512
end Go.Proofs.YtaehbgppfahdeaaGreat

namespace Go.Proofs.YtaehbgppfahdeaaGreat
open Go.RowKit Go.Maps
structure LoopsOf (f:FuncM) (o:List Nat) (pl:Nat → Nat) (par:Nat → Option Nat) (D L:Nat → Nat → Bool):Prop where
 strict:StrictM f o
 ok:LoopOk f.blocks o pl par D L
def LfPost (f:FuncM) (pv bv:Value) (w:World) (e:Ending) (w':World):Prop :=
 (∃ x y:Int,CheckIs f (x,y) ∧ y ≠ 0 ∧ e=.returned (.tuple #[.agg #[.slice none 0 0,.int .i64 0,.int .i64 0,.slice none 0 0,.slice none 0 0,.slice none 0 0,.slice none 0 0],.int .i64 y]) ∧ Below w.heap.size w w') ∨
 (∃ (o:List Nat) (pl:Nat → Nat) (par:Nat → Option Nat) (D L:Nat → Nat → Bool) (gp:Nat) (vs:List Value) (gi gl:Nat),LoopsOf f o pl par D L ∧ e=.returned (.tuple #[.agg #[pv,.int .i64 f.arrays,.int .i64 f.cells,bv,.slice (some ⟨gp,0,none⟩) f.blocks.length f.blocks.length,.slice (some ⟨gi,0,none⟩) f.blocks.length f.blocks.length,.slice (some ⟨gl,0,none⟩) f.blocks.length f.blocks.length],.int .i64 0]) ∧ LfAt w' (w.heap.size + 2) f.blocks o pl par gp vs gi gl ∧ Below w.heap.size w w')
end Go.Proofs.YtaehbgppfahdeaaGreat
