/- What EditBackUpto rests on, part 1: Base, Spec, Shape, Ints, Args, RefArgs, Maps, Small, Define, Ways, Reads, GVisit, Once, Phi. -/
import Derived.Test.YtaehbgppfahdeaaGreatRows
import Derived.WalkKit
import Derived.WalkSpells
import Derived.WalkLawsBesides
import GoSem.ClaimWide
import Derived.Deep.QuietTactic
import Derived.BigQuiet
import Derived.Deep.AppendLies
import Derived.Maps.Own
import Derived.Maps.OwnOps
import Derived.Maps.OwnSet
import Derived.Maps.Views
import Derived.OwnWalk
import Derived.OneCell
import Derived.Outline
import Derived.Laws.OwnMore

namespace Go.Proofs.YtaehbgppfahdeaaGreat
open Go.RowKit
theorem hideI {p:Prop} (h:p):Hid p:=h
theorem res4 {fn:Func} {t u v x:Tmp} (h:fn.results=#[.tmp t,.tmp u,.tmp v,.tmp x]) (tmps:Array Value) (P:Program) (w:World) :
  (results fn tmps).run P w=.ok (.tuple #[tmps.getD t undef,tmps.getD u undef,tmps.getD v undef,tmps.getD x undef]) w:=by
 simp [results,h]
end Go.Proofs.YtaehbgppfahdeaaGreat

namespace Go.Proofs.YtaehbgppfahdeaaGreat
structure PhiM where
 id:Int
 typ:Int
 fr:List Int
 vals:List Int
structure InstrM where
 op:Int
 id:Int
 args:List Int
 n:Int
structure TermM where
 op:Int
 val:Int
 to:List Int
 n:Int
structure BlockM where
 phis:List PhiM
 code:List InstrM
 term:TermM
structure FuncM where
 params:List Int
 arrays:Int
 cells:Int
 blocks:List BlockM
def shapeS (op:Int):List UInt8 × Int × Int × Bool :=
 if op=1 then ([],1,1,true) else
 if op=2 then ([],2,2,true) else
 if 3 ≤ op ∧ op ≤ 12 then ([73,73],1,0,true) else
 if 13 ≤ op ∧ op ≤ 15 then ([73,73],2,0,true) else
 if op=16 then ([66],2,0,true) else
 if op=17 then ([66,73,73],1,0,true) else
 if op=18 then ([],1,3,true) else
 if op=19 ∨ op=21 then ([73],1,3,true) else
 if op=20 ∨ op=22 then ([73,73],0,3,true) else
 if op=23 then ([73],0,0,true) else
 if op=24 then ([],1,4,true) else
 if op=25 then ([73],0,4,true) else ([],0,0,false)
theorem op_cases (op:Int):(op=1 ∨ op=2 ∨ op=3 ∨ op=4 ∨ op=5 ∨ op=6 ∨ op=7 ∨ op=8 ∨ op=9 ∨ op=10 ∨ op=11 ∨ op=12 ∨ op=13) ∨
  (op=14 ∨ op=15 ∨ op=16 ∨ op=17 ∨ op=18 ∨ op=19 ∨ op=20 ∨ op=21 ∨ op=22 ∨ op=23 ∨ op=24 ∨ op=25) ∨ (op < 1 ∨ 25 < op):=by omega
theorem shapeS_none {op:Int} (h:op < 1 ∨ 25 < op):shapeS op=([],0,0,false):=by
 unfold shapeS
 rw [if_neg (by omega),if_neg (by omega),if_neg (by omega),if_neg (by omega),if_neg (by omega),if_neg (by omega),if_neg (by omega),if_neg (by omega),if_neg (by omega),if_neg (by omega),if_neg (by omega),if_neg (by omega)]
def takesS (op:Int):List Int:=(shapeS op).1.map fun c => if c=73 then 1 else 2
def makesS (op:Int):Int:=(shapeS op).2.1
def kindS (op:Int):Int:=(shapeS op).2.2.1
def isOp (op:Int):Bool:=(shapeS op).2.2.2
def withinB (n a b:Int):Bool:=decide (a ≤ n) && decide (n ≤ b)
def isTypeB (t:Int):Bool:=(t == 1) || (t == 2)
def sizeB (b:BlockM):Nat:=b.phis.length + b.code.length + 1
def sizeM (f:FuncM):Nat:=(f.blocks.map sizeB).sum
def limitsB (f:FuncM):Bool :=
 decide (f.params.length ≤ 16) && (withinB f.arrays 0 8 && (withinB f.cells 0 64 && (withinB f.blocks.length 1 512 && decide (sizeM f ≤ 4096))))
def onceB (nb:Nat):List Int → List Int → Bool
 | _,[] => true
 | seen,b :: r => withinB b 0 (nb - 1) && !(seen.contains b) && onceB nb (b :: seen) r
def targetsB (nb:Nat) (to:List Int):Bool:=to.all fun b => withinB b 1 (nb - 1)
def fitsB (f:FuncM) (op n:Int):Bool :=
 if op=1 then true else
 if op=2 then withinB n 0 1 else
 if kindS op=3 then withinB n 0 (f.arrays - 1) else
 if kindS op=4 then withinB n 0 (f.cells - 1) else n == 0
def phiB (f:FuncM) (p:PhiM):Bool:=isTypeB p.typ && (p.vals.length == p.fr.length && onceB f.blocks.length [] p.fr)
def instrB (f:FuncM) (x:InstrM):Bool:=isOp x.op && (x.args.length == (takesS x.op).length && fitsB f x.op x.n)
def termB (f:FuncM) (t:TermM):Bool :=
 targetsB f.blocks.length t.to &&
 (if t.op=1 then t.to.length == 1 && (t.val == -1 && t.n == 0) else
  if t.op=2 then t.to.length == 2 && t.n == 0 else
  if t.op=3 then t.to.length == 0 && t.n == 0 else
  if t.op=4 then t.to.length == 0 && (t.val == -1 && decide (0 ≤ t.n)) else false)
abbrev Defs:=List (Int × Int)
def Defs.at (ds:Defs) (id:Int):Option Int:=(ds.find? fun d => d.1 == id).map (·.2)
def defB (np:Nat) (ds:Defs) (id:Int):Bool:=!(ds.at id).isSome && withinB id np 1048575
def addDef (np:Nat) (ds:Defs) (id typ:Int):Option Defs:=if defB np ds id then some (ds ++ [(id,typ)]) else none
def phiStep (f:FuncM) (ds:Defs) (p:PhiM):Option Defs:=if phiB f p then addDef f.params.length ds p.id p.typ else none
def instrStep (f:FuncM) (ds:Defs) (x:InstrM):Option Defs :=
 if instrB f x then (if makesS x.op=0 then (if x.id=-1 then some ds else none) else addDef f.params.length ds x.id (makesS x.op)) else none
def phisStep (f:FuncM):Defs → List PhiM → Option Defs
 | ds,[] => some ds
 | ds,p :: r => (phiStep f ds p).bind fun d => phisStep f d r
def codeStep (f:FuncM):Defs → List InstrM → Option Defs
 | ds,[] => some ds
 | ds,x :: r => (instrStep f ds x).bind fun d => codeStep f d r
def blockStep (f:FuncM) (ds:Defs) (b:BlockM):Option Defs :=
 (phisStep f ds b.phis).bind fun d => (codeStep f d b.code).bind fun d2 => if termB f b.term then some d2 else none
def blocksStep (f:FuncM):Defs → List BlockM → Option Defs
 | ds,[] => some ds
 | ds,b :: r => (blockStep f ds b).bind fun d => blocksStep f d r
def paramDefs:Nat → List Int → Defs
 | _,[] => []
 | k,t :: r => ((k:Int),t) :: paramDefs (k + 1) r
def formedM (f:FuncM):Option Defs :=
 if limitsB f && f.params.all isTypeB && (f.blocks.headD ⟨[],[],⟨0,0,[],0⟩⟩).phis.isEmpty then blocksStep f (paramDefs 0 f.params) f.blocks else none
def usesPhi (p:PhiM):List (Int × Int):=p.vals.map fun v => (v,p.typ)
def usesInstr (x:InstrM):List (Int × Int):=x.args.zip (takesS x.op)
def usesTerm (t:TermM):List (Int × Int):=if t.op=2 then [(t.val,2)] else if t.op=3 then [(t.val,0)] else []
def usesBlock (b:BlockM):List (Int × Int):=b.phis.flatMap usesPhi ++ (b.code.flatMap usesInstr ++ usesTerm b.term)
def usesM (f:FuncM):List (Int × Int):=f.blocks.flatMap usesBlock
def unknownB (ds:Defs) (us:List (Int × Int)):Bool:=us.any fun u => !(ds.at u.1).isSome
def unfitB (ds:Defs) (us:List (Int × Int)):Bool:=us.any fun u => match ds.at u.1 with | some t => u.2 != 0 && t != u.2 | none => false
def lookM (f:FuncM):Int × Defs :=
 match formedM f with
 | none => (2,[])
 | some ds => if unknownB ds (usesM f) then (6,[]) else if unfitB ds (usesM f) then (3,[]) else (0,ds)
end Go.Proofs.YtaehbgppfahdeaaGreat

namespace Go.Proofs.YtaehbgppfahdeaaGreat
open Go.RowKit
def shapeV (op:Int):Value:=.tuple #[.string ⟨(shapeS op).1.toArray⟩,.int .i64 (shapeS op).2.1,.int .i64 (shapeS op).2.2.1,.bool (shapeS op).2.2.2]
theorem shape_a (op:Int) (w:World) (h:op=1 ∨ op=2 ∨ op=3 ∨ op=4 ∨ op=5 ∨ op=6 ∨ op=7 ∨ op=8 ∨ op=9 ∨ op=10 ∨ op=11 ∨ op=12 ∨ op=13) :
  Calls Tryz.prog 72 #[.int .i64 op] w fun e w' => e=.returned (shapeV op) ∧ w=w':=by
 rcases h with rfl | rfl | rfl | rfl | rfl | rfl | rfl | rfl | rfl | rfl | rfl | rfl | rfl
 all_goals
  go_enter Tryz.func72,Tryz.ntmps72
  go_wp2
  refine bodyPost_ret (res4 rfl _ _ _) rfl ⟨?_,rfl⟩
  rfl
theorem shape_b (op:Int) (w:World) (h:op=14 ∨ op=15 ∨ op=16 ∨ op=17 ∨ op=18 ∨ op=19 ∨ op=20 ∨ op=21 ∨ op=22 ∨ op=23 ∨ op=24 ∨ op=25) :
  Calls Tryz.prog 72 #[.int .i64 op] w fun e w' => e=.returned (shapeV op) ∧ w=w':=by
 rcases h with rfl | rfl | rfl | rfl | rfl | rfl | rfl | rfl | rfl | rfl | rfl | rfl
 all_goals
  go_enter Tryz.func72,Tryz.ntmps72
  go_wp2
  refine bodyPost_ret (res4 rfl _ _ _) rfl ⟨?_,rfl⟩
  rfl
theorem shape_c (op:Int) (w:World) (h:op < 1 ∨ 25 < op) :
  Calls Tryz.prog 72 #[.int .i64 op] w fun e w' => e=.returned (shapeV op) ∧ w=w':=by
 have hs:shapeV op=.tuple #[.string ⟨#[]⟩,.int .i64 0,.int .i64 0,.bool false]:=by unfold shapeV;rw [shapeS_none h]
 rw [hs]
 clear hs
 rcases h with h | h
 all_goals
  go_enter Tryz.func72,Tryz.ntmps72
  go_wp2
  refine bodyPost_ret (res4 rfl _ _ _) rfl ⟨?_,rfl⟩
  rfl
theorem shape_any (op:Int) (w:World) :
  Calls Tryz.prog 72 #[.int .i64 op] w fun e w' => e=.returned (shapeV op) ∧ w=w':=by
 rcases op_cases op with h | h | h
 ·exact shape_a op w h
 ·exact shape_b op w h
 ·exact shape_c op w h
end Go.Proofs.YtaehbgppfahdeaaGreat

namespace Go.Proofs.YtaehbgppfahdeaaGreat
open Go.RowKit
def Ints (w:World) (B:Nat) (v:Value) (xs:List Int):Prop :=
 ∃ A c,v=.slice A xs.length c ∧ xs.length ≤ 140737488351232 ∧ ∀ k,k < xs.length → ∃ b off,A=some ⟨b,off,none⟩ ∧ b < B ∧ w.cell? ⟨b,off + k,none⟩=some (.int .i64 (xs[k]?.getD 0))
theorem Ints.nil (w:World) (B:Nat):Ints w B (.slice none 0 0) []:=⟨none,0,rfl,by simp,fun k hk => by simp at hk⟩
theorem Ints.keep {w w':World} {B:Nat} {v:Value} {xs:List Int} (h:Ints w B v xs) (hk:Below B w w'):Ints w' B v xs:=by
 obtain ⟨A,c,rfl,hm,h⟩:=h
 refine ⟨A,c,rfl,hm,fun k hlt => ?_⟩
 obtain ⟨b,off,rfl,hb,hc⟩:=h k hlt
 exact ⟨b,off,rfl,hb,(hk.cell (p:=⟨b,off + k,none⟩) hb).trans hc⟩
theorem Ints.more {w:World} {B B':Nat} {v:Value} {xs:List Int} (h:Ints w B v xs) (hB:B ≤ B'):Ints w B' v xs:=by
 obtain ⟨A,c,rfl,hm,h⟩:=h
 exact ⟨A,c,rfl,hm,fun k hlt => by obtain ⟨b,off,e,hb,hc⟩:=h k hlt;exact ⟨b,off,e,by omega,hc⟩⟩
def sameTo (xs ys:List Int) (k:Nat):Bool:=(xs.take k) == (ys.take k)
theorem sameTo_succ {xs ys:List Int} {k:Nat} (h1:k < xs.length) (h2:k < ys.length) (h:xs.take k=ys.take k) (he:xs[k]?.getD 0=ys[k]?.getD 0):xs.take (k + 1)=ys.take (k + 1):=by
 rw [List.take_add_one,List.take_add_one,h]
 rw [List.getElem?_eq_getElem h1,List.getElem?_eq_getElem h2] at he ⊢
 simp at he
 rw [he]
theorem ne_of_at {xs ys:List Int} {k:Nat} (he:xs[k]?.getD 0 ≠ ys[k]?.getD 0):xs ≠ ys:=fun h => he (by rw [h])
set_option maxHeartbeats 800000 in
theorem sameInts_len (w:World) (B:Nat) (v u:Value) (xs ys:List Int) (hx:Ints w B v xs) (hy:Ints w B u ys) (n:Nat) (hn:Hid (xs.length=n ∧ ys.length=n)) :
  Calls Tryz.prog 35 #[v,u] w fun e w' => e=.returned (.bool (xs == ys)) ∧ ∃ m,w'=w.drewN m:=by
 obtain ⟨A,c,rfl,hm,hx⟩:=hx
 obtain ⟨A',c',rfl,hm',hy⟩:=hy
 rw [hn.out.1] at hx hm ⊢
 rw [hn.out.2] at hy hm' ⊢
 have Hx:Hid (∀ k,k < n → ∃ b off,A=some ⟨b,off,none⟩ ∧ b < B ∧ w.cell? ⟨b,off + k,none⟩=some (.int .i64 (xs[k]?.getD 0))):=hx
 have Hy:Hid (∀ k,k < n → ∃ b off,A'=some ⟨b,off,none⟩ ∧ b < B ∧ w.cell? ⟨b,off + k,none⟩=some (.int .i64 (ys[k]?.getD 0))):=hy
 clear hx hy hm'
 go_enter Tryz.func35,Tryz.ntmps35
 go_wp2
 go_loopw [5] (fun i wr => ∃ k m:Nat,k ≤ n ∧ i=.int .i64 k ∧ xs.take k=ys.take k ∧ wr=w.drewN m) (fun i _ => n - (intOf i).toNat)
 case atStart => exact ⟨0,0,Nat.zero_le _,rfl,by simp,rfl⟩
 case round =>
  obtain ⟨k,m,hk,rfl,ht,rfl⟩:=hrel
  have HT:Hid (xs.take k=ys.take k):=ht
  clear ht
  by_cases hlt:k < n
  ·obtain ⟨b,off,rfl,hb,hc⟩:=Hx.out k hlt
   obtain ⟨b',off',rfl,hb',hc'⟩:=Hy.out k hlt
   go_wp2
   go_quiet (fail)
   go_wp2
   ·have hne:xs[k]?.getD 0 ≠ ys[k]?.getD 0:=bne_iff_ne.1 (by assumption)
    go_ret
    refine ⟨?_,m + nq,by rw [World.drewN_drewN]⟩
    have:(xs == ys)=false:=beq_eq_false_iff_ne.2 (ne_of_at (k:=k) hne)
    rw [this]
    rfl
   ·have hq:(xs[k]?.getD 0 != ys[k]?.getD 0)=false:=by assumption
    have heq:xs[k]?.getD 0=ys[k]?.getD 0:=by simpa using hq
    go_roundw
    case rel => exact ⟨k + 1,_,by omega,by go_num,sameTo_succ (by have:=hn.out.1;omega) (by have:=hn.out.2;omega) HT.out heq,rfl⟩
    case measure => simp [intOf];omega
  ·go_wp2
   go_ret
   have hk':k=n:=by omega
   subst hk'
   have e:xs=ys:=by
    have h:=HT.out
    rw [List.take_of_length_le (by rw [hn.out.1];exact Nat.le_refl _),List.take_of_length_le (by rw [hn.out.2];exact Nat.le_refl _)] at h
    exact h
   refine ⟨?_,_,rfl⟩
   subst e
   simp
theorem sameInts_ne (w:World) (B:Nat) (v u:Value) (xs ys:List Int) (hx:Ints w B v xs) (hy:Ints w B u ys) (hn:(xs.length:Int) ≠ ys.length) :
  Calls Tryz.prog 35 #[v,u] w fun e w' => e=.returned (.bool (xs == ys)) ∧ ∃ m,w'=w.drewN m:=by
 have hf:(xs == ys)=false:=beq_eq_false_iff_ne.2 (fun h => hn (by rw [h]))
 rw [hf]
 obtain ⟨A,c,rfl,hm,hx⟩:=hx
 obtain ⟨A',c',rfl,hm',hy⟩:=hy
 clear hx hy hf
 have hb:((xs.length:Int) == ys.length)=false:=beq_eq_false_iff_ne.2 hn
 go_enter Tryz.func35,Tryz.ntmps35
 go_wp2
 go_ret
 exact ⟨rfl,0,rfl⟩
theorem sameInts_any (w:World) (B:Nat) (v u:Value) (xs ys:List Int) (hx:Ints w B v xs) (hy:Ints w B u ys) :
  Calls Tryz.prog 35 #[v,u] w fun e w' => e=.returned (.bool (xs == ys)) ∧ ∃ m,w'=w.drewN m:=by
 by_cases h:xs.length=ys.length
 ·exact sameInts_len w B v u xs ys hx hy ys.length ⟨h,rfl⟩
 ·exact sameInts_ne w B v u xs ys hx hy (by omega)
end Go.Proofs.YtaehbgppfahdeaaGreat

namespace Go.Proofs.YtaehbgppfahdeaaGreat
open Go.RowKit
def NewInts (B:Nat) (w:World) (v:Value) (xs:List Int):Prop :=
 ∃ A c,v=.slice A xs.length c ∧ xs.length ≤ 140737488351232 ∧ (0 < xs.length → ∃ g cs,A=some ⟨g,0,none⟩ ∧ B ≤ g ∧ w.heap[g]?=some (.cells cs 3 (0,0)) ∧ ∀ k,k < xs.length → cs[k]?=some (.int .i64 (xs[k]?.getD 0)))
def ArgsPost (op:Int) (w:World) (e:Ending) (w':World):Prop :=
 ∃ v,e=.returned (.tuple #[.int .i64 (makesS op),v,.bool (isOp op)]) ∧ NewInts w.heap.size w' v (takesS op) ∧ Below w.heap.size w w'
theorem ints_new (w:World) (xs:List Int) (hl:xs.length ≤ 1000) :
  NewInts w.heap.size (w.alloc (.cells (xs.map (Value.int .i64)).toArray 3)) (.slice (some ⟨w.heap.size,0,none⟩) xs.length xs.length) xs :=
 ⟨_,_,rfl,by omega,fun _ => ⟨w.heap.size,_,rfl,Nat.le_refl _,heap_alloc_new w _,fun k hk => by simp [hk]⟩⟩
theorem NewInts.nil (B:Nat) (w:World):NewInts B w (.slice none 0 0) []:=⟨none,0,rfl,by simp,fun h => by simp at h⟩
theorem args_new (op:Int) (w w':World) (xs:List Int) (m:Int) (b:Bool) (hx:xs=takesS op) (hm:m=makesS op) (hb:b=isOp op) (n:Nat) (hn:n=xs.length) (hl:n ≤ 1000) (cs:Array Value) (hcs:cs=(xs.map (Value.int .i64)).toArray)
  (hw:w.alloc (.cells cs 3)=w'):ArgsPost op w (.returned (.tuple #[.int .i64 m,.slice (some ⟨w.heap.size,0,none⟩) n n,.bool b])) w':=by
 subst hx hm hb hn hcs hw
 exact ⟨_,rfl,ints_new w _ hl,(Below.refl _ _).alloc (Nat.le_refl _) _⟩
theorem args_nil (op:Int) (w:World) (m:Int) (b:Bool) (hx:[]=takesS op) (hm:m=makesS op) (hb:b=isOp op):ArgsPost op w (.returned (.tuple #[.int .i64 m,.slice none 0 0,.bool b])) w:=by
 subst hm hb
 exact ⟨_,rfl,hx ▸ NewInts.nil _ _,Below.refl _ _⟩
theorem irArgs_a (op:Int) (w:World) (h:op=1 ∨ op=2 ∨ op=3 ∨ op=4 ∨ op=5 ∨ op=6 ∨ op=7 ∨ op=8 ∨ op=9 ∨ op=10 ∨ op=11 ∨ op=12 ∨ op=13) :
  Calls Tryz.prog 140 #[.int .i64 op] w (ArgsPost op w):=by
 rcases h with rfl | rfl | rfl | rfl | rfl | rfl | rfl | rfl | rfl | rfl | rfl | rfl | rfl
 all_goals
  go_enter Tryz.func140,Tryz.ntmps140
  go_wp2
  go_ret3
  first
   | exact args_nil _ _ _ _ rfl rfl rfl
   | exact args_new _ _ _ _ _ _ rfl rfl rfl _ rfl (by decide) _ rfl rfl
theorem irArgs_b (op:Int) (w:World) (h:op=14 ∨ op=15 ∨ op=16 ∨ op=17 ∨ op=18 ∨ op=19 ∨ op=20 ∨ op=21 ∨ op=22 ∨ op=23 ∨ op=24 ∨ op=25) :
  Calls Tryz.prog 140 #[.int .i64 op] w (ArgsPost op w):=by
 rcases h with rfl | rfl | rfl | rfl | rfl | rfl | rfl | rfl | rfl | rfl | rfl | rfl
 all_goals
  go_enter Tryz.func140,Tryz.ntmps140
  go_wp2
  go_ret3
  first
   | exact args_nil _ _ _ _ rfl rfl rfl
   | exact args_new _ _ _ _ _ _ rfl rfl rfl _ rfl (by decide) _ rfl rfl
theorem irArgs_c (op:Int) (w:World) (h:op < 1 ∨ 25 < op) :
  Calls Tryz.prog 140 #[.int .i64 op] w (ArgsPost op w):=by
 have H:=hideI (shapeS_none h)
 rcases h with h | h
 all_goals
  go_enter Tryz.func140,Tryz.ntmps140
  go_wp2
  go_ret3
  exact args_nil _ _ _ _ (by unfold takesS;rw [H.out];rfl) (by unfold makesS;rw [H.out]) (by unfold isOp;rw [H.out])
theorem irArgs_any (op:Int) (w:World):Calls Tryz.prog 140 #[.int .i64 op] w (ArgsPost op w):=by
 rcases op_cases op with h | h | h
 ·exact irArgs_a op w h
 ·exact irArgs_b op w h
 ·exact irArgs_c op w h
end Go.Proofs.YtaehbgppfahdeaaGreat

namespace Go.Proofs.YtaehbgppfahdeaaGreat
open Go.RowKit
theorem int_info:(Tryz.prog.info? 3).map (fun i => (i.zero,i.size,i.bytes))=some (some (.int .i64 0),1,8):=by kernel_rfl
def tyOf (c:UInt8):Int:=if c=73 then 1 else 2
theorem take_tyOf (s:ByteArray) (k:Nat) (h:k < s.size):(s.data.toList.take (k + 1)).map tyOf=(s.data.toList.take k).map tyOf ++ [tyOf s[k]]:=by
 rw [List.take_succ_eq_append_getElem (by simpa using h),List.map_append]
 rfl
theorem ints_own {w:World} {B n:Nat} {v:Value} {xs:List Int} (h:w.ownsRow B 3 1 v n (xs.map (Value.int .i64))) (hn:xs.length ≤ 140737488351232):Ints w w.heap.size v xs:=by
 have hl:n=xs.length:=by have:=h.1;simp at this;omega
 subst hl
 rcases Nat.eq_zero_or_pos xs.length with h0 | h0
 ·rcases h.2 with ⟨rfl,_⟩ | ⟨g,cap,cur,rfl,_⟩
  ·have:xs=[]:=List.eq_nil_of_length_eq_zero h0
   subst this
   exact Ints.nil _ _
  ·exact ⟨_,_,rfl,hn,fun k hk => by omega⟩
 ·obtain ⟨g,cap,rfl,hb,hlt⟩:=h.form h0
  refine ⟨_,_,rfl,hn,fun k hk => ⟨g,0,rfl,hlt,?_⟩⟩
  rw [← Go.WideShapes.add_plain]
  exact h.cells (g:=g) rfl k _ (by simp [hk])
theorem one_new (w:World) (x:Value):∀ (j:Nat) (u:Value),[x][j]?=some u → (w.alloc (.cells #[x] 3)).cell? ((⟨w.heap.size,0,none⟩:Addr).add j)=some u:=by
 intro j u hu
 rcases j with _ | j
 ·simp at hu
  subst hu
  rw [Go.WideShapes.add_plain,cell_of_row _ _ _ _ _ _ (heap_alloc_new w _)]
  rfl
 ·simp at hu
theorem below_append {B:Nat} {w wr w1:World} {o:Obj} {r:Option Nat} (hb:Below B w wr) (hg:(wr.alloc o).grownBy w1 r) (hr:∀ g,r=some g → B ≤ g) (hB:B ≤ w.heap.size):Below B w w1 :=
 (hb.alloc (Nat.le_trans hB hb.size) o).grown hg (by have:=hb.size;simp;omega) hr
theorem byte_eq {c:UInt8} (h:((c.toNat:Int) == 73)=true):c=73:=by
 have h1:(c.toNat:Int)=73:=by simpa using h
 apply UInt8.toNat_inj.1
 show c.toNat=73
 omega
theorem byte_ne {c:UInt8} (h:¬ ((c.toNat:Int) == 73)=true):¬ c=73:=by
 rintro rfl
 exact h rfl
theorem newInts_own {w:World} {B n:Nat} {v:Value} {xs:List Int} (h:w.ownsRow B 3 1 v n (xs.map (Value.int .i64))) (hn:xs.length ≤ 140737488351232):NewInts B w v xs:=by
 have hl:n=xs.length:=by have:=h.1;simp at this;omega
 subst hl
 rcases h.2 with ⟨rfl,h0⟩ | ⟨g,cap,cur,rfl,hb,hg,hnc,hm,hs,ht⟩
 ·have:xs=[]:=List.eq_nil_of_length_eq_zero h0
  subst this
  exact NewInts.nil _ _
 ·refine ⟨_,_,rfl,hn,fun _ => ⟨g,cur,rfl,hb,hg,fun k hk => ?_⟩⟩
  have h1:(cur.toList.take (xs.length * 1))[k]?=some (.int .i64 (xs[k]?.getD 0)):=by rw [ht];simp [hk]
  rw [List.getElem?_take] at h1
  split at h1
  ·simpa using h1
  ·cases h1
set_option maxHeartbeats 800000 in
theorem refArgs_core (op:Int) (w:World) (s:ByteArray) (mk nn:Int) (ok:Bool) (hs:s.size ≤ 3) (hS:∀ W:World,Calls Tryz.prog 72 #[.int .i64 op] W fun e w' => e=.returned (.tuple #[.string s,.int .i64 mk,.int .i64 nn,.bool ok]) ∧ W=w') :
  Calls Tryz.prog 38 #[.int .i64 op] w fun e w' => ∃ v,e=.returned (.tuple #[.int .i64 mk,v,.bool ok]) ∧ w'.ownsRow w.heap.size 3 1 v s.size ((s.data.toList.map tyOf).map (Value.int .i64)) ∧ Below w.heap.size w w':=by
 obtain ⟨i0,hi,hz0,hz1,hz2⟩:=info_parts int_info
 have HS:=hideI hS
 clear hS
 go_enter Tryz.func38,Tryz.ntmps38
 go_wp2_with (go_at_call 72;refine (HS.out _).mono ?_;rintro e w' ⟨rfl,rfl⟩)
 go_loopw [9,10] (fun out i wr => ∃ k:Nat,k ≤ s.size ∧ i=.int .i64 k ∧ wr.ownsRow w.heap.size 3 1 out k (((s.data.toList.take k).map tyOf).map (Value.int .i64)) ∧ Below w.heap.size w wr) (fun _ i _ => s.size - (intOf i).toNat)
 case atStart => exact ⟨0,Nat.zero_le _,rfl,World.ownsRow_made w #[] 0 (Nat.le_refl _) (by decide) rfl,(Below.refl _ _).alloc (Nat.le_refl _) _⟩
 case round =>
  obtain ⟨k,hk,rfl,hown,hb⟩:=hrel
  by_cases hlt:k < s.size
  ·have HT:=hideI (take_tyOf s k hlt)
   by_cases hc:((s[k].toNat:Int) == 73)=true
   ·go_wp2_with (at_builtin;refine wpList_append_own _ rfl _ _ _ rfl w.heap.size 3 i0 (.int .i64 0) 1 8 Tryz.underlying22 hi hz0 hz1 hz2 rfl (by decide) _ _ _ rfl (hown.alloc _) ⟨wr.heap.size,0,none⟩ 1 1 [.int .i64 1] rfl rfl (one_new wr _) (by simp [Value.oneCell']) (by simp only [maxLen];omega) (by omega) (Nat.le_trans hb.size (by simp)) ?_;intro v1 w1 hown1 hgrow1 _)
    have hb1:Below w.heap.size w w1:=below_append hb hgrow1 (fun g hg => ((hown.lt) g hg).1) (Nat.le_refl _)
    clear hgrow1
    go_roundw
    case rel => exact ⟨k + 1,by omega,by go_num,by rw [HT.out];simpa [tyOf,byte_eq hc] using hown1,hb1⟩
    case measure => simp [intOf];omega
   ·go_wp2_with (at_builtin;refine wpList_append_own _ rfl _ _ _ rfl w.heap.size 3 i0 (.int .i64 0) 1 8 Tryz.underlying22 hi hz0 hz1 hz2 rfl (by decide) _ _ _ rfl (hown.alloc _) ⟨wr.heap.size,0,none⟩ 1 1 [.int .i64 2] rfl rfl (one_new wr _) (by simp [Value.oneCell']) (by simp only [maxLen];omega) (by omega) (Nat.le_trans hb.size (by simp)) ?_;intro v1 w1 hown1 hgrow1 _)
    have hb1:Below w.heap.size w w1:=below_append hb hgrow1 (fun g hg => ((hown.lt) g hg).1) (Nat.le_refl _)
    clear hgrow1
    go_roundw
    case rel => exact ⟨k + 1,by omega,by go_num,by rw [HT.out];simpa [tyOf,byte_ne hc] using hown1,hb1⟩
    case measure => simp [intOf];omega
  ·go_wp2
   go_ret3
   have hk':k=s.size:=by omega
   subst hk'
   refine ⟨_,rfl,?_,hb⟩
   rw [List.take_of_length_le (by simp)] at hown
   exact hown
theorem shapeS_short (op:Int):(shapeS op).1.length ≤ 3:=by
 rcases op_cases op with h | h | h
 ·rcases h with rfl | rfl | rfl | rfl | rfl | rfl | rfl | rfl | rfl | rfl | rfl | rfl | rfl <;> decide
 ·rcases h with rfl | rfl | rfl | rfl | rfl | rfl | rfl | rfl | rfl | rfl | rfl | rfl <;> decide
 ·rw [shapeS_none h];decide
theorem refArgs_any (op:Int) (w:World):Calls Tryz.prog 38 #[.int .i64 op] w (ArgsPost op w):=by
 refine (refArgs_core op w ⟨(shapeS op).1.toArray⟩ (makesS op) (kindS op) (isOp op) (by simpa [ByteArray.size] using shapeS_short op) (fun W => shape_any op W)).mono ?_
 rintro e w' ⟨v,rfl,hown,hb⟩
 exact ⟨v,rfl,newInts_own hown (by have:=shapeS_short op;unfold takesS;rw [List.length_map];omega),hb⟩
end Go.Proofs.YtaehbgppfahdeaaGreat

namespace Go.Proofs.YtaehbgppfahdeaaGreat
open Go.RowKit Go.Maps
theorem lawInt:Keyed Tryz.prog 3:=int_keyed Tryz.underlying3
theorem zeroInt (w:World):(zeroValue 3).run Tryz.prog w=.ok (.int .i64 0) w:=by kernel_rfl
def I64 (x:Int):Prop:=(Lit.int .i64 x).wf=true
def MapIs (w:World) (M:Nat) (ds:Defs):Prop :=
 ∃ D:DataW Unit,w.ownsMap Tryz.prog 3 (plainElem Tryz.prog 3) M ds.length D ∧ IsMap D ∧ (∀ d ∈ ds,I64 d.1 ∧ I64 d.2) ∧ ∀ id z,D.atKey (.int .i64 id) z=match ds.at id with | some t => .lit (.int .i64 t) | none => z
theorem Defs.at_snoc (ds:Defs) (id typ k:Int):Defs.at (ds ++ [(id,typ)]) k=match ds.at k with | some t => some t | none => if k=id then some typ else none:=by
 unfold Defs.at
 rw [List.find?_append]
 cases h:List.find? (fun d => d.1 == k) ds with
 | some d => simp
 | none =>
  by_cases hk:k=id
  ·subst hk;simp
  ·simp [hk,show (id == k)=false from by simpa using fun e => hk e.symm]
theorem MapIs.lt {w:World} {M:Nat} {ds:Defs} (h:MapIs w M ds):M < w.heap.size:=by
 obtain ⟨D,h,_⟩:=h
 exact h.lt
theorem MapIs.kept {w w':World} {M:Nat} {ds:Defs} {row:Option Nat} (h:MapIs w M ds) (hg:w.grownBy w' row) (hne:some M ≠ row):MapIs w' M ds:=by
 obtain ⟨D,h,r⟩:=h
 exact ⟨D,h.kept hg hne,r⟩
theorem MapIs.has {ds:Defs} {D:DataW Unit} (h:∀ id z,D.atKey (.int .i64 id) z=match ds.at id with | some t => .lit (.int .i64 t) | none => z) (id:Int) :
  Go.Maps.has D (.int .i64 id)=(ds.at id).isSome:=by
 cases hd:ds.at id with
 | none => exact has_false_of_atKey (fun z => by rw [h,hd])
 | some t => exact has_true_of_atKey (y:=.lit (.int .i64 t)) (fun z => by rw [h,hd])
theorem MapIs.new (w:World):MapIs (w.alloc (.map #[] 0)) w.heap.size [] :=
 ⟨.map [],World.ownsMap_made _ _ _ _,⟨[],rfl⟩,by simp,fun id z => rfl⟩
end Go.Proofs.YtaehbgppfahdeaaGreat

namespace Go.Proofs.YtaehbgppfahdeaaGreat
open Go.RowKit
theorem within_any (n a b:Int) (w:World) :
  Calls Tryz.prog 200 #[.int .i64 n,.int .i64 a,.int .i64 b] w fun e w' => e=.returned (.bool (withinB n a b)) ∧ w=w':=by
 unfold withinB
 by_cases h:a ≤ n
 all_goals
  go_enter Tryz.func200,Tryz.ntmps200
  go_wp2
  go_ret
  refine ⟨?_,rfl⟩
  first | (simp [h];done) | (simp;omega)
theorem isType_any (n:Int) (w:World) :
  Calls Tryz.prog 201 #[.int .i64 n] w fun e w' => e=.returned (.bool (isTypeB n)) ∧ w=w':=by
 unfold isTypeB
 by_cases h:(n == 1)=true
 all_goals
  go_enter Tryz.func201,Tryz.ntmps201
  go_wp2
  go_ret
  refine ⟨?_,rfl⟩
  simp [h]
def Says (b:Bool) (w:World) (e:Ending) (w':World):Prop:=e=.returned (.bool b) ∧ Below w.heap.size w w'
theorem says_new {b b':Bool} {w:World} {o:Obj} (h:b=b'):Says b' w (.returned (.bool b)) (w.alloc o):=by
 subst h
 exact ⟨rfl,(Below.refl _ _).alloc (Nat.le_refl _) _⟩
theorem fitsN_a (f:FuncM) (pv bv mv:Value) (op n:Int) (w:World) (_ha:0 ≤ f.arrays) (_ha':f.arrays ≤ 8) (h:op=1 ∨ op=2 ∨ op=3 ∨ op=4 ∨ op=5 ∨ op=6 ∨ op=7 ∨ op=8 ∨ op=9 ∨ op=10 ∨ op=11 ∨ op=12 ∨ op=13) :
  Calls Tryz.prog 230 #[.agg #[pv,.int .i64 f.arrays,.int .i64 f.cells,bv,mv],.int .i64 op,.int .i64 n] w (Says (fitsB f op n) w):=by
 rcases h with rfl | rfl | rfl | rfl | rfl | rfl | rfl | rfl | rfl | rfl | rfl | rfl | rfl
 all_goals
  go_enter Tryz.func230,Tryz.ntmps230
  go_wp2_with (go_at_call 200;refine (within_any _ _ _ _).mono ?_;rintro e w' ⟨rfl,rfl⟩)
  go_ret
  exact says_new rfl
theorem fitsN_b (f:FuncM) (pv bv mv:Value) (op n:Int) (w:World) (ha:0 ≤ f.arrays) (ha':f.arrays ≤ 8) (hc:0 ≤ f.cells) (hc':f.cells ≤ 64) (h:op=14 ∨ op=15 ∨ op=16 ∨ op=17 ∨ op=18 ∨ op=19 ∨ op=20 ∨ op=21 ∨ op=22 ∨ op=23 ∨ op=24 ∨ op=25) :
  Calls Tryz.prog 230 #[.agg #[pv,.int .i64 f.arrays,.int .i64 f.cells,bv,mv],.int .i64 op,.int .i64 n] w (Says (fitsB f op n) w):=by
 rcases h with rfl | rfl | rfl | rfl | rfl | rfl | rfl | rfl | rfl | rfl | rfl | rfl
 all_goals
  go_enter Tryz.func230,Tryz.ntmps230
  go_wp2_with (go_at_call 200;refine (within_any _ _ _ _).mono ?_;rintro e w' ⟨rfl,rfl⟩)
  go_ret
  exact says_new rfl
theorem fitsN_any (f:FuncM) (pv bv mv:Value) (op n:Int) (w:World) (ha:0 ≤ f.arrays) (ha':f.arrays ≤ 8) (hc:0 ≤ f.cells) (hc':f.cells ≤ 64) (h:isOp op=true) :
  Calls Tryz.prog 230 #[.agg #[pv,.int .i64 f.arrays,.int .i64 f.cells,bv,mv],.int .i64 op,.int .i64 n] w (Says (fitsB f op n) w):=by
 rcases op_cases op with g | g | g
 ·exact fitsN_a f pv bv mv op n w ha ha' g
 ·exact fitsN_b f pv bv mv op n w ha ha' hc hc' g
 ·unfold isOp at h
  rw [shapeS_none g] at h
  cases h
theorem all_take_succ {α:Type} (p:α → Bool) (l:List α) (k:Nat) (h:k < l.length):(l.take (k + 1)).all p=((l.take k).all p && p (l[k])):=by
 rw [List.take_succ_eq_append_getElem h,List.all_append]
 simp
theorem getD_of {l:List Int} {k:Nat} (h:k < l.length):l[k]?.getD 0=l[k]:=by simp [h]
theorem targets_no {nb:Nat} {to:List Int} {k:Nat} (h:k < to.length) (hf:withinB to[k] 1 (nb - 1)=false):targetsB nb to=false:=by
 unfold targetsB
 rw [List.all_eq_false]
 exact ⟨to[k],List.getElem_mem h,by simp [hf]⟩
set_option maxHeartbeats 400000 in
theorem areTargets_any (pv mv av cv:Value) (A:Option Addr) (nb c:Nat) (tv:Value) (to:List Int) (w:World) (hI:Ints w w.heap.size tv to) (h1:1 ≤ nb) (h2:nb ≤ 512) :
  Calls Tryz.prog 231 #[.agg #[pv,av,cv,.slice A nb c,mv],tv] w (Says (targetsB nb to) w):=by
 obtain ⟨T,ct,rfl,hm,hx⟩:=hI
 have Hx:=hideI hx
 clear hx
 go_enter Tryz.func231,Tryz.ntmps231
 go_wp2
 go_loop [9] (fun i => ∃ k:Nat,k ≤ to.length ∧ i=.int .i64 k ∧ (to.take k).all (fun b => withinB b 1 (nb - 1))=true) (fun i => to.length - (intOf i).toNat)
 case atStart => exact ⟨0,Nat.zero_le _,rfl,by simp⟩
 case round =>
  obtain ⟨k,hk,rfl,ht⟩:=hrel
  have HT:=hideI ht
  clear ht
  by_cases hlt:k < to.length
  ·obtain ⟨b,off,rfl,hb,hc⟩:=Hx.out k hlt
   cases hw:withinB to[k] 1 (nb - 1)
   ·have HW:=hideI hw
    go_wp2_with (go_at_call 200;refine (within_any _ _ _ _).mono ?_;rintro e w' ⟨rfl,rfl⟩)
    go_ret
    exact says_new (targets_no hlt HW.out).symm
   ·have HW:=hideI hw
    go_wp2_with (go_at_call 200;refine (within_any _ _ _ _).mono ?_;rintro e w' ⟨rfl,rfl⟩)
    go_round
    case rel => exact ⟨k + 1,by omega,by go_num,by rw [all_take_succ _ _ _ hlt,HT.out,HW.out];rfl⟩
    case measure => simp [intOf];omega
  ·go_wp2
   go_ret
   have h:=HT.out
   rw [List.take_of_length_le (by omega)] at h
   exact says_new h.symm
end Go.Proofs.YtaehbgppfahdeaaGreat

namespace Go
theorem World.grownBy.trans_grown {a b c:World} {row:Option Nat} (h:a.grownBy b row) (k:b.grownBy c row):a.grownBy c row :=
 ⟨k.os.trans h.os,k.tape.trans h.tape,k.output.trans h.output,Nat.le_trans h.size k.size,fun i hi hne => (k.block i (Nat.lt_of_lt_of_le hi h.size) hne).trans (h.block i hi hne)⟩
end Go
namespace Go.Proofs.YtaehbgppfahdeaaGreat
open Go.RowKit Go.Maps
def Defines (o:Option Defs) (M:Nat) (w:World) (e:Ending) (w':World):Prop :=
 e=.returned (.bool o.isSome) ∧ w.grownBy w' (some M) ∧ ∀ ds,o=some ds → MapIs w' M ds
theorem MapIs.put {w':World} {M:Nat} {ds:Defs} {D:DataW Unit} {id typ:Int} (h2:w'.ownsMap Tryz.prog 3 (plainElem Tryz.prog 3) M (ds.length + 1) (D.put (.int .i64 id) (.lit (.int .i64 typ))))
  (hD:IsMap D) (hw:∀ d ∈ ds,I64 d.1 ∧ I64 d.2) (hi:I64 id) (ht:I64 typ) (hn:ds.at id=none) (h:∀ id z,D.atKey (.int .i64 id) z=match ds.at id with | some t => .lit (.int .i64 t) | none => z):MapIs w' M (ds ++ [(id,typ)]):=by
 refine ⟨_,by simpa using h2,IsMap.put hD _ _,?_,?_⟩
 ·intro d hd
  rw [List.mem_append] at hd
  rcases hd with hd | hd
  ·exact hw d hd
  ·simp at hd
   subst hd
   exact ⟨hi,ht⟩
 ·intro k z
  rw [Defs.at_snoc]
  by_cases hk:k=id
  ·subst hk
   rw [atKey_put_same hD (by trivial),hn]
   simp
  ·rw [atKey_put_other (by simpa using hk),h]
   cases ds.at k <;> simp [hk]
theorem addDef_some {np:Nat} {ds:Defs} {id typ t:Int} (h:ds.at id=some t):addDef np ds id typ=none:=by
 unfold addDef defB
 rw [h]
 rfl
theorem addDef_out {np:Nat} {ds:Defs} {id typ:Int} (h:withinB id np 1048575=false):addDef np ds id typ=none:=by
 unfold addDef defB
 rw [h]
 simp
theorem addDef_ok {np:Nat} {ds:Defs} {id typ:Int} (h:ds.at id=none) (hw:withinB id np 1048575=true):addDef np ds id typ=some (ds ++ [(id,typ)]):=by
 unfold addDef defB
 rw [h,hw]
 rfl
theorem defines_no {M:Nat} {w:World} {r:Option Defs} {o:Obj} (h:r=none):Defines r M w (.returned (.bool false)) (w.alloc o):=by
 subst h
 exact ⟨rfl,World.grownBy_alloc _ _ _,by simp⟩
set_option maxHeartbeats 400000 in
theorem define_any (av cv bv:Value) (P:Option Addr) (np c M:Nat) (ds:Defs) (id typ:Int) (w:World) (hM:MapIs w M ds) (hn:ds.length < 100000) (hi:I64 id) (ht:I64 typ) :
  Calls Tryz.prog 229 #[.agg #[.slice P np c,av,cv,bv,.map (some M)],.int .i64 id,.int .i64 typ] w (Defines (addDef np ds id typ) M w):=by
 obtain ⟨D,hown,hD,hwd,hat⟩:=hM
 have hh:=MapIs.has hat id
 have HAT:=hideI hat
 have HWD:=hideI hwd
 have HI:=hideI hi
 have HT:=hideI ht
 clear hat hwd
 cases hd:ds.at id with
 | some t =>
  have HD:=hideI hd
  rw [hd] at hh
  clear hd
  go_enter Tryz.func229,Tryz.ntmps229
  go_wp2_with (first
   | (at_lookup;refine wpList_lookup_own_ok_int _ rfl _ _ 127 rfl 3 3 .i64 lawInt Tryz.underlying127 Tryz.underlying3 (zeroInt _) M ds.length D rfl (hown.alloc _) _ _ rfl (keyOf_int_mk Tryz.underlying3 HI.out) ?_;intro c1 hat1 hwc1)
   | (go_at_call 200;refine (within_any _ _ _ _).mono ?_;rintro e w' ⟨rfl,rfl⟩))
  go_ret
  exact defines_no (addDef_some HD.out)
 | none =>
  rw [hd] at hh
  have HD:=hideI hd
  clear hd
  cases hw:withinB id np 1048575
  ·go_enter Tryz.func229,Tryz.ntmps229
   go_wp2_with (first
    | (at_lookup;refine wpList_lookup_own_ok_int _ rfl _ _ 127 rfl 3 3 .i64 lawInt Tryz.underlying127 Tryz.underlying3 (zeroInt _) M ds.length D rfl (hown.alloc _) _ _ rfl (keyOf_int_mk Tryz.underlying3 HI.out) ?_;intro c1 hat1 hwc1)
    | (go_at_call 200;refine (within_any _ _ _ _).mono ?_;rintro e w' ⟨rfl,rfl⟩))
   go_ret
   exact defines_no (addDef_out hw)
  ·go_enter Tryz.func229,Tryz.ntmps229
   go_wp2_with (first
    | (at_lookup;refine wpList_lookup_own_ok_int _ rfl _ _ 127 rfl 3 3 .i64 lawInt Tryz.underlying127 Tryz.underlying3 (zeroInt _) M ds.length D rfl (hown.alloc _) _ _ rfl (keyOf_int_mk Tryz.underlying3 HI.out) ?_;intro c1 hat1 hwc1)
    | (go_at_call 200;refine (within_any _ _ _ _).mono ?_;rintro e w' ⟨rfl,rfl⟩)
    | (at_mapUpdate;refine wpList_mapUpdate_own _ rfl _ _ _ 127 rfl 3 3 lawInt Tryz.underlying127 _ M ds.length _ rfl (hown.alloc _) (by unfold maxLen;omega) _ _ _ rfl rfl (keyOf_int_mk Tryz.underlying3 HI.out) _ [] (plainElem_int Tryz.underlying3 HT.out) ?_;intro w1 hown1 hgrow1))
   go_ret
   refine ⟨by rw [addDef_ok HD.out hw];rfl,(World.grownBy_alloc _ _ _).trans_grown hgrow1,fun ds' h => ?_⟩
   rw [addDef_ok HD.out hw] at h
   injection h with h
   subst h
   exact MapIs.put hown1 hD HWD.out hi ht HD.out HAT.out
end Go.Proofs.YtaehbgppfahdeaaGreat

namespace Go.Proofs.YtaehbgppfahdeaaGreat
def succM (bs:List BlockM) (b:Nat):List Nat:=match bs[b]? with | some q => q.term.to.map Int.toNat | none => []
inductive Visit (succ:Nat → List Nat):List Nat → List Nat × List Nat → List Nat × List Nat → Prop
 | nil (s:List Nat × List Nat):Visit succ [] s s
 | skip {t:Nat} {r bg dn:List Nat} {s:List Nat × List Nat} (h:t ∈ bg) (k:Visit succ r (bg,dn) s):Visit succ (t :: r) (bg,dn) s
 | go {t:Nat} {r bg dn bg1 dn1:List Nat} {s:List Nat × List Nat} (h:t ∉ bg) (k:Visit succ (succ t) (t :: bg,dn) (bg1,dn1)) (l:Visit succ r (bg1,dn1 ++ [t]) s):Visit succ (t :: r) (bg,dn) s
theorem Visit.append {succ:Nat → List Nat} {l1 l2:List Nat} {s s1 s2:List Nat × List Nat} (h:Visit succ l1 s s1) (k:Visit succ l2 s1 s2):Visit succ (l1 ++ l2) s s2:=by
 induction h with
 | nil => exact k
 | skip h _ ih => exact .skip h (ih k)
 | go h k1 _ _ ih => exact .go h k1 (ih k)
theorem Visit.det {succ:Nat → List Nat} {l:List Nat} {s s1 s2:List Nat × List Nat} (h:Visit succ l s s1) (k:Visit succ l s s2):s1=s2:=by
 induction h generalizing s2 with
 | nil => cases k;rfl
 | skip h _ ih =>
  cases k with
  | skip _ k => exact ih k
  | go h2 _ _ => exact absurd h h2
 | go h _ _ ih1 ih2 =>
  cases k with
  | skip h2 _ => exact absurd h2 h
  | go _ k1 k2 =>
   cases ih1 k1
   exact ih2 k2
structure Did (succ:Nat → List Nat) (work bg dn bg' dn' new:List Nat):Prop where
 done:dn'=dn ++ new
 nodup:new.Nodup
 fresh:∀ x ∈ new,x ∉ bg
 begun:∀ x,x ∈ bg' ↔ x ∈ bg ∨ x ∈ new
 len:bg'.length=bg.length + new.length
 all:∀ x ∈ work,x ∈ bg'
 next:∀ x ∈ new,∀ y ∈ succ x,y ∈ bg'
 from_:∀ (i:Nat) x,new[i]?=some x → x ∈ work ∨ ∃ j y,i < j ∧ new[j]?=some y ∧ x ∈ succ y
 keepsNodup:bg.Nodup → bg'.Nodup
theorem Visit.did {succ:Nat → List Nat} {l:List Nat} {s s':List Nat × List Nat} (h:Visit succ l s s'):∃ new,Did succ l s.1 s.2 s'.1 s'.2 new:=by
 induction h with
 | nil s => exact ⟨[],by simp,by simp,by simp,by simp,by simp,by simp,by simp,by simp,id⟩
 | @skip t r bg dn s h _ ih =>
  obtain ⟨new,d⟩:=ih
  refine ⟨new,d.done,d.nodup,d.fresh,d.begun,d.len,?_,d.next,fun i x hx => ?_,d.keepsNodup⟩
  ·intro x hx
   rcases List.mem_cons.1 hx with rfl | hx
   ·exact (d.begun _).2 (.inl h)
   ·exact d.all x hx
  ·rcases d.from_ i x hx with h1 | h1
   ·exact .inl (List.mem_cons_of_mem _ h1)
   ·exact .inr h1
 | @go t r bg dn bg1 dn1 s h _ _ ih1 ih2 =>
  obtain ⟨n1,d1⟩:=ih1
  obtain ⟨n2,d2⟩:=ih2
  have hb1:∀ x,x ∈ bg1 ↔ (x=t ∨ x ∈ bg) ∨ x ∈ n1:=fun x => by have:=d1.begun x;simpa using this
  have hf1:∀ x ∈ n1,x ≠ t ∧ x ∉ bg:=fun x hx => by have:=d1.fresh x hx;simpa using this
  have hf2:∀ x ∈ n2,x ≠ t ∧ x ∉ bg ∧ x ∉ n1:=fun x hx => by
   have:=d2.fresh x hx
   rw [show ((bg1,dn1 ++ [t]):List Nat × List Nat).1=bg1 from rfl,hb1] at this
   exact ⟨fun e => this (.inl (.inl e)),fun e => this (.inl (.inr e)),fun e => this (.inr e)⟩
  refine ⟨n1 ++ t :: n2,?_,?_,?_,?_,?_,?_,?_,?_,fun hn => d2.keepsNodup (d1.keepsNodup (List.nodup_cons.2 ⟨h,hn⟩))⟩
  ·rw [d2.done]
   have:=d1.done
   simp only at this
   rw [this]
   simp
  ·rw [List.nodup_append]
   refine ⟨d1.nodup,List.nodup_cons.2 ⟨fun hm => (hf2 t hm).1 rfl,d2.nodup⟩,fun a ha b hb e => ?_⟩
   subst e
   rcases List.mem_cons.1 hb with rfl | hb
   ·exact (hf1 _ ha).1 rfl
   ·exact (hf2 _ hb).2.2 ha
  ·intro x hx
   rcases List.mem_append.1 hx with hx | hx
   ·exact (hf1 x hx).2
   ·rcases List.mem_cons.1 hx with rfl | hx
    ·exact h
    ·exact (hf2 x hx).2.1
  ·intro x
   rw [d2.begun,show ((bg1,dn1 ++ [t]):List Nat × List Nat).1=bg1 from rfl,hb1]
   simp only [List.mem_append,List.mem_cons]
   constructor
   ·rintro (((h1 | h1) | h1) | h1) <;> simp [h1]
   ·rintro (h1 | h1 | h1 | h1) <;> simp [h1]
  ·have e1:=d1.len
   have e2:=d2.len
   simp at e1 e2 ⊢
   omega
  ·intro x hx
   rcases List.mem_cons.1 hx with rfl | hx
   ·exact (d2.begun _).2 (.inl ((hb1 _).2 (.inl (.inl rfl))))
   ·exact d2.all x hx
  ·intro x hx y hy
   rcases List.mem_append.1 hx with hx | hx
   ·exact (d2.begun _).2 (.inl (d1.next x hx y hy))
   ·rcases List.mem_cons.1 hx with rfl | hx
    ·exact (d2.begun _).2 (.inl (d1.all y hy))
    ·exact d2.next x hx y hy
  ·intro i x hx
   by_cases h1:i < n1.length
   ·rw [List.getElem?_append_left h1] at hx
    rcases d1.from_ i x hx with hw | ⟨j,y,hj,hy,hs⟩
    ·exact .inr ⟨n1.length,t,h1,by simp,hw⟩
    ·have hj1:j < n1.length:=(List.getElem?_eq_some_iff.1 hy).1
     exact .inr ⟨j,y,hj,by rw [List.getElem?_append_left hj1];exact hy,hs⟩
   ·rw [List.getElem?_append_right (by omega)] at hx
    obtain ⟨m,hm⟩:∃ m,i - n1.length=m:=⟨_,rfl⟩
    rw [hm] at hx
    cases m with
    | zero =>
     simp at hx
     subst hx
     exact .inl (List.mem_cons_self ..)
    | succ m =>
     simp at hx
     rcases d2.from_ m x hx with hw | ⟨j,y,hj,hy,hs⟩
     ·exact .inl (List.mem_cons_of_mem _ hw)
     ·refine .inr ⟨n1.length + 1 + j,y,by omega,?_,hs⟩
      rw [List.getElem?_append_right (by omega),show n1.length + 1 + j - n1.length=j + 1 by omega]
      simpa using hy
theorem below_len:∀ (n:Nat) (l:List Nat),l.Nodup → (∀ x ∈ l,x < n) → l.length ≤ n:=by
 intro n
 induction n with
 | zero => intro l _ h;cases l with | nil => simp | cons a l => exact absurd (h a (List.mem_cons_self ..)) (by omega)
 | succ n ih =>
  intro l hn h
  have h1:=ih (l.erase n) (hn.erase n) (fun x hx => by
   have h2:=(List.Nodup.mem_erase_iff hn).1 hx
   have:=h x h2.2
   omega)
  by_cases hm:n ∈ l
  ·rw [List.length_erase_of_mem hm] at h1;omega
  ·rw [List.erase_of_not_mem hm] at h1;omega
theorem fresh_len {n b:Nat} {l:List Nat} (hn:l.Nodup) (h:∀ x ∈ l,x < n) (hb:b < n) (hf:b ∉ l):l.length < n:=by
 have:=below_len n (b :: l) (List.nodup_cons.2 ⟨hf,hn⟩) (fun x hx => by rcases List.mem_cons.1 hx with rfl | hx;exact hb;exact h x hx)
 simp at this
 omega
theorem nodup_rev {α:Type} {l:List α} (h:l.Nodup):l.reverse.Nodup:=List.pairwise_reverse.2 (h.imp fun h e => h e.symm)
def OrderIs (bs:List BlockM) (o:List Nat):Prop:=∃ bg dn,Visit (succM bs) (succM bs 0) ([0],[]) (bg,dn) ∧ o=(dn ++ [0]).reverse
theorem OrderIs.one {bs:List BlockM} {o o':List Nat} (h:OrderIs bs o) (k:OrderIs bs o'):o=o':=by
 obtain ⟨bg,dn,v,rfl⟩:=h
 obtain ⟨bg',dn',v',rfl⟩:=k
 cases v.det v'
 rfl
theorem OrderIs.facts {bs:List BlockM} {o:List Nat} (h:OrderIs bs o) :
  o[0]?=some 0 ∧ o.Nodup ∧ (∀ x ∈ o,∀ y ∈ succM bs x,y ∈ o) ∧ ∀ (i:Nat) x,0 < i → o[i]?=some x → ∃ j y,j < i ∧ o[j]?=some y ∧ x ∈ succM bs y:=by
 obtain ⟨bg,dn,v,rfl⟩:=h
 have v2:Visit (succM bs) [0] ([],[]) (bg,dn ++ [0]):=.go (by simp) v (.nil _)
 obtain ⟨new,d⟩:=v2.did
 have hd:dn ++ [0]=new:=by simpa using d.done
 rw [hd]
 have h0:new.reverse[0]?=some 0:=by rw [← hd];simp
 refine ⟨h0,nodup_rev d.nodup,fun x hx y hy => ?_,fun i x hi hx => ?_⟩
 ·have hx':x ∈ new:=List.mem_reverse.1 hx
  have:=(d.begun y).1 (d.next x hx' y hy)
  simpa using this
 ·have hlt:i < new.length:=by have:=(List.getElem?_eq_some_iff.1 hx).1;simpa using this
  have hx1:new[new.length - 1 - i]?=some x:=by rw [← hx,List.getElem?_reverse hlt]
  rcases d.from_ _ x hx1 with hw | ⟨j,y,hj,hy,hs⟩
  ·have e:x=0:=by simpa using hw
   subst e
   exfalso
   have hn:=nodup_rev d.nodup
   have:=(List.getElem?_inj (by have:=hlt;simp;omega) hn).1 (h0.trans hx.symm)
   omega
  ·have hjl:j < new.length:=(List.getElem?_eq_some_iff.1 hy).1
   refine ⟨new.length - 1 - j,y,by omega,?_,hs⟩
   rw [List.getElem?_reverse (by omega),show new.length - 1 - (new.length - 1 - j)=j by omega]
   exact hy
end Go.Proofs.YtaehbgppfahdeaaGreat

namespace Go.Proofs.YtaehbgppfahdeaaGreat
open Go.RowKit
def PhisR (w:World) (B:Nat) (v:Value) (ps:List PhiM):Prop :=
 ∃ A c,v=.slice A ps.length c ∧ ps.length ≤ 140737488351232 ∧ ∀ k p,ps[k]?=some p → ∃ b off fv vv,A=some ⟨b,off,none⟩ ∧ b < B ∧
  w.cell? ⟨b,off + k * 4,none⟩=some (.int .i64 p.id) ∧ w.cell? ⟨b,off + k * 4 + 1,none⟩=some (.int .i64 p.typ) ∧ w.cell? ⟨b,off + k * 4 + 2,none⟩=some fv ∧ w.cell? ⟨b,off + k * 4 + 3,none⟩=some vv ∧
  Ints w B fv p.fr ∧ Ints w B vv p.vals ∧ I64 p.id ∧ I64 p.typ
def CodeR (w:World) (B:Nat) (v:Value) (xs:List InstrM):Prop :=
 ∃ A c,v=.slice A xs.length c ∧ xs.length ≤ 140737488351232 ∧ ∀ k x,xs[k]?=some x → ∃ b off av,A=some ⟨b,off,none⟩ ∧ b < B ∧
  w.cell? ⟨b,off + k * 4,none⟩=some (.int .i64 x.op) ∧ w.cell? ⟨b,off + k * 4 + 1,none⟩=some (.int .i64 x.id) ∧ w.cell? ⟨b,off + k * 4 + 2,none⟩=some av ∧ w.cell? ⟨b,off + k * 4 + 3,none⟩=some (.int .i64 x.n) ∧
  Ints w B av x.args ∧ I64 x.op ∧ I64 x.id ∧ I64 x.n
def BlocksR (w:World) (B:Nat) (v:Value) (bs:List BlockM):Prop :=
 ∃ A c,v=.slice A bs.length c ∧ bs.length ≤ 140737488351232 ∧ ∀ k q,bs[k]?=some q → ∃ b off pv cv tv,A=some ⟨b,off,none⟩ ∧ b < B ∧
  w.cell? ⟨b,off + k * 6,none⟩=some pv ∧ w.cell? ⟨b,off + k * 6 + 1,none⟩=some cv ∧ w.cell? ⟨b,off + k * 6 + 2,none⟩=some (.int .i64 q.term.op) ∧ w.cell? ⟨b,off + k * 6 + 3,none⟩=some (.int .i64 q.term.val) ∧
  w.cell? ⟨b,off + k * 6 + 4,none⟩=some tv ∧ w.cell? ⟨b,off + k * 6 + 5,none⟩=some (.int .i64 q.term.n) ∧
  PhisR w B pv q.phis ∧ CodeR w B cv q.code ∧ Ints w B tv q.term.to ∧ I64 q.term.op ∧ I64 q.term.val ∧ I64 q.term.n
section
variable {w w':World} {B:Nat} {v:Value}
def Keeps (B:Nat) (w w':World):Prop:=∀ b o,b < B → w'.cell? ⟨b,o,none⟩=w.cell? ⟨b,o,none⟩
theorem Keeps.of_below (h:Below B w w'):Keeps B w w':=fun b o hb => h.cell (p:=⟨b,o,none⟩) hb
theorem Keeps.of_grown {M:Nat} (h:w.grownBy w' (some M)) (hM:B ≤ M) (hB:B ≤ w.heap.size):Keeps B w w':=fun b o hb =>
 World.cell?_of_block (h.block b (by omega) (by simp;omega))
theorem Keeps.trans {w2:World} (h:Keeps B w w') (k:Keeps B w' w2):Keeps B w w2:=fun b o hb => (k b o hb).trans (h b o hb)
theorem Keeps.refl (w:World):Keeps B w w:=fun _ _ _ => rfl
theorem Keeps.alloc (h:Keeps B w w') (hB:B ≤ w'.heap.size) (o:Obj):Keeps B w (w'.alloc o):=fun b i hb => (World.cell?_alloc_lt w' o ⟨b,i,none⟩ (by simp;omega)).trans (h b i hb)
theorem Ints.keeps {xs:List Int} (h:Ints w B v xs) (hk:Keeps B w w'):Ints w' B v xs:=by
 obtain ⟨A,c,rfl,hm,h⟩:=h
 refine ⟨A,c,rfl,hm,fun k hlt => ?_⟩
 obtain ⟨b,off,rfl,hb,hc⟩:=h k hlt
 exact ⟨b,off,rfl,hb,(hk _ _ hb).trans hc⟩
theorem PhisR.keeps {ps:List PhiM} (h:PhisR w B v ps) (hk:Keeps B w w'):PhisR w' B v ps:=by
 obtain ⟨A,c,rfl,hm,h⟩:=h
 refine ⟨A,c,rfl,hm,fun k p hp => ?_⟩
 obtain ⟨b,off,fv,vv,rfl,hb,h0,h1,h2,h3,hf,hv,hi,ht⟩:=h k p hp
 exact ⟨b,off,fv,vv,rfl,hb,(hk _ _ hb).trans h0,(hk _ _ hb).trans h1,(hk _ _ hb).trans h2,(hk _ _ hb).trans h3,hf.keeps hk,hv.keeps hk,hi,ht⟩
theorem CodeR.keeps {xs:List InstrM} (h:CodeR w B v xs) (hk:Keeps B w w'):CodeR w' B v xs:=by
 obtain ⟨A,c,rfl,hm,h⟩:=h
 refine ⟨A,c,rfl,hm,fun k p hp => ?_⟩
 obtain ⟨b,off,av,rfl,hb,h0,h1,h2,h3,hf,r⟩:=h k p hp
 exact ⟨b,off,av,rfl,hb,(hk _ _ hb).trans h0,(hk _ _ hb).trans h1,(hk _ _ hb).trans h2,(hk _ _ hb).trans h3,hf.keeps hk,r⟩
theorem BlocksR.keeps {bs:List BlockM} (h:BlocksR w B v bs) (hk:Keeps B w w'):BlocksR w' B v bs:=by
 obtain ⟨A,c,rfl,hm,h⟩:=h
 refine ⟨A,c,rfl,hm,fun k p hp => ?_⟩
 obtain ⟨b,off,pv,cv,tv,rfl,hb,h0,h1,h2,h3,h4,h5,hp,hc,ht,r⟩:=h k p hp
 exact ⟨b,off,pv,cv,tv,rfl,hb,(hk _ _ hb).trans h0,(hk _ _ hb).trans h1,(hk _ _ hb).trans h2,(hk _ _ hb).trans h3,(hk _ _ hb).trans h4,(hk _ _ hb).trans h5,hp.keeps hk,hc.keeps hk,ht.keeps hk,r⟩
end
theorem row_cells {w w':World} {g:Nat} {cs:Array Value} {t:TypeId} (h:w.heap[g]?=some (.cells cs t (0,0))) (hk:w'.heap[g]?=w.heap[g]?):∀ o,w'.cell? ⟨g,o,none⟩=cs[o]? :=
 fun o => cell_of_row w' g o cs t (0,0) (hk.trans h)
theorem two_cells {w w':World} {c1 c2:Array Value} {t1 t2:TypeId} {M:Nat} (hg:((w.alloc (.cells c1 t1)).alloc (.cells c2 t2)).grownBy w' (some M)) (hM:M < w.heap.size) :
  (∀ o,w'.cell? ⟨w.heap.size,o,none⟩=c1[o]?) ∧ (∀ o,w'.cell? ⟨w.heap.size + 1,o,none⟩=c2[o]?) ∧ w.heap.size + 1 < w'.heap.size:=by
 have h1:((w.alloc (.cells c1 t1)).alloc (.cells c2 t2)).heap[w.heap.size]?=some (.cells c1 t1 (0,0)):=by
  rw [Below.heap_alloc _ _ _ (by simp)]
  exact heap_alloc_new w _
 have h2:((w.alloc (.cells c1 t1)).alloc (.cells c2 t2)).heap[w.heap.size + 1]?=some (.cells c2 t2 (0,0)):=by
  have:=heap_alloc_new (w.alloc (.cells c1 t1)) (.cells c2 t2)
  simpa using this
 have hs:=hg.size
 simp at hs
 exact ⟨row_cells h1 (hg.block _ (by simp;omega) (by simp;omega)),row_cells h2 (hg.block _ (by simp) (by simp;omega)),by omega⟩
theorem one_cells {w w':World} {c1:Array Value} {t1:TypeId} (hg:Below (w.heap.size + 1) (w.alloc (.cells c1 t1)) w'):(∀ o,w'.cell? ⟨w.heap.size,o,none⟩=c1[o]?) ∧ w.heap.size < w'.heap.size:=by
 have hs:=hg.size
 simp at hs
 exact ⟨row_cells (heap_alloc_new w _) (hg.block _ (by omega)),by omega⟩
theorem keeps_one {w w':World} {o:Obj} {B:Nat} (hg:Below (w.heap.size + 1) (w.alloc o) w') (hB:B ≤ w.heap.size):Keeps B w w' :=
 ((Keeps.refl w).alloc hB o).trans (Keeps.of_below (hg.mono (by omega)))
theorem below_one {w w':World} {o:Obj} (hg:Below (w.heap.size + 1) (w.alloc o) w'):Below w.heap.size w w' :=
 ((Below.refl _ _).alloc (Nat.le_refl _) _).trans (hg.mono (by omega))
end Go.Proofs.YtaehbgppfahdeaaGreat

namespace Go.Proofs.YtaehbgppfahdeaaGreat
open Go.RowKit Go.Maps
theorem PhisR.more' {w:World} {B B':Nat} {v:Value} {ps:List PhiM} (h:PhisR w B v ps) (hB:B ≤ B'):PhisR w B' v ps:=by
 obtain ⟨A,c,rfl,hm,h⟩:=h
 refine ⟨A,c,rfl,hm,fun k p hp => ?_⟩
 obtain ⟨b,off,fv,vv,rfl,hb,h0,h1,h2,h3,hf,hv,r⟩:=h k p hp
 exact ⟨b,off,fv,vv,rfl,by omega,h0,h1,h2,h3,hf.more hB,hv.more hB,r⟩
theorem CodeR.more' {w:World} {B B':Nat} {v:Value} {xs:List InstrM} (h:CodeR w B v xs) (hB:B ≤ B'):CodeR w B' v xs:=by
 obtain ⟨A,c,rfl,hm,h⟩:=h
 refine ⟨A,c,rfl,hm,fun k p hp => ?_⟩
 obtain ⟨b,off,av,rfl,hb,h0,h1,h2,h3,hf,r⟩:=h k p hp
 exact ⟨b,off,av,rfl,by omega,h0,h1,h2,h3,hf.more hB,r⟩
theorem BlocksR.more' {w:World} {B B':Nat} {v:Value} {bs:List BlockM} (h:BlocksR w B v bs) (hB:B ≤ B'):BlocksR w B' v bs:=by
 obtain ⟨A,c,rfl,hm,h⟩:=h
 refine ⟨A,c,rfl,hm,fun k q hq => ?_⟩
 obtain ⟨b,off,pv,cv,tv,rfl,hb,h0,h1,h2,h3,h4,h5,hp,hc,ht,r⟩:=h k q hq
 exact ⟨b,off,pv,cv,tv,rfl,by omega,h0,h1,h2,h3,h4,h5,hp.more' hB,hc.more' hB,ht.more hB,r⟩
def marks (n:Nat) (bg:List Nat):List Value:=(List.range n).map fun i => .bool (decide (i ∈ bg))
def natInts (l:List Nat):List Value:=l.map fun (x:Nat) => Value.int .i64 (x:Int)
theorem marks_at {n b:Nat} {bg:List Nat} (h:b < n):(marks n bg)[b]?=some (.bool (decide (b ∈ bg))):=by
 unfold marks
 rw [List.getElem?_map,List.getElem?_eq_getElem (by simpa using h)]
 simp
theorem marks_set {n b:Nat} {bg:List Nat}:(marks n bg).set b (.bool true)=marks n (b :: bg):=by
 unfold marks
 apply List.ext_getElem?
 intro i
 by_cases hi:i < n
 ·by_cases e:b=i
  ·subst e
   rw [List.getElem?_set_self (by simpa using hi),List.getElem?_eq_getElem (by simpa using hi)]
   simp
  ·rw [List.getElem?_set_ne e,List.getElem?_map,List.getElem?_map,List.getElem?_range hi]
   have e':¬ i=b:=fun h => e h.symm
   simp [e']
 ·rw [List.getElem?_eq_none (by simp;omega),List.getElem?_eq_none (by simp;omega)]
structure Dfs (N R n:Nat) (gr:Array Value) (bg dn:List Nat) (w:World):Prop where
 hR:N + 1 < R
 gb:w.heap[N]?=some (.cells gr 182 (0,0))
 row:w.ownsRow (N + 1) 4 1 (.slice (some ⟨N + 1,0,none⟩) n n) n (marks n bg)
 bb:w.heap[R]?=some (.cells #[.slice (some ⟨N + 1,0,none⟩) n n] 91 (0,0))
 done:∃ v,w.heap[R + 1]?=some (.cells #[v] 22 (0,0)) ∧ w.ownsRow (R + 3) 3 1 v dn.length (natInts dn)
 vb:w.heap[R + 2]?=some (.cells #[.func (.func 166) #[] #[.pointer (some ⟨R,0,none⟩),.pointer (some ⟨N,0,none⟩),.pointer (some ⟨R + 2,0,none⟩),.pointer (some ⟨R + 1,0,none⟩)]] 221 (0,0))
theorem Dfs.size {N R n:Nat} {gr:Array Value} {bg dn:List Nat} {w:World} (h:Dfs N R n gr bg dn w):R + 2 < w.heap.size:=lt_of_block h.vb
theorem Dfs.mark {N R n b:Nat} {gr:Array Value} {bg dn:List Nat} {w:World} (h:Dfs N R n gr bg dn w):Dfs N R n gr (b :: bg) dn (w.setCell ⟨N + 1,b,none⟩ (.bool true)):=by
 have hs:=h.row.stored b (.bool true)
 have ho:∀ k,k ≠ N + 1 → (w.setCell ⟨N + 1,b,none⟩ (.bool true)).heap[k]?=w.heap[k]?:=fun k hk => heap_setCell_other w ⟨N + 1,b,none⟩ k _ hk
 obtain ⟨v,hv,hown⟩:=h.done
 have hR:=h.hR
 refine ⟨hR,(ho _ (by omega)).trans h.gb,?_,(ho _ (by omega)).trans h.bb,⟨v,(ho _ (by omega)).trans hv,?_⟩,(ho _ (by omega)).trans h.vb⟩
 ·have:=hs.1
  rwa [marks_set] at this
 ·refine hown.kept hs.2 ?_
  cases e:v.ownBlock with
  | none => exact .inl rfl
  | some k =>
   have:=(hown.lt k e).1
   exact .inr (by simp;omega)
theorem Dfs.push {N R n b:Nat} {gr:Array Value} {bg dn:List Nat} {w w3:World} {o:Obj} {v v':Value} (h:Dfs N R n gr bg dn w) (hd:w.ownsRow (R + 3) 3 1 v dn.length (natInts dn))
  (hown':w3.ownsRow (R + 3) 3 1 v' (dn.length + 1) (natInts dn ++ [.int .i64 (b:Int)])) (hg:(w.alloc o).grownBy w3 v.ownBlock) (hd3:w3.heap[R + 1]?=some (.cells #[v] 22 (0,0))) :
  Dfs N R n gr bg (dn ++ [b]) (w3.setCell ⟨R + 1,0,none⟩ v') ∧ Below N w (w3.setCell ⟨R + 1,0,none⟩ v'):=by
 have hsz:=h.size
 have hne:∀ k,k < R + 3 → some k ≠ v.ownBlock:=fun k hk e => by have:=(hd.lt k e.symm).1;omega
 have hk:∀ k,k < R + 3 → w3.heap[k]?=w.heap[k]?:=fun k hk => by
  rw [hg.block k (by simp;omega) (hne k hk),Below.heap_alloc _ _ _ (by omega)]
 have ho:∀ k,k < R + 3 → k ≠ R + 1 → (w3.setCell ⟨R + 1,0,none⟩ v').heap[k]?=w.heap[k]?:=fun k h1 h2 =>
  (heap_setCell_other w3 ⟨R + 1,0,none⟩ k _ h2).trans (hk k h1)
 have hR:=h.hR
 refine ⟨⟨hR,(ho _ (by omega) (by omega)).trans h.gb,?_,(ho _ (by omega) (by omega)).trans h.bb,⟨v',by simpa using one_setCell hd3,?_⟩,(ho _ (by omega) (by omega)).trans h.vb⟩,?_⟩
 ·have h1:=(h.row.alloc o).kept hg (.inr (hne (N + 1) (by omega)))
  exact ownsRow_setCell_other h1 (by simp [Value.ownBlock];omega) _
 ·have h1:=ownsRow_setCell_other hown' (a:=⟨R + 1,0,none⟩) (by
   intro e
   have:=(hown'.lt _ e).1
   simp at this) v'
  simpa [natInts] using h1
 ·refine (Below.grown ((Below.refl _ _).alloc (by omega) _) hg (by simp;omega) (fun j hj => ?_)).setCell (by simp;omega) _
  have:=(hd.lt j hj).1
  omega
theorem done_block {R k:Nat} {w w1:World} {o:Obj} {v:Value} {xs:List Value} (hd:w.heap[R + 1]?=some (.cells #[v] 22 (0,0))) (ho:w.ownsRow (R + 3) 3 1 v k xs) (hg:(w.alloc o).grownBy w1 v.ownBlock) :
  w1.heap[R + 1]?=some (.cells #[v] 22 (0,0)):=by
 have hl:=lt_of_block hd
 rw [hg.block (R + 1) (by simp;omega) (fun e => by have:=(ho.lt _ e.symm).1;omega),Below.heap_alloc _ _ _ hl]
 exact hd
theorem visit_range {succ:Nat → List Nat} {n:Nat} (hs:∀ b,∀ y ∈ succ b,y < n) {l:List Nat} {s s':List Nat × List Nat} (h:Visit succ l s s'):(∀ x ∈ l,x < n) → (∀ x ∈ s.1,x < n) → ∀ x ∈ s'.1,x < n:=by
 induction h with
 | nil => exact fun _ h => h
 | skip _ _ ih => exact fun hl h => ih (fun x hx => hl x (List.mem_cons_of_mem _ hx)) h
 | @go t r bg dn bg1 dn1 s h _ _ ih1 ih2 =>
  intro hl hb
  refine ih2 (fun x hx => hl x (List.mem_cons_of_mem _ hx)) (ih1 (hs t) fun x hx => ?_)
  rcases List.mem_cons.1 hx with rfl | hx
  ·exact hl _ (List.mem_cons_self ..)
  ·exact hb x hx
def EndsIn (bs:List BlockM):Prop:=∀ q ∈ bs,∀ t ∈ q.term.to,0 ≤ t ∧ t < bs.length
theorem EndsIn.succ {bs:List BlockM} (h:EndsIn bs):∀ b,∀ y ∈ succM bs b,y < bs.length:=by
 intro b y hy
 unfold succM at hy
 split at hy
 ·rename_i q hq
  obtain ⟨t,ht,rfl⟩:=List.mem_map.1 hy
  have:=h q (List.mem_of_getElem? hq) t ht
  omega
 ·cases hy
def VisitPost (bs:List BlockM) (N R n:Nat) (gr:Array Value) (bg dn:List Nat) (b:Nat) (w:World) (e:Ending) (w':World):Prop :=
 ∃ bg' dn',e=.returned (.tuple #[]) ∧ Visit (succM bs) (succM bs b) (b :: bg,dn) (bg',dn') ∧ Dfs N R n gr bg' (dn' ++ [b]) w' ∧ Below N w w'
set_option maxRecDepth 100000 in
set_option maxHeartbeats 2000000 in
theorem visit_any (bs:List BlockM) (N R:Nat) (pv av cv bv:Value) (hn5:bs.length ≤ 512) (hin:EndsIn bs) :
  ∀ (k:Nat) (bg dn:List Nat) (b:Nat) (w:World),bs.length ≤ bg.length + k → bg.Nodup → (∀ x ∈ bg,x < bs.length) → dn.length ≤ bg.length → b < bs.length → b ∉ bg → BlocksR w N bv bs → Dfs N R bs.length #[pv,av,cv,bv] bg dn w →
  Calls Tryz.prog 166 #[.int .i64 b,.pointer (some ⟨R,0,none⟩),.pointer (some ⟨N,0,none⟩),.pointer (some ⟨R + 2,0,none⟩),.pointer (some ⟨R + 1,0,none⟩)] w (VisitPost bs N R bs.length #[pv,av,cv,bv] bg dn b w):=by
 intro k
 induction k with
 | zero =>
  intro bg dn b w hk hnd hlt _ hb hf
  have:=fresh_len hnd hlt hb hf
  omega
 | succ k ih =>
  intro bg dn b w hk hnd hlt hdl hb hf hbl hD
  have HIH:=hideI ih
  have HIN:=hideI hin
  have HND:=hideI hnd
  have HLT:=hideI hlt
  have HF:=hideI hf
  have HBL:=hideI hbl
  have HD:=hideI hD
  obtain ⟨q,hq⟩:∃ q,bs[b]?=some q:=⟨_,List.getElem?_eq_getElem hb⟩
  obtain ⟨A,c,rfl,hbm,hbx⟩:=hbl
  obtain ⟨ab,off,pq,cq,tv,rfl,hab,x0,x1,x2,x3,x4,x5,_,_,htv,_⟩:=hbx b q hq
  have HTV:=hideI htv
  have HQ:=hideI hq
  have HSU:Hid (succM bs b=q.term.to.map Int.toNat):=by show _=_;unfold succM;rw [hq]
  have hgb:=row_cells hD.gb rfl
  have g3:=hgb 3
  have hbb:=cell_of_one hD.bb
  have hmk:w.cell? ⟨N + 1,b,none⟩=some (.bool false):=by
   rw [World.ownsRow.cellAt hD.row b (by omega),marks_at hb]
   simp [hf]
  have hmf:w.frozen? ⟨N + 1,b,none⟩=false:=World.ownsRow.frozenAt hD.row b
  have hne1:ab ≠ N + 1:=by omega
  obtain ⟨TA,tc,rfl,htm,_⟩:=htv
  obtain ⟨m,hm⟩:∃ m,m=q.term.to.length:=⟨_,rfl⟩
  have HW1:=hideI (hD.mark (b:=b))
  have HM:=hideI hm
  rw [← hm] at x4 htm
  clear ih hin hnd hlt hf hD hbx hq hgb x0 x1 x2 x3 x5 hm
  go_enter Tryz.func166,Tryz.ntmps166
  go_wp2
  obtain ⟨wm,hwm⟩:∃ wm:World,wm=w.setCell ⟨N + 1,b,none⟩ (.bool true):=⟨_,rfl⟩
  have HBM:Hid (Below N w wm):=by rw [hwm];exact (Below.refl N w).setCell (by simp) _
  rw [← hwm] at HW1 ⊢
  clear hwm g3 hbb hmk hmf x4
  go_loopw [20] (fun u wr => ∃ (i:Nat) (bgi dni:List Nat),i ≤ m ∧ u=.int .i64 i ∧ Hid (Visit (succM bs) ((q.term.to.map Int.toNat).take i) (b :: bg,dn) (bgi,dni)) ∧ Hid (Dfs N R bs.length #[pv,av,cv,.slice (some ⟨ab,off,none⟩) bs.length c] bgi dni wr) ∧ Hid (Below N w wr)) (fun u _ => m - (intOf u).toNat)
  case atStart => exact ⟨0,b :: bg,dn,Nat.zero_le _,rfl,by exact hideI (.nil _),HW1,HBM⟩
  case round =>
   obtain ⟨i,bgi,dni,hi,rfl,HV,HDr,HBr⟩:=hrel
   obtain ⟨new,hdid⟩:=HV.out.did
   have hndi:bgi.Nodup:=hdid.keepsNodup (List.nodup_cons.2 ⟨HF.out,HND.out⟩)
   have hleni:bgi.length=bg.length + 1 + new.length:=hdid.len
   have hdni:dni.length=dn.length + new.length:=by have:=hdid.done;simp only at this;rw [this,List.length_append]
   have hlti:∀ x ∈ bgi,x < bs.length:=visit_range HIN.out.succ HV.out (fun x hx => HIN.out.succ b x (by rw [HSU.out];exact List.mem_of_mem_take hx)) (fun x hx => by
    rcases List.mem_cons.1 hx with rfl | hx
    ·exact hb
    ·exact HLT.out x hx)
   have hlb:bg.length + 1 ≤ bgi.length:=by omega
   have hdb0:dni.length ≤ bgi.length:=by omega
   have HNDI:=hideI hndi
   have HLTI:=hideI hlti
   have hbgl:=below_len _ _ hndi hlti
   have hbb:=cell_of_one HDr.out.bb
   clear hdid hndi hlti hleni hdni
   by_cases hlt:i < m
   ·obtain ⟨t,ht⟩:∃ t,q.term.to[i]?=some t:=⟨_,List.getElem?_eq_getElem (by rw [HM.out] at hlt;exact hlt)⟩
    have htn:=HIN.out q (List.mem_of_getElem? HQ.out) t (List.mem_of_getElem? ht)
    obtain ⟨tn,rfl⟩:∃ tn:Nat,t=(tn:Int):=⟨t.toNat,by omega⟩
    have htl:tn < bs.length:=by omega
    have htk:Hid ((q.term.to.map Int.toNat).take (i + 1)=(q.term.to.map Int.toNat).take i ++ [tn]):=by
     show _=_
     rw [List.take_add_one,List.getElem?_map,ht]
     rfl
    obtain ⟨TA',tc',e0,_,hxx⟩:=HTV.out.keep HBr.out
    cases e0
    obtain ⟨tb,toff,rfl,htb,hcell⟩:=hxx i (by rw [← HM.out];exact hlt)
    rw [ht] at hcell
    simp only [Option.getD_some] at hcell
    have hmk:wr.cell? ⟨N + 1,tn,none⟩=some (.bool (decide (tn ∈ bgi))):=by rw [World.ownsRow.cellAt HDr.out.row tn (by omega),marks_at htl]
    clear hxx ht htn
    by_cases hin2:tn ∈ bgi
    ·have HIN2:=hideI hin2
     rw [show decide (tn ∈ bgi)=true from by simpa using hin2] at hmk
     clear hin2
     go_wp2
     go_roundw
     case rel => exact ⟨i + 1,bgi,dni,by omega,by go_num,by rw [htk.out];exact hideI (HV.out.append (.skip HIN2.out (.nil _))),HDr,HBr⟩
     case measure => simp [intOf];omega
    ·have HIN2:=hideI hin2
     rw [show decide (tn ∈ bgi)=false from by simpa using hin2] at hmk
     have hvb:=cell_of_one HDr.out.vb
     have HC:=hideI (HIH.out bgi dni tn wr (by omega) HNDI.out HLTI.out (by omega) htl HIN2.out (HBL.out.keeps (Keeps.of_below HBr.out)) HDr.out)
     clear hin2
     go_wp2_with (go_at_call 166;refine HC.out.mono ?_;rintro e w2 ⟨bg2,dn2,rfl,hv2,hd2,hb2⟩;have HV2:=hideI hv2;have HD2:=hideI hd2;have HB2:=hideI hb2;clear hv2 hd2 hb2)
     go_roundw
     case rel => exact ⟨i + 1,bg2,dn2 ++ [tn],by omega,by go_num,by rw [htk.out];exact hideI (HV.out.append (.go HIN2.out HV2.out (.nil _))),HD2,hideI (HBr.out.trans HB2.out)⟩
     case measure => simp [intOf];omega
   ·obtain ⟨v,hdv,hown⟩:=HDr.out.done
    have hdb:=cell_of_one hdv
    have HDV:=hideI hdv
    have HOWN:=hideI hown
    have hsz:=HDr.out.size
    obtain ⟨i0,hix,hz0,hz1,hz2⟩:=info_parts int_info
    have hall:(q.term.to.map Int.toNat).take i=succM bs b:=by rw [HSU.out,List.take_of_length_le (by rw [List.length_map,← HM.out];omega)]
    rw [hall] at HV
    clear hdv hall
    go_wp2_with (at_builtin;go_must (refine wpList_append_lies _ rfl _ _ _ rfl (R + 3) 3 i0 (.int .i64 0) 1 8 Tryz.underlying22 hix hz0 hz1 hz2 rfl (by decide) _ _ _ rfl (HOWN.out.alloc _) ⟨wr.heap.size,0,none⟩ 1 1 [.int .i64 b] rfl rfl (one_new wr _) (by simp [Value.oneCell']) (by decide) (by simp only [maxLen];omega) (by omega) (by simp;omega) _ rfl ?_);intro g1 cap1 w1 hown1 hgrow1 _ _;have HO1:=hideI hown1;have HG1:=hideI hgrow1;have HD1:=hideI (done_block HDV.out HOWN.out hgrow1);clear hown1 hgrow1;have hdb1:=free_of_one HD1.out;have hdc1:=cell_of_one HD1.out)
    go_end0
    have hp:=HDr.out.push HOWN.out HO1.out HG1.out HD1.out
    exact ⟨bgi,dni,rfl,HV.out,hp.1,HBr.out.trans hp.2⟩
end Go.Proofs.YtaehbgppfahdeaaGreat

namespace Go.Proofs.YtaehbgppfahdeaaGreat
open Go.RowKit
theorem zero111:Tryz.zeroCells300=Array.replicate 512 (Value.bool false):=by kernel_rfl
def SeenIs (w:World) (S:Nat) (seen:List Int):Prop :=
 ∃ cs:Array Value,w.heap[S]?=some (.cells cs 300 (0,0)) ∧ cs.size=512 ∧ ∀ i:Nat,i < 512 → cs[i]?=some (.bool (seen.contains (i:Int)))
theorem SeenIs.cell {w:World} {S:Nat} {seen:List Int} (h:SeenIs w S seen) (m:Nat) (hm:m < 512):w.cell? ⟨S,m,none⟩=some (.bool (seen.contains (m:Int))):=by
 obtain ⟨cs,hc,hs,h⟩:=h
 rw [cell_of_row w S m cs 300 (0,0) hc]
 exact h m hm
theorem SeenIs.free {w:World} {S:Nat} {seen:List Int} (h:SeenIs w S seen) (m:Nat):w.frozen? ⟨S,m,none⟩=false:=by
 obtain ⟨cs,hc,hs,h⟩:=h
 simp [World.frozen?,hc]
theorem SeenIs.set_ {w:World} {S:Nat} {seen:List Int} (h:SeenIs w S seen) (m:Nat) (hm:m < 512):SeenIs (w.setCell ⟨S,m,none⟩ (.bool true)) S ((m:Int) :: seen):=by
 obtain ⟨cs,hc,hs,h⟩:=h
 refine ⟨cs.setIfInBounds m (.bool true),?_,by simp [hs],fun i hi => ?_⟩
 ·simp [World.setCell,Array.getElem?_modify,hc]
 ·rw [Array.getElem?_setIfInBounds]
  by_cases e:m=i
  ·subst e;simp [hs,hm]
  ·have e':((i:Int) == (m:Int))=false:=by simp;omega
   rw [if_neg e,h i hi,List.contains_cons,e',Bool.false_or]
theorem seen_new (w:World):SeenIs (w.alloc (.cells Tryz.zeroCells300 300)) w.heap.size []:=by
 refine ⟨_,heap_alloc_new w _,by rw [zero111];simp,fun i hi => ?_⟩
 rw [zero111]
 simp [hi]
theorem once_step (nb:Nat) (seen:List Int) (to:List Int) (k:Nat) (h:k < to.length) (x:Int) (hx:to[k]?.getD 0=x) :
  onceB nb seen (to.drop k)=(withinB x 0 (nb - 1) && !(seen.contains x) && onceB nb (x :: seen) (to.drop (k + 1))):=by
 rw [List.drop_eq_getElem_cons h]
 rw [getD_of h] at hx
 rw [hx]
 rfl
theorem once_no (nb:Nat) (seen to:List Int) (k:Nat) (h:k < to.length) (x:Int) (hx:to[k]?.getD 0=x) (hf:withinB x 0 (nb - 1)=false ∨ seen.contains x=true) :
  onceB nb seen (to.drop k)=false:=by
 rw [once_step nb seen to k h x hx]
 rcases hf with e | e <;> rw [e] <;> simp
theorem once_yes (nb:Nat) (seen to:List Int) (k:Nat) (h:k < to.length) (x:Int) (hx:to[k]?.getD 0=x) (h1:withinB x 0 (nb - 1)=true) (h2:seen.contains x=false) :
  onceB nb seen (to.drop k)=onceB nb (x :: seen) (to.drop (k + 1)):=by
 rw [once_step nb seen to k h x hx,h1,h2]
 simp
theorem within_bd {x a b:Int} (h:withinB x a b=true):a ≤ x ∧ x ≤ b:=by
 unfold withinB at h
 simpa using h
theorem says_below {b b':Bool} {w wr:World} {o:Obj} (h:b=b') (hb:Below (w.heap.size + 1) (w.alloc o) wr):Says b' w (.returned (.bool b)) wr:=by
 subst h
 exact ⟨rfl,((Below.refl _ _).alloc (Nat.le_refl _) _).trans (hb.mono (by omega))⟩
set_option maxHeartbeats 400000 in
theorem once_any (pv mv av cv:Value) (A:Option Addr) (nb c:Nat) (tv:Value) (to:List Int) (w:World) (hI:Ints w w.heap.size tv to) (h1:1 ≤ nb) (h2:nb ≤ 512) :
  Calls Tryz.prog 228 #[.agg #[pv,av,cv,.slice A nb c,mv],tv] w (Says (onceB nb [] to) w):=by
 obtain ⟨T,ct,rfl,hm,hx⟩:=hI
 have Hx:=hideI hx
 clear hx
 go_enter Tryz.func228,Tryz.ntmps228
 go_wp2
 go_loopw [10] (fun i wr => ∃ (k:Nat) (seen:List Int),k ≤ to.length ∧ i=.int .i64 k ∧ onceB nb [] to=onceB nb seen (to.drop k) ∧ SeenIs wr (w.heap.size + 1) seen ∧ Below (w.heap.size + 1) (w.alloc (.cells #[pv,av,cv,.slice A nb c,mv] 129)) wr) (fun i _ => to.length - (intOf i).toNat)
 case atStart =>
  refine ⟨0,[],Nat.zero_le _,rfl,rfl,?_,(Below.refl _ _).alloc (by simp) _⟩
  have h:=seen_new (w.alloc (.cells #[pv,av,cv,.slice A nb c,mv] 129))
  simpa using h
 case round =>
  obtain ⟨k,seen,hk,rfl,ht,hS,hB⟩:=hrel
  have HT:=hideI ht
  have HB:=hideI hB
  have HS:=hideI hS
  have hbx:wr.cell? ⟨w.heap.size,3,none⟩=some (.slice A nb c):=by
   rw [hB.cell (p:=⟨w.heap.size,3,none⟩) (by simp),cell_of_row _ _ _ _ _ _ (heap_alloc_new w _)]
   rfl
  clear ht hB hS
  by_cases hlt:k < to.length
  ·obtain ⟨b,off,rfl,hb,hc0⟩:=Hx.out k hlt
   have hc:wr.cell? ⟨b,off + k,none⟩=some (.int .i64 (to[k]?.getD 0)):=by
    rw [HB.out.cell (p:=⟨b,off + k,none⟩) (by simp;omega),World.cell?_alloc_lt _ _ _ (by simpa using hb),hc0]
   obtain ⟨x,hxk⟩:∃ x,to[k]?.getD 0=x:=⟨_,rfl⟩
   rw [hxk] at hc
   have HX:=hideI hxk
   clear hxk hc0
   have hsz:wr.heap.size=wr.heap.size:=rfl
   cases hw:withinB x 0 (nb - 1)
   ·go_wp2_with (go_at_call 200;refine (within_any _ _ _ _).mono ?_;rintro e w' ⟨rfl,rfl⟩)
    go_ret
    exact says_below (by rw [HT.out];exact (once_no nb seen to k hlt x HX.out (.inl hw)).symm) HB.out
   ·obtain ⟨m,rfl⟩:∃ m:Nat,x=m:=⟨x.toNat,by have:=within_bd hw;omega⟩
    have hm5:m < 512:=by have:=within_bd hw;omega
    have hcs:=HS.out.cell m hm5
    have hfs:=HS.out.free m
    cases hsn:seen.contains (m:Int)
    ·rw [hsn] at hcs
     go_wp2_with (go_at_call 200;refine (within_any _ _ _ _).mono ?_;rintro e w' ⟨rfl,rfl⟩)
     go_roundw
     case rel => exact ⟨k + 1,(m:Int) :: seen,by omega,by go_num,by rw [HT.out];exact once_yes nb seen to k hlt _ HX.out hw hsn,HS.out.set_ m hm5,HB.out.setCell (by simp) _⟩
     case measure => simp [intOf];omega
    ·rw [hsn] at hcs
     go_wp2_with (go_at_call 200;refine (within_any _ _ _ _).mono ?_;rintro e w' ⟨rfl,rfl⟩)
     go_ret
     exact says_below (by rw [HT.out];exact (once_no nb seen to k hlt _ HX.out (.inr hsn)).symm) HB.out
  ·go_wp2
   go_ret
   exact says_below (by rw [HT.out,List.drop_of_length_le (by omega)];rfl) HB.out
end Go.Proofs.YtaehbgppfahdeaaGreat

namespace Go.Proofs.YtaehbgppfahdeaaGreat
open Go.RowKit Go.Maps
theorem bcell {B:Nat} {W w1:World} (hb:Below B W w1):(∀ b o,b < B → w1.cell? ⟨b,o,none⟩=W.cell? ⟨b,o,none⟩) ∧ (∀ b o,b < B → w1.frozen? ⟨b,o,none⟩=W.frozen? ⟨b,o,none⟩) :=
 ⟨fun b o h => hb.cell (p:=⟨b,o,none⟩) h,fun b o h => hb.frozen (p:=⟨b,o,none⟩) h⟩
theorem below_grown {B:Nat} {w w':World} {M:Nat} (h:Below B w w') (hB:B=w.heap.size):w.grownBy w' (some M) :=
 ⟨h.os,h.tape,h.output,h.size,fun k hk _ => h.block k (by omega)⟩
theorem MapIs.below {w w':World} {M B:Nat} {ds:Defs} (h:MapIs w M ds) (hb:Below B w w') (hM:M < B):MapIs w' M ds:=by
 obtain ⟨D,⟨es,clock,hg,r⟩,q⟩:=h
 exact ⟨D,⟨es,clock,(hb.block M hM).trans hg,r⟩,q⟩
theorem MapIs.alloc {w:World} {M:Nat} {ds:Defs} (h:MapIs w M ds) (o:Obj):MapIs (w.alloc o) M ds:=h.below ((Below.refl w.heap.size w).alloc (Nat.le_refl _) o) h.lt
theorem Ints.alloc {w:World} {B:Nat} {v:Value} {xs:List Int} (h:Ints w B v xs) (hB:B ≤ w.heap.size) (o:Obj):Ints (w.alloc o) B v xs:=h.keep ((Below.refl B w).alloc hB o)
theorem phiStep_no {f:FuncM} {ds:Defs} {p:PhiM} (h:phiB f p=false):phiStep f ds p=none:=by
 unfold phiStep
 rw [h]
 rfl
theorem phiStep_ok {f:FuncM} {ds:Defs} {p:PhiM} (h:phiB f p=true):phiStep f ds p=addDef f.params.length ds p.id p.typ:=by
 unfold phiStep
 rw [h]
 rfl
theorem defines_box2 {M:Nat} {w:World} {r:Option Defs} {o o2:Obj} (h:r=none):Defines r M w (.returned (.bool false)) ((w.alloc o).alloc o2):=by
 subst h
 exact ⟨rfl,(World.grownBy_alloc _ _ _).trans_grown (World.grownBy_alloc _ _ _),by simp⟩
theorem defines_after {M:Nat} {w w1:World} {r:Option Defs} {o o2:Obj} (h:r=none) (hb:Below ((w.alloc o).alloc o2).heap.size ((w.alloc o).alloc o2) w1):Defines r M w (.returned (.bool false)) w1:=by
 subst h
 exact ⟨rfl,((World.grownBy_alloc _ _ _).trans_grown (World.grownBy_alloc _ _ _)).trans_grown (below_grown hb rfl),by simp⟩
theorem len_ne {a b:Nat} (h:((a:Int) == b)=false):(a == b)=false:=beq_eq_false_iff_ne.2 fun e => by rw [e] at h;simp at h
theorem len_eq {a b:Nat} (h:((a:Int) == b)=true):(a == b)=true:=beq_iff_eq.2 (by have:=beq_iff_eq.1 h;omega)
set_option maxHeartbeats 1000000 in
theorem phi_any (f:FuncM) (p:PhiM) (ds:Defs) (P A:Option Addr) (pc c M B:Nat) (frv vav:Value) (w:World) (hfr:Ints w B frv p.fr) (hva:Ints w B vav p.vals) (hBM:B ≤ M) (hM:MapIs w M ds)
  (hn:ds.length < 100000) (hi:I64 p.id) (ht:I64 p.typ) (h1:1 ≤ f.blocks.length) (h2:f.blocks.length ≤ 512) :
  Calls Tryz.prog 202 #[.agg #[.slice P f.params.length pc,.int .i64 f.arrays,.int .i64 f.cells,.slice A f.blocks.length c,.map (some M)],.agg #[.int .i64 p.id,.int .i64 p.typ,frv,vav]] w (Defines (phiStep f ds p) M w):=by
 have hMl:=hM.lt
 have HM:=hideI hM
 have HF:=hideI hfr
 have HI:=hideI hi
 have HT:=hideI ht
 obtain ⟨FA,fc,hfv,hfm,_⟩:=hfr
 obtain ⟨VA,vc,hvv,hvm,_⟩:=hva
 subst hfv hvv
 clear hM hi ht
 cases c1:isTypeB p.typ
 ·have HC:=hideI c1
  go_enter Tryz.func202,Tryz.ntmps202
  go_wp2_with (go_at_call 201;refine (isType_any _ _).mono ?_;rintro e w' ⟨rfl,rfl⟩)
  go_ret
  exact defines_box2 (phiStep_no (by unfold phiB;rw [HC.out];rfl))
 have HC:=hideI c1
 cases c2:((p.vals.length:Int) == p.fr.length)
 ·have HC2:=hideI c2
  go_enter Tryz.func202,Tryz.ntmps202
  go_wp2_with (go_at_call 201;refine (isType_any _ _).mono ?_;rintro e w' ⟨rfl,rfl⟩)
  go_ret
  exact defines_box2 (phiStep_no (by unfold phiB;rw [len_ne HC2.out];simp))
 have HC2:=hideI c2
 cases c3:onceB f.blocks.length [] p.fr
 ·have HC3:=hideI c3
  go_enter Tryz.func202,Tryz.ntmps202
  go_wp2_with (first
   | (go_at_call 201;refine (isType_any _ _).mono ?_;rintro e w' ⟨rfl,rfl⟩)
   | (go_at_call 228;refine (once_any _ _ _ _ _ _ _ _ _ _ (((HF.out.alloc (by omega) _).alloc (by simp;omega) _).more (by simp;omega)) h1 h2).mono ?_;rintro e w1 ⟨rfl,hb1⟩))
  go_ret
  exact defines_after (phiStep_no (by unfold phiB;rw [HC3.out];simp)) hb1
 ·have HC3:=hideI c3
  go_enter Tryz.func202,Tryz.ntmps202
  go_wp2_with (first
   | (go_at_call 201;refine (isType_any _ _).mono ?_;rintro e w' ⟨rfl,rfl⟩)
   | (go_at_call 228;refine (once_any _ _ _ _ _ _ _ _ _ _ (((HF.out.alloc (by omega) _).alloc (by simp;omega) _).more (by simp;omega)) h1 h2).mono ?_;rintro e w1 ⟨rfl,hb1⟩;obtain ⟨hcl,hfl⟩:=bcell hb1;have HB1:=hideI hb1;clear hb1)
   | (go_at_call 229;refine (define_any _ _ _ _ _ _ M ds _ _ _ (((HM.out.alloc _).alloc _).below HB1.out (by simp;omega)) hn HI.out HT.out).mono ?_;rintro e w2 ⟨rfl,hg2,hm2⟩))
  go_ret
  rw [phiStep_ok (by unfold phiB;rw [HC.out,len_eq HC2.out,HC3.out];rfl)]
  exact ⟨rfl,(((World.grownBy_alloc _ _ _).trans_grown (World.grownBy_alloc _ _ _)).trans_grown (below_grown HB1.out rfl)).trans_grown hg2,hm2⟩
end Go.Proofs.YtaehbgppfahdeaaGreat
