/- What CanonChecks rests on, part 1: Spec, Base, Ints, Maps, Reads, Small, Define, Law, Open, Tags, Shape, Args, RefArgs. -/
import Derived.Test.YtikogmpibkefdaaGreatRows
import GoSem.ClaimWide
import Derived.WalkKit
import Derived.WalkSpells
import Derived.WalkLawsBesides
import Derived.Deep.QuietTactic
import Derived.BigQuiet
import Derived.Maps.Own
import Derived.Maps.OwnOps
import Derived.Maps.OwnSet
import Derived.Maps.Views
import Derived.ProofKit
import Derived.OpenShut
import Derived.SizedLaws
import Derived.Deep.Slices
import Derived.Deep.AppendLies
import Derived.Deep.Onto

namespace Go.Proofs.YtikogmpibkefdaaGreat
structure PhiM where
 id:Int
 typ:Int
 fr:List Int
 vals:List Int
structure InstrM where
 op:Int
 id:Int
 args:List Int
 n:Int
structure TermM where
 op:Int
 val:Int
 to:List Int
 n:Int
structure BlockM where
 phis:List PhiM
 code:List InstrM
 term:TermM
structure FuncM where
 params:List Int
 arrays:Int
 cells:Int
 blocks:List BlockM
def shapeS (op:Int):List UInt8 × Int × Int × Bool :=
 if op=1 then ([],1,1,true) else
 if op=2 then ([],2,2,true) else
 if 3 ≤ op ∧ op ≤ 12 then ([73,73],1,0,true) else
 if 13 ≤ op ∧ op ≤ 15 then ([73,73],2,0,true) else
 if op=16 then ([66],2,0,true) else
 if op=17 then ([66,73,73],1,0,true) else
 if op=18 then ([],1,3,true) else
 if op=19 ∨ op=21 then ([73],1,3,true) else
 if op=20 ∨ op=22 then ([73,73],0,3,true) else
 if op=23 then ([73],0,0,true) else
 if op=24 then ([],1,4,true) else
 if op=25 then ([73],0,4,true) else ([],0,0,false)
theorem op_cases (op:Int):(op=1 ∨ op=2 ∨ op=3 ∨ op=4 ∨ op=5 ∨ op=6 ∨ op=7 ∨ op=8 ∨ op=9 ∨ op=10 ∨ op=11 ∨ op=12 ∨ op=13) ∨
  (op=14 ∨ op=15 ∨ op=16 ∨ op=17 ∨ op=18 ∨ op=19 ∨ op=20 ∨ op=21 ∨ op=22 ∨ op=23 ∨ op=24 ∨ op=25) ∨ (op < 1 ∨ 25 < op):=by omega
theorem shapeS_none {op:Int} (h:op < 1 ∨ 25 < op):shapeS op=([],0,0,false):=by
 unfold shapeS
 rw [if_neg (by omega),if_neg (by omega),if_neg (by omega),if_neg (by omega),if_neg (by omega),if_neg (by omega),if_neg (by omega),if_neg (by omega),if_neg (by omega),if_neg (by omega),if_neg (by omega),if_neg (by omega)]
def takesS (op:Int):List Int:=(shapeS op).1.map fun c => if c=73 then 1 else 2
def makesS (op:Int):Int:=(shapeS op).2.1
def kindS (op:Int):Int:=(shapeS op).2.2.1
def isOp (op:Int):Bool:=(shapeS op).2.2.2
def withinB (n a b:Int):Bool:=decide (a ≤ n) && decide (n ≤ b)
def isTypeB (t:Int):Bool:=(t == 1) || (t == 2)
def sizeB (b:BlockM):Nat:=b.phis.length + b.code.length + 1
def sizeM (f:FuncM):Nat:=(f.blocks.map sizeB).sum
def limitsB (f:FuncM):Bool :=
 decide (f.params.length ≤ 16) && (withinB f.arrays 0 8 && (withinB f.cells 0 64 && (withinB f.blocks.length 1 512 && decide (sizeM f ≤ 4096))))
def onceB (nb:Nat):List Int → List Int → Bool
 | _,[] => true
 | seen,b :: r => withinB b 0 (nb - 1) && !(seen.contains b) && onceB nb (b :: seen) r
def targetsB (nb:Nat) (to:List Int):Bool:=to.all fun b => withinB b 1 (nb - 1)
def fitsB (f:FuncM) (op n:Int):Bool :=
 if op=1 then true else
 if op=2 then withinB n 0 1 else
 if kindS op=3 then withinB n 0 (f.arrays - 1) else
 if kindS op=4 then withinB n 0 (f.cells - 1) else n == 0
def phiB (f:FuncM) (p:PhiM):Bool:=isTypeB p.typ && (p.vals.length == p.fr.length && onceB f.blocks.length [] p.fr)
def instrB (f:FuncM) (x:InstrM):Bool:=isOp x.op && (x.args.length == (takesS x.op).length && fitsB f x.op x.n)
def termB (f:FuncM) (t:TermM):Bool :=
 targetsB f.blocks.length t.to &&
 (if t.op=1 then t.to.length == 1 && (t.val == -1 && t.n == 0) else
  if t.op=2 then t.to.length == 2 && t.n == 0 else
  if t.op=3 then t.to.length == 0 && t.n == 0 else
  if t.op=4 then t.to.length == 0 && (t.val == -1 && decide (0 ≤ t.n)) else false)
abbrev Defs:=List (Int × Int)
def Defs.at (ds:Defs) (id:Int):Option Int:=(ds.find? fun d => d.1 == id).map (·.2)
def defB (np:Nat) (ds:Defs) (id:Int):Bool:=!(ds.at id).isSome && withinB id np 1048575
def addDef (np:Nat) (ds:Defs) (id typ:Int):Option Defs:=if defB np ds id then some (ds ++ [(id,typ)]) else none
def phiStep (f:FuncM) (ds:Defs) (p:PhiM):Option Defs:=if phiB f p then addDef f.params.length ds p.id p.typ else none
def instrStep (f:FuncM) (ds:Defs) (x:InstrM):Option Defs :=
 if instrB f x then (if makesS x.op=0 then (if x.id=-1 then some ds else none) else addDef f.params.length ds x.id (makesS x.op)) else none
def phisStep (f:FuncM):Defs → List PhiM → Option Defs
 | ds,[] => some ds
 | ds,p :: r => (phiStep f ds p).bind fun d => phisStep f d r
def codeStep (f:FuncM):Defs → List InstrM → Option Defs
 | ds,[] => some ds
 | ds,x :: r => (instrStep f ds x).bind fun d => codeStep f d r
def blockStep (f:FuncM) (ds:Defs) (b:BlockM):Option Defs :=
 (phisStep f ds b.phis).bind fun d => (codeStep f d b.code).bind fun d2 => if termB f b.term then some d2 else none
def blocksStep (f:FuncM):Defs → List BlockM → Option Defs
 | ds,[] => some ds
 | ds,b :: r => (blockStep f ds b).bind fun d => blocksStep f d r
def paramDefs:Nat → List Int → Defs
 | _,[] => []
 | k,t :: r => ((k:Int),t) :: paramDefs (k + 1) r
def formedM (f:FuncM):Option Defs :=
 if limitsB f && f.params.all isTypeB && (f.blocks.headD ⟨[],[],⟨0,0,[],0⟩⟩).phis.isEmpty then blocksStep f (paramDefs 0 f.params) f.blocks else none
def usesPhi (p:PhiM):List (Int × Int):=p.vals.map fun v => (v,p.typ)
def usesInstr (x:InstrM):List (Int × Int):=x.args.zip (takesS x.op)
def usesTerm (t:TermM):List (Int × Int):=if t.op=2 then [(t.val,2)] else if t.op=3 then [(t.val,0)] else []
def usesBlock (b:BlockM):List (Int × Int):=b.phis.flatMap usesPhi ++ (b.code.flatMap usesInstr ++ usesTerm b.term)
def usesM (f:FuncM):List (Int × Int):=f.blocks.flatMap usesBlock
def unknownB (ds:Defs) (us:List (Int × Int)):Bool:=us.any fun u => !(ds.at u.1).isSome
def unfitB (ds:Defs) (us:List (Int × Int)):Bool:=us.any fun u => match ds.at u.1 with | some t => u.2 != 0 && t != u.2 | none => false
def lookM (f:FuncM):Int × Defs :=
 match formedM f with
 | none => (2,[])
 | some ds => if unknownB ds (usesM f) then (6,[]) else if unfitB ds (usesM f) then (3,[]) else (0,ds)
end Go.Proofs.YtikogmpibkefdaaGreat

namespace Go.Proofs.YtikogmpibkefdaaGreat
open Go.RowKit
theorem hideI {p:Prop} (h:p):Hid p:=h
theorem res4 {fn:Func} {t u v x:Tmp} (h:fn.results=#[.tmp t,.tmp u,.tmp v,.tmp x]) (tmps:Array Value) (P:Program) (w:World) :
  (results fn tmps).run P w=.ok (.tuple #[tmps.getD t undef,tmps.getD u undef,tmps.getD v undef,tmps.getD x undef]) w:=by
 simp [results,h]
end Go.Proofs.YtikogmpibkefdaaGreat

namespace Go.Proofs.YtikogmpibkefdaaGreat
open Go.RowKit
def Ints (w:World) (B:Nat) (v:Value) (xs:List Int):Prop :=
 ∃ A c,v=.slice A xs.length c ∧ xs.length ≤ 140737488351232 ∧ ∀ k,k < xs.length → ∃ b off,A=some ⟨b,off,none⟩ ∧ b < B ∧ w.cell? ⟨b,off + k,none⟩=some (.int .i64 (xs[k]?.getD 0))
theorem Ints.nil (w:World) (B:Nat):Ints w B (.slice none 0 0) []:=⟨none,0,rfl,by simp,fun k hk => by simp at hk⟩
theorem Ints.keep {w w':World} {B:Nat} {v:Value} {xs:List Int} (h:Ints w B v xs) (hk:Below B w w'):Ints w' B v xs:=by
 obtain ⟨A,c,rfl,hm,h⟩:=h
 refine ⟨A,c,rfl,hm,fun k hlt => ?_⟩
 obtain ⟨b,off,rfl,hb,hc⟩:=h k hlt
 exact ⟨b,off,rfl,hb,(hk.cell (p:=⟨b,off + k,none⟩) hb).trans hc⟩
theorem Ints.more {w:World} {B B':Nat} {v:Value} {xs:List Int} (h:Ints w B v xs) (hB:B ≤ B'):Ints w B' v xs:=by
 obtain ⟨A,c,rfl,hm,h⟩:=h
 exact ⟨A,c,rfl,hm,fun k hlt => by obtain ⟨b,off,e,hb,hc⟩:=h k hlt;exact ⟨b,off,e,by omega,hc⟩⟩
def sameTo (xs ys:List Int) (k:Nat):Bool:=(xs.take k) == (ys.take k)
end Go.Proofs.YtikogmpibkefdaaGreat

namespace Go.Proofs.YtikogmpibkefdaaGreat
open Go.RowKit Go.Maps
theorem lawInt:Keyed Tryz.prog 3:=int_keyed Tryz.underlying3
theorem zeroInt (w:World):(zeroValue 3).run Tryz.prog w=.ok (.int .i64 0) w:=by kernel_rfl
def I64 (x:Int):Prop:=(Lit.int .i64 x).wf=true
def MapIs (w:World) (M:Nat) (ds:Defs):Prop :=
 ∃ D:DataW Unit,w.ownsMap Tryz.prog 3 (plainElem Tryz.prog 3) M ds.length D ∧ IsMap D ∧ (∀ d ∈ ds,I64 d.1 ∧ I64 d.2) ∧ ∀ id z,D.atKey (.int .i64 id) z=match ds.at id with | some t => .lit (.int .i64 t) | none => z
theorem Defs.at_snoc (ds:Defs) (id typ k:Int):Defs.at (ds ++ [(id,typ)]) k=match ds.at k with | some t => some t | none => if k=id then some typ else none:=by
 unfold Defs.at
 rw [List.find?_append]
 cases h:List.find? (fun d => d.1 == k) ds with
 | some d => simp
 | none =>
  by_cases hk:k=id
  ·subst hk;simp
  ·simp [hk,show (id == k)=false from by simpa using fun e => hk e.symm]
theorem MapIs.lt {w:World} {M:Nat} {ds:Defs} (h:MapIs w M ds):M < w.heap.size:=by
 obtain ⟨D,h,_⟩:=h
 exact h.lt
theorem MapIs.has {ds:Defs} {D:DataW Unit} (h:∀ id z,D.atKey (.int .i64 id) z=match ds.at id with | some t => .lit (.int .i64 t) | none => z) (id:Int) :
  Go.Maps.has D (.int .i64 id)=(ds.at id).isSome:=by
 cases hd:ds.at id with
 | none => exact has_false_of_atKey (fun z => by rw [h,hd])
 | some t => exact has_true_of_atKey (y:=.lit (.int .i64 t)) (fun z => by rw [h,hd])
theorem MapIs.new (w:World):MapIs (w.alloc (.map #[] 0)) w.heap.size [] :=
 ⟨.map [],World.ownsMap_made _ _ _ _,⟨[],rfl⟩,by simp,fun id z => rfl⟩
end Go.Proofs.YtikogmpibkefdaaGreat

namespace Go.Proofs.YtikogmpibkefdaaGreat
open Go.RowKit
def PhisR (w:World) (B:Nat) (v:Value) (ps:List PhiM):Prop :=
 ∃ A c,v=.slice A ps.length c ∧ ps.length ≤ 140737488351232 ∧ ∀ k p,ps[k]?=some p → ∃ b off fv vv,A=some ⟨b,off,none⟩ ∧ b < B ∧
  w.cell? ⟨b,off + k * 4,none⟩=some (.int .i64 p.id) ∧ w.cell? ⟨b,off + k * 4 + 1,none⟩=some (.int .i64 p.typ) ∧ w.cell? ⟨b,off + k * 4 + 2,none⟩=some fv ∧ w.cell? ⟨b,off + k * 4 + 3,none⟩=some vv ∧
  Ints w B fv p.fr ∧ Ints w B vv p.vals ∧ I64 p.id ∧ I64 p.typ
def CodeR (w:World) (B:Nat) (v:Value) (xs:List InstrM):Prop :=
 ∃ A c,v=.slice A xs.length c ∧ xs.length ≤ 140737488351232 ∧ ∀ k x,xs[k]?=some x → ∃ b off av,A=some ⟨b,off,none⟩ ∧ b < B ∧
  w.cell? ⟨b,off + k * 4,none⟩=some (.int .i64 x.op) ∧ w.cell? ⟨b,off + k * 4 + 1,none⟩=some (.int .i64 x.id) ∧ w.cell? ⟨b,off + k * 4 + 2,none⟩=some av ∧ w.cell? ⟨b,off + k * 4 + 3,none⟩=some (.int .i64 x.n) ∧
  Ints w B av x.args ∧ I64 x.op ∧ I64 x.id ∧ I64 x.n
def BlocksR (w:World) (B:Nat) (v:Value) (bs:List BlockM):Prop :=
 ∃ A c,v=.slice A bs.length c ∧ bs.length ≤ 140737488351232 ∧ ∀ k q,bs[k]?=some q → ∃ b off pv cv tv,A=some ⟨b,off,none⟩ ∧ b < B ∧
  w.cell? ⟨b,off + k * 6,none⟩=some pv ∧ w.cell? ⟨b,off + k * 6 + 1,none⟩=some cv ∧ w.cell? ⟨b,off + k * 6 + 2,none⟩=some (.int .i64 q.term.op) ∧ w.cell? ⟨b,off + k * 6 + 3,none⟩=some (.int .i64 q.term.val) ∧
  w.cell? ⟨b,off + k * 6 + 4,none⟩=some tv ∧ w.cell? ⟨b,off + k * 6 + 5,none⟩=some (.int .i64 q.term.n) ∧
  PhisR w B pv q.phis ∧ CodeR w B cv q.code ∧ Ints w B tv q.term.to ∧ I64 q.term.op ∧ I64 q.term.val ∧ I64 q.term.n
section
variable {w w':World} {B:Nat} {v:Value}
def Keeps (B:Nat) (w w':World):Prop:=∀ b o,b < B → w'.cell? ⟨b,o,none⟩=w.cell? ⟨b,o,none⟩
theorem Keeps.of_below (h:Below B w w'):Keeps B w w':=fun b o hb => h.cell (p:=⟨b,o,none⟩) hb
theorem Keeps.of_grown {M:Nat} (h:w.grownBy w' (some M)) (hM:B ≤ M) (hB:B ≤ w.heap.size):Keeps B w w':=fun b o hb =>
 World.cell?_of_block (h.block b (by omega) (by simp;omega))
theorem Keeps.trans {w2:World} (h:Keeps B w w') (k:Keeps B w' w2):Keeps B w w2:=fun b o hb => (k b o hb).trans (h b o hb)
theorem Keeps.refl (w:World):Keeps B w w:=fun _ _ _ => rfl
theorem Keeps.alloc (h:Keeps B w w') (hB:B ≤ w'.heap.size) (o:Obj):Keeps B w (w'.alloc o):=fun b i hb => (World.cell?_alloc_lt w' o ⟨b,i,none⟩ (by simp;omega)).trans (h b i hb)
theorem Ints.keeps {xs:List Int} (h:Ints w B v xs) (hk:Keeps B w w'):Ints w' B v xs:=by
 obtain ⟨A,c,rfl,hm,h⟩:=h
 refine ⟨A,c,rfl,hm,fun k hlt => ?_⟩
 obtain ⟨b,off,rfl,hb,hc⟩:=h k hlt
 exact ⟨b,off,rfl,hb,(hk _ _ hb).trans hc⟩
theorem PhisR.keeps {ps:List PhiM} (h:PhisR w B v ps) (hk:Keeps B w w'):PhisR w' B v ps:=by
 obtain ⟨A,c,rfl,hm,h⟩:=h
 refine ⟨A,c,rfl,hm,fun k p hp => ?_⟩
 obtain ⟨b,off,fv,vv,rfl,hb,h0,h1,h2,h3,hf,hv,hi,ht⟩:=h k p hp
 exact ⟨b,off,fv,vv,rfl,hb,(hk _ _ hb).trans h0,(hk _ _ hb).trans h1,(hk _ _ hb).trans h2,(hk _ _ hb).trans h3,hf.keeps hk,hv.keeps hk,hi,ht⟩
theorem CodeR.keeps {xs:List InstrM} (h:CodeR w B v xs) (hk:Keeps B w w'):CodeR w' B v xs:=by
 obtain ⟨A,c,rfl,hm,h⟩:=h
 refine ⟨A,c,rfl,hm,fun k p hp => ?_⟩
 obtain ⟨b,off,av,rfl,hb,h0,h1,h2,h3,hf,r⟩:=h k p hp
 exact ⟨b,off,av,rfl,hb,(hk _ _ hb).trans h0,(hk _ _ hb).trans h1,(hk _ _ hb).trans h2,(hk _ _ hb).trans h3,hf.keeps hk,r⟩
theorem BlocksR.keeps {bs:List BlockM} (h:BlocksR w B v bs) (hk:Keeps B w w'):BlocksR w' B v bs:=by
 obtain ⟨A,c,rfl,hm,h⟩:=h
 refine ⟨A,c,rfl,hm,fun k p hp => ?_⟩
 obtain ⟨b,off,pv,cv,tv,rfl,hb,h0,h1,h2,h3,h4,h5,hp,hc,ht,r⟩:=h k p hp
 exact ⟨b,off,pv,cv,tv,rfl,hb,(hk _ _ hb).trans h0,(hk _ _ hb).trans h1,(hk _ _ hb).trans h2,(hk _ _ hb).trans h3,(hk _ _ hb).trans h4,(hk _ _ hb).trans h5,hp.keeps hk,hc.keeps hk,ht.keeps hk,r⟩
end
theorem row_cells {w w':World} {g:Nat} {cs:Array Value} {t:TypeId} (h:w.heap[g]?=some (.cells cs t (0,0))) (hk:w'.heap[g]?=w.heap[g]?):∀ o,w'.cell? ⟨g,o,none⟩=cs[o]? :=
 fun o => cell_of_row w' g o cs t (0,0) (hk.trans h)
theorem two_cells {w w':World} {c1 c2:Array Value} {t1 t2:TypeId} {M:Nat} (hg:((w.alloc (.cells c1 t1)).alloc (.cells c2 t2)).grownBy w' (some M)) (hM:M < w.heap.size) :
  (∀ o,w'.cell? ⟨w.heap.size,o,none⟩=c1[o]?) ∧ (∀ o,w'.cell? ⟨w.heap.size + 1,o,none⟩=c2[o]?) ∧ w.heap.size + 1 < w'.heap.size:=by
 have h1:((w.alloc (.cells c1 t1)).alloc (.cells c2 t2)).heap[w.heap.size]?=some (.cells c1 t1 (0,0)):=by
  rw [Below.heap_alloc _ _ _ (by simp)]
  exact heap_alloc_new w _
 have h2:((w.alloc (.cells c1 t1)).alloc (.cells c2 t2)).heap[w.heap.size + 1]?=some (.cells c2 t2 (0,0)):=by
  have:=heap_alloc_new (w.alloc (.cells c1 t1)) (.cells c2 t2)
  simpa using this
 have hs:=hg.size
 simp at hs
 exact ⟨row_cells h1 (hg.block _ (by simp;omega) (by simp;omega)),row_cells h2 (hg.block _ (by simp) (by simp;omega)),by omega⟩
theorem one_cells {w w':World} {c1:Array Value} {t1:TypeId} (hg:Below (w.heap.size + 1) (w.alloc (.cells c1 t1)) w'):(∀ o,w'.cell? ⟨w.heap.size,o,none⟩=c1[o]?) ∧ w.heap.size < w'.heap.size:=by
 have hs:=hg.size
 simp at hs
 exact ⟨row_cells (heap_alloc_new w _) (hg.block _ (by omega)),by omega⟩
theorem keeps_one {w w':World} {o:Obj} {B:Nat} (hg:Below (w.heap.size + 1) (w.alloc o) w') (hB:B ≤ w.heap.size):Keeps B w w' :=
 ((Keeps.refl w).alloc hB o).trans (Keeps.of_below (hg.mono (by omega)))
theorem below_one {w w':World} {o:Obj} (hg:Below (w.heap.size + 1) (w.alloc o) w'):Below w.heap.size w w' :=
 ((Below.refl _ _).alloc (Nat.le_refl _) _).trans (hg.mono (by omega))
end Go.Proofs.YtikogmpibkefdaaGreat

namespace Go.Proofs.YtikogmpibkefdaaGreat
open Go.RowKit
theorem within_any (n a b:Int) (w:World) :
  Calls Tryz.prog 230 #[.int .i64 n,.int .i64 a,.int .i64 b] w fun e w' => e=.returned (.bool (withinB n a b)) ∧ w=w':=by
 unfold withinB
 by_cases h:a ≤ n
 all_goals
  go_enter Tryz.func230,Tryz.ntmps230
  go_wp2
  go_ret
  refine ⟨?_,rfl⟩
  first | (simp [h];done) | (simp;omega)
theorem isType_any (n:Int) (w:World) :
  Calls Tryz.prog 232 #[.int .i64 n] w fun e w' => e=.returned (.bool (isTypeB n)) ∧ w=w':=by
 unfold isTypeB
 by_cases h:(n == 1)=true
 all_goals
  go_enter Tryz.func232,Tryz.ntmps232
  go_wp2
  go_ret
  refine ⟨?_,rfl⟩
  simp [h]
def Says (b:Bool) (w:World) (e:Ending) (w':World):Prop:=e=.returned (.bool b) ∧ Below w.heap.size w w'
theorem says_new {b b':Bool} {w:World} {o:Obj} (h:b=b'):Says b' w (.returned (.bool b)) (w.alloc o):=by
 subst h
 exact ⟨rfl,(Below.refl _ _).alloc (Nat.le_refl _) _⟩
theorem fitsN_a (f:FuncM) (pv bv mv:Value) (op n:Int) (w:World) (_ha:0 ≤ f.arrays) (_ha':f.arrays ≤ 8) (h:op=1 ∨ op=2 ∨ op=3 ∨ op=4 ∨ op=5 ∨ op=6 ∨ op=7 ∨ op=8 ∨ op=9 ∨ op=10 ∨ op=11 ∨ op=12 ∨ op=13) :
  Calls Tryz.prog 253 #[.agg #[pv,.int .i64 f.arrays,.int .i64 f.cells,bv,mv],.int .i64 op,.int .i64 n] w (Says (fitsB f op n) w):=by
 rcases h with rfl | rfl | rfl | rfl | rfl | rfl | rfl | rfl | rfl | rfl | rfl | rfl | rfl
 all_goals
  go_enter Tryz.func253,Tryz.ntmps253
  go_wp2_with (go_at_call 230;refine (within_any _ _ _ _).mono ?_;rintro e w' ⟨rfl,rfl⟩)
  go_ret
  exact says_new rfl
theorem fitsN_b (f:FuncM) (pv bv mv:Value) (op n:Int) (w:World) (ha:0 ≤ f.arrays) (ha':f.arrays ≤ 8) (hc:0 ≤ f.cells) (hc':f.cells ≤ 64) (h:op=14 ∨ op=15 ∨ op=16 ∨ op=17 ∨ op=18 ∨ op=19 ∨ op=20 ∨ op=21 ∨ op=22 ∨ op=23 ∨ op=24 ∨ op=25) :
  Calls Tryz.prog 253 #[.agg #[pv,.int .i64 f.arrays,.int .i64 f.cells,bv,mv],.int .i64 op,.int .i64 n] w (Says (fitsB f op n) w):=by
 rcases h with rfl | rfl | rfl | rfl | rfl | rfl | rfl | rfl | rfl | rfl | rfl | rfl
 all_goals
  go_enter Tryz.func253,Tryz.ntmps253
  go_wp2_with (go_at_call 230;refine (within_any _ _ _ _).mono ?_;rintro e w' ⟨rfl,rfl⟩)
  go_ret
  exact says_new rfl
theorem fitsN_any (f:FuncM) (pv bv mv:Value) (op n:Int) (w:World) (ha:0 ≤ f.arrays) (ha':f.arrays ≤ 8) (hc:0 ≤ f.cells) (hc':f.cells ≤ 64) (h:isOp op=true) :
  Calls Tryz.prog 253 #[.agg #[pv,.int .i64 f.arrays,.int .i64 f.cells,bv,mv],.int .i64 op,.int .i64 n] w (Says (fitsB f op n) w):=by
 rcases op_cases op with g | g | g
 ·exact fitsN_a f pv bv mv op n w ha ha' g
 ·exact fitsN_b f pv bv mv op n w ha ha' hc hc' g
 ·unfold isOp at h
  rw [shapeS_none g] at h
  cases h
theorem all_take_succ {α:Type} (p:α → Bool) (l:List α) (k:Nat) (h:k < l.length):(l.take (k + 1)).all p=((l.take k).all p && p (l[k])):=by
 rw [List.take_succ_eq_append_getElem h,List.all_append]
 simp
theorem getD_of {l:List Int} {k:Nat} (h:k < l.length):l[k]?.getD 0=l[k]:=by simp [h]
theorem targets_no {nb:Nat} {to:List Int} {k:Nat} (h:k < to.length) (hf:withinB to[k] 1 (nb - 1)=false):targetsB nb to=false:=by
 unfold targetsB
 rw [List.all_eq_false]
 exact ⟨to[k],List.getElem_mem h,by simp [hf]⟩
set_option maxHeartbeats 400000 in
theorem areTargets_any (pv mv av cv:Value) (A:Option Addr) (nb c:Nat) (tv:Value) (to:List Int) (w:World) (hI:Ints w w.heap.size tv to) (h1:1 ≤ nb) (h2:nb ≤ 512) :
  Calls Tryz.prog 254 #[.agg #[pv,av,cv,.slice A nb c,mv],tv] w (Says (targetsB nb to) w):=by
 obtain ⟨T,ct,rfl,hm,hx⟩:=hI
 have Hx:=hideI hx
 clear hx
 go_enter Tryz.func254,Tryz.ntmps254
 go_wp2
 go_loop [9] (fun i => ∃ k:Nat,k ≤ to.length ∧ i=.int .i64 k ∧ (to.take k).all (fun b => withinB b 1 (nb - 1))=true) (fun i => to.length - (intOf i).toNat)
 case atStart => exact ⟨0,Nat.zero_le _,rfl,by simp⟩
 case round =>
  obtain ⟨k,hk,rfl,ht⟩:=hrel
  have HT:=hideI ht
  clear ht
  by_cases hlt:k < to.length
  ·obtain ⟨b,off,rfl,hb,hc⟩:=Hx.out k hlt
   cases hw:withinB to[k] 1 (nb - 1)
   ·have HW:=hideI hw
    go_wp2_with (go_at_call 230;refine (within_any _ _ _ _).mono ?_;rintro e w' ⟨rfl,rfl⟩)
    go_ret
    exact says_new (targets_no hlt HW.out).symm
   ·have HW:=hideI hw
    go_wp2_with (go_at_call 230;refine (within_any _ _ _ _).mono ?_;rintro e w' ⟨rfl,rfl⟩)
    go_round
    case rel => exact ⟨k + 1,by omega,by go_num,by rw [all_take_succ _ _ _ hlt,HT.out,HW.out];rfl⟩
    case measure => simp [intOf];omega
  ·go_wp2
   go_ret
   have h:=HT.out
   rw [List.take_of_length_le (by omega)] at h
   exact says_new h.symm
end Go.Proofs.YtikogmpibkefdaaGreat

namespace Go
theorem World.grownBy.trans_grown {a b c:World} {row:Option Nat} (h:a.grownBy b row) (k:b.grownBy c row):a.grownBy c row :=
 ⟨k.os.trans h.os,k.tape.trans h.tape,k.output.trans h.output,Nat.le_trans h.size k.size,fun i hi hne => (k.block i (Nat.lt_of_lt_of_le hi h.size) hne).trans (h.block i hi hne)⟩
end Go
namespace Go.Proofs.YtikogmpibkefdaaGreat
open Go.RowKit Go.Maps
def Defines (o:Option Defs) (M:Nat) (w:World) (e:Ending) (w':World):Prop :=
 e=.returned (.bool o.isSome) ∧ w.grownBy w' (some M) ∧ ∀ ds,o=some ds → MapIs w' M ds
theorem MapIs.put {w':World} {M:Nat} {ds:Defs} {D:DataW Unit} {id typ:Int} (h2:w'.ownsMap Tryz.prog 3 (plainElem Tryz.prog 3) M (ds.length + 1) (D.put (.int .i64 id) (.lit (.int .i64 typ))))
  (hD:IsMap D) (hw:∀ d ∈ ds,I64 d.1 ∧ I64 d.2) (hi:I64 id) (ht:I64 typ) (hn:ds.at id=none) (h:∀ id z,D.atKey (.int .i64 id) z=match ds.at id with | some t => .lit (.int .i64 t) | none => z):MapIs w' M (ds ++ [(id,typ)]):=by
 refine ⟨_,by simpa using h2,IsMap.put hD _ _,?_,?_⟩
 ·intro d hd
  rw [List.mem_append] at hd
  rcases hd with hd | hd
  ·exact hw d hd
  ·simp at hd
   subst hd
   exact ⟨hi,ht⟩
 ·intro k z
  rw [Defs.at_snoc]
  by_cases hk:k=id
  ·subst hk
   rw [atKey_put_same hD (by trivial),hn]
   simp
  ·rw [atKey_put_other (by simpa using hk),h]
   cases ds.at k <;> simp [hk]
theorem addDef_some {np:Nat} {ds:Defs} {id typ t:Int} (h:ds.at id=some t):addDef np ds id typ=none:=by
 unfold addDef defB
 rw [h]
 rfl
theorem addDef_out {np:Nat} {ds:Defs} {id typ:Int} (h:withinB id np 1048575=false):addDef np ds id typ=none:=by
 unfold addDef defB
 rw [h]
 simp
theorem addDef_ok {np:Nat} {ds:Defs} {id typ:Int} (h:ds.at id=none) (hw:withinB id np 1048575=true):addDef np ds id typ=some (ds ++ [(id,typ)]):=by
 unfold addDef defB
 rw [h,hw]
 rfl
theorem defines_no {M:Nat} {w:World} {r:Option Defs} {o:Obj} (h:r=none):Defines r M w (.returned (.bool false)) (w.alloc o):=by
 subst h
 exact ⟨rfl,World.grownBy_alloc _ _ _,by simp⟩
set_option maxHeartbeats 400000 in
theorem define_any (av cv bv:Value) (P:Option Addr) (np c M:Nat) (ds:Defs) (id typ:Int) (w:World) (hM:MapIs w M ds) (hn:ds.length < 100000) (hi:I64 id) (ht:I64 typ) :
  Calls Tryz.prog 252 #[.agg #[.slice P np c,av,cv,bv,.map (some M)],.int .i64 id,.int .i64 typ] w (Defines (addDef np ds id typ) M w):=by
 obtain ⟨D,hown,hD,hwd,hat⟩:=hM
 have hh:=MapIs.has hat id
 have HAT:=hideI hat
 have HWD:=hideI hwd
 have HI:=hideI hi
 have HT:=hideI ht
 clear hat hwd
 cases hd:ds.at id with
 | some t =>
  have HD:=hideI hd
  rw [hd] at hh
  clear hd
  go_enter Tryz.func252,Tryz.ntmps252
  go_wp2_with (first
   | (at_lookup;refine wpList_lookup_own_ok_int _ rfl _ _ 136 rfl 3 3 .i64 lawInt Tryz.underlying136 Tryz.underlying3 (zeroInt _) M ds.length D rfl (hown.alloc _) _ _ rfl (keyOf_int_mk Tryz.underlying3 HI.out) ?_;intro c1 hat1 hwc1)
   | (go_at_call 230;refine (within_any _ _ _ _).mono ?_;rintro e w' ⟨rfl,rfl⟩))
  go_ret
  exact defines_no (addDef_some HD.out)
 | none =>
  rw [hd] at hh
  have HD:=hideI hd
  clear hd
  cases hw:withinB id np 1048575
  ·go_enter Tryz.func252,Tryz.ntmps252
   go_wp2_with (first
    | (at_lookup;refine wpList_lookup_own_ok_int _ rfl _ _ 136 rfl 3 3 .i64 lawInt Tryz.underlying136 Tryz.underlying3 (zeroInt _) M ds.length D rfl (hown.alloc _) _ _ rfl (keyOf_int_mk Tryz.underlying3 HI.out) ?_;intro c1 hat1 hwc1)
    | (go_at_call 230;refine (within_any _ _ _ _).mono ?_;rintro e w' ⟨rfl,rfl⟩))
   go_ret
   exact defines_no (addDef_out hw)
  ·go_enter Tryz.func252,Tryz.ntmps252
   go_wp2_with (first
    | (at_lookup;refine wpList_lookup_own_ok_int _ rfl _ _ 136 rfl 3 3 .i64 lawInt Tryz.underlying136 Tryz.underlying3 (zeroInt _) M ds.length D rfl (hown.alloc _) _ _ rfl (keyOf_int_mk Tryz.underlying3 HI.out) ?_;intro c1 hat1 hwc1)
    | (go_at_call 230;refine (within_any _ _ _ _).mono ?_;rintro e w' ⟨rfl,rfl⟩)
    | (at_mapUpdate;refine wpList_mapUpdate_own _ rfl _ _ _ 136 rfl 3 3 lawInt Tryz.underlying136 _ M ds.length _ rfl (hown.alloc _) (by unfold maxLen;omega) _ _ _ rfl rfl (keyOf_int_mk Tryz.underlying3 HI.out) _ [] (plainElem_int Tryz.underlying3 HT.out) ?_;intro w1 hown1 hgrow1))
   go_ret
   refine ⟨by rw [addDef_ok HD.out hw];rfl,(World.grownBy_alloc _ _ _).trans_grown hgrow1,fun ds' h => ?_⟩
   rw [addDef_ok HD.out hw] at h
   injection h with h
   subst h
   exact MapIs.put hown1 hD HWD.out hi ht HD.out HAT.out
end Go.Proofs.YtikogmpibkefdaaGreat

namespace Go.Proofs.YtikogmpibkefdaaGreat
open Go.ChangeShapes Go.WideShapes Go.ChangeAt Go.RowKit
theorem own:ownKnob Tryz.prog.godebug=none:=by kernel_rfl
section
variable {H:Type} {enc:TypeId × Value → H} {P:Program}
theorem law_args (hl:laidOutB P=true) {W W':World} (hb:Below W.heap.size W W'):∀ (ts:List TypeId) (vs:List Value) (ds:List (DataW H)) (ps:List MemPlace),
  DataW.TrodAll enc P W 0 (fun _ => true) true ts vs ds ps → (∀ t ∈ ts,P.readableRec t=true ∧ t < P.types.size) → (∀ x ∈ ps,x.block < W.heap.size) →
  DataW.TrodAll enc P W' 0 (fun b => decide (b < W.heap.size)) true ts vs ds ps:=by
 intro ts
 induction ts with
 | nil =>
  intro vs ds ps h _ _
  cases vs <;> cases ds <;> first | exact h | exact h.elim
 | cons t ts ih =>
  intro vs ds ps h hr hlt
  cases vs with
  | nil => cases ds <;> exact h.elim
  | cons v vs =>
   cases ds with
   | nil => exact h.elim
   | cons d ds =>
    obtain ⟨p,q,h1,h2,rfl⟩:=h
    have hrt:=hr t (List.mem_cons_self ..)
    exact ⟨p,q,Below.trod hl hrt.1 hrt.2 h1 hb (fun x hx => hlt x (List.mem_append_left _ hx)),
     ih vs ds q h2 (fun u hu => hr u (List.mem_cons_of_mem _ hu)) (fun x hx => hlt x (List.mem_append_right _ hx)),rfl⟩
theorem law_post (hl:laidOutB P=true) {fn:Func} {s:ChangeSpec} {apart fresh:Bool} {W W':World} {args:Array Value} {ds:List (DataW H)} {before:List MemPlace} {tb:TypeId}
  (hW:DataW.Whole enc P fn.params.toList s.vars apart W args.toList ds [] before) (hv:s.vars=[]) (hr:fn.resultTypes=#[tb]) (htb:P.underlying tb=some .bool)
  (hres:(s.fn H (ds ++ [])).results=[.lit (.bool true)]) (harg:(s.fn H (ds ++ [])).args=ds) (hvar:(s.fn H (ds ++ [])).vars=[])
  (hread:∀ t ∈ fn.params.toList,P.readableRec t=true ∧ t < P.types.size) (hb:Below W.heap.size W W') :
  s.post enc P fn apart fresh false false W args (.bool true) W':=by
 have hlt:∀ p ∈ before,p.block < W.heap.size:=fun p hp => hW.lt p hp
 have hW0:=hW
 obtain ⟨p,q,hA,hV,rfl,hz,hn⟩:=hW
 rw [hv] at hV
 have hq:q=[]:=hV
 subst hq
 refine ⟨ds,[],p ++ [],[],p,[],hW0,?_,?_,?_,?_,fun h => by cases h⟩
 ·rw [hr,hres]
  exact trodAll_cons_mk (shut_bool htb _) trodAll_mk0
 ·rw [harg]
  exact law_args hl hb _ _ _ _ hA hread (fun x hx => hlt x (by simpa using hx))
 ·rw [hv,hvar]
  rfl
 ·exact hb.frame _
end
end Go.Proofs.YtikogmpibkefdaaGreat

namespace Go.Proofs.YtikogmpibkefdaaGreat
open Go.ChangeShapes Go.WideShapes Go.ChangeAt Go.RowKit Go.Deep
theorem list_choose {α:Type} {R:Nat → α → Prop}:∀ n,(∀ k,k < n → ∃ a,R k a) → ∃ l:List α,l.length=n ∧ ∀ k a,l[k]?=some a → R k a:=by
 intro n
 induction n with
 | zero => intro _;exact ⟨[],rfl,fun k a h => by simp at h⟩
 | succ n ih =>
  intro h
  obtain ⟨l,hl,hr⟩:=ih (fun k hk => h k (by omega))
  obtain ⟨a,ha⟩:=h n (by omega)
  refine ⟨l ++ [a],by simp [hl],fun k b hb => ?_⟩
  rw [List.getElem?_append] at hb
  split at hb
  ·exact hr k b hb
  ·rename_i hk
   have hk2:k - l.length=0:=by
    cases hc:k - l.length with
    | zero => rfl
    | succ m => rw [hc] at hb;simp at hb
   rw [hk2] at hb
   simp at hb
   subst hb
   rw [show k=n from by omega]
   exact ha
section
variable {H:Type} {enc:TypeId × Value → H} {w:World}
abbrev Rd (enc:TypeId × Value → H) (w:World) (fuel:Nat) (t:TypeId) (cs:List Value) (x:DataW H × List MemPlace):Prop:=DataW.trod enc Tryz.prog w 0 (fun _ => true) true fuel t cs=some x
def Sz (t:TypeId) (d:DataW H):Prop:=∀ n ∈ d.weights Tryz.prog t,n ≤ reachBytes
theorem Sz.slice {t e:TypeId} {es sp:List (DataW H)} (h:Sz t (.slice es sp)) (hu:Tryz.prog.underlying t=some (.slice e)):(es.length + sp.length) * Tryz.prog.bytesOf e ≤ reachBytes ∧ ∀ d ∈ es,Sz e d:=by
 unfold Sz at h
 simp only [DataW.weights,hu] at h
 refine ⟨h _ (List.mem_cons_self ..),fun d hd n hn => h n (List.mem_cons_of_mem _ (List.mem_append_left _ ?_))⟩
 clear h
 induction es with
 | nil => cases hd
 | cons a es ih =>
  rw [DataW.weightsAll]
  rcases List.mem_cons.1 hd with rfl | hd
  ·exact List.mem_append_left _ hn
  ·exact List.mem_append_right _ (ih hd)
theorem Sz.agg {t:TypeId} {fs:Array Field} {ds:List (DataW H)} (h:Sz t (.agg ds)) (hu:Tryz.prog.underlying t=some (.struct fs)) {j:Nat} {f:Field} {d:DataW H} (hf:fs[j]?=some f) (hd:ds[j]?=some d):Sz f.type d:=by
 intro n hn
 unfold Sz at h
 simp only [DataW.weights,hu] at h
 exact h n (DataW.weights_mem_each (by simp [hf]) hd n hn)
theorem reach_small {a b k:Nat} (h:(a + b) * k ≤ reachBytes) (hk:1 ≤ k):a ≤ 140737488351232:=by
 have h1:(a + b) * 1 ≤ (a + b) * k:=Nat.mul_le_mul_left _ hk
 have h2:reachBytes=140737488351232:=rfl
 omega
theorem bytes3:Tryz.prog.bytesOf 3=8:=by kernel_rfl
theorem bytes75:Tryz.prog.bytesOf 86=64:=by kernel_rfl
theorem bytes49:Tryz.prog.bytesOf 68=48:=by kernel_rfl
theorem bytes55:Tryz.prog.bytesOf 59=96:=by kernel_rfl
theorem cells3:Tryz.prog.cellsOf 3=1:=by kernel_rfl
theorem cells22:Tryz.prog.cellsOf 22=1:=by kernel_rfl
theorem cells23:Tryz.prog.cellsOf 23=1:=by kernel_rfl
theorem cells25:Tryz.prog.cellsOf 25=4:=by kernel_rfl
theorem cells49:Tryz.prog.cellsOf 68=4:=by kernel_rfl
theorem cells50:Tryz.prog.cellsOf 55=1:=by kernel_rfl
theorem cells52:Tryz.prog.cellsOf 57=4:=by kernel_rfl
theorem cells53:Tryz.prog.cellsOf 54=1:=by kernel_rfl
theorem cells55:Tryz.prog.cellsOf 59=6:=by kernel_rfl
theorem cells75:Tryz.prog.cellsOf 86=4:=by kernel_rfl
theorem addr_of {a:Addr} {v:Value} (h:w.cell? (a.add 0)=some v):∃ b off,a=⟨b,off,none⟩ ∧ b < w.heap.size:=by
 obtain ⟨b,off,spot⟩:=a
 have h0:(⟨b,off,spot⟩:Addr).add 0=⟨b,off,spot⟩:=by simp [Addr.add]
 rw [h0] at h
 have hspot:spot=none:=World.cell?_spot h
 exact ⟨b,off,by rw [hspot],World.block_lt_of_cell? w _ h⟩
theorem rd_ints {fuel:Nat} {v:Value} {x:DataW H × List MemPlace} (h:Rd enc w fuel 22 [v] x) (hs:Sz 22 x.1):∃ xs,Ints w w.heap.size v xs ∧ ∀ n ∈ xs,I64 n:=by
 rcases open_ints Tryz.underlying22 Tryz.underlying3 cells3 h with ⟨hv,_⟩ | ⟨a,len,cap,zs,hv,_,hl,hm,hz,hx,hc,hw⟩
 ·injection hv with hv
  subst hv
  exact ⟨[],Ints.nil _ _,fun n hn => by cases hn⟩
 ·injection hv with hv
  subst hv
  simp only [if_true] at hz
  have hlen:(zs.take len).length=len:=by rw [List.length_take];omega
  refine ⟨zs.take len,⟨some a,cap,by rw [hlen],?_,fun k hk => ?_⟩,fun n hn => hw n (List.mem_of_mem_take hn)⟩
  ·rw [hlen]
   rw [hx] at hs
   have h1:=(hs.slice Tryz.underlying22).1
   simp only [lits,List.length_map] at h1
   have:=reach_small h1 (by rw [bytes3];omega)
   omega
  ·rw [hlen] at hk
   have h1:=hc k (by omega)
   obtain ⟨b,off,rfl,hb⟩:=addr_of (hc 0 (by omega))
   refine ⟨b,off,rfl,hb,?_⟩
   rw [← Go.WideShapes.add_plain,h1]
   congr 2
   rw [List.getElem?_take,if_pos hk]
   rfl
theorem rd_slice {t e:TypeId} (ht:Tryz.prog.underlying t=some (.slice e)) {c:Nat} (hc:Tryz.prog.cellsOf e=c) (hby:1 ≤ Tryz.prog.bytesOf e) (hpos:0 < c) {fuel:Nat} {v:Value} {x:DataW H × List MemPlace} (h:Rd enc w fuel t [v] x) (hs:Sz t x.1) :
  ∃ A n cap,v=.slice A n cap ∧ n ≤ 140737488351232 ∧ ∀ k,k < n → ∃ b off cs f y,A=some ⟨b,off,none⟩ ∧ b < w.heap.size ∧ cs.length=c ∧ (∀ j,j < c → w.cell? ⟨b,off + (k * c + j),none⟩=cs[j]?) ∧ Rd enc w f e cs y ∧ Sz e y.1:=by
 rcases open_slice ht h with ⟨hv,_⟩ | ⟨a,len,cap,m,n,D,Pl,hv,_,hl,hm,hmm,hx,hi⟩
 ·injection hv with hv
  subst hv
  exact ⟨none,0,0,rfl,by omega,fun k hk => by omega⟩
 ·injection hv with hv
  subst hv
  simp only [if_true] at hmm
  rw [hx] at hs
  have h1:=hs.slice ht
  simp only [List.length_map,List.length_range] at h1
  refine ⟨some a,len,cap,rfl,by have:=reach_small h1.1 hby;omega,fun k hk => ?_⟩
  obtain ⟨cs0,hcs0,_⟩:=hi 0 (by omega)
  obtain ⟨_,hl0,hat0⟩:=World.cells?_some hcs0
  rw [hc] at hl0 hat0
  have h00:=hat0 0 hpos
  obtain ⟨v0,hv0⟩:∃ v0,cs0[0]?=some v0:=⟨_,List.getElem?_eq_getElem (by omega)⟩
  have h01:w.cell? (a.add 0)=some v0:=by
   rw [hv0,Nat.zero_mul] at h00
   rw [← h00]
   rfl
  obtain ⟨b,off,rfl,hb⟩:=addr_of h01
  obtain ⟨cs,hcs,hr⟩:=hi k (by omega)
  obtain ⟨_,hlen,hat⟩:=World.cells?_some hcs
  rw [hc] at hlen hat
  refine ⟨b,off,cs,n,_,rfl,hb,hlen,fun j hj => ?_,hr,h1.2 _ (List.mem_map.2 ⟨k,List.mem_range.2 (by omega),rfl⟩)⟩
  rw [← hat j hj,Go.WideShapes.add_plain,Go.WideShapes.add_plain,Nat.add_assoc]
theorem rd_field {t:TypeId} {fs:Array Field} (ht:Tryz.prog.underlying t=some (.struct fs)) {fuel:Nat} {cs:List Value} {x:DataW H × List MemPlace} (h:Rd enc w fuel t cs x) (hs:Sz t x.1) {j:Nat} {f:Field} (hf:fs[j]?=some f) :
  ∃ n y,Rd enc w n f.type ((cs.drop f.offset).take (Tryz.prog.cellsOf f.type)) y ∧ Sz f.type y.1:=by
 obtain ⟨ys,n,_,hx,_,hlen,hg⟩:=DataW.trod_struct ht h
 have h1:=hg j f hf
 have hj:j < ys.length:=by rw [hlen];exact (Array.getElem?_eq_some_iff.1 hf).1
 rw [List.getElem?_eq_getElem hj] at h1
 rw [hx] at hs
 exact ⟨n,ys[j],h1,hs.agg ht hf (by rw [List.getElem?_map,List.getElem?_eq_getElem hj];rfl)⟩
theorem drop_take_one {cs:List Value} {j:Nat} {v:Value} (h:cs[j]?=some v):(cs.drop j).take 1=[v]:=by
 obtain ⟨hj,rfl⟩:=List.getElem?_eq_some_iff.1 h
 rw [List.drop_eq_getElem_cons hj]
 rfl
theorem rd_field1 {t:TypeId} {fs:Array Field} (ht:Tryz.prog.underlying t=some (.struct fs)) {fuel:Nat} {cs:List Value} {x:DataW H × List MemPlace} (h:Rd enc w fuel t cs x) (hs:Sz t x.1) (j:Nat) {f:Field} (hf:fs[j]?=some f)
  (ft:TypeId) (h1:f.type=ft) (off:Nat) (h2:f.offset=off) (hc:Tryz.prog.cellsOf ft=1) {v:Value} (hv:cs[off]?=some v):∃ n y,Rd enc w n ft [v] y ∧ Sz ft y.1:=by
 subst h1 h2
 obtain ⟨n,y,hr,hz⟩:=rd_field ht h hs hf
 rw [hc,drop_take_one hv] at hr
 exact ⟨n,y,hr,hz⟩
theorem rd_fieldT {t:TypeId} {fs:Array Field} (ht:Tryz.prog.underlying t=some (.struct fs)) {fuel:Nat} {cs:List Value} {x:DataW H × List MemPlace} (h:Rd enc w fuel t cs x) (hs:Sz t x.1) (j:Nat) {f:Field} (hf:fs[j]?=some f)
  (ft:TypeId) (h1:f.type=ft) (off:Nat) (h2:f.offset=off) {c:Nat} (hc:Tryz.prog.cellsOf ft=c):∃ n y,Rd enc w n ft ((cs.drop off).take c) y ∧ Sz ft y.1:=by
 subst h1 h2 hc
 exact rd_field ht h hs hf
theorem rd_int {fuel:Nat} {v:Value} {x:DataW H × List MemPlace} (h:Rd enc w fuel 3 [v] x):∃ n,v=.int .i64 n ∧ I64 n:=by
 obtain ⟨n,hv,_,hw⟩:=DataW.trod_int Tryz.underlying3 h
 injection hv with hv
 exact ⟨n,hv,hw⟩
theorem four {cs:List Value} (h:cs.length=4):∃ a b c d,cs=[a,b,c,d]:=by
 match cs,h with
 | [a,b,c,d],_ => exact ⟨a,b,c,d,rfl⟩
theorem six {cs:List Value} (h:cs.length=6):∃ a b c d e f,cs=[a,b,c,d,e,f]:=by
 match cs,h with
 | [a,b,c,d,e,f],_ => exact ⟨a,b,c,d,e,f,rfl⟩
theorem rd_phis {fuel:Nat} {v:Value} {x:DataW H × List MemPlace} (h:Rd enc w fuel 54 [v] x) (hs:Sz 54 x.1) :
  ∃ ps,PhisR w w.heap.size v ps ∧ ∀ p ∈ ps,p.vals.length ≤ 140737488351232 ∧ ∀ n ∈ p.vals,I64 n:=by
 obtain ⟨A,n,cap,rfl,hn,hk⟩:=rd_slice Tryz.underlying54 cells75 (by rw [bytes75];omega) (by omega) h hs
 obtain ⟨ps,hl,hps⟩:=list_choose (α:=PhiM) (R:=fun k p => (∃ b off fv vv,A=some ⟨b,off,none⟩ ∧ b < w.heap.size ∧
  w.cell? ⟨b,off + k * 4,none⟩=some (.int .i64 p.id) ∧ w.cell? ⟨b,off + k * 4 + 1,none⟩=some (.int .i64 p.typ) ∧ w.cell? ⟨b,off + k * 4 + 2,none⟩=some fv ∧ w.cell? ⟨b,off + k * 4 + 3,none⟩=some vv ∧
  Ints w w.heap.size fv p.fr ∧ Ints w w.heap.size vv p.vals ∧ I64 p.id ∧ I64 p.typ) ∧ p.vals.length ≤ 140737488351232 ∧ ∀ n ∈ p.vals,I64 n) n (fun k hlt => by
   obtain ⟨b,off,cs,f,y,hA,hb,hlen,hc,hr,hz⟩:=hk k hlt
   obtain ⟨c0,c1,c2,c3,rfl⟩:=four hlen
   obtain ⟨n0,y0,r0,z0⟩:=rd_field1 Tryz.underlying86 hr hz 0 rfl 3 rfl 0 rfl cells3 rfl
   obtain ⟨n1,y1,r1,z1⟩:=rd_field1 Tryz.underlying86 hr hz 1 rfl 3 rfl 1 rfl cells3 rfl
   obtain ⟨n2,y2,r2,z2⟩:=rd_field1 Tryz.underlying86 hr hz 2 rfl 22 rfl 2 rfl cells22 rfl
   obtain ⟨n3,y3,r3,z3⟩:=rd_field1 Tryz.underlying86 hr hz 3 rfl 22 rfl 3 rfl cells22 rfl
   obtain ⟨id,rfl,hi⟩:=rd_int r0
   obtain ⟨ty,rfl,ht⟩:=rd_int r1
   obtain ⟨fr,hf,_⟩:=rd_ints r2 z2
   obtain ⟨va,hv,hvi⟩:=rd_ints r3 z3
   refine ⟨⟨id,ty,fr,va⟩,⟨b,off,_,_,hA,hb,hc 0 (by omega),hc 1 (by omega),hc 2 (by omega),hc 3 (by omega),hf,hv,hi,ht⟩,?_,hvi⟩
   obtain ⟨_,_,_,hm,_⟩:=hv
   exact hm)
 subst hl
 exact ⟨ps,⟨A,cap,rfl,hn,fun k p hp => (hps k p hp).1⟩,fun p hp => by obtain ⟨k,hk⟩:=List.mem_iff_getElem?.1 hp;exact (hps k p hk).2⟩
theorem rd_code {fuel:Nat} {v:Value} {x:DataW H × List MemPlace} (h:Rd enc w fuel 55 [v] x) (hs:Sz 55 x.1) :
  ∃ xs,CodeR w w.heap.size v xs ∧ ∀ p ∈ xs,∀ n ∈ p.args,I64 n:=by
 obtain ⟨A,n,cap,rfl,hn,hk⟩:=rd_slice Tryz.underlying55 cells49 (by rw [bytes49];omega) (by omega) h hs
 obtain ⟨ps,hl,hps⟩:=list_choose (α:=InstrM) (R:=fun k x => (∃ b off av,A=some ⟨b,off,none⟩ ∧ b < w.heap.size ∧
  w.cell? ⟨b,off + k * 4,none⟩=some (.int .i64 x.op) ∧ w.cell? ⟨b,off + k * 4 + 1,none⟩=some (.int .i64 x.id) ∧ w.cell? ⟨b,off + k * 4 + 2,none⟩=some av ∧ w.cell? ⟨b,off + k * 4 + 3,none⟩=some (.int .i64 x.n) ∧
  Ints w w.heap.size av x.args ∧ I64 x.op ∧ I64 x.id ∧ I64 x.n) ∧ ∀ n ∈ x.args,I64 n) n (fun k hlt => by
   obtain ⟨b,off,cs,f,y,hA,hb,hlen,hc,hr,hz⟩:=hk k hlt
   obtain ⟨c0,c1,c2,c3,rfl⟩:=four hlen
   obtain ⟨n0,y0,r0,z0⟩:=rd_field1 Tryz.underlying68 hr hz 0 rfl 3 rfl 0 rfl cells3 rfl
   obtain ⟨n1,y1,r1,z1⟩:=rd_field1 Tryz.underlying68 hr hz 1 rfl 3 rfl 1 rfl cells3 rfl
   obtain ⟨n2,y2,r2,z2⟩:=rd_field1 Tryz.underlying68 hr hz 2 rfl 22 rfl 2 rfl cells22 rfl
   obtain ⟨n3,y3,r3,z3⟩:=rd_field1 Tryz.underlying68 hr hz 3 rfl 3 rfl 3 rfl cells3 rfl
   obtain ⟨op,rfl,ho⟩:=rd_int r0
   obtain ⟨id,rfl,hi⟩:=rd_int r1
   obtain ⟨ar,hf,hfi⟩:=rd_ints r2 z2
   obtain ⟨nn,rfl,hnn⟩:=rd_int r3
   exact ⟨⟨op,id,ar,nn⟩,⟨b,off,_,hA,hb,hc 0 (by omega),hc 1 (by omega),hc 2 (by omega),hc 3 (by omega),hf,ho,hi,hnn⟩,hfi⟩)
 subst hl
 exact ⟨ps,⟨A,cap,rfl,hn,fun k p hp => (hps k p hp).1⟩,fun p hp => by obtain ⟨k,hk⟩:=List.mem_iff_getElem?.1 hp;exact (hps k p hk).2⟩
def BlockOk (q:BlockM):Prop:=(∀ p ∈ q.phis,p.vals.length ≤ 140737488351232 ∧ ∀ n ∈ p.vals,I64 n) ∧ (∀ p ∈ q.code,∀ n ∈ p.args,I64 n) ∧ I64 q.term.val
theorem rd_blocks {fuel:Nat} {v:Value} {x:DataW H × List MemPlace} (h:Rd enc w fuel 23 [v] x) (hs:Sz 23 x.1) :
  ∃ bs,BlocksR w w.heap.size v bs ∧ ∀ q ∈ bs,BlockOk q:=by
 obtain ⟨A,n,cap,rfl,hn,hk⟩:=rd_slice Tryz.underlying23 cells55 (by rw [bytes55];omega) (by omega) h hs
 obtain ⟨ps,hl,hps⟩:=list_choose (α:=BlockM) (R:=fun k q => (∃ b off pv cv tv,A=some ⟨b,off,none⟩ ∧ b < w.heap.size ∧
  w.cell? ⟨b,off + k * 6,none⟩=some pv ∧ w.cell? ⟨b,off + k * 6 + 1,none⟩=some cv ∧ w.cell? ⟨b,off + k * 6 + 2,none⟩=some (.int .i64 q.term.op) ∧ w.cell? ⟨b,off + k * 6 + 3,none⟩=some (.int .i64 q.term.val) ∧
  w.cell? ⟨b,off + k * 6 + 4,none⟩=some tv ∧ w.cell? ⟨b,off + k * 6 + 5,none⟩=some (.int .i64 q.term.n) ∧
  PhisR w w.heap.size pv q.phis ∧ CodeR w w.heap.size cv q.code ∧ Ints w w.heap.size tv q.term.to ∧ I64 q.term.op ∧ I64 q.term.val ∧ I64 q.term.n) ∧ BlockOk q) n (fun k hlt => by
   obtain ⟨b,off,cs,f,y,hA,hb,hlen,hc,hr,hz⟩:=hk k hlt
   obtain ⟨c0,c1,c2,c3,c4,c5,rfl⟩:=six hlen
   obtain ⟨n0,y0,r0,z0⟩:=rd_field1 Tryz.underlying59 hr hz 0 rfl 54 rfl 0 rfl cells53 rfl
   obtain ⟨n1,y1,r1,z1⟩:=rd_field1 Tryz.underlying59 hr hz 1 rfl 55 rfl 1 rfl cells50 rfl
   obtain ⟨n2,y2,r2,z2⟩:=rd_fieldT Tryz.underlying59 hr hz 2 rfl 57 rfl 2 rfl cells52
   obtain ⟨m0,u0,q0,s0⟩:=rd_field1 Tryz.underlying57 r2 z2 0 rfl 3 rfl 0 rfl cells3 rfl
   obtain ⟨m1,u1,q1,s1⟩:=rd_field1 Tryz.underlying57 r2 z2 1 rfl 3 rfl 1 rfl cells3 rfl
   obtain ⟨m2,u2,q2,s2⟩:=rd_field1 Tryz.underlying57 r2 z2 2 rfl 22 rfl 2 rfl cells22 rfl
   obtain ⟨m3,u3,q3,s3⟩:=rd_field1 Tryz.underlying57 r2 z2 3 rfl 3 rfl 3 rfl cells3 rfl
   obtain ⟨phs,hph,hpo⟩:=rd_phis r0 z0
   obtain ⟨xs,hxs,hxo⟩:=rd_code r1 z1
   obtain ⟨op,rfl,ho⟩:=rd_int q0
   obtain ⟨va,rfl,hva⟩:=rd_int q1
   obtain ⟨to,hto,_⟩:=rd_ints q2 s2
   obtain ⟨nn,rfl,hnn⟩:=rd_int q3
   exact ⟨⟨phs,xs,⟨op,va,to,nn⟩⟩,⟨b,off,_,_,_,hA,hb,hc 0 (by omega),hc 1 (by omega),hc 2 (by omega),hc 3 (by omega),hc 4 (by omega),hc 5 (by omega),hph,hxs,hto,ho,hva,hnn⟩,hpo,hxo,hva⟩)
 subst hl
 exact ⟨ps,⟨A,cap,rfl,hn,fun k p hp => (hps k p hp).1⟩,fun p hp => by obtain ⟨k,hk⟩:=List.mem_iff_getElem?.1 hp;exact (hps k p hk).2⟩
structure FnIn (w:World) (f:FuncM) (pv bv:Value):Prop where
 par:Ints w w.heap.size pv f.params
 blk:BlocksR w w.heap.size bv f.blocks
 ok:∀ q ∈ f.blocks,BlockOk q
theorem rd_func {fuel:Nat} {cs:List Value} {x:DataW H × List MemPlace} (h:Rd enc w fuel 25 cs x) (hs:Sz 25 x.1) :
  ∃ (f:FuncM) (pv bv:Value),cs=[pv,.int .i64 f.arrays,.int .i64 f.cells,bv] ∧ FnIn w f pv bv:=by
 obtain ⟨ys,n,_,hx,hlen,_,hg⟩:=DataW.trod_struct Tryz.underlying25 h
 rw [cells25] at hlen
 obtain ⟨c0,c1,c2,c3,rfl⟩:=four hlen
 obtain ⟨n0,y0,r0,z0⟩:=rd_field1 Tryz.underlying25 h hs 0 rfl 22 rfl 0 rfl cells22 rfl
 obtain ⟨n1,y1,r1,z1⟩:=rd_field1 Tryz.underlying25 h hs 1 rfl 3 rfl 1 rfl cells3 rfl
 obtain ⟨n2,y2,r2,z2⟩:=rd_field1 Tryz.underlying25 h hs 2 rfl 3 rfl 2 rfl cells3 rfl
 obtain ⟨n3,y3,r3,z3⟩:=rd_field1 Tryz.underlying25 h hs 3 rfl 23 rfl 3 rfl cells23 rfl
 obtain ⟨ps,hps,_⟩:=rd_ints r0 z0
 obtain ⟨a,rfl,_⟩:=rd_int r1
 obtain ⟨c,rfl,_⟩:=rd_int r2
 obtain ⟨bs,hbs,hok⟩:=rd_blocks r3 z3
 exact ⟨⟨ps,a,c,bs⟩,c0,c3,rfl,hps,hbs,hok⟩
set_option maxRecDepth 100000 in
theorem open_func {ts:List TypeId} {ds:List (DataW H)} {base:Nat} {v:Value} {d:DataW H} {p:List MemPlace} (hok:Value.okWide Tryz.prog w .any base 25 v) (h:DataW.Trod enc Tryz.prog w 0 (fun _ => true) true 25 v d p)
  (hsz:(DataW.weightsEach Tryz.prog ts ds).all (· ≤ reachBytes)=true) {j:Nat} (ht:ts[j]?=some 25) (hd:ds[j]?=some d) :
  ∃ (f:FuncM) (pv bv:Value),v=.agg #[pv,.int .i64 f.arrays,.int .i64 f.cells,bv] ∧ FnIn w f pv bv:=by
 obtain ⟨cs,rfl,_⟩:=okWide_struct Tryz.underlying25 hok
 obtain ⟨fuel,hf⟩:=h
 have hs:Sz 25 d:=by
  intro n hn
  have h1:=List.all_eq_true.1 hsz n (DataW.weights_mem_each ht hd n hn)
  rw [decide_eq_true_eq] at h1
  exact h1
 obtain ⟨f,pv,bv,hcs,hF⟩:=rd_func (x:=(d,p)) hf hs
 refine ⟨f,pv,bv,?_,hF⟩
 congr 1
 have h2:cs.toList=[pv,.int .i64 f.arrays,.int .i64 f.cells,bv]:=hcs
 rw [← Array.toArray_toList (xs:=cs),h2]
end
end Go.Proofs.YtikogmpibkefdaaGreat

namespace Go.Proofs.YtikogmpibkefdaaGreat
open Go.RowKit
inductive Tag
 | params
 | blocks
 | phis (k:Nat)
 | code (k:Nat)
 | ends (k:Nat)
 | fr (k i:Nat)
 | vals (k i:Nat)
 | args (k i:Nat)
 deriving DecidableEq
structure RowD where
 elem:TypeId
 size:Nat
 len:Nat
 cells:List Value
def intsRow (xs:List Int):RowD:=⟨3,1,xs.length,xs.map (Value.int .i64)⟩
def cellsOf {α:Type} (g:Nat → α → List Value):Nat → List α → List Value
 | _,[] => []
 | i,a :: r => g i a ++ cellsOf g (i + 1) r
abbrev Vals:=Tag → Value
def phiCells (val:Vals) (k i:Nat) (p:PhiM):List Value:=[.int .i64 p.id,.int .i64 p.typ,val (.fr k i),val (.vals k i)]
def instrCells (val:Vals) (k i:Nat) (x:InstrM):List Value:=[.int .i64 x.op,.int .i64 x.id,val (.args k i),.int .i64 x.n]
def blockCells (val:Vals) (k:Nat) (b:BlockM):List Value:=[val (.phis k),val (.code k),.int .i64 b.term.op,.int .i64 b.term.val,val (.ends k),.int .i64 b.term.n]
def rowOf (f:FuncM) (val:Vals):Tag → Option RowD
 | .params => some (intsRow f.params)
 | .blocks => some ⟨59,6,f.blocks.length,cellsOf (blockCells val) 0 f.blocks⟩
 | .phis k => f.blocks[k]?.map fun b => ⟨86,4,b.phis.length,cellsOf (phiCells val k) 0 b.phis⟩
 | .code k => f.blocks[k]?.map fun b => ⟨68,4,b.code.length,cellsOf (instrCells val k) 0 b.code⟩
 | .ends k => f.blocks[k]?.map fun b => intsRow b.term.to
 | .fr k i => (f.blocks[k]?.bind fun b => b.phis[i]?).map fun p => intsRow p.fr
 | .vals k i => (f.blocks[k]?.bind fun b => b.phis[i]?).map fun p => intsRow p.vals
 | .args k i => (f.blocks[k]?.bind fun b => b.code[i]?).map fun x => intsRow x.args
section
variable {α:Type} {g g':Nat → α → List Value} {s:Nat}
theorem cellsOf_len (hs:∀ i a,(g i a).length=s):∀ (l:List α) (i:Nat),(cellsOf g i l).length=l.length * s:=by
 intro l
 induction l with
 | nil => intro i;simp [cellsOf]
 | cons a l ih => intro i;rw [cellsOf,List.length_append,hs,ih,List.length_cons];rw [Nat.add_mul];omega
theorem cellsOf_at (hs:∀ i a,(g i a).length=s):∀ (l:List α) (i k r:Nat) (a:α),l[k]?=some a → r < s → (cellsOf g i l)[k * s + r]?=(g (i + k) a)[r]?:=by
 intro l
 induction l with
 | nil => intro i k r a h;simp at h
 | cons b l ih =>
  intro i k r a h hr
  rw [cellsOf]
  cases k with
  | zero =>
   simp at h
   subst h
   rw [List.getElem?_append_left (by rw [hs];omega)]
   simp
  | succ k =>
   rw [List.getElem?_append_right (by rw [hs,Nat.add_mul];omega),hs]
   have:=ih (i + 1) k r a (by simpa using h) hr
   rw [show (k + 1) * s + r - s=k * s + r by rw [Nat.add_mul];omega,this]
   congr 2
   omega
theorem cellsOf_congr:∀ (l:List α) (i:Nat),(∀ k a,l[k]?=some a → g (i + k) a=g' (i + k) a) → cellsOf g i l=cellsOf g' i l:=by
 intro l
 induction l with
 | nil => intro i _;rfl
 | cons a l ih =>
  intro i h
  rw [cellsOf,cellsOf,ih (i + 1) (fun k b hb => by have:=h (k + 1) b (by simpa using hb);rwa [show i + (k + 1)=i + 1 + k by omega] at this)]
  rw [show g i a=g' i a from by simpa using h 0 a rfl]
theorem cellsOf_div (hs:∀ i a,(g i a).length=s) {l:List α} {j:Nat} {u:Value} (h:(cellsOf g 0 l)[j]?=some u):∃ k r a,j=k * s + r ∧ r < s ∧ l[k]?=some a ∧ (g k a)[r]?=some u:=by
 have hj:=(List.getElem?_eq_some_iff.1 h).1
 rw [cellsOf_len hs] at hj
 have hs0:0 < s:=Nat.pos_of_ne_zero fun e => by subst e;simp at hj
 have hk:j / s < l.length:=(Nat.div_lt_iff_lt_mul hs0).2 hj
 have hr:=Nat.mod_lt j hs0
 have e:j=j / s * s + j % s:=by rw [Nat.mul_comm];exact (Nat.div_add_mod j s).symm
 refine ⟨j / s,j % s,_,e,hr,List.getElem?_eq_getElem hk,?_⟩
 have h2:=cellsOf_at hs l 0 (j / s) (j % s) _ (List.getElem?_eq_getElem hk) hr
 rw [← e,h] at h2
 rw [Nat.zero_add] at h2
 exact h2.symm
end
def RowR (w:World) (B:Nat) (v:Value) (d:RowD):Prop :=
 ∃ A c,v=.slice A d.len c ∧ d.len ≤ 140737488351232 ∧ ∀ j u,d.cells[j]?=some u → ∃ b off,A=some ⟨b,off,none⟩ ∧ b < B ∧ w.cell? ⟨b,off + j,none⟩=some u
def RdF (w:World) (B:Nat) (f:FuncM) (val:Vals):Prop:=∀ t d,rowOf f val t=some d → RowR w B (val t) d
theorem RowR.keeps {w w':World} {B:Nat} {v:Value} {d:RowD} (h:RowR w B v d) (hk:Keeps B w w'):RowR w' B v d:=by
 obtain ⟨A,c,rfl,hm,hx⟩:=h
 refine ⟨A,c,rfl,hm,fun j u hu => ?_⟩
 obtain ⟨b,off,rfl,hb,hc⟩:=hx j u hu
 exact ⟨b,off,rfl,hb,(hk _ _ hb).trans hc⟩
theorem RdF.keeps {w w':World} {B:Nat} {f:FuncM} {val:Vals} (h:RdF w B f val) (hk:Keeps B w w'):RdF w' B f val:=fun t d hd => (h t d hd).keeps hk
theorem RowR.ints {w:World} {B:Nat} {v:Value} {xs:List Int} (h:RowR w B v (intsRow xs)):Ints w B v xs:=by
 obtain ⟨A,c,rfl,hm,hx⟩:=h
 refine ⟨A,c,rfl,hm,fun k hk => ?_⟩
 obtain ⟨b,off,hA,hb,hc⟩:=hx k (.int .i64 xs[k]) (by show (xs.map _)[k]?=_;rw [List.getElem?_map,List.getElem?_eq_getElem hk];rfl)
 exact ⟨b,off,hA,hb,by rw [hc,List.getElem?_eq_getElem hk];rfl⟩
theorem Ints.row {w:World} {B:Nat} {v:Value} {xs:List Int} (h:Ints w B v xs):RowR w B v (intsRow xs):=by
 obtain ⟨A,c,rfl,hm,hx⟩:=h
 refine ⟨A,c,rfl,hm,fun j u hu => ?_⟩
 have hu':(xs.map (Value.int .i64))[j]?=some u:=hu
 rw [List.getElem?_map] at hu'
 cases hj:xs[j]? with
 | none => rw [hj] at hu';cases hu'
 | some x =>
  rw [hj] at hu'
  cases hu'
  obtain ⟨b,off,hA,hb,hc⟩:=hx j (List.getElem?_eq_some_iff.1 hj).1
  exact ⟨b,off,hA,hb,by rw [hc,hj];rfl⟩
structure FnFits (f:FuncM):Prop where
 phi:∀ b ∈ f.blocks,∀ p ∈ b.phis,I64 p.id ∧ I64 p.typ
 code:∀ b ∈ f.blocks,∀ x ∈ b.code,I64 x.op ∧ I64 x.id ∧ I64 x.n
 term:∀ b ∈ f.blocks,I64 b.term.op ∧ I64 b.term.val ∧ I64 b.term.n
theorem phiCells_len (val:Vals) (k:Nat):∀ i p,(phiCells val k i p).length=4:=fun _ _ => rfl
theorem instrCells_len (val:Vals) (k:Nat):∀ i p,(instrCells val k i p).length=4:=fun _ _ => rfl
theorem blockCells_len (val:Vals):∀ i p,(blockCells val i p).length=6:=fun _ _ => rfl
section
variable {w:World} {B:Nat} {f:FuncM} {val:Vals}
theorem RdF.params (h:RdF w B f val):Ints w B (val .params) f.params:=(h .params _ rfl).ints
theorem RdF.phis (h:RdF w B f val) (hf:FnFits f) {k:Nat} {b:BlockM} (hb:f.blocks[k]?=some b):PhisR w B (val (.phis k)) b.phis:=by
 obtain ⟨A,c,hv,hm,hx⟩:=h (.phis k) _ (by simp only [rowOf,hb];rfl)
 rw [hv]
 refine ⟨A,c,rfl,hm,fun i p hp => ?_⟩
 have hat:∀ r u,r < 4 → (phiCells val k i p)[r]?=some u → ∃ b off,A=some ⟨b,off,none⟩ ∧ b < B ∧ w.cell? ⟨b,off + (i * 4 + r),none⟩=some u:=fun r u hr hu => hx (i * 4 + r) u (by
  have:=cellsOf_at (phiCells_len val k) b.phis 0 i r p hp hr
  rw [Nat.zero_add] at this
  exact this.trans hu)
 obtain ⟨g,off,rfl,hg,c0⟩:=hat 0 _ (by omega) rfl
 obtain ⟨_,_,e,_,c1⟩:=hat 1 _ (by omega) rfl
 cases e
 obtain ⟨_,_,e,_,c2⟩:=hat 2 _ (by omega) rfl
 cases e
 obtain ⟨_,_,e,_,c3⟩:=hat 3 _ (by omega) rfl
 cases e
 have hp2:(f.blocks[k]?.bind fun b => b.phis[i]?)=some p:=by rw [hb];exact hp
 exact ⟨g,off,_,_,rfl,hg,c0,c1,c2,c3,(h (.fr k i) _ (by simp only [rowOf,hp2];rfl)).ints,(h (.vals k i) _ (by simp only [rowOf,hp2];rfl)).ints,hf.phi b (List.mem_of_getElem? hb) p (List.mem_of_getElem? hp)⟩
theorem RdF.code (h:RdF w B f val) (hf:FnFits f) {k:Nat} {b:BlockM} (hb:f.blocks[k]?=some b):CodeR w B (val (.code k)) b.code:=by
 obtain ⟨A,c,hv,hm,hx⟩:=h (.code k) _ (by simp only [rowOf,hb];rfl)
 rw [hv]
 refine ⟨A,c,rfl,hm,fun i p hp => ?_⟩
 have hat:∀ r u,r < 4 → (instrCells val k i p)[r]?=some u → ∃ b off,A=some ⟨b,off,none⟩ ∧ b < B ∧ w.cell? ⟨b,off + (i * 4 + r),none⟩=some u:=fun r u hr hu => hx (i * 4 + r) u (by
  have:=cellsOf_at (instrCells_len val k) b.code 0 i r p hp hr
  rw [Nat.zero_add] at this
  exact this.trans hu)
 obtain ⟨g,off,rfl,hg,c0⟩:=hat 0 _ (by omega) rfl
 obtain ⟨_,_,e,_,c1⟩:=hat 1 _ (by omega) rfl
 cases e
 obtain ⟨_,_,e,_,c2⟩:=hat 2 _ (by omega) rfl
 cases e
 obtain ⟨_,_,e,_,c3⟩:=hat 3 _ (by omega) rfl
 cases e
 have hp2:(f.blocks[k]?.bind fun b => b.code[i]?)=some p:=by rw [hb];exact hp
 exact ⟨g,off,_,rfl,hg,c0,c1,c2,c3,(h (.args k i) _ (by simp only [rowOf,hp2];rfl)).ints,hf.code b (List.mem_of_getElem? hb) p (List.mem_of_getElem? hp)⟩
theorem RdF.blocks (h:RdF w B f val) (hf:FnFits f):BlocksR w B (val .blocks) f.blocks:=by
 obtain ⟨A,c,hv,hm,hx⟩:=h .blocks _ rfl
 rw [hv]
 refine ⟨A,c,rfl,hm,fun k b hb => ?_⟩
 have hat:∀ r u,r < 6 → (blockCells val k b)[r]?=some u → ∃ b off,A=some ⟨b,off,none⟩ ∧ b < B ∧ w.cell? ⟨b,off + (k * 6 + r),none⟩=some u:=fun r u hr hu => hx (k * 6 + r) u (by
  have:=cellsOf_at (blockCells_len val) f.blocks 0 k r b hb hr
  rw [Nat.zero_add] at this
  exact this.trans hu)
 obtain ⟨g,off,rfl,hg,c0⟩:=hat 0 _ (by omega) rfl
 obtain ⟨_,_,e,_,c1⟩:=hat 1 _ (by omega) rfl
 cases e
 obtain ⟨_,_,e,_,c2⟩:=hat 2 _ (by omega) rfl
 cases e
 obtain ⟨_,_,e,_,c3⟩:=hat 3 _ (by omega) rfl
 cases e
 obtain ⟨_,_,e,_,c4⟩:=hat 4 _ (by omega) rfl
 cases e
 obtain ⟨_,_,e,_,c5⟩:=hat 5 _ (by omega) rfl
 cases e
 have ht:=hf.term b (List.mem_of_getElem? hb)
 exact ⟨g,off,_,_,_,rfl,hg,c0,c1,c2,c3,c4,c5,h.phis hf hb,h.code hf hb,(h (.ends k) _ (by simp only [rowOf,hb];rfl)).ints,ht⟩
end
end Go.Proofs.YtikogmpibkefdaaGreat

namespace Go.Proofs.YtikogmpibkefdaaGreat
open Go.RowKit
def shapeV (op:Int):Value:=.tuple #[.string ⟨(shapeS op).1.toArray⟩,.int .i64 (shapeS op).2.1,.int .i64 (shapeS op).2.2.1,.bool (shapeS op).2.2.2]
theorem shape_a (op:Int) (w:World) (h:op=1 ∨ op=2 ∨ op=3 ∨ op=4 ∨ op=5 ∨ op=6 ∨ op=7 ∨ op=8 ∨ op=9 ∨ op=10 ∨ op=11 ∨ op=12 ∨ op=13) :
  Calls Tryz.prog 103 #[.int .i64 op] w fun e w' => e=.returned (shapeV op) ∧ w=w':=by
 rcases h with rfl | rfl | rfl | rfl | rfl | rfl | rfl | rfl | rfl | rfl | rfl | rfl | rfl
 all_goals
  go_enter Tryz.func103,Tryz.ntmps103
  go_wp2
  refine bodyPost_ret (res4 rfl _ _ _) rfl ⟨?_,rfl⟩
  rfl
theorem shape_b (op:Int) (w:World) (h:op=14 ∨ op=15 ∨ op=16 ∨ op=17 ∨ op=18 ∨ op=19 ∨ op=20 ∨ op=21 ∨ op=22 ∨ op=23 ∨ op=24 ∨ op=25) :
  Calls Tryz.prog 103 #[.int .i64 op] w fun e w' => e=.returned (shapeV op) ∧ w=w':=by
 rcases h with rfl | rfl | rfl | rfl | rfl | rfl | rfl | rfl | rfl | rfl | rfl | rfl
 all_goals
  go_enter Tryz.func103,Tryz.ntmps103
  go_wp2
  refine bodyPost_ret (res4 rfl _ _ _) rfl ⟨?_,rfl⟩
  rfl
theorem shape_c (op:Int) (w:World) (h:op < 1 ∨ 25 < op) :
  Calls Tryz.prog 103 #[.int .i64 op] w fun e w' => e=.returned (shapeV op) ∧ w=w':=by
 have hs:shapeV op=.tuple #[.string ⟨#[]⟩,.int .i64 0,.int .i64 0,.bool false]:=by unfold shapeV;rw [shapeS_none h]
 rw [hs]
 clear hs
 rcases h with h | h
 all_goals
  go_enter Tryz.func103,Tryz.ntmps103
  go_wp2
  refine bodyPost_ret (res4 rfl _ _ _) rfl ⟨?_,rfl⟩
  rfl
theorem shape_any (op:Int) (w:World) :
  Calls Tryz.prog 103 #[.int .i64 op] w fun e w' => e=.returned (shapeV op) ∧ w=w':=by
 rcases op_cases op with h | h | h
 ·exact shape_a op w h
 ·exact shape_b op w h
 ·exact shape_c op w h
end Go.Proofs.YtikogmpibkefdaaGreat

namespace Go.Proofs.YtikogmpibkefdaaGreat
open Go.RowKit
def NewInts (B:Nat) (w:World) (v:Value) (xs:List Int):Prop :=
 ∃ A c,v=.slice A xs.length c ∧ xs.length ≤ 140737488351232 ∧ (0 < xs.length → ∃ g cs,A=some ⟨g,0,none⟩ ∧ B ≤ g ∧ w.heap[g]?=some (.cells cs 3 (0,0)) ∧ ∀ k,k < xs.length → cs[k]?=some (.int .i64 (xs[k]?.getD 0)))
def ArgsPost (op:Int) (w:World) (e:Ending) (w':World):Prop :=
 ∃ v,e=.returned (.tuple #[.int .i64 (makesS op),v,.bool (isOp op)]) ∧ NewInts w.heap.size w' v (takesS op) ∧ Below w.heap.size w w'
theorem ints_new (w:World) (xs:List Int) (hl:xs.length ≤ 1000) :
  NewInts w.heap.size (w.alloc (.cells (xs.map (Value.int .i64)).toArray 3)) (.slice (some ⟨w.heap.size,0,none⟩) xs.length xs.length) xs :=
 ⟨_,_,rfl,by omega,fun _ => ⟨w.heap.size,_,rfl,Nat.le_refl _,heap_alloc_new w _,fun k hk => by simp [hk]⟩⟩
theorem NewInts.nil (B:Nat) (w:World):NewInts B w (.slice none 0 0) []:=⟨none,0,rfl,by simp,fun h => by simp at h⟩
theorem args_new (op:Int) (w w':World) (xs:List Int) (m:Int) (b:Bool) (hx:xs=takesS op) (hm:m=makesS op) (hb:b=isOp op) (n:Nat) (hn:n=xs.length) (hl:n ≤ 1000) (cs:Array Value) (hcs:cs=(xs.map (Value.int .i64)).toArray)
  (hw:w.alloc (.cells cs 3)=w'):ArgsPost op w (.returned (.tuple #[.int .i64 m,.slice (some ⟨w.heap.size,0,none⟩) n n,.bool b])) w':=by
 subst hx hm hb hn hcs hw
 exact ⟨_,rfl,ints_new w _ hl,(Below.refl _ _).alloc (Nat.le_refl _) _⟩
theorem args_nil (op:Int) (w:World) (m:Int) (b:Bool) (hx:[]=takesS op) (hm:m=makesS op) (hb:b=isOp op):ArgsPost op w (.returned (.tuple #[.int .i64 m,.slice none 0 0,.bool b])) w:=by
 subst hm hb
 exact ⟨_,rfl,hx ▸ NewInts.nil _ _,Below.refl _ _⟩
theorem irArgs_a (op:Int) (w:World) (h:op=1 ∨ op=2 ∨ op=3 ∨ op=4 ∨ op=5 ∨ op=6 ∨ op=7 ∨ op=8 ∨ op=9 ∨ op=10 ∨ op=11 ∨ op=12 ∨ op=13) :
  Calls Tryz.prog 236 #[.int .i64 op] w (ArgsPost op w):=by
 rcases h with rfl | rfl | rfl | rfl | rfl | rfl | rfl | rfl | rfl | rfl | rfl | rfl | rfl
 all_goals
  go_enter Tryz.func236,Tryz.ntmps236
  go_wp2
  go_ret3
  first
   | exact args_nil _ _ _ _ rfl rfl rfl
   | exact args_new _ _ _ _ _ _ rfl rfl rfl _ rfl (by decide) _ rfl rfl
theorem irArgs_b (op:Int) (w:World) (h:op=14 ∨ op=15 ∨ op=16 ∨ op=17 ∨ op=18 ∨ op=19 ∨ op=20 ∨ op=21 ∨ op=22 ∨ op=23 ∨ op=24 ∨ op=25) :
  Calls Tryz.prog 236 #[.int .i64 op] w (ArgsPost op w):=by
 rcases h with rfl | rfl | rfl | rfl | rfl | rfl | rfl | rfl | rfl | rfl | rfl | rfl
 all_goals
  go_enter Tryz.func236,Tryz.ntmps236
  go_wp2
  go_ret3
  first
   | exact args_nil _ _ _ _ rfl rfl rfl
   | exact args_new _ _ _ _ _ _ rfl rfl rfl _ rfl (by decide) _ rfl rfl
theorem irArgs_c (op:Int) (w:World) (h:op < 1 ∨ 25 < op) :
  Calls Tryz.prog 236 #[.int .i64 op] w (ArgsPost op w):=by
 have H:=hideI (shapeS_none h)
 rcases h with h | h
 all_goals
  go_enter Tryz.func236,Tryz.ntmps236
  go_wp2
  go_ret3
  exact args_nil _ _ _ _ (by unfold takesS;rw [H.out];rfl) (by unfold makesS;rw [H.out]) (by unfold isOp;rw [H.out])
theorem irArgs_any (op:Int) (w:World):Calls Tryz.prog 236 #[.int .i64 op] w (ArgsPost op w):=by
 rcases op_cases op with h | h | h
 ·exact irArgs_a op w h
 ·exact irArgs_b op w h
 ·exact irArgs_c op w h
end Go.Proofs.YtikogmpibkefdaaGreat

namespace Go.Proofs.YtikogmpibkefdaaGreat
open Go.RowKit
theorem int_info:(Tryz.prog.info? 3).map (fun i => (i.zero,i.size,i.bytes))=some (some (.int .i64 0),1,8):=by kernel_rfl
def tyOf (c:UInt8):Int:=if c=73 then 1 else 2
theorem take_tyOf (s:ByteArray) (k:Nat) (h:k < s.size):(s.data.toList.take (k + 1)).map tyOf=(s.data.toList.take k).map tyOf ++ [tyOf s[k]]:=by
 rw [List.take_succ_eq_append_getElem (by simpa using h),List.map_append]
 rfl
theorem ints_own {w:World} {B n:Nat} {v:Value} {xs:List Int} (h:w.ownsRow B 3 1 v n (xs.map (Value.int .i64))) (hn:xs.length ≤ 140737488351232):Ints w w.heap.size v xs:=by
 have hl:n=xs.length:=by have:=h.1;simp at this;omega
 subst hl
 rcases Nat.eq_zero_or_pos xs.length with h0 | h0
 ·rcases h.2 with ⟨rfl,_⟩ | ⟨g,cap,cur,rfl,_⟩
  ·have:xs=[]:=List.eq_nil_of_length_eq_zero h0
   subst this
   exact Ints.nil _ _
  ·exact ⟨_,_,rfl,hn,fun k hk => by omega⟩
 ·obtain ⟨g,cap,rfl,hb,hlt⟩:=h.form h0
  refine ⟨_,_,rfl,hn,fun k hk => ⟨g,0,rfl,hlt,?_⟩⟩
  rw [← Go.WideShapes.add_plain]
  exact h.cells (g:=g) rfl k _ (by simp [hk])
theorem one_new (w:World) (x:Value):∀ (j:Nat) (u:Value),[x][j]?=some u → (w.alloc (.cells #[x] 3)).cell? ((⟨w.heap.size,0,none⟩:Addr).add j)=some u:=by
 intro j u hu
 rcases j with _ | j
 ·simp at hu
  subst hu
  rw [Go.WideShapes.add_plain,cell_of_row _ _ _ _ _ _ (heap_alloc_new w _)]
  rfl
 ·simp at hu
theorem below_append {B:Nat} {w wr w1:World} {o:Obj} {r:Option Nat} (hb:Below B w wr) (hg:(wr.alloc o).grownBy w1 r) (hr:∀ g,r=some g → B ≤ g) (hB:B ≤ w.heap.size):Below B w w1 :=
 (hb.alloc (Nat.le_trans hB hb.size) o).grown hg (by have:=hb.size;simp;omega) hr
theorem byte_eq {c:UInt8} (h:((c.toNat:Int) == 73)=true):c=73:=by
 have h1:(c.toNat:Int)=73:=by simpa using h
 apply UInt8.toNat_inj.1
 show c.toNat=73
 omega
theorem byte_ne {c:UInt8} (h:¬ ((c.toNat:Int) == 73)=true):¬ c=73:=by
 rintro rfl
 exact h rfl
theorem newInts_own {w:World} {B n:Nat} {v:Value} {xs:List Int} (h:w.ownsRow B 3 1 v n (xs.map (Value.int .i64))) (hn:xs.length ≤ 140737488351232):NewInts B w v xs:=by
 have hl:n=xs.length:=by have:=h.1;simp at this;omega
 subst hl
 rcases h.2 with ⟨rfl,h0⟩ | ⟨g,cap,cur,rfl,hb,hg,hnc,hm,hs,ht⟩
 ·have:xs=[]:=List.eq_nil_of_length_eq_zero h0
  subst this
  exact NewInts.nil _ _
 ·refine ⟨_,_,rfl,hn,fun _ => ⟨g,cur,rfl,hb,hg,fun k hk => ?_⟩⟩
  have h1:(cur.toList.take (xs.length * 1))[k]?=some (.int .i64 (xs[k]?.getD 0)):=by rw [ht];simp [hk]
  rw [List.getElem?_take] at h1
  split at h1
  ·simpa using h1
  ·cases h1
set_option maxHeartbeats 800000 in
theorem refArgs_core (op:Int) (w:World) (s:ByteArray) (mk nn:Int) (ok:Bool) (hs:s.size ≤ 3) (hS:∀ W:World,Calls Tryz.prog 103 #[.int .i64 op] W fun e w' => e=.returned (.tuple #[.string s,.int .i64 mk,.int .i64 nn,.bool ok]) ∧ W=w') :
  Calls Tryz.prog 57 #[.int .i64 op] w fun e w' => ∃ v,e=.returned (.tuple #[.int .i64 mk,v,.bool ok]) ∧ w'.ownsRow w.heap.size 3 1 v s.size ((s.data.toList.map tyOf).map (Value.int .i64)) ∧ Below w.heap.size w w':=by
 obtain ⟨i0,hi,hz0,hz1,hz2⟩:=info_parts int_info
 have HS:=hideI hS
 clear hS
 go_enter Tryz.func57,Tryz.ntmps57
 go_wp2_with (go_at_call 103;refine (HS.out _).mono ?_;rintro e w' ⟨rfl,rfl⟩)
 go_loopw [9,10] (fun out i wr => ∃ k:Nat,k ≤ s.size ∧ i=.int .i64 k ∧ wr.ownsRow w.heap.size 3 1 out k (((s.data.toList.take k).map tyOf).map (Value.int .i64)) ∧ Below w.heap.size w wr) (fun _ i _ => s.size - (intOf i).toNat)
 case atStart => exact ⟨0,Nat.zero_le _,rfl,World.ownsRow_made w #[] 0 (Nat.le_refl _) (by decide) rfl,(Below.refl _ _).alloc (Nat.le_refl _) _⟩
 case round =>
  obtain ⟨k,hk,rfl,hown,hb⟩:=hrel
  by_cases hlt:k < s.size
  ·have HT:=hideI (take_tyOf s k hlt)
   by_cases hc:((s[k].toNat:Int) == 73)=true
   ·go_wp2_with (at_builtin;refine wpList_append_own _ rfl _ _ _ rfl w.heap.size 3 i0 (.int .i64 0) 1 8 Tryz.underlying22 hi hz0 hz1 hz2 rfl (by decide) _ _ _ rfl (hown.alloc _) ⟨wr.heap.size,0,none⟩ 1 1 [.int .i64 1] rfl rfl (one_new wr _) (by simp [Value.oneCell']) (by simp only [maxLen];omega) (by omega) (Nat.le_trans hb.size (by simp)) ?_;intro v1 w1 hown1 hgrow1 _)
    have hb1:Below w.heap.size w w1:=below_append hb hgrow1 (fun g hg => ((hown.lt) g hg).1) (Nat.le_refl _)
    clear hgrow1
    go_roundw
    case rel => exact ⟨k + 1,by omega,by go_num,by rw [HT.out];simpa [tyOf,byte_eq hc] using hown1,hb1⟩
    case measure => simp [intOf];omega
   ·go_wp2_with (at_builtin;refine wpList_append_own _ rfl _ _ _ rfl w.heap.size 3 i0 (.int .i64 0) 1 8 Tryz.underlying22 hi hz0 hz1 hz2 rfl (by decide) _ _ _ rfl (hown.alloc _) ⟨wr.heap.size,0,none⟩ 1 1 [.int .i64 2] rfl rfl (one_new wr _) (by simp [Value.oneCell']) (by simp only [maxLen];omega) (by omega) (Nat.le_trans hb.size (by simp)) ?_;intro v1 w1 hown1 hgrow1 _)
    have hb1:Below w.heap.size w w1:=below_append hb hgrow1 (fun g hg => ((hown.lt) g hg).1) (Nat.le_refl _)
    clear hgrow1
    go_roundw
    case rel => exact ⟨k + 1,by omega,by go_num,by rw [HT.out];simpa [tyOf,byte_ne hc] using hown1,hb1⟩
    case measure => simp [intOf];omega
  ·go_wp2
   go_ret3
   have hk':k=s.size:=by omega
   subst hk'
   refine ⟨_,rfl,?_,hb⟩
   rw [List.take_of_length_le (by simp)] at hown
   exact hown
theorem shapeS_short (op:Int):(shapeS op).1.length ≤ 3:=by
 rcases op_cases op with h | h | h
 ·rcases h with rfl | rfl | rfl | rfl | rfl | rfl | rfl | rfl | rfl | rfl | rfl | rfl | rfl <;> decide
 ·rcases h with rfl | rfl | rfl | rfl | rfl | rfl | rfl | rfl | rfl | rfl | rfl | rfl <;> decide
 ·rw [shapeS_none h];decide
theorem refArgs_any (op:Int) (w:World):Calls Tryz.prog 57 #[.int .i64 op] w (ArgsPost op w):=by
 refine (refArgs_core op w ⟨(shapeS op).1.toArray⟩ (makesS op) (kindS op) (isOp op) (by simpa [ByteArray.size] using shapeS_short op) (fun W => shape_any op W)).mono ?_
 rintro e w' ⟨v,rfl,hown,hb⟩
 exact ⟨v,rfl,newInts_own hown (by have:=shapeS_short op;unfold takesS;rw [List.length_map];omega),hb⟩
end Go.Proofs.YtikogmpibkefdaaGreat
