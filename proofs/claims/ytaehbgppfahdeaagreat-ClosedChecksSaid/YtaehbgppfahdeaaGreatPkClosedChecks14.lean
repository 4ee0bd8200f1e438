/- What ClosedChecks rests on, part 14: ClOut, VDefM, Tags, FList, Own, FBlockW. -/
import Derived.Test.YtaehbgppfahdeaaGreatPkClosedChecks13
import Derived.Deep.AppendLies
import Derived.Deep.Onto
import Derived.OneCell
import Derived.Laws.OwnMore
import Derived.Deep.RegionWith
import Derived.Deep.DeepCutAuto
import Derived.Deep.CutRange
import Derived.Outline

namespace Go.Proofs.YtaehbgppfahdeaaGreat
open Go.RowKit Go.Maps
def leavesM (ls:List LpM) (b a:Nat):Int:=if bestM ls b ls.length=-1 then -1 else if a∈(ls.getD (bestM ls b ls.length).toNat noLp).blocks then -1 else bestM ls b ls.length
def goesOut (ls:List LpM) (b a:Nat):Bool:=leavesM ls b a != -1
theorem leaves_none {ls:List LpM} {b a:Nat} (h:bestM ls b ls.length=-1):leavesM ls b a=-1:=by unfold leavesM;rw[if_pos h]
theorem leaves_some {ls:List LpM} {b a m:Nat} {x:LpM} (h:bestM ls b ls.length=(m:Int)) (hx:ls[m]?=some x):leavesM ls b a=if a∈x.blocks then -1 else (m:Int):=by
 unfold leavesM
 rw[if_neg (by rw[h];omega),h,Int.toNat_natCast,List.getD_eq_getElem?_getD,hx]
 rfl
theorem out_iff {bs:List BlockM} {o:List Nat} {pl:Nat→Nat} {par:Nat→Option Nat} {D L:Nat→Nat→Bool} (K:LoopOk bs o pl par D L) (b a:Nat) :
  goesOut (loopsM bs D L) b a=true↔∃ y∈loopsM bs D L,b∈y.blocks∧a∉y.blocks:=by
 unfold goesOut
 rw[bne_iff_ne]
 rcases best_is (loopsM bs D L) b (loopsM bs D L).length with⟨h1,h2⟩|⟨m,x,h1,h2⟩
 ·rw[leaves_none h1]
  refine⟨fun h=>absurd rfl h,?_⟩
  rintro⟨y,hy,hb,_⟩
  obtain⟨i,hi⟩:=List.getElem?_of_mem hy
  exact absurd hb (h2 i y (List.getElem?_eq_some_iff.1 hi).1 hi)
 ·rw[leaves_some h1 h2.at_]
  constructor
  ·intro h
   refine⟨x,List.mem_of_getElem? h2.at_,h2.mem,fun ha=>?_⟩
   rw[if_pos ha]at h
   exact h rfl
  ·rintro⟨y,hy,hb,ha⟩
   obtain⟨i,hi⟩:=List.getElem?_of_mem hy
   have hax:a∉x.blocks:=by
    by_cases e:i=m
    ·subst e
     rw[h2.at_]at hi
     cases hi
     exact ha
    ·intro hax
     have hle:=h2.least i y (List.getElem?_eq_some_iff.1 hi).1 hi hb
     have hfl:=List.length_filter_le (fun b=>decide (b∈y.blocks)) x.blocks
     have hpos:0<(x.blocks.filter fun b=>decide (b∈y.blocks)).length:=List.length_pos_iff_exists_mem.2 ⟨b,List.mem_filter.2 ⟨h2.mem,by simpa using hb⟩⟩
     have hall:(x.blocks.filter fun b=>decide (b∈y.blocks)).length=x.blocks.length:=by
      rcases(loops_at h2.at_).both K (loops_at hi) e with h|h|h <;> omega
     have:=(List.length_filter_eq_length_iff.1 hall) a hax
     exact ha (by simpa using this)
   rw[if_neg hax]
   omega
set_option maxRecDepth 100000 in
set_option maxHeartbeats 2000000 in
theorem leaves_any (ls:List LpM) (n base gl b a:Nat) (lv:Value) (w:World) (hls:LoopsR w base lv ls) (hown:w.ownsRow base 3 1 (.slice (some ⟨gl,0,none⟩) n n) n (leastR n ls ls.length [] 0)) (hr:Rising ls) (hb:b<n) (_hn5:n≤512) (_hlen:ls.length≤512) :
  Calls Tryz.prog 144 #[.agg #[lv,.slice (some ⟨gl,0,none⟩) n n],.int .i64 (b:Int),.int .i64 (a:Int)] w fun e w'=>e=.returned (.int .i64 (leavesM ls b a))∧Below w.heap.size w w':=by
 obtain⟨Av,cv,rfl⟩:∃ A c,lv=.slice A ls.length c:=by obtain⟨cs,h1,_⟩:=hls.ex;exact own_sl h1
 obtain⟨m0,hm0⟩:∃ m0,m0=ls.length:=⟨_,rfl⟩
 obtain⟨W,hW⟩:∃ W:World,W=w.alloc (.cells #[.slice Av m0 cv,.slice (some ⟨gl,0,none⟩) n n] 81):=⟨_,rfl⟩
 have HBW:Hid (Below w.heap.size w W):=by show Below _ _ _;rw[hW];exact(Below.refl _ _).alloc (Nat.le_refl _) _
 have hxW:W.heap[w.heap.size]?=some (.cells #[.slice Av m0 cv,.slice (some ⟨gl,0,none⟩) n n] 81 (0,0)):=by rw[hW];exact heap_alloc_new w _
 have hx:=row_cells hxW rfl
 have q0:=hx 0
 have q1:=hx 1
 have hoW:=own_kept_below hown HBW.out (fun k hk=>(hown.lt k hk).2)
 have hlW:=hls.kept HBW.out
 have hl0:leastAt ls ls.length [] 0 b=bestM ls b ls.length:=by unfold leastAt;simp
 have l1:W.cell? ⟨gl,b,none⟩=some (.int .i64 (bestM ls b ls.length)):=by rw[World.ownsRow.cellAt hoW b (by omega),leastR_at hb,hl0]
 have HW0:=hideI hW
 rw[← hm0]
 clear hW hxW hx hoW hown hls
 rcases best_is ls b ls.length with⟨h1,_⟩|⟨m,x,h1,h2⟩
 ·have HV:=hideI (leaves_none (a:=a) h1)
  rw[h1]at l1
  clear h1 hlW hl0 hm0
  go_enter Tryz.func144,Tryz.ntmps144
  go_upto_region 1 with fail
  rw[← HW0.out]
  go_wp2
  go_ret
  exact⟨by rw[HV.out];rfl,HBW.out⟩
 ·have HV:=hideI (leaves_some (a:=a) h1 h2.at_)
  obtain⟨g,cap0,b1,b2,b3,hv,hgb,hgl,k0,k1,k2,k3,k4,s1,s2,s3,_⟩:=hlW.cells h2.at_
  injection hv with e1 _ e3
  subst e1 e3
  have hml:m<m0:=by rw[hm0];exact h2.lt
  have hri:=hr x (List.mem_of_getElem? h2.at_)
  have hi1:=s1.ints (by have:=hri.2;omega)
  obtain⟨A1,c1,rfl⟩:=own_sl s1.1
  obtain⟨A2,c2,rfl⟩:=own_sl s2.1
  obtain⟨A3,c3,rfl⟩:=own_sl s3.1
  obtain⟨nx,hnx⟩:∃ nx,nx=x.blocks.length:=⟨_,rfl⟩
  rw[← hnx]at k1 hi1
  have HH:=hideI (cHas_any x.blocks nx c1 a A1 (.int .i64 (x.head:Int)) (.slice A2 x.latches.length c2) (.slice A3 x.exits.length c3) (.int .i64 x.parent) W hi1 hri.1 hri.2)
  obtain⟨hd,hhd⟩:∃ hd,hd=x.head:=⟨_,rfl⟩
  obtain⟨pr,hpr⟩:∃ pr,pr=x.parent:=⟨_,rfl⟩
  obtain⟨n2,hn2⟩:∃ n2,n2=x.latches.length:=⟨_,rfl⟩
  obtain⟨n3,hn3⟩:∃ n3,n3=x.exits.length:=⟨_,rfl⟩
  rw[← hhd]at k0 HH
  rw[← hpr]at k4 HH
  rw[← hn2]at k2 HH
  rw[← hn3]at k3 HH
  have hmb:((m:Int) != -1)=true:=by rw[bne_iff_ne];omega
  rw[h1]at l1
  clear h1 h2 hl0 hm0 s1 s2 s3 hi1 hri hnx hhd hpr hn2 hn3 hlW hr
  by_cases ha:a∈x.blocks
  ·have HV2:Hid (leavesM ls b a=-1):=hideI (by rw[HV.out,if_pos ha])
   rw[decide_eq_true ha]at HH
   clear ha
   go_enter Tryz.func144,Tryz.ntmps144
   go_upto_region 1 with fail
   rw[← HW0.out]
   go_wp2_with (go_at_call 77;refine HH.out.mono ?_;rintro e w1 ⟨rfl,hb⟩;have HB1:=hideI hb;clear hb)
   go_ret
   exact⟨by rw[HV2.out];rfl,HBW.out.trans (HB1.out.mono HBW.out.size)⟩
  ·have HV2:Hid (leavesM ls b a=(m:Int)):=hideI (by rw[HV.out,if_neg ha])
   rw[decide_eq_false ha]at HH
   clear ha
   go_enter Tryz.func144,Tryz.ntmps144
   go_upto_region 1 with fail
   rw[← HW0.out]
   go_wp2_with (go_at_call 77;refine HH.out.mono ?_;rintro e w1 ⟨rfl,hb⟩;have HB1:=hideI hb;clear hb)
   go_ret
   exact⟨by rw[HV2.out];rfl,HBW.out.trans (HB1.out.mono HBW.out.size)⟩
set_option maxRecDepth 100000 in
set_option maxHeartbeats 2000000 in
theorem clOut_any (ls:List LpM) (n base gl b a:Nat) (Al:Option Addr) (cl:Nat) (v0 v1 v2 v3 v6 v7 v8 v9:Value) (w:World) (hls:LoopsR w base (.slice Al ls.length cl) ls) (hown:w.ownsRow base 3 1 (.slice (some ⟨gl,0,none⟩) n n) n (leastR n ls ls.length [] 0)) (hr:Rising ls) (hb:b<n) (hn5:n≤512) (hlen:ls.length≤512) (m0:Nat) (hm0:Hid (m0=ls.length)) :
  Calls Tryz.prog 93 #[.agg #[v0,v1,v2,v3,.slice Al m0 cl,.slice (some ⟨gl,0,none⟩) n n,v6,v7,v8,v9],.int .i64 (b:Int),.int .i64 (a:Int)] w fun e w'=>e=.returned (.bool (goesOut ls b a))∧Below w.heap.size w w':=by
 obtain⟨W,hW⟩:∃ W:World,W=w.alloc (.cells #[v0,v1,v2,v3,.slice Al m0 cl,.slice (some ⟨gl,0,none⟩) n n,v6,v7,v8,v9] 103):=⟨_,rfl⟩
 have HBW:Hid (Below w.heap.size w W):=by show Below _ _ _;rw[hW];exact(Below.refl _ _).alloc (Nat.le_refl _) _
 have hxW:W.heap[w.heap.size]?=some (.cells #[v0,v1,v2,v3,.slice Al m0 cl,.slice (some ⟨gl,0,none⟩) n n,v6,v7,v8,v9] 103 (0,0)):=by rw[hW];exact heap_alloc_new w _
 have hx:=row_cells hxW rfl
 have q4:=hx 4
 have q5:=hx 5
 have h0:=leaves_any ls n base gl b a _ W (hls.kept HBW.out) (own_kept_below hown HBW.out (fun k hk=>(hown.lt k hk).2)) hr hb hn5 hlen
 rw[← hm0.out]at h0
 have HL:=hideI h0
 obtain⟨lm,hlm⟩:∃ lm,lm=leavesM ls b a:=⟨_,rfl⟩
 have HV:Hid ((lm != -1)=goesOut ls b a):=hideI (by rw[hlm];rfl)
 rw[← hlm]at HL
 have HW0:=hideI hW
 clear hW hxW hx h0 hls hown hr hlm
 go_enter Tryz.func93,Tryz.ntmps93
 go_upto_region 1 with fail
 rw[← HW0.out]
 go_wp2_with (go_at_call 144;refine HL.out.mono ?_;rintro e w1 ⟨rfl,hb⟩;have HB1:=hideI hb;clear hb)
 go_ret
 exact⟨by rw[HV.out];rfl,HBW.out.trans (HB1.out.mono HBW.out.size)⟩
end Go.Proofs.YtaehbgppfahdeaaGreat

namespace Go.Proofs.YtaehbgppfahdeaaGreat
open Go.RowKit Go.Maps
def dPhis (b:Nat) (ps:List PhiM):Placed:=ps.map fun p=>(p.id,(b,p.typ))
def dInstr (b:Nat) (x:InstrM):Placed:=if makesS x.op≠0 then [(x.id,(b,makesS x.op))]else []
def dCode (b:Nat) (xs:List InstrM):Nat→Placed
 | 0 => []
 | i + 1 => dCode b xs i ++ match xs[i]? with | some x => dInstr b x | none => []
def dBlock (b:Nat) (q:BlockM):Placed:=dPhis b q.phis++dCode b q.code q.code.length
def dBlocks (bs:List BlockM):Nat→Placed
 | 0 => []
 | b + 1 => dBlocks bs b ++ match bs[b]? with | some q => dBlock b q | none => []
def dParams (ps:List Int):Nat→Placed
 | 0 => []
 | k + 1 => dParams ps k ++ [((k:Int),(0,ps[k]?.getD 0))]
def defsM (f:FuncM):Placed:=dParams f.params f.params.length++dBlocks f.blocks f.blocks.length
def prD (d:Int×(Nat×Int)):Int×Nat:=(d.1,d.2.1)
theorem last_pr {l m:Placed} (h:l.map prD=m.map prD) (id:Int):(l.last id).map (·.1)=(m.last id).map (·.1):=by
 have key:∀ l:Placed,(l.last id).map (·.1)=((l.map prD).reverse.find? fun d=>d.1==id).map (·.2):=by
  intro l
  unfold Placed.last
  rw[← List.map_reverse,List.find?_map]
  simp only[Option.map_map]
  rfl
 rw[key l,key m,h]
theorem instr_pr {f:FuncM} (h:(lookM f).1=0) {q:BlockM} (hq:q∈f.blocks) {x:InstrM} (hx:x∈q.code) (b i:Nat):(dInstr b x).map prD=(placedInstr b i x).map prD:=by
 have h1:=vals_instr h hq hx b i
 unfold placedInstr valuesInstr at h1
 unfold dInstr placedInstr
 rcases makes_cases x.op with hm|hm
 ·have:=look_id h hq hx hm
  rw[if_neg (by omega),if_neg (by omega)]
 ·rw[if_pos hm]at h1
  rw[if_pos (by omega)]
  by_cases h0:0≤x.id
  ·rw[if_pos h0]
   rfl
  ·rw[if_neg h0]at h1
   simp at h1
theorem code_pr {f:FuncM} (h:(lookM f).1=0) {q:BlockM} (hq:q∈f.blocks) (b:Nat):∀ i,i≤q.code.length→(dCode b q.code i).map prD=(placedCode b q.code i).map prD:=by
 intro i
 induction i with
 | zero => intro _;rfl
 | succ i ih =>
  intro hi
  have hx:q.code[i]?=some q.code[i]:=List.getElem?_eq_getElem (by omega)
  unfold dCode placedCode
  rw[hx]
  simp only[List.map_append]
  rw[ih (by omega),instr_pr h hq (List.getElem_mem _) b i]
theorem blocks_pr {f:FuncM} (h:(lookM f).1=0):∀ n,n≤f.blocks.length→(dBlocks f.blocks n).map prD=(placedBlocks f.blocks n).map prD:=by
 intro n
 induction n with
 | zero => intro _;rfl
 | succ n ih =>
  intro hn
  have hq:f.blocks[n]?=some f.blocks[n]:=List.getElem?_eq_getElem (by omega)
  unfold dBlocks placedBlocks
  rw[hq]
  simp only[List.map_append]
  rw[ih (by omega)]
  unfold dBlock placedBlock
  rw[List.map_append,List.map_append,code_pr h (List.getElem_mem _) n _ (Nat.le_refl _)]
  congr 2
  unfold dPhis placedPhis
  rw[List.map_map,List.map_map]
  rfl
theorem params_pr (ps:List Int):∀ k,(dParams ps k).map prD=(placedParams k).map prD:=by
 intro k
 induction k with
 | zero => rfl
 | succ k ih =>
  unfold dParams placedParams
  rw[List.map_append,List.map_append,ih]
  rfl
theorem defs_last {f:FuncM} (h:(lookM f).1=0) (id:Int):((defsM f).last id).map (·.1)=((placedM f).last id).map (·.1):=by
 refine last_pr ?_ id
 unfold defsM placedM
 rw[List.map_append,List.map_append,params_pr,blocks_pr h _ (Nat.le_refl _)]
theorem dCode_len (b:Nat) (xs:List InstrM):∀ i,(dCode b xs i).length≤i:=by
 intro i
 induction i with
 | zero => simp [dCode]
 | succ i ih =>
  unfold dCode
  rw[List.length_append]
  have:(match xs[i]? with|some x=>dInstr b x|none=>([]:Placed)).length≤1:=by
   cases xs[i]? with
   | none => simp
   | some x => unfold dInstr;simp only;split <;> simp
  omega
theorem dBlock_len (b:Nat) (q:BlockM):(dBlock b q).length≤sizeB q:=by
 unfold dBlock dPhis sizeB
 rw[List.length_append,List.length_map]
 have:=dCode_len b q.code q.code.length
 omega
theorem dBlocks_len (bs:List BlockM):∀ b,b≤bs.length→(dBlocks bs b).length≤((bs.take b).map sizeB).sum:=by
 intro b
 induction b with
 | zero => intro _;simp [dBlocks]
 | succ b ih =>
  intro hb
  have hq:bs[b]?=some bs[b]:=List.getElem?_eq_getElem (by omega)
  unfold dBlocks
  rw[hq,List.length_append,List.take_succ_eq_append_getElem (by omega),List.map_append,List.sum_append]
  have h1:=ih (by omega)
  have h2:=dBlock_len b bs[b]
  simp only[List.map_cons,List.map_nil,List.sum_cons,List.sum_nil]
  omega
theorem dParams_len (ps:List Int):∀ k,(dParams ps k).length=k:=by
 intro k
 induction k with
 | zero => rfl
 | succ k ih => unfold dParams;simp [ih]
theorem d_few {f:FuncM} (h:FewV f) {k:Nat} {q:BlockM} (hq:f.blocks[k]?=some q) (l:Placed) (hl:l.length≤sizeB q):(dParams f.params f.params.length++dBlocks f.blocks k++l).length<5000:=by
 have h1:=h.1
 have h2:=h.2
 have h3:=dBlocks_len f.blocks k (by have:=(List.getElem?_eq_some_iff.1 hq).1;omega)
 have h4:=size_take_le f.blocks k q hq
 unfold sizeM at h2
 unfold sizeB at hl
 rw[List.length_append,List.length_append,dParams_len]
 omega
end Go.Proofs.YtaehbgppfahdeaaGreat

namespace Go.Proofs.YtaehbgppfahdeaaGreat
open Go.RowKit
inductive Tag
 | params
 | blocks
 | phis (k:Nat)
 | code (k:Nat)
 | ends (k:Nat)
 | fr (k i:Nat)
 | vals (k i:Nat)
 | args (k i:Nat)
 deriving DecidableEq
structure RowD where
 elem:TypeId
 size:Nat
 len:Nat
 cells:List Value
def intsRow (xs:List Int):RowD:=⟨3,1,xs.length,xs.map (Value.int .i64)⟩
def cellsOf {α:Type} (g:Nat→α→List Value):Nat→List α→List Value
 | _,[] => []
 | i,a :: r => g i a ++ cellsOf g (i + 1) r
abbrev Vals:=Tag→Value
def phiCells (val:Vals) (k i:Nat) (p:PhiM):List Value:=[.int .i64 p.id,.int .i64 p.typ,val (.fr k i),val (.vals k i)]
def instrCells (val:Vals) (k i:Nat) (x:InstrM):List Value:=[.int .i64 x.op,.int .i64 x.id,val (.args k i),.int .i64 x.n]
def blockCells (val:Vals) (k:Nat) (b:BlockM):List Value:=[val (.phis k),val (.code k),.int .i64 b.term.op,.int .i64 b.term.val,val (.ends k),.int .i64 b.term.n]
def rowOf (f:FuncM) (val:Vals):Tag→Option RowD
 | .params => some (intsRow f.params)
 | .blocks => some ⟨62,6,f.blocks.length,cellsOf (blockCells val) 0 f.blocks⟩
 | .phis k => f.blocks[k]?.map fun b => ⟨76,4,b.phis.length,cellsOf (phiCells val k) 0 b.phis⟩
 | .code k => f.blocks[k]?.map fun b => ⟨68,4,b.code.length,cellsOf (instrCells val k) 0 b.code⟩
 | .ends k => f.blocks[k]?.map fun b => intsRow b.term.to
 | .fr k i => (f.blocks[k]?.bind fun b => b.phis[i]?).map fun p => intsRow p.fr
 | .vals k i => (f.blocks[k]?.bind fun b => b.phis[i]?).map fun p => intsRow p.vals
 | .args k i => (f.blocks[k]?.bind fun b => b.code[i]?).map fun x => intsRow x.args
section
variable {α:Type} {g g':Nat→α→List Value} {s:Nat}
theorem cellsOf_len (hs:∀ i a,(g i a).length=s):∀ (l:List α) (i:Nat),(cellsOf g i l).length=l.length*s:=by
 intro l
 induction l with
 | nil => intro i;simp [cellsOf]
 | cons a l ih => intro i;rw [cellsOf,List.length_append,hs,ih,List.length_cons];rw [Nat.add_mul];omega
theorem cellsOf_at (hs:∀ i a,(g i a).length=s):∀ (l:List α) (i k r:Nat) (a:α),l[k]?=some a→r<s→(cellsOf g i l)[k*s+r]?=(g (i+k) a)[r]?:=by
 intro l
 induction l with
 | nil => intro i k r a h;simp at h
 | cons b l ih =>
  intro i k r a h hr
  rw[cellsOf]
  cases k with
  | zero =>
   simp at h
   subst h
   rw[List.getElem?_append_left (by rw[hs];omega)]
   simp
  | succ k =>
   rw[List.getElem?_append_right (by rw[hs,Nat.add_mul];omega),hs]
   have:=ih (i+1) k r a (by simpa using h) hr
   rw[show(k+1)*s+r - s=k*s+r by rw[Nat.add_mul];omega,this]
   congr 2
   omega
theorem cellsOf_congr:∀ (l:List α) (i:Nat),(∀ k a,l[k]?=some a→g (i+k) a=g' (i+k) a)→cellsOf g i l=cellsOf g' i l:=by
 intro l
 induction l with
 | nil => intro i _;rfl
 | cons a l ih =>
  intro i h
  rw[cellsOf,cellsOf,ih (i+1) (fun k b hb=>by have:=h (k+1) b (by simpa using hb);rwa [show i+(k+1)=i+1+k by omega]at this)]
  rw[show g i a=g' i a from by simpa using h 0 a rfl]
theorem cellsOf_div (hs:∀ i a,(g i a).length=s) {l:List α} {j:Nat} {u:Value} (h:(cellsOf g 0 l)[j]?=some u):∃ k r a,j=k*s+r∧r<s∧l[k]?=some a∧(g k a)[r]?=some u:=by
 have hj:=(List.getElem?_eq_some_iff.1 h).1
 rw[cellsOf_len hs]at hj
 have hs0:0<s:=Nat.pos_of_ne_zero fun e=>by subst e;simp at hj
 have hk:j / s<l.length:=(Nat.div_lt_iff_lt_mul hs0).2 hj
 have hr:=Nat.mod_lt j hs0
 have e:j=j / s*s+j % s:=by rw[Nat.mul_comm];exact(Nat.div_add_mod j s).symm
 refine⟨j / s,j % s,_,e,hr,List.getElem?_eq_getElem hk,?_⟩
 have h2:=cellsOf_at hs l 0 (j / s) (j % s) _ (List.getElem?_eq_getElem hk) hr
 rw[← e,h]at h2
 rw[Nat.zero_add]at h2
 exact h2.symm
end
def RowR (w:World) (B:Nat) (v:Value) (d:RowD):Prop :=
 ∃ A c,v=.slice A d.len c∧d.len≤140737488351232∧∀ j u,d.cells[j]?=some u→∃ b off,A=some ⟨b,off,none⟩∧b<B∧w.cell? ⟨b,off+j,none⟩=some u
def RdF (w:World) (B:Nat) (f:FuncM) (val:Vals):Prop:=∀ t d,rowOf f val t=some d→RowR w B (val t) d
theorem RowR.keeps {w w':World} {B:Nat} {v:Value} {d:RowD} (h:RowR w B v d) (hk:Keeps B w w'):RowR w' B v d:=by
 obtain⟨A,c,rfl,hm,hx⟩:=h
 refine⟨A,c,rfl,hm,fun j u hu=>?_⟩
 obtain⟨b,off,rfl,hb,hc⟩:=hx j u hu
 exact⟨b,off,rfl,hb,(hk _ _ hb).trans hc⟩
theorem RdF.keeps {w w':World} {B:Nat} {f:FuncM} {val:Vals} (h:RdF w B f val) (hk:Keeps B w w'):RdF w' B f val:=fun t d hd=>(h t d hd).keeps hk
theorem RowR.ints {w:World} {B:Nat} {v:Value} {xs:List Int} (h:RowR w B v (intsRow xs)):Ints w B v xs:=by
 obtain⟨A,c,rfl,hm,hx⟩:=h
 refine⟨A,c,rfl,hm,fun k hk=>?_⟩
 obtain⟨b,off,hA,hb,hc⟩:=hx k (.int .i64 xs[k]) (by show(xs.map _)[k]?=_;rw[List.getElem?_map,List.getElem?_eq_getElem hk];rfl)
 exact⟨b,off,hA,hb,by rw[hc,List.getElem?_eq_getElem hk];rfl⟩
theorem Ints.row {w:World} {B:Nat} {v:Value} {xs:List Int} (h:Ints w B v xs):RowR w B v (intsRow xs):=by
 obtain⟨A,c,rfl,hm,hx⟩:=h
 refine⟨A,c,rfl,hm,fun j u hu=>?_⟩
 have hu':(xs.map (Value.int .i64))[j]?=some u:=hu
 rw[List.getElem?_map]at hu'
 cases hj:xs[j]? with
 | none => rw [hj] at hu';cases hu'
 | some x =>
  rw[hj]at hu'
  cases hu'
  obtain⟨b,off,hA,hb,hc⟩:=hx j (List.getElem?_eq_some_iff.1 hj).1
  exact⟨b,off,hA,hb,by rw[hc,hj];rfl⟩
structure FnFits (f:FuncM):Prop where
 phi:∀ b∈f.blocks,∀ p∈b.phis,I64 p.id∧I64 p.typ
 code:∀ b∈f.blocks,∀ x∈b.code,I64 x.op∧I64 x.id∧I64 x.n
 term:∀ b∈f.blocks,I64 b.term.op∧I64 b.term.val∧I64 b.term.n
theorem phiCells_len (val:Vals) (k:Nat):∀ i p,(phiCells val k i p).length=4:=fun _ _=>rfl
theorem instrCells_len (val:Vals) (k:Nat):∀ i p,(instrCells val k i p).length=4:=fun _ _=>rfl
theorem blockCells_len (val:Vals):∀ i p,(blockCells val i p).length=6:=fun _ _=>rfl
section
variable {w:World} {B:Nat} {f:FuncM} {val:Vals}
theorem RdF.params (h:RdF w B f val):Ints w B (val .params) f.params:=(h .params _ rfl).ints
theorem RdF.phis (h:RdF w B f val) (hf:FnFits f) {k:Nat} {b:BlockM} (hb:f.blocks[k]?=some b):PhisR w B (val (.phis k)) b.phis:=by
 obtain⟨A,c,hv,hm,hx⟩:=h (.phis k) _ (by simp only[rowOf,hb];rfl)
 rw[hv]
 refine⟨A,c,rfl,hm,fun i p hp=>?_⟩
 have hat:∀ r u,r<4→(phiCells val k i p)[r]?=some u→∃ b off,A=some ⟨b,off,none⟩∧b<B∧w.cell? ⟨b,off+(i*4+r),none⟩=some u:=fun r u hr hu=>hx (i*4+r) u (by
  have:=cellsOf_at (phiCells_len val k) b.phis 0 i r p hp hr
  rw[Nat.zero_add]at this
  exact this.trans hu)
 obtain⟨g,off,rfl,hg,c0⟩:=hat 0 _ (by omega) rfl
 obtain⟨_,_,e,_,c1⟩:=hat 1 _ (by omega) rfl
 cases e
 obtain⟨_,_,e,_,c2⟩:=hat 2 _ (by omega) rfl
 cases e
 obtain⟨_,_,e,_,c3⟩:=hat 3 _ (by omega) rfl
 cases e
 have hp2:(f.blocks[k]?.bind fun b=>b.phis[i]?)=some p:=by rw[hb];exact hp
 exact⟨g,off,_,_,rfl,hg,c0,c1,c2,c3,(h (.fr k i) _ (by simp only[rowOf,hp2];rfl)).ints,(h (.vals k i) _ (by simp only[rowOf,hp2];rfl)).ints,hf.phi b (List.mem_of_getElem? hb) p (List.mem_of_getElem? hp)⟩
theorem RdF.code (h:RdF w B f val) (hf:FnFits f) {k:Nat} {b:BlockM} (hb:f.blocks[k]?=some b):CodeR w B (val (.code k)) b.code:=by
 obtain⟨A,c,hv,hm,hx⟩:=h (.code k) _ (by simp only[rowOf,hb];rfl)
 rw[hv]
 refine⟨A,c,rfl,hm,fun i p hp=>?_⟩
 have hat:∀ r u,r<4→(instrCells val k i p)[r]?=some u→∃ b off,A=some ⟨b,off,none⟩∧b<B∧w.cell? ⟨b,off+(i*4+r),none⟩=some u:=fun r u hr hu=>hx (i*4+r) u (by
  have:=cellsOf_at (instrCells_len val k) b.code 0 i r p hp hr
  rw[Nat.zero_add]at this
  exact this.trans hu)
 obtain⟨g,off,rfl,hg,c0⟩:=hat 0 _ (by omega) rfl
 obtain⟨_,_,e,_,c1⟩:=hat 1 _ (by omega) rfl
 cases e
 obtain⟨_,_,e,_,c2⟩:=hat 2 _ (by omega) rfl
 cases e
 obtain⟨_,_,e,_,c3⟩:=hat 3 _ (by omega) rfl
 cases e
 have hp2:(f.blocks[k]?.bind fun b=>b.code[i]?)=some p:=by rw[hb];exact hp
 exact⟨g,off,_,rfl,hg,c0,c1,c2,c3,(h (.args k i) _ (by simp only[rowOf,hp2];rfl)).ints,hf.code b (List.mem_of_getElem? hb) p (List.mem_of_getElem? hp)⟩
theorem RdF.blocks (h:RdF w B f val) (hf:FnFits f):BlocksR w B (val .blocks) f.blocks:=by
 obtain⟨A,c,hv,hm,hx⟩:=h .blocks _ rfl
 rw[hv]
 refine⟨A,c,rfl,hm,fun k b hb=>?_⟩
 have hat:∀ r u,r<6→(blockCells val k b)[r]?=some u→∃ b off,A=some ⟨b,off,none⟩∧b<B∧w.cell? ⟨b,off+(k*6+r),none⟩=some u:=fun r u hr hu=>hx (k*6+r) u (by
  have:=cellsOf_at (blockCells_len val) f.blocks 0 k r b hb hr
  rw[Nat.zero_add]at this
  exact this.trans hu)
 obtain⟨g,off,rfl,hg,c0⟩:=hat 0 _ (by omega) rfl
 obtain⟨_,_,e,_,c1⟩:=hat 1 _ (by omega) rfl
 cases e
 obtain⟨_,_,e,_,c2⟩:=hat 2 _ (by omega) rfl
 cases e
 obtain⟨_,_,e,_,c3⟩:=hat 3 _ (by omega) rfl
 cases e
 obtain⟨_,_,e,_,c4⟩:=hat 4 _ (by omega) rfl
 cases e
 obtain⟨_,_,e,_,c5⟩:=hat 5 _ (by omega) rfl
 cases e
 have ht:=hf.term b (List.mem_of_getElem? hb)
 exact⟨g,off,_,_,_,rfl,hg,c0,c1,c2,c3,c4,c5,h.phis hf hb,h.code hf hb,(h (.ends k) _ (by simp only[rowOf,hb];rfl)).ints,ht⟩
end
end Go.Proofs.YtaehbgppfahdeaaGreat

namespace Go.Proofs.YtaehbgppfahdeaaGreat
open Go.RowKit
theorem phi_info:(Tryz.prog.info? 76).map (fun i=>(i.zero,i.size,i.bytes))=some (some (.agg #[.int .i64 0,.int .i64 0,.slice none 0 0,.slice none 0 0]),4,64):=by kernel_rfl
theorem instr_info:(Tryz.prog.info? 68).map (fun i=>(i.zero,i.size,i.bytes))=some (some (.agg #[.int .i64 0,.int .i64 0,.slice none 0 0,.int .i64 0]),4,48):=by kernel_rfl
theorem block_info:(Tryz.prog.info? 62).map (fun i=>(i.zero,i.size,i.bytes))=some (some (.agg #[.slice none 0 0,.slice none 0 0,.int .i64 0,.int .i64 0,.slice none 0 0,.int .i64 0]),6,96):=by kernel_rfl
def ListPost (e0:TypeId) (s:Nat) (d:RowD) (w:World) (e:Ending) (w':World):Prop :=
 ∃ v',e=.returned v'∧w'.ownsRow w.heap.size e0 s v' d.len d.cells∧Below w.heap.size w w'
set_option maxRecDepth 100000 in
set_option maxHeartbeats 1000000 in
theorem listInt_any (d:RowD) (B:Nat) (v:Value) (w:World) (hx:RowR w B v d) (hl:d.cells.length=d.len*1) (hn:d.len≤100000) (h1:∀ u∈d.cells,u.oneCell'=true) :
  Calls Tryz.prog 111 #[v] w (ListPost 3 1 d w):=by
 obtain⟨A,c,rfl,hm,hcell⟩:=hx
 have HC:=hideI hcell
 have HL:=hideI hl
 have H1:=hideI h1
 obtain⟨n,hN⟩:∃ n,n=d.len:=⟨_,rfl⟩
 have HN:=hideI hN
 rw[← hN]at hn hl ⊢
 obtain⟨i0,hix,hz0,hz1,hz2⟩:=info_parts int_info
 clear hcell h1
 rcases Nat.eq_zero_or_pos n with rfl|hpos
 ·have hnil:d.cells=[]:=List.eq_nil_of_length_eq_zero (by omega)
  have HNIL:=hideI hnil
  have hpure:Sem.run Tryz.prog (pure (#[]:Array Value)) w=.ok #[] w:=rfl
  clear hl hN hnil
  cases A
  all_goals
   go_enter Tryz.func111,Tryz.ntmps111
   go_wp2
   go_ret
   exact⟨.slice none 0 0,rfl,by rw[HNIL.out,← HN.out];exact World.ownsRow_nil _ _ _ _,Below.refl _ _⟩
 ·obtain⟨u,hu⟩:∃ u,d.cells[0]?=some u:=⟨_,List.getElem?_eq_getElem (by omega)⟩
  obtain⟨b,off,rfl,hb,_⟩:=HC.out 0 u hu
  have HR:Hid (∀ j u,d.cells[j]?=some u→w.cell? ((⟨b,off,none⟩:Addr).add j)=some u):=fun j u hu=>by
   obtain⟨b',off',e,_,h⟩:=HC.out j u hu
   cases e
   rw[Go.WideShapes.add_plain]
   exact h
  have HLN:Hid (d.cells.length=n*1):=hl
  clear hu hl hN
  go_enter Tryz.func111,Tryz.ntmps111
  go_wp2_with (at_builtin;go_must (refine wpList_append_own _ rfl _ _ _ rfl w.heap.size 3 i0 _ 1 8 Tryz.underlying22 hix hz0 hz1 hz2 rfl (by decide) _ 0 [] rfl (World.ownsRow_nil _ _ _ _) ⟨b,off,none⟩ n c d.cells rfl HLN.out HR.out H1.out (by unfold maxLen;omega) (by omega) (Nat.le_refl _) ?_);intro v1 w1 hown1 hg1 _;have HO1:=hideI hown1;have HG1:=hideI hg1;clear hown1 hg1)
  go_ret
  refine⟨v1,rfl,?_,⟨HG1.out.os,HG1.out.tape,HG1.out.output,HG1.out.size,fun k hk=>HG1.out.block k hk (fun e=>by simp[Value.ownBlock,Act.eval]at e)⟩⟩
  have:=HO1.out
  rw[Nat.zero_add,List.nil_append]at this
  rw[← HN.out]
  exact this
set_option maxRecDepth 100000 in
set_option maxHeartbeats 1000000 in
theorem listPhi_any (d:RowD) (B:Nat) (v:Value) (w:World) (hx:RowR w B v d) (hl:d.cells.length=d.len*4) (hn:d.len≤100000) (h1:∀ u∈d.cells,u.oneCell'=true) :
  Calls Tryz.prog 163 #[v] w (ListPost 76 4 d w):=by
 obtain⟨A,c,rfl,hm,hcell⟩:=hx
 have HC:=hideI hcell
 have HL:=hideI hl
 have H1:=hideI h1
 obtain⟨n,hN⟩:∃ n,n=d.len:=⟨_,rfl⟩
 have HN:=hideI hN
 rw[← hN]at hn hl ⊢
 obtain⟨i0,hix,hz0,hz1,hz2⟩:=info_parts phi_info
 clear hcell h1
 rcases Nat.eq_zero_or_pos n with rfl|hpos
 ·have hnil:d.cells=[]:=List.eq_nil_of_length_eq_zero (by omega)
  have HNIL:=hideI hnil
  have hpure:Sem.run Tryz.prog (pure (#[]:Array Value)) w=.ok #[] w:=rfl
  clear hl hN hnil
  cases A
  all_goals
   go_enter Tryz.func163,Tryz.ntmps163
   go_wp2
   go_ret
   exact⟨.slice none 0 0,rfl,by rw[HNIL.out,← HN.out];exact World.ownsRow_nil _ _ _ _,Below.refl _ _⟩
 ·obtain⟨u,hu⟩:∃ u,d.cells[0]?=some u:=⟨_,List.getElem?_eq_getElem (by omega)⟩
  obtain⟨b,off,rfl,hb,_⟩:=HC.out 0 u hu
  have HR:Hid (∀ j u,d.cells[j]?=some u→w.cell? ((⟨b,off,none⟩:Addr).add j)=some u):=fun j u hu=>by
   obtain⟨b',off',e,_,h⟩:=HC.out j u hu
   cases e
   rw[Go.WideShapes.add_plain]
   exact h
  have HLN:Hid (d.cells.length=n*4):=hl
  clear hu hl hN
  go_enter Tryz.func163,Tryz.ntmps163
  go_wp2_with (at_builtin;go_must (refine wpList_append_own _ rfl _ _ _ rfl w.heap.size 76 i0 _ 4 64 Tryz.underlying57 hix hz0 hz1 hz2 rfl (by decide) _ 0 [] rfl (World.ownsRow_nil _ _ _ _) ⟨b,off,none⟩ n c d.cells rfl HLN.out HR.out H1.out (by unfold maxLen;omega) (by omega) (Nat.le_refl _) ?_);intro v1 w1 hown1 hg1 _;have HO1:=hideI hown1;have HG1:=hideI hg1;clear hown1 hg1)
  go_ret
  refine⟨v1,rfl,?_,⟨HG1.out.os,HG1.out.tape,HG1.out.output,HG1.out.size,fun k hk=>HG1.out.block k hk (fun e=>by simp[Value.ownBlock,Act.eval]at e)⟩⟩
  have:=HO1.out
  rw[Nat.zero_add,List.nil_append]at this
  rw[← HN.out]
  exact this
set_option maxRecDepth 100000 in
set_option maxHeartbeats 1000000 in
theorem listInstr_any (d:RowD) (B:Nat) (v:Value) (w:World) (hx:RowR w B v d) (hl:d.cells.length=d.len*4) (hn:d.len≤100000) (h1:∀ u∈d.cells,u.oneCell'=true) :
  Calls Tryz.prog 164 #[v] w (ListPost 68 4 d w):=by
 obtain⟨A,c,rfl,hm,hcell⟩:=hx
 have HC:=hideI hcell
 have HL:=hideI hl
 have H1:=hideI h1
 obtain⟨n,hN⟩:∃ n,n=d.len:=⟨_,rfl⟩
 have HN:=hideI hN
 rw[← hN]at hn hl ⊢
 obtain⟨i0,hix,hz0,hz1,hz2⟩:=info_parts instr_info
 clear hcell h1
 rcases Nat.eq_zero_or_pos n with rfl|hpos
 ·have hnil:d.cells=[]:=List.eq_nil_of_length_eq_zero (by omega)
  have HNIL:=hideI hnil
  have hpure:Sem.run Tryz.prog (pure (#[]:Array Value)) w=.ok #[] w:=rfl
  clear hl hN hnil
  cases A
  all_goals
   go_enter Tryz.func164,Tryz.ntmps164
   go_wp2
   go_ret
   exact⟨.slice none 0 0,rfl,by rw[HNIL.out,← HN.out];exact World.ownsRow_nil _ _ _ _,Below.refl _ _⟩
 ·obtain⟨u,hu⟩:∃ u,d.cells[0]?=some u:=⟨_,List.getElem?_eq_getElem (by omega)⟩
  obtain⟨b,off,rfl,hb,_⟩:=HC.out 0 u hu
  have HR:Hid (∀ j u,d.cells[j]?=some u→w.cell? ((⟨b,off,none⟩:Addr).add j)=some u):=fun j u hu=>by
   obtain⟨b',off',e,_,h⟩:=HC.out j u hu
   cases e
   rw[Go.WideShapes.add_plain]
   exact h
  have HLN:Hid (d.cells.length=n*4):=hl
  clear hu hl hN
  go_enter Tryz.func164,Tryz.ntmps164
  go_wp2_with (at_builtin;go_must (refine wpList_append_own _ rfl _ _ _ rfl w.heap.size 68 i0 _ 4 48 Tryz.underlying58 hix hz0 hz1 hz2 rfl (by decide) _ 0 [] rfl (World.ownsRow_nil _ _ _ _) ⟨b,off,none⟩ n c d.cells rfl HLN.out HR.out H1.out (by unfold maxLen;omega) (by omega) (Nat.le_refl _) ?_);intro v1 w1 hown1 hg1 _;have HO1:=hideI hown1;have HG1:=hideI hg1;clear hown1 hg1)
  go_ret
  refine⟨v1,rfl,?_,⟨HG1.out.os,HG1.out.tape,HG1.out.output,HG1.out.size,fun k hk=>HG1.out.block k hk (fun e=>by simp[Value.ownBlock,Act.eval]at e)⟩⟩
  have:=HO1.out
  rw[Nat.zero_add,List.nil_append]at this
  rw[← HN.out]
  exact this
set_option maxRecDepth 100000 in
set_option maxHeartbeats 1000000 in
theorem listBlock_any (d:RowD) (B:Nat) (v:Value) (w:World) (hx:RowR w B v d) (hl:d.cells.length=d.len*6) (hn:d.len≤100000) (h1:∀ u∈d.cells,u.oneCell'=true) :
  Calls Tryz.prog 112 #[v] w (ListPost 62 6 d w):=by
 obtain⟨A,c,rfl,hm,hcell⟩:=hx
 have HC:=hideI hcell
 have HL:=hideI hl
 have H1:=hideI h1
 obtain⟨n,hN⟩:∃ n,n=d.len:=⟨_,rfl⟩
 have HN:=hideI hN
 rw[← hN]at hn hl ⊢
 obtain⟨i0,hix,hz0,hz1,hz2⟩:=info_parts block_info
 clear hcell h1
 rcases Nat.eq_zero_or_pos n with rfl|hpos
 ·have hnil:d.cells=[]:=List.eq_nil_of_length_eq_zero (by omega)
  have HNIL:=hideI hnil
  have hpure:Sem.run Tryz.prog (pure (#[]:Array Value)) w=.ok #[] w:=rfl
  clear hl hN hnil
  cases A
  all_goals
   go_enter Tryz.func112,Tryz.ntmps112
   go_wp2
   go_ret
   exact⟨.slice none 0 0,rfl,by rw[HNIL.out,← HN.out];exact World.ownsRow_nil _ _ _ _,Below.refl _ _⟩
 ·obtain⟨u,hu⟩:∃ u,d.cells[0]?=some u:=⟨_,List.getElem?_eq_getElem (by omega)⟩
  obtain⟨b,off,rfl,hb,_⟩:=HC.out 0 u hu
  have HR:Hid (∀ j u,d.cells[j]?=some u→w.cell? ((⟨b,off,none⟩:Addr).add j)=some u):=fun j u hu=>by
   obtain⟨b',off',e,_,h⟩:=HC.out j u hu
   cases e
   rw[Go.WideShapes.add_plain]
   exact h
  have HLN:Hid (d.cells.length=n*6):=hl
  clear hu hl hN
  go_enter Tryz.func112,Tryz.ntmps112
  go_wp2_with (at_builtin;go_must (refine wpList_append_own _ rfl _ _ _ rfl w.heap.size 62 i0 _ 6 96 Tryz.underlying23 hix hz0 hz1 hz2 rfl (by decide) _ 0 [] rfl (World.ownsRow_nil _ _ _ _) ⟨b,off,none⟩ n c d.cells rfl HLN.out HR.out H1.out (by unfold maxLen;omega) (by omega) (Nat.le_refl _) ?_);intro v1 w1 hown1 hg1 _;have HO1:=hideI hown1;have HG1:=hideI hg1;clear hown1 hg1)
  go_ret
  refine⟨v1,rfl,?_,⟨HG1.out.os,HG1.out.tape,HG1.out.output,HG1.out.size,fun k hk=>HG1.out.block k hk (fun e=>by simp[Value.ownBlock,Act.eval]at e)⟩⟩
  have:=HO1.out
  rw[Nat.zero_add,List.nil_append]at this
  rw[← HN.out]
  exact this
end Go.Proofs.YtaehbgppfahdeaaGreat

namespace Go.Proofs.YtaehbgppfahdeaaGreat
open Go.RowKit
def ListPost' (e0:TypeId) (s:Nat) (d:RowD) (w:World) (e:Ending) (w':World):Prop :=
 ∃ A c,e=.returned (.slice A d.len c)∧w'.ownsRow w.heap.size e0 s (.slice A d.len c) d.len d.cells∧Below w.heap.size w w'
theorem ListPost.form {e0:TypeId} {s:Nat} {d:RowD} {w w':World} {e:Ending} (h:ListPost e0 s d w e w'):ListPost' e0 s d w e w':=by
 obtain⟨v,rfl,hown,hb⟩:=h
 rcases hown.2 with⟨hv,h0⟩|⟨g,cap,cur,hv,_⟩
 ·exact⟨none,0,by rw[hv,h0],by rw[h0]at hown ⊢;rw[← hv];exact hown,hb⟩
 ·exact⟨_,_,by rw[hv],by rw[← hv];exact hown,hb⟩
theorem free_row' {w w':World} {g:Nat} {cs:Array Value} {t:TypeId} (h:w.heap[g]?=some (.cells cs t (0,0))) (hk:w'.heap[g]?=w.heap[g]?):∀ o,w'.frozen? ⟨g,o,none⟩=false:=by
 intro o
 simp[World.frozen?,hk,h]
def upd {α:Type} (g:Tag→α) (t0:Tag) (a:α):Tag→α:=fun t=>if t=t0 then a else g t
theorem upd_same {α:Type} (g:Tag→α) (t0:Tag) (a:α):upd g t0 a t0=a:=by unfold upd;rw[if_pos rfl]
theorem upd_ne {α:Type} (g:Tag→α) {t0 t:Tag} (a:α) (h:t≠t0):upd g t0 a t=g t:=by unfold upd;rw[if_neg h]
abbrev Rows:=Tag→Option RowD
structure OwnG (w:World) (base:Nat) (row:Rows) (val:Vals) (D:Tag→Prop):Prop where
 has:∀ t,D t→(row t).isSome=true
 rows:∀ t d,D t→row t=some d→w.ownsRow base d.elem d.size (val t) d.len d.cells
 apart:∀ t t' g,D t→D t'→(val t).ownBlock=some g→(val t').ownBlock=some g→t=t'
variable {w w1:World} {base:Nat} {row:Rows} {val:Vals} {D:Tag→Prop}
theorem OwnG.nothing (w:World) (base:Nat) (row:Rows) (val:Vals):OwnG w base row val (fun _=>False):=⟨fun _ h=>h.elim,fun _ _ h=>h.elim,fun _ _ _ h=>h.elim⟩
theorem OwnG.lt (h:OwnG w base row val D) {t:Tag} {g:Nat} (ht:D t) (hg:(val t).ownBlock=some g):base≤g∧g<w.heap.size:=by
 obtain⟨d,hd⟩:=Option.isSome_iff_exists.1 (h.has t ht)
 exact(h.rows t d ht hd).lt g hg
theorem OwnG.kept (h:OwnG w base row val D) (hk:∀ b,base≤b→b<w.heap.size→w1.heap[b]?=w.heap[b]?):OwnG w1 base row val D:=by
 refine⟨h.has,fun t d ht hd=>?_,h.apart⟩
 have h0:=h.rows t d ht hd
 refine⟨h0.1,?_⟩
 rcases h0.2 with h2|⟨g,cap,cur,hv,hb,hg,r⟩
 ·exact .inl h2
 ·exact .inr ⟨g,cap,cur,hv,hb,(hk g hb (Array.getElem?_eq_some_iff.1 hg).1).trans hg,r⟩
theorem OwnG.below (h:OwnG w base row val D) (hb:Below w.heap.size w w1):OwnG w1 base row val D:=h.kept fun b _ hl=>hb.block b hl
theorem OwnG.other (h:OwnG w base row val D) {a:Addr} {u:Value} (ha:∀ t,D t→(val t).ownBlock≠some a.block):OwnG (w.setCell a u) base row val D :=
 ⟨h.has,fun t d ht hd=>ownsRow_setCell_other (h.rows t d ht hd) (ha t ht) u,h.apart⟩
theorem OwnG.congr {row':Rows} {val':Vals} {D':Tag→Prop} (h:OwnG w base row val D) (hr:∀ t,D' t→row' t=row t) (hv:∀ t,D' t→val' t=val t) (hD:∀ t,D' t→D t):OwnG w base row' val' D' :=
 ⟨fun t ht=>by rw[hr t ht];exact h.has t (hD t ht),fun t d ht hd=>by rw[hv t ht];exact h.rows t d (hD t ht) (by rw[← hr t ht];exact hd),
  fun t t' g ht ht' h1 h2=>h.apart t t' g (hD t ht) (hD t' ht') (by rw[← hv t ht];exact h1) (by rw[← hv t' ht'];exact h2)⟩
theorem OwnG.add {t0:Tag} {d:RowD} {v:Value} (h:OwnG w base row val D) (hn:¬ D t0) (hb:Below w.heap.size w w1) (hown:w1.ownsRow w.heap.size d.elem d.size v d.len d.cells) (hbase:base≤w.heap.size) :
  OwnG w1 base (upd row t0 (some d)) (upd val t0 v) (fun t=>D t∨t=t0):=by
 have h1:=h.below hb
 refine⟨fun t ht=>?_,fun t d' ht hd=>?_,fun t t' g ht ht' e1 e2=>?_⟩
 ·by_cases e:t=t0
  ·subst e;rw[upd_same];rfl
  ·rw[upd_ne _ _ e];exact h.has t (ht.resolve_right e)
 ·by_cases e:t=t0
  ·subst e
   rw[upd_same]at hd ⊢
   cases hd
   exact World.ownsRow.mono hown hbase
  ·rw[upd_ne _ _ e]at hd ⊢
   exact h1.rows t d' (ht.resolve_right e) hd
 ·by_cases e:t=t0
  ·by_cases e':t'=t0
   ·rw[e,e']
   ·subst e
    rw[upd_same]at e1
    rw[upd_ne _ _ e']at e2
    have:=(hown.lt g e1).1
    have:=(h.lt (ht'.resolve_right e') e2).2
    omega
  ·by_cases e':t'=t0
   ·subst e'
    rw[upd_same]at e2
    rw[upd_ne _ _ e]at e1
    have:=(hown.lt g e2).1
    have:=(h.lt (ht.resolve_right e) e1).2
    omega
   ·rw[upd_ne _ _ e]at e1
    rw[upd_ne _ _ e']at e2
    exact h.apart t t' g (ht.resolve_right e) (ht'.resolve_right e') e1 e2
theorem OwnG.set {tp:Tag} {d:RowD} {g n cap j:Nat} {u:Value} (h:OwnG w base row val D) (hp:D tp) (hd:row tp=some d) (hv:val tp=.slice (some ⟨g,0,none⟩) n cap) (hn:d.len=n) :
  OwnG (w.setCell ⟨g,j,none⟩ u) base (upd row tp (some { d with cells:=d.cells.set j u })) val D:=by
 have h0:=h.rows tp d hp hd
 rw[hv,hn]at h0
 have hs:=h0.stored j u
 have hg:(val tp).ownBlock=some g:=by rw[hv];rfl
 refine⟨fun t ht=>?_,fun t d' ht hd'=>?_,h.apart⟩
 ·by_cases e:t=tp
  ·subst e;rw[upd_same];rfl
  ·rw[upd_ne _ _ e];exact h.has t ht
 ·by_cases e:t=tp
  ·subst e
   rw[upd_same]at hd'
   cases hd'
   rw[hv,hn]
   exact hs.1
  ·rw[upd_ne _ _ e]at hd'
   refine(h.rows t d' ht hd').kept hs.2 (.inr fun e2=>e (h.apart t tp g ht hp e2 hg))
theorem OwnG.cell {tp:Tag} {d:RowD} {g n cap j:Nat} (h:OwnG w base row val D) (hp:D tp) (hd:row tp=some d) (hv:val tp=.slice (some ⟨g,0,none⟩) n cap) (hn:d.len=n) (hj:j<n*d.size) :
  w.cell? ⟨g,j,none⟩=d.cells[j]?∧w.frozen? ⟨g,j,none⟩=false:=by
 have h0:=h.rows tp d hp hd
 rw[hv,hn]at h0
 exact⟨World.ownsRow.cellAt h0 j hj,World.ownsRow.frozenAt h0 j⟩
theorem OwnG.slice {tp:Tag} {d:RowD} (h:OwnG w base row val D) (hp:D tp) (hd:row tp=some d) (h0:0<d.len):∃ g cap,val tp=.slice (some ⟨g,0,none⟩) d.len cap∧base≤g∧g<w.heap.size :=
 (h.rows tp d hp hd).form h0
def blkOf:Tag→Option Nat
 | .params => none
 | .blocks => none
 | .phis k => some k
 | .code k => some k
 | .ends k => some k
 | .fr k _ => some k
 | .vals k _ => some k
 | .args k _ => some k
section
variable {α:Type} {g g':Nat→α→List Value} {s:Nat}
theorem cellsOf_set (hs:∀ i a,(g i a).length=s) (hs':∀ i a,(g' i a).length=s) {l:List α} {i r:Nat} {u:Value} (_hi:i<l.length) (hr:r<s) (h1:∀ k a,l[k]?=some a→k≠i→g' k a=g k a) (h2:∀ a,l[i]?=some a→g' i a=(g i a).set r u) :
  (cellsOf g 0 l).set (i*s+r) u=cellsOf g' 0 l:=by
 apply List.ext_getElem?
 intro j
 by_cases hj:j<l.length*s
 ·have hs0:0<s:=by omega
  have hk:j / s<l.length:=(Nat.div_lt_iff_lt_mul hs0).2 hj
  have hm:=Nat.mod_lt j hs0
  have e:j=j / s*s+j % s:=by rw[Nat.mul_comm];exact(Nat.div_add_mod j s).symm
  obtain⟨a,ha⟩:∃ a,l[j / s]?=some a:=⟨_,List.getElem?_eq_getElem hk⟩
  have c1:=cellsOf_at hs l 0 (j / s) (j % s) _ ha hm
  have c2:=cellsOf_at hs' l 0 (j / s) (j % s) _ ha hm
  rw[← e,Nat.zero_add]at c1 c2
  rw[c2]
  by_cases ek:j / s=i
  ·rw[ek]at ha c1 ⊢
   rw[h2 _ ha]
   by_cases er:j % s=r
   ·have ej:j=i*s+r:=by rw[← ek,← er];exact e
    rw[ej,List.getElem?_set_self (by rw[cellsOf_len hs];rw[← ej];exact hj),← ej,er,List.getElem?_set_self (by rw[hs];exact hr)]
   ·have hne:i*s+r≠j:=fun e2=>er (by rw[← e2,Nat.add_comm,Nat.add_mul_mod_self_right];exact Nat.mod_eq_of_lt hr)
    rw[List.getElem?_set_ne hne,List.getElem?_set_ne (fun e2=>er e2.symm)]
    exact c1
  ·have hne:i*s+r≠j:=fun e2=>ek (by rw[← e2,Nat.add_comm,Nat.add_mul_div_right _ _ hs0,Nat.div_eq_of_lt hr,Nat.zero_add])
   rw[List.getElem?_set_ne hne,c1,h1 _ _ ha ek]
 ·rw[List.getElem?_eq_none (by rw[List.length_set,cellsOf_len hs];omega),List.getElem?_eq_none (by rw[cellsOf_len hs'];omega)]
end
end Go.Proofs.YtaehbgppfahdeaaGreat

namespace Go.Proofs.YtaehbgppfahdeaaGreat
open Go.RowKit
def DD (k np nc:Nat) (t:Tag):Prop:=t=.phis k∨t=.code k∨t=.ends k∨(∃ j,j<np∧(t=.fr k j∨t=.vals k j))∨∃ j,j<nc∧t=.args k j
structure BlkSt (f:FuncM) (val:Vals) (k:Nat) (b:BlockM) (N:Nat) (w0 wx:World) (val1:Vals) (np nc:Nat):Prop where
 same:∀ t,¬ DD k np nc t→val1 t=val t
 own:OwnG wx (N+2) (rowOf f val1) val1 (DD k np nc)
 box:wx.heap[N]?=some (.cells (blockCells val1 k b).toArray 62 (0,0))
 res:wx.heap[N+1]?=some (.cells #[.slice none 0 0,.slice none 0 0,.int .i64 0,.int .i64 0,.slice none 0 0,.int .i64 0] 62 (0,0))
 low:Below N w0 wx
section
variable {f:FuncM} {val val1:Vals} {k:Nat} {b:BlockM} {N np nc:Nat} {w0 wx:World}
theorem DD.not_fr {k np nc:Nat}:¬ DD k np nc (.fr k np):=by
 rintro(h|h|h|⟨j,hj,h|h⟩|⟨j,hj,h⟩) <;> cases h
 omega
theorem DD.not_vals {k np nc:Nat}:¬ DD k np nc (.vals k np):=by
 rintro(h|h|h|⟨j,hj,h|h⟩|⟨j,hj,h⟩) <;> cases h
 omega
theorem DD.not_args {k np nc:Nat}:¬ DD k np nc (.args k nc):=by
 rintro(h|h|h|⟨j,hj,h|h⟩|⟨j,hj,h⟩) <;> cases h
 omega
theorem DD.succ {k np nc:Nat} {t:Tag}:DD k (np+1) nc t↔(DD k np nc t∨t=.fr k np)∨t=.vals k np:=by
 unfold DD
 constructor
 ·rintro(h|h|h|⟨j,hj,h⟩|h)
  ·exact .inl (.inl (.inl h))
  ·exact .inl (.inl (.inr (.inl h)))
  ·exact .inl (.inl (.inr (.inr (.inl h))))
  ·by_cases e:j=np
   ·subst e
    rcases h with h|h
    ·exact .inl (.inr h)
    ·exact .inr h
   ·exact .inl (.inl (.inr (.inr (.inr (.inl ⟨j,by omega,h⟩)))))
  ·exact .inl (.inl (.inr (.inr (.inr (.inr h)))))
 ·rintro(((h|h|h|⟨j,hj,h⟩|h)|h)|h)
  ·exact .inl h
  ·exact .inr (.inl h)
  ·exact .inr (.inr (.inl h))
  ·exact .inr (.inr (.inr (.inl ⟨j,by omega,h⟩)))
  ·exact .inr (.inr (.inr (.inr h)))
  ·exact .inr (.inr (.inr (.inl ⟨np,by omega,.inl h⟩)))
  ·exact .inr (.inr (.inr (.inl ⟨np,by omega,.inr h⟩)))
theorem DD.succ_args {k np nc:Nat} {t:Tag}:DD k np (nc+1) t↔DD k np nc t∨t=.args k nc:=by
 unfold DD
 constructor
 ·rintro(h|h|h|h|⟨j,hj,h⟩)
  ·exact .inl (.inl h)
  ·exact .inl (.inr (.inl h))
  ·exact .inl (.inr (.inr (.inl h)))
  ·exact .inl (.inr (.inr (.inr (.inl h))))
  ·by_cases e:j=nc
   ·subst e
    exact .inr h
   ·exact .inl (.inr (.inr (.inr (.inr ⟨j,by omega,h⟩))))
 ·rintro((h|h|h|h|⟨j,hj,h⟩)|h)
  ·exact .inl h
  ·exact .inr (.inl h)
  ·exact .inr (.inr (.inl h))
  ·exact .inr (.inr (.inr (.inl h)))
  ·exact .inr (.inr (.inr (.inr ⟨j,by omega,h⟩)))
  ·exact .inr (.inr (.inr (.inr ⟨nc,by omega,h⟩)))
theorem rowOf_upd_leaf {f:FuncM} {val:Vals} {t0 t:Tag} {v:Value} (h:t≠.blocks) (h1:∀ k i,t0=.fr k i→t≠.phis k) (h2:∀ k i,t0=.vals k i→t≠.phis k) (h3:∀ k i,t0=.args k i→t≠.code k):rowOf f (upd val t0 v) t=rowOf f val t:=by
 cases t with
 | params => rfl
 | blocks => exact absurd rfl h
 | phis k =>
  simp only[rowOf]
  cases f.blocks[k]? with
  | none => rfl
  | some b =>
   simp only[Option.map_some,Option.some.injEq,RowD.mk.injEq,true_and]
   refine cellsOf_congr _ _ fun i p _=>?_
   unfold phiCells
   rw[upd_ne _ _ (fun e=>h1 k (0+i) e.symm rfl),upd_ne _ _ (fun e=>h2 k (0+i) e.symm rfl)]
 | code k =>
  simp only[rowOf]
  cases f.blocks[k]? with
  | none => rfl
  | some b =>
   simp only[Option.map_some,Option.some.injEq,RowD.mk.injEq,true_and]
   refine cellsOf_congr _ _ fun i p _=>?_
   unfold instrCells
   rw[upd_ne _ _ (fun e=>h3 k (0+i) e.symm rfl)]
 | ends k => rfl
 | fr k i => rfl
 | vals k i => rfl
 | args k i => rfl
theorem phis_set {f:FuncM} {val:Vals} {k i:Nat} {b:BlockM} {v u:Value} (hb:f.blocks[k]?=some b) (hi:i<b.phis.length) :
  rowOf f (upd (upd val (.fr k i) v) (.vals k i) u) (.phis k)=some ⟨76,4,b.phis.length,((cellsOf (phiCells val k) 0 b.phis).set (i*4+2) v).set (i*4+3) u⟩:=by
 simp only[rowOf,hb,Option.map_some,Option.some.injEq,RowD.mk.injEq,true_and]
 rw[cellsOf_set (g':=phiCells (upd val (.fr k i) v) k) (phiCells_len _ k) (phiCells_len _ k) hi (by omega),cellsOf_set (g':=phiCells (upd (upd val (.fr k i) v) (.vals k i) u) k) (phiCells_len _ k) (phiCells_len _ k) hi (by omega)]
 all_goals first
  | (intro j a _ hne;simp[phiCells,upd,hne];done)
  | (intro a _;simp[phiCells,upd];done)
theorem code_set {f:FuncM} {val:Vals} {k i:Nat} {b:BlockM} {v:Value} (hb:f.blocks[k]?=some b) (hi:i<b.code.length) :
  rowOf f (upd val (.args k i) v) (.code k)=some ⟨68,4,b.code.length,(cellsOf (instrCells val k) 0 b.code).set (i*4+2) v⟩:=by
 simp only[rowOf,hb,Option.map_some,Option.some.injEq,RowD.mk.injEq,true_and]
 rw[cellsOf_set (g':=instrCells (upd val (.args k i) v) k) (instrCells_len _ k) (instrCells_len _ k) hi (by omega)]
 all_goals first
  | (intro j a _ hne;simp[instrCells,upd,hne];done)
  | (intro a _;simp[instrCells,upd];done)
theorem BlkSt.phi {w2 w3:World} {p:PhiM} {i g c:Nat} {v u:Value} (h:BlkSt f val k b N w0 wx val1 i 0) (hb:f.blocks[k]?=some b) (hp:b.phis[i]?=some p) (hN:N+2≤wx.heap.size) (hg:val1 (.phis k)=.slice (some ⟨g,0,none⟩) b.phis.length c)
  (hb2:Below wx.heap.size wx w2) (ho2:w2.ownsRow wx.heap.size 3 1 v p.fr.length (p.fr.map (Value.int .i64))) (hb3:Below w2.heap.size w2 w3) (ho3:w3.ownsRow w2.heap.size 3 1 u p.vals.length (p.vals.map (Value.int .i64))) :
  BlkSt f val k b N w0 ((w3.setCell ⟨g,i*4+2,none⟩ v).setCell ⟨g,i*4+3,none⟩ u) (upd (upd val1 (.fr k i) v) (.vals k i) u) (i+1) 0:=by
 have hi:i<b.phis.length:=(List.getElem?_eq_some_iff.1 hp).1
 have hp2:(f.blocks[k]?.bind fun b=>b.phis[i]?)=some p:=by rw[hb];exact hp
 have hs2:=hb2.size
 have hs3:=hb3.size
 have D0:DD k i 0 (.phis k):=.inl rfl
 have hgl:=h.own.lt D0 (by rw[hg];rfl:(val1 (.phis k)).ownBlock=some g)
 have o1:=h.own.add (t0:=.fr k i) (d:=intsRow p.fr) DD.not_fr hb2 ho2 hN
 have o2:=o1.add (t0:=.vals k i) (d:=intsRow p.vals) (by
  rintro(e|e)
  ·exact DD.not_vals e
  ·cases e) hb3 ho3 (by omega)
 have hphi:upd (upd (rowOf f val1) (.fr k i) (some (intsRow p.fr))) (.vals k i) (some (intsRow p.vals)) (.phis k)=some ⟨76,4,b.phis.length,cellsOf (phiCells val1 k) 0 b.phis⟩:=by
  rw[upd_ne _ _ (by simp),upd_ne _ _ (by simp)]
  simp only[rowOf,hb,Option.map_some]
 have hval:upd (upd val1 (.fr k i) v) (.vals k i) u (.phis k)=.slice (some ⟨g,0,none⟩) b.phis.length c:=by rw[upd_ne _ _ (by simp),upd_ne _ _ (by simp)];exact hg
 have o3:=o2.set (tp:=.phis k) (j:=i*4+2) (u:=v) (.inl (.inl D0)) hphi hval rfl
 have o4:=o3.set (tp:=.phis k) (j:=i*4+3) (u:=u) (.inl (.inl D0)) (upd_same _ _ _) hval rfl
 have hne:g≠N∧g≠N+1:=by omega
 refine⟨fun t ht=>?_,?_,?_,?_,?_⟩
 ·have h1:t≠.vals k i:=fun e=>ht (DD.succ.2 (.inr e))
  have h2:t≠.fr k i:=fun e=>ht (DD.succ.2 (.inl (.inr e)))
  rw[upd_ne _ _ h1,upd_ne _ _ h2]
  exact h.same t fun e=>ht (DD.succ.2 (.inl (.inl e)))
 ·refine o4.congr (fun t ht=>?_) (fun t _=>rfl) (fun t ht=>DD.succ.1 ht)
  by_cases e1:t=.phis k
  ·subst e1
   rw[upd_same]
   exact phis_set hb hi
  ·rw[upd_ne _ _ e1,upd_ne _ _ e1]
   by_cases e2:t=.vals k i
   ·subst e2
    rw[upd_same]
    simp only[rowOf,hp2,Option.map_some]
   ·rw[upd_ne _ _ e2]
    by_cases e3:t=.fr k i
    ·subst e3
     rw[upd_same]
     simp only[rowOf,hp2,Option.map_some]
    ·rw[upd_ne _ _ e3]
     have hnb:t≠.blocks:=by rintro rfl;rcases ht with h|h|h|⟨j,hj,h|h⟩|⟨j,hj,h⟩ <;> cases h
     rw[rowOf_upd_leaf hnb (by simp) (fun k' i' e=>by cases e;exact e1) (by simp),rowOf_upd_leaf hnb (fun k' i' e=>by cases e;exact e1) (by simp) (by simp)]
 ·rw[heap_setCell_other _ _ _ _ (by simpa using hne.1.symm),heap_setCell_other _ _ _ _ (by simpa using hne.1.symm),hb3.block N (by omega),hb2.block N (by omega),h.box]
  unfold blockCells
  rw[upd_ne _ _ (by simp),upd_ne _ _ (by simp),upd_ne _ _ (by simp),upd_ne _ _ (by simp),upd_ne _ _ (by simp),upd_ne _ _ (by simp)]
 ·rw[heap_setCell_other _ _ _ _ (by simpa using hne.2.symm),heap_setCell_other _ _ _ _ (by simpa using hne.2.symm),hb3.block (N+1) (by omega),hb2.block (N+1) (by omega)]
  exact h.res
 ·exact(((h.low.trans (hb2.mono (by omega))).trans (hb3.mono (by omega))).setCell (by simp;omega) _).setCell (by simp;omega) _
theorem BlkSt.arg {w2:World} {x:InstrM} {i g c:Nat} {v:Value} (h:BlkSt f val k b N w0 wx val1 np i) (hb:f.blocks[k]?=some b) (hp:b.code[i]?=some x) (hN:N+2≤wx.heap.size) (hg:val1 (.code k)=.slice (some ⟨g,0,none⟩) b.code.length c)
  (hb2:Below wx.heap.size wx w2) (ho2:w2.ownsRow wx.heap.size 3 1 v x.args.length (x.args.map (Value.int .i64))) :
  BlkSt f val k b N w0 (w2.setCell ⟨g,i*4+2,none⟩ v) (upd val1 (.args k i) v) np (i+1):=by
 have hi:i<b.code.length:=(List.getElem?_eq_some_iff.1 hp).1
 have hp2:(f.blocks[k]?.bind fun b=>b.code[i]?)=some x:=by rw[hb];exact hp
 have hs2:=hb2.size
 have D0:DD k np i (.code k):=.inr (.inl rfl)
 have hgl:=h.own.lt D0 (by rw[hg];rfl:(val1 (.code k)).ownBlock=some g)
 have o1:=h.own.add (t0:=.args k i) (d:=intsRow x.args) DD.not_args hb2 ho2 hN
 have hphi:upd (rowOf f val1) (.args k i) (some (intsRow x.args)) (.code k)=some ⟨68,4,b.code.length,cellsOf (instrCells val1 k) 0 b.code⟩:=by
  rw[upd_ne _ _ (by simp)]
  simp only[rowOf,hb,Option.map_some]
 have hval:upd val1 (.args k i) v (.code k)=.slice (some ⟨g,0,none⟩) b.code.length c:=by rw[upd_ne _ _ (by simp)];exact hg
 have o3:=o1.set (tp:=.code k) (j:=i*4+2) (u:=v) (.inl D0) hphi hval rfl
 have hne:g≠N∧g≠N+1:=by omega
 refine⟨fun t ht=>?_,?_,?_,?_,?_⟩
 ·have h1:t≠.args k i:=fun e=>ht (DD.succ_args.2 (.inr e))
  rw[upd_ne _ _ h1]
  exact h.same t fun e=>ht (DD.succ_args.2 (.inl e))
 ·refine o3.congr (fun t ht=>?_) (fun t _=>rfl) (fun t ht=>DD.succ_args.1 ht)
  by_cases e1:t=.code k
  ·subst e1
   rw[upd_same]
   exact code_set hb hi
  ·rw[upd_ne _ _ e1]
   by_cases e2:t=.args k i
   ·subst e2
    rw[upd_same]
    simp only[rowOf,hp2,Option.map_some]
   ·rw[upd_ne _ _ e2]
    have hnb:t≠.blocks:=by rintro rfl;rcases ht with h|h|h|⟨j,hj,h|h⟩|⟨j,hj,h⟩ <;> cases h
    rw[rowOf_upd_leaf hnb (by simp) (by simp) (fun k' i' e=>by cases e;exact e1)]
 ·rw[heap_setCell_other _ _ _ _ (by simpa using hne.1.symm),hb2.block N (by omega),h.box]
  unfold blockCells
  rw[upd_ne _ _ (by simp),upd_ne _ _ (by simp),upd_ne _ _ (by simp)]
 ·rw[heap_setCell_other _ _ _ _ (by simpa using hne.2.symm),hb2.block (N+1) (by omega)]
  exact h.res
 ·exact((h.low.trans (hb2.mono (by omega))).setCell (by simp;omega) _)
end
end Go.Proofs.YtaehbgppfahdeaaGreat
namespace Go.Proofs.YtaehbgppfahdeaaGreat
open Go.RowKit
section
variable {f:FuncM} {val val1:Vals} {k:Nat} {b:BlockM} {N np nc:Nat} {w0 W0 wx w2 w3 w4:World}
theorem row_phis {f:FuncM} {val:Vals} {k:Nat} {b:BlockM} (hb:f.blocks[k]?=some b):rowOf f val (.phis k)=some ⟨76,4,b.phis.length,cellsOf (phiCells val k) 0 b.phis⟩:=by simp only[rowOf,hb,Option.map_some]
theorem row_code {f:FuncM} {val:Vals} {k:Nat} {b:BlockM} (hb:f.blocks[k]?=some b):rowOf f val (.code k)=some ⟨68,4,b.code.length,cellsOf (instrCells val k) 0 b.code⟩:=by simp only[rowOf,hb,Option.map_some]
theorem row_ends {f:FuncM} {val:Vals} {k:Nat} {b:BlockM} (hb:f.blocks[k]?=some b):rowOf f val (.ends k)=some (intsRow b.term.to):=by simp only[rowOf,hb,Option.map_some]
theorem BlkSt.start {v1 v2 v3:Value} (hb:f.blocks[k]?=some b) (hs:W0.heap.size=N+2) (hbox:W0.heap[N]?=some (.cells (blockCells val k b).toArray 62 (0,0)))
  (hres:W0.heap[N+1]?=some (.cells #[.slice none 0 0,.slice none 0 0,.int .i64 0,.int .i64 0,.slice none 0 0,.int .i64 0] 62 (0,0))) (hlow:Below N w0 W0)
  (hb2:Below W0.heap.size W0 w2) (ho2:w2.ownsRow W0.heap.size 76 4 v1 b.phis.length (cellsOf (phiCells val k) 0 b.phis))
  (hb3:Below w2.heap.size w2 w3) (ho3:w3.ownsRow w2.heap.size 68 4 v2 b.code.length (cellsOf (instrCells val k) 0 b.code))
  (hb4:Below w3.heap.size w3 w4) (ho4:w4.ownsRow w3.heap.size 3 1 v3 b.term.to.length (b.term.to.map (Value.int .i64))) :
  BlkSt f val k b N w0 (((w4.setCell ⟨N,0,none⟩ v1).setCell ⟨N,1,none⟩ v2).setCell ⟨N,4,none⟩ v3) (upd (upd (upd val (.phis k) v1) (.code k) v2) (.ends k) v3) 0 0:=by
 have s2:=hb2.size
 have s3:=hb3.size
 have s4:=hb4.size
 have o1:=(OwnG.nothing W0 (N+2) (rowOf f val) val).add (t0:=.phis k) (d:=⟨76,4,b.phis.length,cellsOf (phiCells val k) 0 b.phis⟩) (by simp) hb2 ho2 (by omega)
 have o2:=o1.add (t0:=.code k) (d:=⟨68,4,b.code.length,cellsOf (instrCells val k) 0 b.code⟩) (by simp) hb3 ho3 (by omega)
 have o3:=o2.add (t0:=.ends k) (d:=intsRow b.term.to) (by simp) hb4 ho4 (by omega)
 have hne:∀ t,(((False∨t=.phis k)∨t=.code k)∨t=.ends k)→(upd (upd (upd val (.phis k) v1) (.code k) v2) (.ends k) v3 t).ownBlock≠some N:=fun t ht e=>by have:=(o3.lt ht e).1;omega
 have o4:=((o3.other (a:=⟨N,0,none⟩) (u:=v1) hne).other (a:=⟨N,1,none⟩) (u:=v2) hne).other (a:=⟨N,4,none⟩) (u:=v3) hne
 have hbx:w4.heap[N]?=some (.cells (blockCells val k b).toArray 62 (0,0)):=by rw[hb4.block N (by omega),hb3.block N (by omega),hb2.block N (by omega)];exact hbox
 refine⟨fun t ht=>?_,?_,?_,?_,?_⟩
 ·have h1:t≠.phis k:=fun e=>ht (.inl e)
  have h2:t≠.code k:=fun e=>ht (.inr (.inl e))
  have h3:t≠.ends k:=fun e=>ht (.inr (.inr (.inl e)))
  rw[upd_ne _ _ h3,upd_ne _ _ h2,upd_ne _ _ h1]
 ·refine o4.congr (fun t ht=>?_) (fun t _=>rfl) (fun t ht=>?_)
  ·rcases ht with rfl|rfl|rfl|⟨j,hj,_⟩|⟨j,hj,_⟩
   ·have e:phiCells (upd (upd (upd val (.phis k) v1) (.code k) v2) (.ends k) v3) k=phiCells val k:=by funext i p;simp[phiCells,upd]
    rw[row_phis hb,e,upd_ne _ _ (by simp),upd_ne _ _ (by simp),upd_same]
   ·have e:instrCells (upd (upd (upd val (.phis k) v1) (.code k) v2) (.ends k) v3) k=instrCells val k:=by funext i p;simp[instrCells,upd]
    rw[row_code hb,e,upd_ne _ _ (by simp),upd_same]
   ·rw[row_ends hb,upd_same]
   ·omega
   ·omega
  ·rcases ht with h|h|h|⟨j,hj,_⟩|⟨j,hj,_⟩
   ·exact .inl (.inl (.inr h))
   ·exact .inl (.inr h)
   ·exact .inr h
   ·omega
   ·omega
 ·rw[heap_setCell_same _ N 4 _ _ _ (heap_setCell_same _ N 1 _ _ _ (heap_setCell_same _ N 0 _ _ _ hbx))]
  simp[blockCells,upd]
 ·rw[heap_setCell_other _ _ _ _ (by simp),heap_setCell_other _ _ _ _ (by simp),heap_setCell_other _ _ _ _ (by simp),hb4.block (N+1) (by omega),hb3.block (N+1) (by omega),hb2.block (N+1) (by omega)]
  exact hres
 ·exact(((((hlow.trans (hb2.mono (by omega))).trans (hb3.mono (by omega))).trans (hb4.mono (by omega))).setCell (by simp) _).setCell (by simp) _).setCell (by simp) _
theorem OwnG.form {w:World} {base:Nat} {row:Rows} {val:Vals} {D:Tag→Prop} {t:Tag} {d:RowD} (h:OwnG w base row val D) (ht:D t) (hd:row t=some d):∃ A c,val t=.slice A d.len c:=by
 rcases(h.rows t d ht hd).2 with⟨hv,h0⟩|⟨g,cap,cur,hv,_⟩
 ·exact⟨none,0,by rw[hv,h0]⟩
 ·exact⟨_,_,hv⟩
end
theorem undrew2 {w w2:World} (h:Below w.drew.heap.size w.drew w2):Below w.heap.size w w2:=⟨h.os,h.tape,h.output,h.size,h.block⟩
theorem undrewO {w w2:World} {e:TypeId} {s n:Nat} {v:Value} {xs:List Value} (h:w2.ownsRow w.drew.heap.size e s v n xs):w2.ownsRow w.heap.size e s v n xs:=h
structure Small (b:BlockM):Prop where
 phis:b.phis.length≤100000
 code:b.code.length≤100000
 ends:b.term.to.length≤100000
 fr:∀ p∈b.phis,p.fr.length≤100000∧p.vals.length≤100000
 args:∀ x∈b.code,x.args.length≤100000
def FreshBlkPost (f:FuncM) (val:Vals) (k:Nat) (b:BlockM) (w:World) (e:Ending) (w':World):Prop :=
 ∃ val1:Vals,e=.returned (.agg (blockCells val1 k b).toArray)∧(∀ t,¬ DD k b.phis.length b.code.length t→val1 t=val t)∧OwnG w' (w.heap.size+2) (rowOf f val1) val1 (DD k b.phis.length b.code.length)∧Below w.heap.size w w'
theorem ints_one (xs:List Int):∀ u∈xs.map (Value.int .i64),u.oneCell'=true:=by
 intro u hu
 obtain⟨x,_,rfl⟩:=List.mem_map.1 hu
 rfl
theorem slice_one {w:World} {B:Nat} {v:Value} {d:RowD} (h:RowR w B v d):v.oneCell'=true:=by
 obtain⟨A,c,rfl,_⟩:=h
 rfl
theorem rd_phi_one {w:World} {B:Nat} {f:FuncM} {val:Vals} {k:Nat} {b:BlockM} (h:RdF w B f val) (hb:f.blocks[k]?=some b):∀ u∈cellsOf (phiCells val k) 0 b.phis,u.oneCell'=true:=by
 intro u hu
 obtain⟨j,hj⟩:=List.getElem?_of_mem hu
 obtain⟨i,r,p,rfl,hr,hp,hc⟩:=cellsOf_div (phiCells_len val k) hj
 have hp2:(f.blocks[k]?.bind fun b=>b.phis[i]?)=some p:=by rw[hb];exact hp
 have hm:=List.mem_of_getElem? hc
 unfold phiCells at hm
 simp only[List.mem_cons,List.not_mem_nil,or_false]at hm
 rcases hm with rfl|rfl|rfl|rfl
 ·rfl
 ·rfl
 ·exact slice_one (h (.fr k i) _ (by simp only[rowOf,hp2];rfl))
 ·exact slice_one (h (.vals k i) _ (by simp only[rowOf,hp2];rfl))
theorem rd_code_one {w:World} {B:Nat} {f:FuncM} {val:Vals} {k:Nat} {b:BlockM} (h:RdF w B f val) (hb:f.blocks[k]?=some b):∀ u∈cellsOf (instrCells val k) 0 b.code,u.oneCell'=true:=by
 intro u hu
 obtain⟨j,hj⟩:=List.getElem?_of_mem hu
 obtain⟨i,r,p,rfl,hr,hp,hc⟩:=cellsOf_div (instrCells_len val k) hj
 have hp2:(f.blocks[k]?.bind fun b=>b.code[i]?)=some p:=by rw[hb];exact hp
 have hm:=List.mem_of_getElem? hc
 unfold instrCells at hm
 simp only[List.mem_cons,List.not_mem_nil,or_false]at hm
 rcases hm with rfl|rfl|rfl|rfl
 ·rfl
 ·rfl
 ·exact slice_one (h (.args k i) _ (by simp only[rowOf,hp2];rfl))
 ·rfl
set_option maxRecDepth 100000 in
set_option maxHeartbeats 20000000 in
theorem freshBlock_any (f:FuncM) (B:Nat) (val:Vals) (k:Nat) (b:BlockM) (w:World) (hb:f.blocks[k]?=some b) (hrd:RdF w B f val) (hB:B≤w.heap.size) (hsm:Small b) :
  Calls Tryz.prog 113 #[.agg #[val (.phis k),val (.code k),.int .i64 b.term.op,.int .i64 b.term.val,val (.ends k),.int .i64 b.term.n]] w (FreshBlkPost f val k b w):=by
 have HRD:=hideI hrd
 have HSM:=hideI hsm
 have HBB:=hideI hb
 have rp:=hrd (.phis k) _ (row_phis hb)
 have rc:=hrd (.code k) _ (row_code hb)
 have rt:=hrd (.ends k) _ (row_ends hb)
 have hp1:=rd_phi_one hrd hb
 have hc1:=rd_code_one hrd hb
 obtain⟨PA,pc,hpv,_⟩:=rp
 obtain⟨CA,cc,hcv,_⟩:=rc
 obtain⟨TA,tc,htv,_⟩:=rt
 have hpl:(⟨76,4,b.phis.length,cellsOf (phiCells val k) 0 b.phis⟩:RowD).len=b.phis.length:=rfl
 have hcl:(⟨68,4,b.code.length,cellsOf (instrCells val k) 0 b.code⟩:RowD).len=b.code.length:=rfl
 have htl:(intsRow b.term.to).len=b.term.to.length:=rfl
 rw[hpl]at hpv
 rw[hcl]at hcv
 rw[htl]at htv
 have rp:=hrd (.phis k) _ (row_phis hb)
 have rc:=hrd (.code k) _ (row_code hb)
 have rt:=hrd (.ends k) _ (row_ends hb)
 have C1:Hid (∀ W,Keeps B w W→Calls Tryz.prog 163 #[val (.phis k)] W (ListPost' 76 4 ⟨76,4,b.phis.length,cellsOf (phiCells val k) 0 b.phis⟩ W)):=fun W hW =>
  (listPhi_any _ B _ W (rp.keeps hW) (cellsOf_len (phiCells_len val k) _ _) hsm.phis hp1).mono fun _ _ h=>h.form
 have C2:Hid (∀ W,Keeps B w W→Calls Tryz.prog 164 #[val (.code k)] W (ListPost' 68 4 ⟨68,4,b.code.length,cellsOf (instrCells val k) 0 b.code⟩ W)):=fun W hW =>
  (listInstr_any _ B _ W (rc.keeps hW) (cellsOf_len (instrCells_len val k) _ _) hsm.code hc1).mono fun _ _ h=>h.form
 have C3:Hid (∀ W,Keeps B w W→Calls Tryz.prog 111 #[val (.ends k)] W (ListPost' 3 1 (intsRow b.term.to) W)):=fun W hW =>
  (listInt_any _ B _ W (rt.keeps hW) (by simp[intsRow]) hsm.ends (ints_one _)).mono fun _ _ h=>h.form
 rw[hpv]at C1
 rw[hcv]at C2
 rw[htv]at C3
 rw[hpv,hcv,htv]
 obtain⟨W0,hW0⟩:∃ W0:World,W0=(w.alloc (.cells #[.slice PA b.phis.length pc,.slice CA b.code.length cc,.int .i64 b.term.op,.int .i64 b.term.val,.slice TA b.term.to.length tc,.int .i64 b.term.n] 62)).alloc (.cells #[.slice none 0 0,.slice none 0 0,.int .i64 0,.int .i64 0,.slice none 0 0,.int .i64 0] 62):=⟨_,rfl⟩
 have hs0:W0.heap.size=w.heap.size+2:=by rw[hW0];simp
 have hbox:W0.heap[w.heap.size]?=some (.cells #[.slice PA b.phis.length pc,.slice CA b.code.length cc,.int .i64 b.term.op,.int .i64 b.term.val,.slice TA b.term.to.length tc,.int .i64 b.term.n] 62 (0,0)):=by
  rw[hW0,Below.heap_alloc _ _ _ (by simp)]
  exact heap_alloc_new w _
 have hres:W0.heap[w.heap.size+1]?=some (.cells #[.slice none 0 0,.slice none 0 0,.int .i64 0,.int .i64 0,.slice none 0 0,.int .i64 0] 62 (0,0)):=by
  rw[hW0]
  have:=heap_alloc_new (w.alloc (.cells #[.slice PA b.phis.length pc,.slice CA b.code.length cc,.int .i64 b.term.op,.int .i64 b.term.val,.slice TA b.term.to.length tc,.int .i64 b.term.n] 62)) (.cells #[.slice none 0 0,.slice none 0 0,.int .i64 0,.int .i64 0,.slice none 0 0,.int .i64 0] 62)
  simpa using this
 have hlow:Below w.heap.size w W0:=by rw[hW0];exact((Below.refl _ w).alloc (Nat.le_refl _) _).alloc (by simp) _
 have HBOX:=hideI hbox
 have HRES:=hideI hres
 have HLOW:=hideI hlow
 have HS0:=hideI hs0
 have HW0:=hideI hW0
 have HBC:Hid (blockCells val k b=[.slice PA b.phis.length pc,.slice CA b.code.length cc,.int .i64 b.term.op,.int .i64 b.term.val,.slice TA b.term.to.length tc,.int .i64 b.term.n]):=by show _=_;unfold blockCells;rw[hpv,hcv,htv]
 have G0:Hid (∀ W,Below W0.heap.size W0 W→W.cell? ⟨w.heap.size,0,none⟩=some (.slice PA b.phis.length pc)∧W.cell? ⟨w.heap.size,1,none⟩=some (.slice CA b.code.length cc)∧W.cell? ⟨w.heap.size,4,none⟩=some (.slice TA b.term.to.length tc)∧W.frozen? ⟨w.heap.size,0,none⟩=false∧W.frozen? ⟨w.heap.size,1,none⟩=false∧W.frozen? ⟨w.heap.size,4,none⟩=false):=fun W hW=>by
  have hx:=row_cells HBOX.out (hW.block _ (by have:=HS0.out;omega))
  have hf:=free_row' HBOX.out (hW.block _ (by have:=HS0.out;omega))
  exact⟨hx 0,hx 1,hx 4,hf 0,hf 1,hf 4⟩
 have KP:Hid (∀ W,Below W0.heap.size W0 W→Keeps B w W):=fun W hW=>(Keeps.of_below (HLOW.out.mono hB)).trans (Keeps.of_below (hW.mono (by have:=HS0.out;omega)))
 obtain⟨q0,q1,q4,f0,f1,f4⟩:=G0.out W0 (Below.refl _ _)
 clear hrd hsm hb rp rc rt hp1 hc1 hpv hcv htv hpl hcl htl hbox hres hlow hW0 hs0
 go_enter Tryz.func113,Tryz.ntmps113
 go_upto_region 1 with fail
 rw[← HW0.out]
 go_cut [] (fun wx=>∃ val1,Hid (BlkSt f val k b w.heap.size w wx val1 0 0))
 case first =>
  go_region_with (first
   | (go_at_call 163;refine(C1.out _ (by exact KP.out _ ⟨rfl,rfl,rfl,Nat.le_refl _,fun _ _=>rfl⟩)).mono ?_;rintro e w2 ⟨A2,c2,rfl,hown2,hb2⟩;have hba:Below W0.heap.size W0 w2:=undrew2 hb2;obtain⟨q0,q1,q4,f0,f1,f4⟩:=G0.out _ hba)
   | (go_at_call 164;refine(C2.out _ (by exact KP.out _ hba)).mono ?_;rintro e w3 ⟨A3,c3,rfl,hown3,hb3⟩;have hbb:Below W0.heap.size W0 w3:=hba.trans (hb3.mono hba.size);obtain⟨q0,q1,q4,f0,f1,f4⟩:=G0.out _ hbb)
   | (go_at_call 111;refine(C3.out _ (by exact KP.out _ hbb)).mono ?_;rintro e w4 ⟨A4,c4,rfl,hown4,hb4⟩;have hbc:Below W0.heap.size W0 w4:=hbb.trans (hb4.mono hbb.size);obtain⟨q0,q1,q4,f0,f1,f4⟩:=G0.out _ hbc))
  all_goals (go_wp2_with fail;go_meet;exact⟨_,hideI (BlkSt.start HBB.out HS0.out (by rw[HBC.out];exact HBOX.out) HRES.out HLOW.out hba (undrewO hown2) hb3 hown3 hb4 hown4)⟩)
 case rest =>
  obtain⟨val1,HST⟩:=hcut
  clear q0 q1 q4 f0 f1 f4
  obtain⟨PA1,pc1,hp1⟩:=HST.out.own.form (.inl rfl) (row_phis HBB.out)
  have b0:=(row_cells HST.out.box rfl 0).trans (show(blockCells val1 k b).toArray[0]?=some (.slice PA1 b.phis.length pc1)by simp[blockCells,hp1])
  clear hp1
  go_wp2
  clear b0
  go_loopw [24] (fun u wr=>∃ (i:Nat) (val1:Vals),i≤b.phis.length∧u=.int .i64 i∧Hid (BlkSt f val k b w.heap.size w wr val1 i 0)) (fun u _=>b.phis.length - (intOf u).toNat)
  case atStart => exact⟨0,val1,Nat.zero_le _,rfl,HST⟩
  case round =>
   obtain⟨i,val1,hi,rfl,HST⟩:=hrel
   have hN2:w.heap.size+2≤wr.heap.size:=by
    have:=(Array.getElem?_eq_some_iff.1 HST.out.res).1
    omega
   by_cases hlt:i<b.phis.length
   ·obtain⟨p,hp⟩:∃ p,b.phis[i]?=some p:=⟨_,List.getElem?_eq_getElem hlt⟩
    obtain⟨g,pc1,hg,hgb,hgl⟩:=HST.out.own.slice (.inl rfl) (row_phis HBB.out) (by show 0<b.phis.length;omega)
    have HP:=hideI hp
    have HG:Hid (val1 (.phis k)=.slice (some ⟨g,0,none⟩) b.phis.length pc1):=hg
    have hp2:(f.blocks[k]?.bind fun b=>b.phis[i]?)=some p:=by rw[HBB.out];exact hp
    have rf:=HRD.out (.fr k i) (intsRow p.fr) (by simp only[rowOf,hp2,Option.map_some])
    have rv:=HRD.out (.vals k i) (intsRow p.vals) (by simp only[rowOf,hp2,Option.map_some])
    have hsf:=HSM.out.fr p (List.mem_of_getElem? hp)
    have C1:Hid (∀ W,Keeps B w W→Calls Tryz.prog 111 #[val (.fr k i)] W (ListPost' 3 1 (intsRow p.fr) W)):=fun W hW =>
     (listInt_any _ B _ W (rf.keeps hW) (by simp[intsRow]) hsf.1 (ints_one _)).mono fun _ _ h=>h.form
    have C2:Hid (∀ W,Keeps B w W→Calls Tryz.prog 111 #[val (.vals k i)] W (ListPost' 3 1 (intsRow p.vals) W)):=fun W hW =>
     (listInt_any _ B _ W (rv.keeps hW) (by simp[intsRow]) hsf.2 (ints_one _)).mono fun _ _ h=>h.form
    obtain⟨FA,fc,hfv,_⟩:=rf
    obtain⟨VA,vc,hvv,_⟩:=rv
    have e1:(intsRow p.fr).len=p.fr.length:=rfl
    have e2:(intsRow p.vals).len=p.vals.length:=rfl
    rw[e1]at hfv
    rw[e2]at hvv
    rw[hfv]at C1
    rw[hvv]at C2
    have hc2:=cellsOf_at (phiCells_len val1 k) b.phis 0 i 2 p hp (by omega)
    have hc3:=cellsOf_at (phiCells_len val1 k) b.phis 0 i 3 p hp (by omega)
    rw[Nat.zero_add]at hc2 hc3
    have hs2:(phiCells val1 k i p)[2]?=some (.slice FA p.fr.length fc):=by rw[← hfv,← HST.out.same _ DD.not_fr];rfl
    have hs3:(phiCells val1 k i p)[3]?=some (.slice VA p.vals.length vc):=by rw[← hvv,← HST.out.same _ DD.not_vals];rfl
    have G0:Hid (∀ W,Below wr.heap.size wr W→W.cell? ⟨g,i*4+2,none⟩=some (.slice FA p.fr.length fc)∧W.cell? ⟨g,i*4+3,none⟩=some (.slice VA p.vals.length vc)∧W.frozen? ⟨g,i*4+2,none⟩=false∧W.frozen? ⟨g,i*4+3,none⟩=false):=fun W hW=>by
     have o:=HST.out.own.below hW
     have k2:=o.cell (j:=i*4+2) (.inl rfl) (row_phis HBB.out) HG.out rfl (by show _<b.phis.length*4;omega)
     have k3:=o.cell (j:=i*4+3) (.inl rfl) (row_phis HBB.out) HG.out rfl (by show _<b.phis.length*4;omega)
     exact⟨k2.1.trans (hc2.trans hs2),k3.1.trans (hc3.trans hs3),k2.2,k3.2⟩
    have KP:Hid (∀ W,Below wr.heap.size wr W→Keeps B w W):=fun W hW=>(Keeps.of_below (HST.out.low.mono hB)).trans (Keeps.of_below (hW.mono (by omega)))
    have b0:=(row_cells HST.out.box rfl 0).trans (show(blockCells val1 k b).toArray[0]?=some (.slice (some ⟨g,0,none⟩) b.phis.length pc1)by simp[blockCells,hg])
    clear hp hg hp2 hfv hvv e1 e2 hc2 hc3 hs2 hs3
    go_upto_region 6 with fail
    clear b0
    obtain⟨q2,q3,f2,f3⟩:=G0.out wr (Below.refl _ _)
    go_region_with (first
     | (go_at_call_of 111 (Value.slice FA p.fr.length fc);refine(C1.out _ (by exact KP.out _ ⟨rfl,rfl,rfl,Nat.le_refl _,fun _ _=>rfl⟩)).mono ?_;rintro e w2 ⟨A2,c2,rfl,hown2,hb2⟩;have hba:Below wr.heap.size wr w2:=undrew2 hb2;obtain⟨q2,q3,f2,f3⟩:=G0.out _ hba)
     | (go_at_call_of 111 (Value.slice VA p.vals.length vc);refine(C2.out _ (by exact KP.out _ hba)).mono ?_;rintro e w3 ⟨A3,c3,rfl,hown3,hb3⟩;have hbb:Below wr.heap.size wr w3:=hba.trans (hb3.mono hba.size);obtain⟨q2,q3,f2,f3⟩:=G0.out _ hbb))
    all_goals
     have HST2:=hideI (HST.out.phi HBB.out HP.out hN2 HG.out hba (undrewO hown2) hb3 hown3)
     clear q2 q3 f2 f3 hown2 hb2 hown3 hb3 hba hbb
     go_wp2
     go_roundw
     case rel => exact⟨i+1,_,by omega,by go_num,HST2⟩
     case measure => simp[intOf];omega
   ·have hin:i=b.phis.length:=by omega
    rw[hin]at HST
    obtain⟨CA1,cc1,hp1⟩:=HST.out.own.form (.inr (.inl rfl)) (row_code HBB.out)
    have b1:=(row_cells HST.out.box rfl 1).trans (show(blockCells val1 k b).toArray[1]?=some (.slice CA1 b.code.length cc1)by simp[blockCells,hp1])
    clear hp1 hin
    go_wp2
    clear b1
    obtain⟨wo,rfl⟩:∃ wo:World,wo=wr:=⟨_,rfl⟩
    go_loopw [51] (fun u wr=>∃ (j:Nat) (val1:Vals),j≤b.code.length∧u=.int .i64 j∧Hid (BlkSt f val k b w.heap.size w wr val1 b.phis.length j)) (fun u _=>b.code.length - (intOf u).toNat)
    case atStart => exact⟨0,val1,Nat.zero_le _,rfl,HST⟩
    case round =>
     obtain⟨j,val2,hj,rfl,HST⟩:=hrel
     have hN2:w.heap.size+2≤wr.heap.size:=by
      have:=(Array.getElem?_eq_some_iff.1 HST.out.res).1
      omega
     by_cases hltj:j<b.code.length
     ·obtain⟨x,hp⟩:∃ x,b.code[j]?=some x:=⟨_,List.getElem?_eq_getElem hltj⟩
      obtain⟨g,cc1,hg,hgb,hgl⟩:=HST.out.own.slice (.inr (.inl rfl)) (row_code HBB.out) (by show 0<b.code.length;omega)
      have HP:=hideI hp
      have HG:Hid (val2 (.code k)=.slice (some ⟨g,0,none⟩) b.code.length cc1):=hg
      have hp2:(f.blocks[k]?.bind fun b=>b.code[j]?)=some x:=by rw[HBB.out];exact hp
      have rf:=HRD.out (.args k j) (intsRow x.args) (by simp only[rowOf,hp2,Option.map_some])
      have hsf:=HSM.out.args x (List.mem_of_getElem? hp)
      have C1:Hid (∀ W,Keeps B w W→Calls Tryz.prog 111 #[val (.args k j)] W (ListPost' 3 1 (intsRow x.args) W)):=fun W hW =>
       (listInt_any _ B _ W (rf.keeps hW) (by simp[intsRow]) hsf (ints_one _)).mono fun _ _ h=>h.form
      obtain⟨FA,fc,hfv,_⟩:=rf
      have e1:(intsRow x.args).len=x.args.length:=rfl
      rw[e1]at hfv
      rw[hfv]at C1
      have hc2:=cellsOf_at (instrCells_len val2 k) b.code 0 j 2 x hp (by omega)
      rw[Nat.zero_add]at hc2
      have hs2:(instrCells val2 k j x)[2]?=some (.slice FA x.args.length fc):=by rw[← hfv,← HST.out.same _ DD.not_args];rfl
      have G0:Hid (∀ W,Below wr.heap.size wr W→W.cell? ⟨g,j*4+2,none⟩=some (.slice FA x.args.length fc)∧W.frozen? ⟨g,j*4+2,none⟩=false):=fun W hW=>by
       have o:=HST.out.own.below hW
       have k2:=o.cell (j:=j*4+2) (.inr (.inl rfl)) (row_code HBB.out) HG.out rfl (by show _<b.code.length*4;omega)
       exact⟨k2.1.trans (hc2.trans hs2),k2.2⟩
      have KP:Hid (∀ W,Below wr.heap.size wr W→Keeps B w W):=fun W hW=>(Keeps.of_below (HST.out.low.mono hB)).trans (Keeps.of_below (hW.mono (by omega)))
      have b1:=(row_cells HST.out.box rfl 1).trans (show(blockCells val2 k b).toArray[1]?=some (.slice (some ⟨g,0,none⟩) b.code.length cc1)by simp[blockCells,hg])
      clear hp hg hp2 hfv e1 hc2 hs2
      obtain⟨q2,f2⟩:=G0.out wr (Below.refl _ _)
      go_wp2_with (first
       | (go_at_call 111;refine(C1.out _ (by exact KP.out _ (Below.refl _ _))).mono ?_;rintro e w2 ⟨A2,c2,rfl,hown2,hb2⟩;clear q2 f2;obtain⟨q2,f2⟩:=G0.out _ hb2;have HB2:=hideI hb2;have HO2:=hideI hown2;clear hown2 hb2))
      have HST2:=hideI (HST.out.arg HBB.out HP.out hN2 HG.out HB2.out HO2.out)
      go_roundw
      case rel => exact⟨j+1,_,by omega,by go_num,HST2⟩
      case measure => simp[intOf];omega
     ·have hjn:j=b.code.length:=by omega
      rw[hjn]at HST
      obtain⟨PA1,pc1,e1⟩:=HST.out.own.form (.inl rfl) (row_phis HBB.out)
      obtain⟨CA1,cc1,e2⟩:=HST.out.own.form (.inr (.inl rfl)) (row_code HBB.out)
      obtain⟨TA1,tc1,e3⟩:=HST.out.own.form (.inr (.inr (.inl rfl))) (row_ends HBB.out)
      have e4:(intsRow b.term.to).len=b.term.to.length:=rfl
      rw[e4]at e3
      have HE:Hid (blockCells val2 k b=[.slice PA1 b.phis.length pc1,.slice CA1 b.code.length cc1,.int .i64 b.term.op,.int .i64 b.term.val,.slice TA1 b.term.to.length tc1,.int .i64 b.term.n]):=by show _=_;unfold blockCells;rw[e1,e2,e3]
      have hbx:=HST.out.box
      rw[HE.out]at hbx
      have hx:=row_cells hbx rfl
      have hr:=row_cells HST.out.res rfl
      have hf:=free_row' HST.out.res (rfl:wr.heap[w.heap.size+1]?=_)
      have b0:=hx 0
      have b1:=hx 1
      have b2:=hx 2
      have b3:=hx 3
      have b4:=hx 4
      have b5:=hx 5
      have r0:=hr 0
      have r1:=hr 1
      have r2:=hr 2
      have r3:=hr 3
      have r4:=hr 4
      have r5:=hr 5
      have f0:=hf 0
      have f1:=hf 1
      have f2:=hf 2
      have f3:=hf 3
      have f4:=hf 4
      have f5:=hf 5
      clear e1 e2 e3 e4 hbx hx hr hf hjn
      go_wp2
      have hne:∀ t,DD k b.phis.length b.code.length t→(val2 t).ownBlock≠some (w.heap.size+1):=fun t ht e=>by have:=(HST.out.own.lt ht e).1;omega
      refine bodyPost_ret (v:=.agg #[.slice PA1 b.phis.length pc1,.slice CA1 b.code.length cc1,.int .i64 b.term.op,.int .i64 b.term.val,.slice TA1 b.term.to.length tc1,.int .i64 b.term.n]) (by simp[results,Tryz.results113,go_sem,r0,r1,r2,r3,r4,r5]) rfl ⟨val2,by rw[HE.out],HST.out.same,?_,?_⟩
      ·exact(((((HST.out.own.other hne).other hne).other hne).other hne).other hne).other hne
      ·exact(((((HST.out.low.setCell (by simp) _).setCell (by simp) _).setCell (by simp) _).setCell (by simp) _).setCell (by simp) _).setCell (by simp) _
end Go.Proofs.YtaehbgppfahdeaaGreat
