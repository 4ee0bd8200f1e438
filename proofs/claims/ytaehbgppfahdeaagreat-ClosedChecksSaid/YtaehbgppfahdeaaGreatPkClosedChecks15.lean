/- What ClosedChecks rests on, part 15: FFunc, FDone, UseRd, UseL, VDefs. -/
import Derived.Test.YtaehbgppfahdeaaGreatPkClosedChecks14
import Derived.Outline

namespace Go.Proofs.YtaehbgppfahdeaaGreat
open Go.RowKit
def EE (f:FuncM) (i:Nat) (t:Tag):Prop:=t=.params∨t=.blocks∨∃ k b,k<i∧f.blocks[k]?=some b∧DD k b.phis.length b.code.length t
structure FnSt (f:FuncM) (val:Vals) (N:Nat) (w0 wx:World) (val1:Vals) (i:Nat):Prop where
 same:∀ t,¬ EE f i t→val1 t=val t
 own:OwnG wx (N+2) (rowOf f val1) val1 (EE f i)
 box:wx.heap[N]?=some (.cells #[val1 .params,.int .i64 f.arrays,.int .i64 f.cells,val1 .blocks] 25 (0,0))
 res:wx.heap[N+1]?=some (.cells #[.slice none 0 0,.int .i64 0,.int .i64 0,.slice none 0 0] 25 (0,0))
 low:Below N w0 wx
theorem DD.blk {k np nc:Nat} {t:Tag} (h:DD k np nc t):blkOf t=some k:=by
 rcases h with rfl|rfl|rfl|⟨j,_,rfl|rfl⟩|⟨j,_,rfl⟩ <;> rfl
theorem EE.not {f:FuncM} {i:Nat} {t:Tag} (h:blkOf t=some i):¬ EE f i t:=by
 rintro(rfl|rfl|⟨k,b,hk,_,hd⟩)
 ·cases h
 ·cases h
 ·rw[hd.blk]at h
  cases h
  omega
theorem EE.succ {f:FuncM} {i:Nat} {b:BlockM} (hb:f.blocks[i]?=some b) {t:Tag}:EE f (i+1) t↔EE f i t∨DD i b.phis.length b.code.length t:=by
 unfold EE
 constructor
 ·rintro(h|h|⟨k,q,hk,hq,hd⟩)
  ·exact .inl (.inl h)
  ·exact .inl (.inr (.inl h))
  ·by_cases e:k=i
   ·subst e
    rw[hb]at hq
    cases hq
    exact .inr hd
   ·exact .inl (.inr (.inr ⟨k,q,by omega,hq,hd⟩))
 ·rintro((h|h|⟨k,q,hk,hq,hd⟩)|h)
  ·exact .inl h
  ·exact .inr (.inl h)
  ·exact .inr (.inr ⟨k,q,by omega,hq,hd⟩)
  ·exact .inr (.inr ⟨i,b,by omega,hb,h⟩)
theorem OwnG.join {w1 w2:World} {base:Nat} {r1 r2 r3:Rows} {v1 v2 v3:Vals} {D1 D2:Tag→Prop} {b2:Nat} (h1:OwnG w1 base r1 v1 D1) (hb:Below w1.heap.size w1 w2) (h2:OwnG w2 b2 r2 v2 D2) (hb2:w1.heap.size≤b2) (hbase:base≤w1.heap.size)
  (e1:∀ t,D1 t→r3 t=r1 t∧v3 t=v1 t) (e2:∀ t,D2 t→r3 t=r2 t∧v3 t=v2 t):OwnG w2 base r3 v3 (fun t=>D1 t∨D2 t):=by
 have k1:=h1.below hb
 refine⟨fun t ht=>?_,fun t d ht hd=>?_,fun t t' g ht ht' hg hg'=>?_⟩
 ·rcases ht with ht|ht
  ·rw[(e1 t ht).1];exact h1.has t ht
  ·rw[(e2 t ht).1];exact h2.has t ht
 ·rcases ht with ht|ht
  ·rw[(e1 t ht).2]
   exact k1.rows t d ht (by rw[← (e1 t ht).1];exact hd)
  ·rw[(e2 t ht).2]
   exact World.ownsRow.mono (h2.rows t d ht (by rw[← (e2 t ht).1];exact hd)) (by omega)
 ·rcases ht with ht|ht <;> rcases ht' with ht'|ht'
  ·rw[(e1 t ht).2]at hg
   rw[(e1 t' ht').2]at hg'
   exact h1.apart t t' g ht ht' hg hg'
  ·rw[(e1 t ht).2]at hg
   rw[(e2 t' ht').2]at hg'
   have:=(h1.lt ht hg).2
   have:=(h2.lt ht' hg').1
   omega
  ·rw[(e2 t ht).2]at hg
   rw[(e1 t' ht').2]at hg'
   have:=(h2.lt ht hg).1
   have:=(h1.lt ht' hg').2
   omega
  ·rw[(e2 t ht).2]at hg
   rw[(e2 t' ht').2]at hg'
   exact h2.apart t t' g ht ht' hg hg'
theorem set_same {l:List Value} {j:Nat} {u:Value} (h:l[j]?=some u):l.set j u=l:=by
 apply List.ext_getElem?
 intro i
 by_cases e:j=i
 ·subst e
  rw[List.getElem?_set_self (List.getElem?_eq_some_iff.1 h).1,h]
 ·rw[List.getElem?_set_ne e]
theorem blocks_set {val:Vals} {l:List BlockM} {i:Nat} {b:BlockM} {c0 c1 c4:Value} (hb:l[i]?=some b) :
  ((((((cellsOf (blockCells val) 0 l).set (i*6+0) c0).set (i*6+1) c1).set (i*6+2) (.int .i64 b.term.op)).set (i*6+3) (.int .i64 b.term.val)).set (i*6+4) c4).set (i*6+5) (.int .i64 b.term.n) =
   cellsOf (blockCells (upd (upd (upd val (.phis i) c0) (.code i) c1) (.ends i) c4)) 0 l:=by
 have hi:=(List.getElem?_eq_some_iff.1 hb).1
 have e0:(cellsOf (blockCells val) 0 l).set (i*6+0) c0=cellsOf (blockCells (upd val (.phis i) c0)) 0 l:=by
  refine cellsOf_set (blockCells_len _) (blockCells_len _) hi (by omega) ?_ ?_
  ·intro j a _ hne;simp[blockCells,upd,hne]
  ·intro a _;simp[blockCells,upd]
 have e1:(cellsOf (blockCells (upd val (.phis i) c0)) 0 l).set (i*6+1) c1=cellsOf (blockCells (upd (upd val (.phis i) c0) (.code i) c1)) 0 l:=by
  refine cellsOf_set (blockCells_len _) (blockCells_len _) hi (by omega) ?_ ?_
  ·intro j a _ hne;simp[blockCells,upd,hne]
  ·intro a _;simp[blockCells,upd]
 have e4:(cellsOf (blockCells (upd (upd val (.phis i) c0) (.code i) c1)) 0 l).set (i*6+4) c4=cellsOf (blockCells (upd (upd (upd val (.phis i) c0) (.code i) c1) (.ends i) c4)) 0 l:=by
  refine cellsOf_set (blockCells_len _) (blockCells_len _) hi (by omega) ?_ ?_
  ·intro j a _ hne;simp[blockCells,upd,hne]
  ·intro a _;simp[blockCells,upd]
 have hat:∀ (v:Vals) r u,r<6→(blockCells v i b)[r]?=some u→(cellsOf (blockCells v) 0 l)[i*6+r]?=some u:=fun v r u hr hu=>by
  have:=cellsOf_at (blockCells_len v) l 0 i r b hb hr
  rw[Nat.zero_add]at this
  exact this.trans hu
 rw[e0,e1,set_same (hat _ 2 _ (by omega) rfl),set_same (hat _ 3 _ (by omega) rfl),e4,set_same (hat _ 5 _ (by omega) rfl)]
theorem FnSt.step {f:FuncM} {val val1 val2:Vals} {N i g c:Nat} {b:BlockM} {w0 wx w2:World} (h:FnSt f val N w0 wx val1 i) (hb:f.blocks[i]?=some b) (hN:N+2≤wx.heap.size) (hg:val1 .blocks=.slice (some ⟨g,0,none⟩) f.blocks.length c)
  (hb2:Below wx.heap.size wx w2) (hsame:∀ t,¬ DD i b.phis.length b.code.length t→val2 t=val t) (ho2:OwnG w2 (wx.heap.size+2) (rowOf f val2) val2 (DD i b.phis.length b.code.length)) :
  FnSt f val N w0 ((((((w2.setCell ⟨g,i*6,none⟩ (val2 (.phis i))).setCell ⟨g,i*6+1,none⟩ (val2 (.code i))).setCell ⟨g,i*6+2,none⟩ (.int .i64 b.term.op)).setCell ⟨g,i*6+3,none⟩ (.int .i64 b.term.val)).setCell ⟨g,i*6+4,none⟩ (val2 (.ends i))).setCell ⟨g,i*6+5,none⟩ (.int .i64 b.term.n))
   (fun t=>if blkOf t=some i then val2 t else val1 t) (i+1):=by
 have hs2:=hb2.size
 have DB:EE f i .blocks:=.inr (.inl rfl)
 have hgl:=h.own.lt DB (by rw[hg];rfl:(val1 .blocks).ownBlock=some g)
 have hne:g≠N∧g≠N+1:=by omega
 have e1:∀ t,EE f i t→blkOf t≠some i:=fun t ht e=>EE.not e ht
 have o1:=OwnG.join (r3:=fun t=>if blkOf t=some i then rowOf f val2 t else rowOf f val1 t) (v3:=fun t=>if blkOf t=some i then val2 t else val1 t) h.own hb2 ho2 (by omega) hN
  (fun t ht=>⟨if_neg (e1 t ht),if_neg (e1 t ht)⟩) (fun t ht=>⟨if_pos ht.blk,if_pos ht.blk⟩)
 have hv:(fun t=>if blkOf t=some i then val2 t else val1 t) Tag.blocks=.slice (some ⟨g,0,none⟩) f.blocks.length c:=hg
 have hr0:(fun t=>if blkOf t=some i then rowOf f val2 t else rowOf f val1 t) Tag.blocks=some ⟨62,6,f.blocks.length,cellsOf (blockCells val1) 0 f.blocks⟩:=rfl
 have s0:=o1.set (tp:=.blocks) (j:=i*6+0) (u:=val2 (.phis i)) (.inl DB) hr0 hv rfl
 have s1:=s0.set (tp:=.blocks) (j:=i*6+1) (u:=val2 (.code i)) (.inl DB) (upd_same _ _ _) hv rfl
 have s2:=s1.set (tp:=.blocks) (j:=i*6+2) (u:=.int .i64 b.term.op) (.inl DB) (upd_same _ _ _) hv rfl
 have s3:=s2.set (tp:=.blocks) (j:=i*6+3) (u:=.int .i64 b.term.val) (.inl DB) (upd_same _ _ _) hv rfl
 have s4:=s3.set (tp:=.blocks) (j:=i*6+4) (u:=val2 (.ends i)) (.inl DB) (upd_same _ _ _) hv rfl
 have s5:=s4.set (tp:=.blocks) (j:=i*6+5) (u:=.int .i64 b.term.n) (.inl DB) (upd_same _ _ _) hv rfl
 refine⟨fun t ht=>?_,?_,?_,?_,?_⟩
 ·have h1:¬ EE f i t:=fun e=>ht ((EE.succ hb).2 (.inl e))
  have h2:¬ DD i b.phis.length b.code.length t:=fun e=>ht ((EE.succ hb).2 (.inr e))
  by_cases e:blkOf t=some i
  ·simp only[if_pos e]
   exact hsame t h2
  ·simp only[if_neg e]
   exact h.same t h1
 ·refine s5.congr (fun t ht=>?_) (fun t _=>rfl) (fun t ht=>(EE.succ hb).1 ht)
  by_cases eb:t=.blocks
  ·subst eb
   rw[upd_same,blocks_set hb]
   show some _=some _
   congr 2
   refine cellsOf_congr _ _ fun k q hq=>?_
   rw[Nat.zero_add]
   by_cases ek:k=i
   ·subst ek
    simp[blockCells,upd,blkOf]
   ·simp[blockCells,upd,blkOf,ek]
  ·rw[upd_ne _ _ eb,upd_ne _ _ eb,upd_ne _ _ eb,upd_ne _ _ eb,upd_ne _ _ eb,upd_ne _ _ eb]
   cases t with
  |params=>rfl
  |blocks=>exact absurd rfl eb
  |phis k =>
    by_cases ek:k=i
    ·subst ek
     have e:phiCells (fun t=>if blkOf t=some k then val2 t else val1 t) k=phiCells val2 k:=by funext j p;simp[phiCells,blkOf]
     have h1:(fun t=>if blkOf t=some k then rowOf f val2 t else rowOf f val1 t) (Tag.phis k)=rowOf f val2 (.phis k):=if_pos rfl
     refine Eq.trans ?_ h1.symm
     simp only[rowOf]
     rw[e]
    ·have e:phiCells (fun t=>if blkOf t=some i then val2 t else val1 t) k=phiCells val1 k:=by funext j p;simp[phiCells,blkOf,ek]
     have h1:(fun t=>if blkOf t=some i then rowOf f val2 t else rowOf f val1 t) (Tag.phis k)=rowOf f val1 (.phis k):=if_neg (by simp[blkOf,ek])
     refine Eq.trans ?_ h1.symm
     simp only[rowOf]
     rw[e]
  |code k =>
    by_cases ek:k=i
    ·subst ek
     have e:instrCells (fun t=>if blkOf t=some k then val2 t else val1 t) k=instrCells val2 k:=by funext j p;simp[instrCells,blkOf]
     have h1:(fun t=>if blkOf t=some k then rowOf f val2 t else rowOf f val1 t) (Tag.code k)=rowOf f val2 (.code k):=if_pos rfl
     refine Eq.trans ?_ h1.symm
     simp only[rowOf]
     rw[e]
    ·have e:instrCells (fun t=>if blkOf t=some i then val2 t else val1 t) k=instrCells val1 k:=by funext j p;simp[instrCells,blkOf,ek]
     have h1:(fun t=>if blkOf t=some i then rowOf f val2 t else rowOf f val1 t) (Tag.code k)=rowOf f val1 (.code k):=if_neg (by simp[blkOf,ek])
     refine Eq.trans ?_ h1.symm
     simp only[rowOf]
     rw[e]
  |ends k=>by_cases ek:k=i <;> simp[rowOf,blkOf,ek]
  |fr k j=>by_cases ek:k=i <;> simp[rowOf,blkOf,ek]
  |vals k j=>by_cases ek:k=i <;> simp[rowOf,blkOf,ek]
  |args k j=>by_cases ek:k=i <;> simp[rowOf,blkOf,ek]
 ·rw[heap_setCell_other _ _ _ _ (by simpa using hne.1.symm),heap_setCell_other _ _ _ _ (by simpa using hne.1.symm),heap_setCell_other _ _ _ _ (by simpa using hne.1.symm),heap_setCell_other _ _ _ _ (by simpa using hne.1.symm),heap_setCell_other _ _ _ _ (by simpa using hne.1.symm),heap_setCell_other _ _ _ _ (by simpa using hne.1.symm),hb2.block N (by omega)]
  exact h.box
 ·rw[heap_setCell_other _ _ _ _ (by simpa using hne.2.symm),heap_setCell_other _ _ _ _ (by simpa using hne.2.symm),heap_setCell_other _ _ _ _ (by simpa using hne.2.symm),heap_setCell_other _ _ _ _ (by simpa using hne.2.symm),heap_setCell_other _ _ _ _ (by simpa using hne.2.symm),heap_setCell_other _ _ _ _ (by simpa using hne.2.symm),hb2.block (N+1) (by omega)]
  exact h.res
 ·exact((((((h.low.trans (hb2.mono (by omega))).setCell (by simp;omega) _).setCell (by simp;omega) _).setCell (by simp;omega) _).setCell (by simp;omega) _).setCell (by simp;omega) _).setCell (by simp;omega) _
end Go.Proofs.YtaehbgppfahdeaaGreat
namespace Go.Proofs.YtaehbgppfahdeaaGreat
open Go.RowKit
theorem FnSt.start {f:FuncM} {val:Vals} {N:Nat} {w0 W0 w2 w3:World} {v1 v3:Value} (hs:W0.heap.size=N+2) (hbox:W0.heap[N]?=some (.cells #[val .params,.int .i64 f.arrays,.int .i64 f.cells,val .blocks] 25 (0,0)))
  (hres:W0.heap[N+1]?=some (.cells #[.slice none 0 0,.int .i64 0,.int .i64 0,.slice none 0 0] 25 (0,0))) (hlow:Below N w0 W0)
  (hb2:Below W0.heap.size W0 w2) (ho2:w2.ownsRow W0.heap.size 3 1 v1 f.params.length (f.params.map (Value.int .i64)))
  (hb3:Below w2.heap.size w2 w3) (ho3:w3.ownsRow w2.heap.size 62 6 v3 f.blocks.length (cellsOf (blockCells val) 0 f.blocks)) :
  FnSt f val N w0 ((w3.setCell ⟨N,0,none⟩ v1).setCell ⟨N,3,none⟩ v3) (upd (upd val .params v1) .blocks v3) 0:=by
 have s2:=hb2.size
 have s3:=hb3.size
 have o1:=(OwnG.nothing W0 (N+2) (rowOf f val) val).add (t0:=.params) (d:=intsRow f.params) (by simp) hb2 ho2 (by omega)
 have o2:=o1.add (t0:=.blocks) (d:=⟨62,6,f.blocks.length,cellsOf (blockCells val) 0 f.blocks⟩) (by simp) hb3 ho3 (by omega)
 have hne:∀ t,((False∨t=.params)∨t=.blocks)→(upd (upd val .params v1) .blocks v3 t).ownBlock≠some N:=fun t ht e=>by have:=(o2.lt ht e).1;omega
 have o4:=(o2.other (a:=⟨N,0,none⟩) (u:=v1) hne).other (a:=⟨N,3,none⟩) (u:=v3) hne
 have hbx:w3.heap[N]?=some (.cells #[val .params,.int .i64 f.arrays,.int .i64 f.cells,val .blocks] 25 (0,0)):=by rw[hb3.block N (by omega),hb2.block N (by omega)];exact hbox
 have hEE:∀ t,EE f 0 t→(False∨t=.params)∨t=.blocks:=by
  rintro t (h|h|⟨k,b,hk,_⟩)
  ·exact .inl (.inr h)
  ·exact .inr h
  ·omega
 refine⟨fun t ht=>?_,?_,?_,?_,?_⟩
 ·have h1:t≠.params:=fun e=>ht (.inl e)
  have h2:t≠.blocks:=fun e=>ht (.inr (.inl e))
  rw[upd_ne _ _ h2,upd_ne _ _ h1]
 ·refine o4.congr (fun t ht=>?_) (fun t _=>rfl) hEE
  rcases hEE t ht with(h|rfl)|rfl
  ·exact h.elim
  ·simp[rowOf,upd]
  ·rw[upd_same]
   show some _=some _
   congr 2
 ·rw[heap_setCell_same _ N 3 _ _ _ (heap_setCell_same _ N 0 _ _ _ hbx)]
  simp[upd]
 ·rw[heap_setCell_other _ _ _ _ (by simp),heap_setCell_other _ _ _ _ (by simp),hb3.block (N+1) (by omega),hb2.block (N+1) (by omega)]
  exact hres
 ·exact(((hlow.trans (hb2.mono (by omega))).trans (hb3.mono (by omega))).setCell (by simp) _).setCell (by simp) _
theorem rd_block_one {w:World} {B:Nat} {f:FuncM} {val:Vals} (h:RdF w B f val):∀ u∈cellsOf (blockCells val) 0 f.blocks,u.oneCell'=true:=by
 intro u hu
 obtain⟨j,hj⟩:=List.getElem?_of_mem hu
 obtain⟨i,r,q,rfl,hr,hq,hc⟩:=cellsOf_div (blockCells_len val) hj
 have hm:=List.mem_of_getElem? hc
 unfold blockCells at hm
 simp only[List.mem_cons,List.not_mem_nil,or_false]at hm
 rcases hm with rfl|rfl|rfl|rfl|rfl|rfl
 ·exact slice_one (h (.phis i) _ (row_phis hq))
 ·exact slice_one (h (.code i) _ (row_code hq))
 ·rfl
 ·rfl
 ·exact slice_one (h (.ends i) _ (row_ends hq))
 ·rfl
def FreshBlkPost' (f:FuncM) (val:Vals) (k:Nat) (b:BlockM) (w:World) (e:Ending) (w':World):Prop :=
 ∃ (val1:Vals) (A:Option Addr) (c:Nat) (A':Option Addr) (c':Nat) (A'':Option Addr) (c'':Nat),e=.returned (.agg #[.slice A b.phis.length c,.slice A' b.code.length c',.int .i64 b.term.op,.int .i64 b.term.val,.slice A'' b.term.to.length c'',.int .i64 b.term.n]) ∧
  (val1 (.phis k)=.slice A b.phis.length c∧val1 (.code k)=.slice A' b.code.length c'∧val1 (.ends k)=.slice A'' b.term.to.length c'') ∧
  (∀ t,¬ DD k b.phis.length b.code.length t→val1 t=val t)∧OwnG w' (w.heap.size+2) (rowOf f val1) val1 (DD k b.phis.length b.code.length)∧Below w.heap.size w w'
theorem FreshBlkPost.form {f:FuncM} {val:Vals} {k:Nat} {b:BlockM} {w w':World} {e:Ending} (hb:f.blocks[k]?=some b) (h:FreshBlkPost f val k b w e w'):FreshBlkPost' f val k b w e w':=by
 obtain⟨val1,rfl,hs,ho,hbl⟩:=h
 obtain⟨A,c,e1⟩:=ho.form (.inl rfl) (row_phis hb)
 obtain⟨A',c',e2⟩:=ho.form (.inr (.inl rfl)) (row_code hb)
 obtain⟨A'',c'',e3⟩:=ho.form (.inr (.inr (.inl rfl))) (row_ends hb)
 have e1':val1 (.phis k)=.slice A b.phis.length c:=e1
 have e2':val1 (.code k)=.slice A' b.code.length c':=e2
 have e3':val1 (.ends k)=.slice A'' b.term.to.length c'':=e3
 exact⟨val1,A,c,A',c',A'',c'',by unfold blockCells;rw[e1',e2',e3'],⟨e1',e2',e3'⟩,hs,ho,hbl⟩
def FreshPost (f:FuncM) (w:World) (e:Ending) (w':World):Prop :=
 ∃ val1:Vals,e=.returned (.agg #[val1 .params,.int .i64 f.arrays,.int .i64 f.cells,val1 .blocks])∧OwnG w' (w.heap.size+2) (rowOf f val1) val1 (EE f f.blocks.length)∧Below w.heap.size w w'
set_option maxRecDepth 100000 in
set_option maxHeartbeats 8000000 in
theorem freshFunc_any (f:FuncM) (B:Nat) (val:Vals) (w:World) (hrd:RdF w B f val) (hB:B≤w.heap.size) (h1:f.params.length≤100000) (h2:f.blocks.length≤100000) (hsm:∀ b∈f.blocks,Small b) :
  Calls Tryz.prog 64 #[.agg #[val .params,.int .i64 f.arrays,.int .i64 f.cells,val .blocks]] w (FreshPost f w):=by
 have HRD:=hideI hrd
 have HSM:=hideI hsm
 have rp:=hrd .params (intsRow f.params) rfl
 have rb:=hrd .blocks ⟨62,6,f.blocks.length,cellsOf (blockCells val) 0 f.blocks⟩ rfl
 have C1:Hid (∀ W,Keeps B w W→Calls Tryz.prog 111 #[val .params] W (ListPost' 3 1 (intsRow f.params) W)):=fun W hW =>
  (listInt_any _ B _ W (rp.keeps hW) (by simp[intsRow]) h1 (ints_one _)).mono fun _ _ h=>h.form
 have C2:Hid (∀ W,Keeps B w W→Calls Tryz.prog 112 #[val .blocks] W (ListPost' 62 6 ⟨62,6,f.blocks.length,cellsOf (blockCells val) 0 f.blocks⟩ W)):=fun W hW =>
  (listBlock_any _ B _ W (rb.keeps hW) (cellsOf_len (blockCells_len val) _ _) h2 (rd_block_one hrd)).mono fun _ _ h=>h.form
 obtain⟨P,pc,hpv,_⟩:=rp
 obtain⟨A,c,hbv,_⟩:=rb
 have e1:(intsRow f.params).len=f.params.length:=rfl
 rw[e1]at hpv
 have HPV:=hideI hpv
 have HBV:Hid (val .blocks=.slice A f.blocks.length c):=hbv
 rw[hpv]at C1 ⊢
 rw[HBV.out]at C2 ⊢
 obtain⟨W0,hW0⟩:∃ W0:World,W0=(w.alloc (.cells #[.slice P f.params.length pc,.int .i64 f.arrays,.int .i64 f.cells,.slice A f.blocks.length c] 25)).alloc (.cells #[.slice none 0 0,.int .i64 0,.int .i64 0,.slice none 0 0] 25):=⟨_,rfl⟩
 have hs0:W0.heap.size=w.heap.size+2:=by rw[hW0];simp
 have hbox:W0.heap[w.heap.size]?=some (.cells #[.slice P f.params.length pc,.int .i64 f.arrays,.int .i64 f.cells,.slice A f.blocks.length c] 25 (0,0)):=by
  rw[hW0,Below.heap_alloc _ _ _ (by simp)]
  exact heap_alloc_new w _
 have hres:W0.heap[w.heap.size+1]?=some (.cells #[.slice none 0 0,.int .i64 0,.int .i64 0,.slice none 0 0] 25 (0,0)):=by
  rw[hW0]
  have:=heap_alloc_new (w.alloc (.cells #[.slice P f.params.length pc,.int .i64 f.arrays,.int .i64 f.cells,.slice A f.blocks.length c] 25)) (.cells #[.slice none 0 0,.int .i64 0,.int .i64 0,.slice none 0 0] 25)
  simpa using this
 have hlow:Below w.heap.size w W0:=by rw[hW0];exact((Below.refl _ w).alloc (Nat.le_refl _) _).alloc (by simp) _
 have HBOX:=hideI hbox
 have HRES:=hideI hres
 have HLOW:=hideI hlow
 have HS0:=hideI hs0
 have HW0:=hideI hW0
 have G0:Hid (∀ W,Below W0.heap.size W0 W→W.cell? ⟨w.heap.size,0,none⟩=some (.slice P f.params.length pc)∧W.cell? ⟨w.heap.size,3,none⟩=some (.slice A f.blocks.length c)∧W.frozen? ⟨w.heap.size,0,none⟩=false∧W.frozen? ⟨w.heap.size,3,none⟩=false):=fun W hW=>by
  have hx:=row_cells HBOX.out (hW.block _ (by have:=HS0.out;omega))
  have hf:=free_row' HBOX.out (hW.block _ (by have:=HS0.out;omega))
  exact⟨hx 0,hx 3,hf 0,hf 3⟩
 have KP:Hid (∀ W,Below W0.heap.size W0 W→Keeps B w W):=fun W hW=>(Keeps.of_below (HLOW.out.mono hB)).trans (Keeps.of_below (hW.mono (by have:=HS0.out;omega)))
 obtain⟨q0,q3,f0,f3⟩:=G0.out W0 (Below.refl _ _)
 clear hrd hsm hpv hbv e1 hbox hres hlow hW0 hs0
 go_enter Tryz.func64,Tryz.ntmps64
 go_upto_region 1 with fail
 rw[← HW0.out]
 go_cut [] (fun wx=>∃ val1,Hid (FnSt f val w.heap.size w wx val1 0))
 case first =>
  go_region_with (first
  |(go_at_call 111;refine(C1.out _ (by exact KP.out _ ⟨rfl,rfl,rfl,Nat.le_refl _,fun _ _=>rfl⟩)).mono ?_;rintro e w2 ⟨A2,c2,rfl,hown2,hb2⟩;have hba:Below W0.heap.size W0 w2:=undrew2 hb2;obtain⟨q0,q3,f0,f3⟩:=G0.out _ hba)
  |(go_at_call 112;refine(C2.out _ (by exact KP.out _ hba)).mono ?_;rintro e w3 ⟨A3,c3,rfl,hown3,hb3⟩;have hbb:Below W0.heap.size W0 w3:=hba.trans (hb3.mono hba.size);obtain⟨q0,q3,f0,f3⟩:=G0.out _ hbb))
  all_goals (go_wp2_with fail;go_meet;exact⟨_,hideI (FnSt.start HS0.out (by rw[HPV.out,HBV.out];exact HBOX.out) HRES.out HLOW.out hba (undrewO hown2) hb3 hown3)⟩)
 case rest =>
  obtain⟨val1,HST⟩:=hcut
  clear q0 q3 f0 f3
  obtain⟨A1,c1,hp1⟩:=HST.out.own.form (t:=.blocks) (.inr (.inl rfl)) rfl
  have hp1':val1 .blocks=.slice A1 f.blocks.length c1:=hp1
  have b3:=(row_cells HST.out.box rfl 3).trans (show(#[val1 .params,.int .i64 f.arrays,.int .i64 f.cells,val1 .blocks]:Array Value)[3]?=some (.slice A1 f.blocks.length c1)by simp[hp1'])
  clear hp1 hp1'
  go_wp2
  clear b3
  go_loopw [15] (fun u wr=>∃ (i:Nat) (val1:Vals),i≤f.blocks.length∧u=.int .i64 i∧Hid (FnSt f val w.heap.size w wr val1 i)) (fun u _=>f.blocks.length - (intOf u).toNat)
  case atStart=>exact⟨0,val1,Nat.zero_le _,rfl,HST⟩
  case round =>
   obtain⟨i,val1,hi,rfl,HST⟩:=hrel
   have hN2:w.heap.size+2≤wr.heap.size:=by
    have:=(Array.getElem?_eq_some_iff.1 HST.out.res).1
    omega
   by_cases hlt:i<f.blocks.length
   ·obtain⟨b,hb⟩:∃ b,f.blocks[i]?=some b:=⟨_,List.getElem?_eq_getElem hlt⟩
    obtain⟨g,bc,hg,hgb,hgl⟩:=HST.out.own.slice (tp:=.blocks) (.inr (.inl rfl)) rfl (by show 0<f.blocks.length;omega)
    have HBI:=hideI hb
    have HG:Hid (val1 .blocks=.slice (some ⟨g,0,none⟩) f.blocks.length bc):=hg
    have hsb:=HSM.out b (List.mem_of_getElem? hb)
    have KP:Hid (∀ W,Below wr.heap.size wr W→Keeps B w W):=fun W hW=>(Keeps.of_below (HST.out.low.mono hB)).trans (Keeps.of_below (hW.mono (by omega)))
    have CB:Hid (∀ W,Below wr.heap.size wr W→Calls Tryz.prog 113 #[.agg #[val (.phis i),val (.code i),.int .i64 b.term.op,.int .i64 b.term.val,val (.ends i),.int .i64 b.term.n]] W (FreshBlkPost' f val i b W)):=fun W hW =>
     (freshBlock_any f B val i b W hb (HRD.out.keeps (KP.out W hW)) (by have:=hW.size;omega) hsb).mono fun _ _ h=>h.form hb
    have e1:val1 (.phis i)=val (.phis i):=HST.out.same _ (EE.not rfl)
    have e2:val1 (.code i)=val (.code i):=HST.out.same _ (EE.not rfl)
    have e3:val1 (.ends i)=val (.ends i):=HST.out.same _ (EE.not rfl)
    obtain⟨PA,pc2,d1,_⟩:=HRD.out (.phis i) _ (row_phis hb)
    obtain⟨CA,cc2,d2,_⟩:=HRD.out (.code i) _ (row_code hb)
    obtain⟨TA,tc2,d3,_⟩:=HRD.out (.ends i) _ (row_ends hb)
    have d3':val (.ends i)=.slice TA b.term.to.length tc2:=d3
    have d1':val (.phis i)=.slice PA b.phis.length pc2:=d1
    have d2':val (.code i)=.slice CA b.code.length cc2:=d2
    have G0:Hid (∀ W,Below wr.heap.size wr W→(∀ r u,r<6→(blockCells val1 i b)[r]?=some u→W.cell? ⟨g,i*6+r,none⟩=some u∧W.frozen? ⟨g,i*6+r,none⟩=false)∧W.cell? ⟨w.heap.size,3,none⟩=some (.slice (some ⟨g,0,none⟩) f.blocks.length bc)):=fun W hW=>by
     have o:=HST.out.own.below hW
     refine⟨fun r u hr hu=>?_,?_⟩
     ·have k2:=o.cell (tp:=.blocks) (j:=i*6+r) (.inr (.inl rfl)) rfl HG.out rfl (by show _<f.blocks.length*6;omega)
      have hc:=cellsOf_at (blockCells_len val1) f.blocks 0 i r b HBI.out hr
      rw[Nat.zero_add]at hc
      exact⟨k2.1.trans (hc.trans hu),k2.2⟩
     ·exact(row_cells HST.out.box (hW.block _ (by omega)) 3).trans (by show some (val1 .blocks)=_;rw[HG.out])
    have H6:Hid (∀ W,Below wr.heap.size wr W→(W.cell? ⟨g,i*6,none⟩=some (.slice PA b.phis.length pc2)∧W.cell? ⟨g,i*6+1,none⟩=some (.slice CA b.code.length cc2)∧W.cell? ⟨g,i*6+2,none⟩=some (.int .i64 b.term.op)∧W.cell? ⟨g,i*6+3,none⟩=some (.int .i64 b.term.val)∧W.cell? ⟨g,i*6+4,none⟩=some (.slice TA b.term.to.length tc2)∧W.cell? ⟨g,i*6+5,none⟩=some (.int .i64 b.term.n)) ∧
      (W.frozen? ⟨g,i*6,none⟩=false∧W.frozen? ⟨g,i*6+1,none⟩=false∧W.frozen? ⟨g,i*6+2,none⟩=false∧W.frozen? ⟨g,i*6+3,none⟩=false∧W.frozen? ⟨g,i*6+4,none⟩=false∧W.frozen? ⟨g,i*6+5,none⟩=false)∧W.cell? ⟨w.heap.size,3,none⟩=some (.slice (some ⟨g,0,none⟩) f.blocks.length bc)):=fun W hW=>by
     obtain⟨k,kb⟩:=G0.out W hW
     have k0:=k 0 (.slice PA b.phis.length pc2) (by omega) (by show some (val1 _)=_;rw[e1,d1'])
     have k1:=k 1 (.slice CA b.code.length cc2) (by omega) (by show some (val1 _)=_;rw[e2,d2'])
     have k2:=k 2 _ (by omega) rfl
     have k3:=k 3 _ (by omega) rfl
     have k4:=k 4 (.slice TA b.term.to.length tc2) (by omega) (by show some (val1 _)=_;rw[e3,d3'])
     have k5:=k 5 _ (by omega) rfl
     exact⟨⟨k0.1,k1.1,k2.1,k3.1,k4.1,k5.1⟩,⟨k0.2,k1.2,k2.2,k3.2,k4.2,k5.2⟩,kb⟩
    rw[d1',d2',d3']at CB
    obtain⟨⟨c0,c1,c2,c3,c4,c5⟩,⟨f0,f1,f2,f3,f4,f5⟩,b3⟩:=H6.out wr (Below.refl _ _)
    clear hb hg e1 e2 e3 d1 d2 d3 d1' d2' d3'
    go_wp2
    go_region_with (first
    |(go_at_call 113;refine(CB.out _ (by exact⟨rfl,rfl,rfl,Nat.le_refl _,fun _ _=>rfl⟩)).mono ?_;rintro e w2 ⟨val2,A2,c2,A3,c3,A4,c4,rfl,hval2,hsame2,hown2,hb2⟩;have hba:Below wr.heap.size wr w2:=undrew2 hb2;obtain⟨⟨c0,c1,c2,c3,c4,c5⟩,⟨f0,f1,f2,f3,f4,f5⟩,b3⟩:=H6.out _ hba))
    all_goals
     have HST2:=hideI (HST.out.step HBI.out hN2 HG.out hba hsame2 hown2)
     rw[hval2.1,hval2.2.1,hval2.2.2]at HST2
     clear c0 c1 c2 c3 c4 c5 f0 f1 f2 f3 f4 f5 b3 hval2 hsame2 hown2 hb2 hba
     go_wp2
     go_roundw
     case rel=>exact⟨i+1,_,by omega,by go_num,HST2⟩
     case measure=>simp[intOf];omega
   ·have hin:i=f.blocks.length:=by omega
    rw[hin]at HST
    obtain⟨PA1,pc1,e1⟩:=HST.out.own.form (t:=.params) (.inl rfl) rfl
    obtain⟨BA1,bc1,e2⟩:=HST.out.own.form (t:=.blocks) (.inr (.inl rfl)) rfl
    have e1':val1 .params=.slice PA1 f.params.length pc1:=e1
    have e2':val1 .blocks=.slice BA1 f.blocks.length bc1:=e2
    have E1:=hideI e1'
    have E2:=hideI e2'
    have hbx:=HST.out.box
    rw[e1',e2']at hbx
    have hx:=row_cells hbx rfl
    have hr:=row_cells HST.out.res rfl
    have hf:=free_row' HST.out.res (rfl:wr.heap[w.heap.size+1]?=_)
    have b0:=hx 0
    have b1:=hx 1
    have b2:=hx 2
    have b3:=hx 3
    have r0:=hr 0
    have r1:=hr 1
    have r2:=hr 2
    have r3:=hr 3
    have f0:=hf 0
    have f1:=hf 1
    have f2:=hf 2
    have f3:=hf 3
    clear e1 e2 e1' e2' hbx hx hr hf hin
    go_wp2
    have hne:∀ t,EE f f.blocks.length t→(val1 t).ownBlock≠some (w.heap.size+1):=fun t ht e=>by have:=(HST.out.own.lt ht e).1;omega
    refine bodyPost_ret (v:=.agg #[.slice PA1 f.params.length pc1,.int .i64 f.arrays,.int .i64 f.cells,.slice BA1 f.blocks.length bc1]) (by simp[results,Tryz.results64,go_sem,r0,r1,r2,r3]) rfl ⟨val1,by rw[E1.out,E2.out],?_,?_⟩
    ·exact(((HST.out.own.other hne).other hne).other hne).other hne
    ·exact(((HST.out.low.setCell (by simp) _).setCell (by simp) _).setCell (by simp) _).setCell (by simp) _
end Go.Proofs.YtaehbgppfahdeaaGreat

namespace Go.Proofs.YtaehbgppfahdeaaGreat
open Go.RowKit
def cellAt (w:World) (v:Value) (j:Nat):Value:=match v with
|.slice (some a) _ _=>(w.cell? ⟨a.block,a.off+j,none⟩).getD (.slice none 0 0)
|_=>.slice none 0 0
def readVals (w:World) (pv bv:Value):Vals
|.params=>pv
|.blocks=>bv
|.phis k=>cellAt w bv (k*6)
|.code k=>cellAt w bv (k*6+1)
|.ends k=>cellAt w bv (k*6+4)
|.fr k i=>cellAt w (cellAt w bv (k*6)) (i*4+2)
|.vals k i=>cellAt w (cellAt w bv (k*6)) (i*4+3)
|.args k i=>cellAt w (cellAt w bv (k*6+1)) (i*4+2)
section
variable {w:World} {B:Nat} {pv bv:Value} {f:FuncM}
theorem cellAt_of {b off n c j:Nat} {u:Value} (h:w.cell? ⟨b,off+j,none⟩=some u):cellAt w (.slice (some ⟨b,off,none⟩) n c) j=u:=by
 unfold cellAt
 simp only[h,Option.getD_some]
theorem read_block (hb:BlocksR w B bv f.blocks) {k:Nat} {q:BlockM} (hq:f.blocks[k]?=some q) :
  ∃ b off n c,bv=.slice (some ⟨b,off,none⟩) n c∧b<B∧w.cell? ⟨b,off+k*6,none⟩=some (readVals w pv bv (.phis k))∧w.cell? ⟨b,off+k*6+1,none⟩=some (readVals w pv bv (.code k))∧w.cell? ⟨b,off+k*6+2,none⟩=some (.int .i64 q.term.op)∧w.cell? ⟨b,off+k*6+3,none⟩=some (.int .i64 q.term.val) ∧
   w.cell? ⟨b,off+k*6+4,none⟩=some (readVals w pv bv (.ends k))∧w.cell? ⟨b,off+k*6+5,none⟩=some (.int .i64 q.term.n) ∧
   PhisR w B (readVals w pv bv (.phis k)) q.phis∧CodeR w B (readVals w pv bv (.code k)) q.code∧Ints w B (readVals w pv bv (.ends k)) q.term.to:=by
 obtain⟨A,c,rfl,hm,hx⟩:=hb
 obtain⟨b,off,p,cv,tv,rfl,hbB,e0,e1,e2,e3,e4,e5,hp,hc,ht,_⟩:=hx k q hq
 have h0:readVals w pv (.slice (some ⟨b,off,none⟩) f.blocks.length c) (.phis k)=p:=by show cellAt w (.slice (some ⟨b,off,none⟩) f.blocks.length c) (k*6)=p;exact cellAt_of e0
 have h1:readVals w pv (.slice (some ⟨b,off,none⟩) f.blocks.length c) (.code k)=cv:=by show cellAt w (.slice (some ⟨b,off,none⟩) f.blocks.length c) (k*6+1)=cv;exact cellAt_of (by rw[← Nat.add_assoc];exact e1)
 have h4:readVals w pv (.slice (some ⟨b,off,none⟩) f.blocks.length c) (.ends k)=tv:=by show cellAt w (.slice (some ⟨b,off,none⟩) f.blocks.length c) (k*6+4)=tv;exact cellAt_of (by rw[← Nat.add_assoc];exact e4)
 rw[h0,h1,h4]
 exact⟨b,off,_,_,rfl,hbB,e0,e1,e2,e3,e4,e5,hp,hc,ht⟩
theorem read_phi {v:Value} {ps:List PhiM} (hp:PhisR w B v ps) {i:Nat} {p:PhiM} (hi:ps[i]?=some p) :
  ∃ b off n c,v=.slice (some ⟨b,off,none⟩) n c∧b<B∧w.cell? ⟨b,off+i*4,none⟩=some (.int .i64 p.id)∧w.cell? ⟨b,off+i*4+1,none⟩=some (.int .i64 p.typ)∧w.cell? ⟨b,off+i*4+2,none⟩=some (cellAt w v (i*4+2))∧w.cell? ⟨b,off+i*4+3,none⟩=some (cellAt w v (i*4+3)) ∧
   Ints w B (cellAt w v (i*4+2)) p.fr∧Ints w B (cellAt w v (i*4+3)) p.vals:=by
 obtain⟨A,c,rfl,hm,hx⟩:=hp
 obtain⟨b,off,fv,vv,rfl,hbB,e0,e1,e2,e3,hf,hv,_⟩:=hx i p hi
 have h2:cellAt w (.slice (some ⟨b,off,none⟩) ps.length c) (i*4+2)=fv:=cellAt_of (by rw[← Nat.add_assoc];exact e2)
 have h3:cellAt w (.slice (some ⟨b,off,none⟩) ps.length c) (i*4+3)=vv:=cellAt_of (by rw[← Nat.add_assoc];exact e3)
 rw[h2,h3]
 exact⟨b,off,_,_,rfl,hbB,e0,e1,e2,e3,hf,hv⟩
theorem read_instr {v:Value} {ps:List InstrM} (hp:CodeR w B v ps) {i:Nat} {p:InstrM} (hi:ps[i]?=some p) :
  ∃ b off n c,v=.slice (some ⟨b,off,none⟩) n c∧b<B∧w.cell? ⟨b,off+i*4,none⟩=some (.int .i64 p.op)∧w.cell? ⟨b,off+i*4+1,none⟩=some (.int .i64 p.id)∧w.cell? ⟨b,off+i*4+2,none⟩=some (cellAt w v (i*4+2))∧w.cell? ⟨b,off+i*4+3,none⟩=some (.int .i64 p.n) ∧
   Ints w B (cellAt w v (i*4+2)) p.args:=by
 obtain⟨A,c,rfl,hm,hx⟩:=hp
 obtain⟨b,off,fv,rfl,hbB,e0,e1,e2,e3,hf,_⟩:=hx i p hi
 have h2:cellAt w (.slice (some ⟨b,off,none⟩) ps.length c) (i*4+2)=fv:=cellAt_of (by rw[← Nat.add_assoc];exact e2)
 rw[h2]
 exact⟨b,off,_,_,rfl,hbB,e0,e1,e2,e3,hf⟩
theorem read_all (hp:Ints w B pv f.params) (hb:BlocksR w B bv f.blocks):RdF w B f (readVals w pv bv):=by
 intro t d hd
 cases t with
|params =>
  cases hd
  exact hp.row
|blocks =>
  cases hd
  obtain⟨A,c,hv,hm,_⟩:=id hb
  refine⟨A,c,hv,hm,fun j u hu=>?_⟩
  obtain⟨k,r,q,rfl,hr,hq,hc⟩:=cellsOf_div (blockCells_len _) hu
  obtain⟨b,off,n,c',hv',hbB,e0,e1,e2,e3,e4,e5,_⟩:=read_block (pv:=pv) hb hq
  have hA:A=some ⟨b,off,none⟩:=by rw[hv]at hv';cases hv';rfl
  refine⟨b,off,hA,hbB,?_⟩
  obtain rfl|rfl|rfl|rfl|rfl|rfl:r=0∨r=1∨r=2∨r=3∨r=4∨r=5:=by omega
  all_goals (cases hc;rw[← Nat.add_assoc];assumption)
|phis k =>
  cases hq:f.blocks[k]? with
 |none=>simp only[rowOf,hq]at hd;cases hd
 |some q =>
   simp only[rowOf,hq,Option.map_some,Option.some.injEq]at hd
   subst hd
   obtain⟨_,_,_,_,_,_,_,_,_,_,_,_,hph,_⟩:=read_block (pv:=pv) hb hq
   obtain⟨A,c,hv,hm,_⟩:=id hph
   refine⟨A,c,hv,hm,fun j u hu=>?_⟩
   obtain⟨i,r,p,rfl,hr,hp,hc⟩:=cellsOf_div (phiCells_len _ k) hu
   obtain⟨b,off,n,c',hv',hbB,e0,e1,e2,e3,_⟩:=read_phi hph hp
   have hA:A=some ⟨b,off,none⟩:=by rw[hv]at hv';cases hv';rfl
   refine⟨b,off,hA,hbB,?_⟩
   obtain rfl|rfl|rfl|rfl:r=0∨r=1∨r=2∨r=3:=by omega
   all_goals (cases hc;rw[← Nat.add_assoc];assumption)
|code k =>
  cases hq:f.blocks[k]? with
 |none=>simp only[rowOf,hq]at hd;cases hd
 |some q =>
   simp only[rowOf,hq,Option.map_some,Option.some.injEq]at hd
   subst hd
   obtain⟨_,_,_,_,_,_,_,_,_,_,_,_,_,hco,_⟩:=read_block (pv:=pv) hb hq
   obtain⟨A,c,hv,hm,_⟩:=id hco
   refine⟨A,c,hv,hm,fun j u hu=>?_⟩
   obtain⟨i,r,p,rfl,hr,hp,hc⟩:=cellsOf_div (instrCells_len _ k) hu
   obtain⟨b,off,n,c',hv',hbB,e0,e1,e2,e3,_⟩:=read_instr hco hp
   have hA:A=some ⟨b,off,none⟩:=by rw[hv]at hv';cases hv';rfl
   refine⟨b,off,hA,hbB,?_⟩
   obtain rfl|rfl|rfl|rfl:r=0∨r=1∨r=2∨r=3:=by omega
   all_goals (cases hc;rw[← Nat.add_assoc];assumption)
|ends k =>
  cases hq:f.blocks[k]? with
 |none=>simp only[rowOf,hq]at hd;cases hd
 |some q =>
   simp only[rowOf,hq,Option.map_some,Option.some.injEq]at hd
   subst hd
   obtain⟨_,_,_,_,_,_,_,_,_,_,_,_,_,_,ht⟩:=read_block (pv:=pv) hb hq
   exact ht.row
|fr k i =>
  cases hq:f.blocks[k]? with
 |none=>simp only[rowOf,hq]at hd;cases hd
 |some q =>
   cases hp:q.phis[i]? with
  |none=>simp only[rowOf,hq,Option.bind_some,hp]at hd;cases hd
  |some p =>
    simp only[rowOf,hq,Option.bind_some,hp,Option.map_some,Option.some.injEq]at hd
    subst hd
    obtain⟨_,_,_,_,_,_,_,_,_,_,_,_,hph,_⟩:=read_block (pv:=pv) hb hq
    obtain⟨_,_,_,_,_,_,_,_,_,_,hf,_⟩:=read_phi hph hp
    exact hf.row
|vals k i =>
  cases hq:f.blocks[k]? with
 |none=>simp only[rowOf,hq]at hd;cases hd
 |some q =>
   cases hp:q.phis[i]? with
  |none=>simp only[rowOf,hq,Option.bind_some,hp]at hd;cases hd
  |some p =>
    simp only[rowOf,hq,Option.bind_some,hp,Option.map_some,Option.some.injEq]at hd
    subst hd
    obtain⟨_,_,_,_,_,_,_,_,_,_,_,_,hph,_⟩:=read_block (pv:=pv) hb hq
    obtain⟨_,_,_,_,_,_,_,_,_,_,_,hf⟩:=read_phi hph hp
    exact hf.row
|args k i =>
  cases hq:f.blocks[k]? with
 |none=>simp only[rowOf,hq]at hd;cases hd
 |some q =>
   cases hp:q.code[i]? with
  |none=>simp only[rowOf,hq,Option.bind_some,hp]at hd;cases hd
  |some p =>
    simp only[rowOf,hq,Option.bind_some,hp,Option.map_some,Option.some.injEq]at hd
    subst hd
    obtain⟨_,_,_,_,_,_,_,_,_,_,_,_,_,hco,_⟩:=read_block (pv:=pv) hb hq
    obtain⟨_,_,_,_,_,_,_,_,_,_,hf⟩:=read_instr hco hp
    exact hf.row
end
end Go.Proofs.YtaehbgppfahdeaaGreat
namespace Go.Proofs.YtaehbgppfahdeaaGreat
open Go.RowKit
structure SmallF (f:FuncM):Prop where
 params:f.params.length≤100000
 blocks:f.blocks.length≤100000
 each:∀ b∈f.blocks,Small b
theorem EE.all {f:FuncM} {val:Vals} {t:Tag} {d:RowD} (h:rowOf f val t=some d):EE f f.blocks.length t:=by
 cases t with
|params=>exact .inl rfl
|blocks=>exact .inr (.inl rfl)
|phis k =>
  cases hq:f.blocks[k]? with
 |none=>simp only[rowOf,hq]at h;cases h
 |some q=>exact .inr (.inr ⟨k,q,(List.getElem?_eq_some_iff.1 hq).1,hq,.inl rfl⟩)
|code k =>
  cases hq:f.blocks[k]? with
 |none=>simp only[rowOf,hq]at h;cases h
 |some q=>exact .inr (.inr ⟨k,q,(List.getElem?_eq_some_iff.1 hq).1,hq,.inr (.inl rfl)⟩)
|ends k =>
  cases hq:f.blocks[k]? with
 |none=>simp only[rowOf,hq]at h;cases h
 |some q=>exact .inr (.inr ⟨k,q,(List.getElem?_eq_some_iff.1 hq).1,hq,.inr (.inr (.inl rfl))⟩)
|fr k i =>
  cases hq:f.blocks[k]? with
 |none=>simp only[rowOf,hq]at h;cases h
 |some q =>
   cases hp:q.phis[i]? with
  |none=>simp only[rowOf,hq,Option.bind_some,hp]at h;cases h
  |some p=>exact .inr (.inr ⟨k,q,(List.getElem?_eq_some_iff.1 hq).1,hq,.inr (.inr (.inr (.inl ⟨i,(List.getElem?_eq_some_iff.1 hp).1,.inl rfl⟩)))⟩)
|vals k i =>
  cases hq:f.blocks[k]? with
 |none=>simp only[rowOf,hq]at h;cases h
 |some q =>
   cases hp:q.phis[i]? with
  |none=>simp only[rowOf,hq,Option.bind_some,hp]at h;cases h
  |some p=>exact .inr (.inr ⟨k,q,(List.getElem?_eq_some_iff.1 hq).1,hq,.inr (.inr (.inr (.inl ⟨i,(List.getElem?_eq_some_iff.1 hp).1,.inr rfl⟩)))⟩)
|args k i =>
  cases hq:f.blocks[k]? with
 |none=>simp only[rowOf,hq]at h;cases h
 |some q =>
   cases hp:q.code[i]? with
  |none=>simp only[rowOf,hq,Option.bind_some,hp]at h;cases h
  |some p=>exact .inr (.inr ⟨k,q,(List.getElem?_eq_some_iff.1 hq).1,hq,.inr (.inr (.inr (.inr ⟨i,(List.getElem?_eq_some_iff.1 hp).1,rfl⟩)))⟩)
theorem SmallF.len {f:FuncM} {val:Vals} {t:Tag} {d:RowD} (hs:SmallF f) (h:rowOf f val t=some d):d.len≤100000:=by
 cases t with
|params=>cases h;exact hs.params
|blocks=>cases h;exact hs.blocks
|phis k =>
  cases hq:f.blocks[k]? with
 |none=>simp only[rowOf,hq]at h;cases h
 |some q=>rw[row_phis hq]at h;cases h;exact(hs.each q (List.mem_of_getElem? hq)).phis
|code k =>
  cases hq:f.blocks[k]? with
 |none=>simp only[rowOf,hq]at h;cases h
 |some q=>rw[row_code hq]at h;cases h;exact(hs.each q (List.mem_of_getElem? hq)).code
|ends k =>
  cases hq:f.blocks[k]? with
 |none=>simp only[rowOf,hq]at h;cases h
 |some q=>rw[row_ends hq]at h;cases h;exact(hs.each q (List.mem_of_getElem? hq)).ends
|fr k i =>
  cases hq:f.blocks[k]? with
 |none=>simp only[rowOf,hq]at h;cases h
 |some q =>
   cases hp:q.phis[i]? with
  |none=>simp only[rowOf,hq,Option.bind_some,hp]at h;cases h
  |some p=>simp only[rowOf,hq,Option.bind_some,hp,Option.map_some,Option.some.injEq]at h;subst h;exact((hs.each q (List.mem_of_getElem? hq)).fr p (List.mem_of_getElem? hp)).1
|vals k i =>
  cases hq:f.blocks[k]? with
 |none=>simp only[rowOf,hq]at h;cases h
 |some q =>
   cases hp:q.phis[i]? with
  |none=>simp only[rowOf,hq,Option.bind_some,hp]at h;cases h
  |some p=>simp only[rowOf,hq,Option.bind_some,hp,Option.map_some,Option.some.injEq]at h;subst h;exact((hs.each q (List.mem_of_getElem? hq)).fr p (List.mem_of_getElem? hp)).2
|args k i =>
  cases hq:f.blocks[k]? with
 |none=>simp only[rowOf,hq]at h;cases h
 |some q =>
   cases hp:q.code[i]? with
  |none=>simp only[rowOf,hq,Option.bind_some,hp]at h;cases h
  |some p=>simp only[rowOf,hq,Option.bind_some,hp,Option.map_some,Option.some.injEq]at h;subst h;exact(hs.each q (List.mem_of_getElem? hq)).args p (List.mem_of_getElem? hp)
theorem OwnG.rd {w:World} {base:Nat} {f:FuncM} {val:Vals} (h:OwnG w base (rowOf f val) val (EE f f.blocks.length)) (hs:SmallF f):RdF w w.heap.size f val:=by
 intro t d hd
 have hown:=h.rows t d (EE.all hd) hd
 have hl:=hs.len hd
 rcases hown.2 with⟨hv,h0⟩|⟨g,cap,cur,hv,hb,hg,r⟩
 ·refine⟨none,0,by rw[hv,h0],by omega,fun j u hu=>?_⟩
  have h1:=hown.1
  have h2:=(List.getElem?_eq_some_iff.1 hu).1
  rw[h1,h0]at h2
  omega
 ·refine⟨some ⟨g,0,none⟩,cap,hv,by omega,fun j u hu=>⟨g,0,rfl,(Array.getElem?_eq_some_iff.1 hg).1,?_⟩⟩
  rw[hv]at hown
  have hj:=(List.getElem?_eq_some_iff.1 hu).1
  rw[hown.1]at hj
  rw[Nat.zero_add,World.ownsRow.cellAt hown j hj,hu]
theorem mem_sum {l:List BlockM} {b:BlockM} (h:b∈l):sizeB b≤(l.map sizeB).sum:=by
 induction l with
|nil=>cases h
|cons a l ih =>
  rw[List.map_cons,List.sum_cons]
  rcases List.mem_cons.1 h with rfl|h
  ·omega
  ·have:=ih h;omega
theorem takes_three (op:Int):(takesS op).length≤3:=by
 unfold takesS
 rw[List.length_map]
 rcases op_cases op with h|h|h
 ·rcases h with rfl|rfl|rfl|rfl|rfl|rfl|rfl|rfl|rfl|rfl|rfl|rfl|rfl <;> decide
 ·rcases h with rfl|rfl|rfl|rfl|rfl|rfl|rfl|rfl|rfl|rfl|rfl|rfl <;> decide
 ·rw[shapeS_none h];decide
theorem term_few {f:FuncM} {t:TermM} (h:termB f t=true):t.to.length≤2:=by
 unfold termB at h
 simp only[Bool.and_eq_true]at h
 have h2:=h.2
 split at h2
 ·simp only[Bool.and_eq_true,beq_iff_eq]at h2;omega
 ·split at h2
  ·simp only[Bool.and_eq_true,beq_iff_eq]at h2;omega
  ·split at h2
   ·simp only[Bool.and_eq_true,beq_iff_eq]at h2;omega
   ·split at h2
    ·simp only[Bool.and_eq_true,beq_iff_eq]at h2;omega
    ·cases h2
theorem look_small {f:FuncM} (h:(lookM f).1=0):SmallF f:=by
 have hsz:=look_size h
 have hall:=(formed_all (look_formed h)).1
 have hterm:=look_term h
 have hnb:=look_some_block h
 have hpar:f.params.length≤16:=by
  have hf:=look_formed h
  unfold formedM at hf
  split at hf
  ·rename_i hl
   simp only[Bool.and_eq_true]at hl
   have h1:=hl.1.1
   unfold limitsB at h1
   simp only[Bool.and_eq_true,decide_eq_true_eq]at h1
   exact h1.1
  ·cases hf
 refine⟨by omega,by omega,fun b hb=>?_⟩
 have hs:=mem_sum hb
 unfold sizeM at hsz
 unfold sizeB at hs hsz
 have hr:=hall b hb
 refine⟨by omega,by omega,by have:=term_few (hterm b hb);omega,fun p hp=>?_,fun x hx=>?_⟩
 ·have h2:=hr.1 p hp
  unfold phiB at h2
  simp only[Bool.and_eq_true,beq_iff_eq]at h2
  have h3:=once_len h2.2.2
  omega
 ·have h2:=hr.2 x hx
  unfold instrB at h2
  simp only[Bool.and_eq_true,beq_iff_eq]at h2
  have:=takes_three x.op
  omega
theorem fresh_any (f:FuncM) (B:Nat) (pv bv:Value) (w:World) (hpv:Ints w B pv f.params) (hbv:BlocksR w B bv f.blocks) (hB:B≤w.heap.size) (h0:(lookM f).1=0) :
  Calls Tryz.prog 64 #[.agg #[pv,.int .i64 f.arrays,.int .i64 f.cells,bv]] w (FreshPost f w):=by
 have hs:=look_small h0
 exact freshFunc_any f B (readVals w pv bv) w (read_all hpv hbv) hB hs.params hs.blocks hs.each
end Go.Proofs.YtaehbgppfahdeaaGreat

namespace Go.Proofs.YtaehbgppfahdeaaGreat
open Go.RowKit
structure UseRd (w:World) (f:FuncM) (val:Vals):Prop where
 blocks:∃ A c,val .blocks=.slice A f.blocks.length c∧∀ k b,f.blocks[k]?=some b→∃ g off,A=some ⟨g,off,none⟩∧w.cell? ⟨g,off+k*6,none⟩=some (val (.phis k))∧w.cell? ⟨g,off+k*6+1,none⟩=some (val (.code k))∧w.cell? ⟨g,off+k*6+2,none⟩=some (.int .i64 b.term.op)
 phis:∀ k b,f.blocks[k]?=some b→∃ A c,val (.phis k)=.slice A b.phis.length c∧∀ j p,b.phis[j]?=some p→∃ g off,A=some ⟨g,off,none⟩∧w.cell? ⟨g,off+j*4,none⟩=some (.int .i64 p.id)∧w.cell? ⟨g,off+j*4+1,none⟩=some (.int .i64 p.typ)∧w.cell? ⟨g,off+j*4+2,none⟩=some (val (.fr k j))∧w.cell? ⟨g,off+j*4+3,none⟩=some (val (.vals k j))
 code:∀ k b,f.blocks[k]?=some b→∃ A c,val (.code k)=.slice A b.code.length c∧∀ j x,b.code[j]?=some x→∃ g off,A=some ⟨g,off,none⟩∧w.cell? ⟨g,off+j*4,none⟩=some (.int .i64 x.op)∧w.cell? ⟨g,off+j*4+1,none⟩=some (.int .i64 x.id)∧w.cell? ⟨g,off+j*4+2,none⟩=some (val (.args k j))∧w.cell? ⟨g,off+j*4+3,none⟩=some (.int .i64 x.n)
 fr:∀ k b j p,f.blocks[k]?=some b→b.phis[j]?=some p→∃ A c,val (.fr k j)=.slice A p.fr.length c∧∀ i x,p.fr[i]?=some x→∃ g off,A=some ⟨g,off,none⟩∧w.cell? ⟨g,off+i,none⟩=some (.int .i64 x)
 vals:∀ k b j p,f.blocks[k]?=some b→b.phis[j]?=some p→∃ A c,val (.vals k j)=.slice A p.vals.length c∧(0<p.vals.length→∃ g off,A=some ⟨g,off,none⟩)
 args:∀ k b j x,f.blocks[k]?=some b→b.code[j]?=some x→∃ A c,val (.args k j)=.slice A x.args.length c∧(0<x.args.length→∃ g off,A=some ⟨g,off,none⟩)
abbrev Call2:=Value→Value→World→(Ending→World→Prop)→Prop
structure Seer (f:FuncM) (val:Vals) (C:Call2) (Inv:Nat→Nat→Nat→Nat→Nat→World→Prop):Prop where
 read:∀ k a c i X w,Inv k a c i X w→UseRd w f val
 move:∀ k a c i X Y w w',Inv k a c i X w→Below w.heap.size w w'→(Y=X∨(w.heap.size≤Y∧Y<w'.heap.size))→Inv k a c i Y w'
 phi:∀ k b a p i x fr X w g off n c,f.blocks[k]?=some b→b.phis[a]?=some p→p.vals[i]?=some x→p.fr[i]?=some fr→val (.vals k a)=.slice (some ⟨g,off,none⟩) n c→Inv k a 0 i X w→C (.pointer (some ⟨g,off+i,none⟩)) (.int .i64 fr) w fun e w'=>e=.returned (.tuple #[])∧Inv k a 0 (i+1) X w'∧(X<w.heap.size→w'.heap[X]?=w.heap[X]?)
 phiE:∀ k b a p X w,f.blocks[k]?=some b→b.phis[a]?=some p→Inv k a 0 p.vals.length X w→Inv k (a+1) 0 0 X w
 ins:∀ k b a p i x X w g off n c,f.blocks[k]?=some b→b.code[a]?=some p→p.args[i]?=some x→val (.args k a)=.slice (some ⟨g,off,none⟩) n c→Inv k b.phis.length a i X w→C (.pointer (some ⟨g,off+i,none⟩)) (.int .i64 k) w fun e w'=>e=.returned (.tuple #[])∧Inv k b.phis.length a (i+1) X w'∧(X<w.heap.size→w'.heap[X]?=w.heap[X]?)
 insE:∀ k b a p X w,f.blocks[k]?=some b→b.code[a]?=some p→Inv k b.phis.length a p.args.length X w→Inv k b.phis.length (a+1) 0 X w
 use:∀ k b X w g off n c,f.blocks[k]?=some b→b.term.op=2∨b.term.op=3→val .blocks=.slice (some ⟨g,off,none⟩) n c→Inv k b.phis.length b.code.length 0 X w→C (.pointer (some ⟨g,off+k*6+3,none⟩)) (.int .i64 k) w fun e w'=>e=.returned (.tuple #[])∧Inv (k+1) 0 0 0 X w'
 rest:∀ k b X w,f.blocks[k]?=some b→¬ (b.term.op=2∨b.term.op=3)→Inv k b.phis.length b.code.length 0 X w→Inv (k+1) 0 0 0 X w
theorem UseRd.of_rd {w:World} {B:Nat} {f:FuncM} {val:Vals} (h:RdF w B f val):UseRd w f val:=by
 refine⟨?_,fun k b hb=>?_,fun k b hb=>?_,fun k b j p hb hp=>?_,fun k b j p hb hp=>?_,fun k b j x hb hx=>?_⟩
 ·obtain⟨A,c,e,_,hx⟩:=h .blocks _ rfl
  refine⟨A,c,e,fun k b hb=>?_⟩
  have hc:∀ r u,[val (.phis k),val (.code k),.int .i64 b.term.op,.int .i64 b.term.val,val (.ends k),.int .i64 b.term.n][r]?=some u→∃ g off,A=some ⟨g,off,none⟩∧g<B∧w.cell? ⟨g,off+(k*6+r),none⟩=some u:=fun r u hu=>by
   refine hx (k*6+r) u ?_
   rw[cellsOf_at (s:=6) (blockCells_len val) f.blocks 0 k r b hb (by simpa using (List.getElem?_eq_some_iff.1 hu).1),Nat.zero_add]
   exact hu
  obtain⟨g,off,rfl,_,h0⟩:=hc 0 _ rfl
  obtain⟨g1,off1,e1,_,h1⟩:=hc 1 _ rfl
  cases e1
  obtain⟨g2,off2,e2,_,h2⟩:=hc 2 _ rfl
  cases e2
  exact⟨g,off,rfl,h0,h1,h2⟩
 ·have hd:rowOf f val (.phis k)=some ⟨76,4,b.phis.length,cellsOf (phiCells val k) 0 b.phis⟩:=by simp only[rowOf,hb,Option.map_some]
  obtain⟨A,c,e,_,hx⟩:=h _ _ hd
  refine⟨A,c,e,fun j p hp=>?_⟩
  have hc:∀ r u,[Value.int .i64 p.id,.int .i64 p.typ,val (.fr k j),val (.vals k j)][r]?=some u→∃ g off,A=some ⟨g,off,none⟩∧g<B∧w.cell? ⟨g,off+(j*4+r),none⟩=some u:=fun r u hu=>by
   refine hx (j*4+r) u ?_
   show(cellsOf _ 0 b.phis)[j*4+r]?=some u
   rw[cellsOf_at (s:=4) (phiCells_len val k) b.phis 0 j r p hp (by simpa using (List.getElem?_eq_some_iff.1 hu).1),Nat.zero_add]
   exact hu
  obtain⟨g,off,rfl,_,h0⟩:=hc 0 _ rfl
  obtain⟨g1,off1,e1,_,h1⟩:=hc 1 _ rfl
  cases e1
  obtain⟨g2,off2,e2,_,h2⟩:=hc 2 _ rfl
  cases e2
  obtain⟨g3,off3,e3,_,h3⟩:=hc 3 _ rfl
  cases e3
  exact⟨g,off,rfl,h0,h1,h2,h3⟩
 ·have hd:rowOf f val (.code k)=some ⟨68,4,b.code.length,cellsOf (instrCells val k) 0 b.code⟩:=by simp only[rowOf,hb,Option.map_some]
  obtain⟨A,c,e,_,hx⟩:=h _ _ hd
  refine⟨A,c,e,fun j p hp=>?_⟩
  have hc:∀ r u,[Value.int .i64 p.op,.int .i64 p.id,val (.args k j),.int .i64 p.n][r]?=some u→∃ g off,A=some ⟨g,off,none⟩∧g<B∧w.cell? ⟨g,off+(j*4+r),none⟩=some u:=fun r u hu=>by
   refine hx (j*4+r) u ?_
   show(cellsOf _ 0 b.code)[j*4+r]?=some u
   rw[cellsOf_at (s:=4) (instrCells_len val k) b.code 0 j r p hp (by simpa using (List.getElem?_eq_some_iff.1 hu).1),Nat.zero_add]
   exact hu
  obtain⟨g,off,rfl,_,h0⟩:=hc 0 _ rfl
  obtain⟨g1,off1,e1,_,h1⟩:=hc 1 _ rfl
  cases e1
  obtain⟨g2,off2,e2,_,h2⟩:=hc 2 _ rfl
  cases e2
  obtain⟨g3,off3,e3,_,h3⟩:=hc 3 _ rfl
  cases e3
  exact⟨g,off,rfl,h0,h1,h2,h3⟩
 ·obtain⟨A,c,e,_,hx⟩:=h (.fr k j) (intsRow p.fr) (by simp only[rowOf,hb,Option.bind_some,hp,Option.map_some])
  refine⟨A,c,e,fun i x hi=>?_⟩
  obtain⟨g,off,e1,_,h1⟩:=hx i (.int .i64 x) (by show(p.fr.map _)[i]?=_;rw[List.getElem?_map,hi];rfl)
  exact⟨g,off,e1,h1⟩
 ·obtain⟨A,c,e,_,hx⟩:=h (.vals k j) (intsRow p.vals) (by simp only[rowOf,hb,Option.bind_some,hp,Option.map_some])
  refine⟨A,c,e,fun hl=>?_⟩
  obtain⟨g,off,e1,_,_⟩:=hx 0 (.int .i64 p.vals[0]) (by show(p.vals.map _)[0]?=_;rw[List.getElem?_map,List.getElem?_eq_getElem hl];rfl)
  exact⟨g,off,e1⟩
 ·obtain⟨A,c,e,_,hq⟩:=h (.args k j) (intsRow x.args) (by simp only[rowOf,hb,Option.bind_some,hx,Option.map_some])
  refine⟨A,c,e,fun hl=>?_⟩
  obtain⟨g,off,e1,_,_⟩:=hq 0 (.int .i64 x.args[0]) (by show(x.args.map _)[0]?=_;rw[List.getElem?_map,List.getElem?_eq_getElem hl];rfl)
  exact⟨g,off,e1⟩
end Go.Proofs.YtaehbgppfahdeaaGreat

namespace Go.Proofs.YtaehbgppfahdeaaGreat
open Go.RowKit Go.Maps
def phiU (p:PhiM):List (Int×Int):=p.vals.zip p.fr
def insU (k:Nat) (x:InstrM):List (Int×Int):=x.args.map fun v=>(v,(k:Int))
def endU (k:Nat) (b:BlockM):List (Int×Int):=if b.term.op=2∨b.term.op=3 then [(b.term.val,(k:Int))]else []
def blkU (k:Nat) (b:BlockM):List (Int×Int):=b.phis.flatMap phiU++b.code.flatMap (insU k)++endU k b
def blksU (bs:List BlockM):Nat→List (Int×Int)
|0=>[]
|k+1=>blksU bs k++match bs[k]? with|some b=>blkU k b|none=>[]
def posU (f:FuncM) (k a c i:Nat):List (Int×Int):=blksU f.blocks k++match f.blocks[k]? with
|none=>[]
|some b=>(b.phis.take a).flatMap phiU++(b.code.take c).flatMap (insU k)++match b.phis[a]? with
 |some p=>(phiU p).take i
 |none=>match b.code[c]? with
  |some x=>(insU k x).take i
  |none=>[]
section
variable {f:FuncM} {k a c i:Nat} {b:BlockM}
theorem posU_start:posU f 0 0 0 0=[]:=by
 unfold posU blksU
 cases f.blocks[0]? with
|none=>rfl
|some b =>
  simp only[List.take_zero,List.flatMap_nil,List.nil_append]
  cases b.phis[0]? with
 |some p=>rfl
 |none=>cases b.code[0]? <;> rfl
theorem posU_zero (hb:f.blocks[k]?=some b):posU f k a c 0=blksU f.blocks k++((b.phis.take a).flatMap phiU++(b.code.take c).flatMap (insU k)):=by
 unfold posU
 rw[hb]
 simp only[List.take_zero]
 cases b.phis[a]? with
|some p=>simp
|none=>cases b.code[c]? <;> simp
theorem posU_phi {p:PhiM} {x fr:Int} (hb:f.blocks[k]?=some b) (hp:b.phis[a]?=some p) (hx:p.vals[i]?=some x) (hfr:p.fr[i]?=some fr):posU f k a c (i+1)=posU f k a c i++[(x,fr)]:=by
 unfold posU
 rw[hb]
 simp only[hp]
 have hz:(phiU p)[i]?=some (x,fr):=by unfold phiU;rw[List.getElem?_zip_eq_some];exact⟨hx,hfr⟩
 rw[List.take_add_one,hz]
 simp
theorem posU_phiE {p:PhiM} (hb:f.blocks[k]?=some b) (hp:b.phis[a]?=some p) (hl:p.vals.length≤p.fr.length):posU f k (a+1) 0 0=posU f k a 0 p.vals.length:=by
 rw[posU_zero hb]
 unfold posU
 rw[hb]
 simp only[hp]
 rw[List.take_add_one,hp,List.take_of_length_le (l:=phiU p) (by unfold phiU;rw[List.length_zip];omega)]
 simp
theorem posU_ins {x:InstrM} {v:Int} (hb:f.blocks[k]?=some b) (hx:b.code[c]?=some x) (hv:x.args[i]?=some v):posU f k b.phis.length c (i+1)=posU f k b.phis.length c i++[(v,(k:Int))]:=by
 unfold posU
 rw[hb]
 simp only[List.getElem?_eq_none (Nat.le_refl _),hx]
 have hz:(insU k x)[i]?=some (v,(k:Int)):=by unfold insU;rw[List.getElem?_map,hv];rfl
 rw[List.take_add_one,hz]
 simp
theorem posU_insE {x:InstrM} (hb:f.blocks[k]?=some b) (hx:b.code[c]?=some x):posU f k b.phis.length (c+1) 0=posU f k b.phis.length c x.args.length:=by
 rw[posU_zero hb]
 unfold posU
 rw[hb]
 simp only[List.getElem?_eq_none (Nat.le_refl _),hx]
 rw[List.take_add_one (l:=b.code),hx,List.take_of_length_le (l:=insU k x) (by unfold insU;simp)]
 simp
theorem posU_begin:posU f (k+1) 0 0 0=blksU f.blocks (k+1):=by
 unfold posU
 cases f.blocks[k+1]? with
|none=>simp
|some b =>
  simp only[List.take_zero,List.flatMap_nil,List.nil_append]
  cases b.phis[0]? with
 |some p=>simp
 |none=>cases b.code[0]? <;> simp
theorem posU_end (hb:f.blocks[k]?=some b):posU f (k+1) 0 0 0=posU f k b.phis.length b.code.length 0++endU k b:=by
 have e:blksU f.blocks (k+1)=blksU f.blocks k++blkU k b:=by rw[blksU,hb]
 rw[posU_begin,posU_zero hb,e]
 simp only[blkU,List.take_length]
 simp
theorem posU_all:posU f f.blocks.length 0 0 0=blksU f.blocks f.blocks.length:=by
 unfold posU
 rw[List.getElem?_eq_none (Nat.le_refl _)]
 simp
end
theorem blksU_mem {bs:List BlockM} {u:Int×Int}:∀ n,u∈blksU bs n↔∃ k b,k<n∧bs[k]?=some b∧u∈blkU k b:=by
 intro n
 induction n with
|zero=>simp[blksU]
|succ n ih =>
  unfold blksU
  rw[List.mem_append,ih]
  constructor
  ·rintro(⟨k,b,hk,hb,hu⟩|hu)
   ·exact⟨k,b,by omega,hb,hu⟩
   ·cases hb:bs[n]? with
   |none=>rw[hb]at hu;cases hu
   |some b=>rw[hb]at hu;exact⟨n,b,by omega,hb,hu⟩
  ·rintro⟨k,b,hk,hb,hu⟩
   by_cases e:k=n
   ·subst e
    rw[hb]
    exact .inr hu
   ·exact .inl ⟨k,b,by omega,hb,hu⟩
end Go.Proofs.YtaehbgppfahdeaaGreat

namespace Go.Proofs.YtaehbgppfahdeaaGreat
open Go.RowKit Go.Maps
set_option maxRecDepth 100000 in
set_option maxHeartbeats 8000000 in
theorem defs_any (f:FuncM) (B:Nat) (pv bv:Value) (w:World) (hpv:Ints w B pv f.params) (hbv:BlocksR w B bv f.blocks) (hB:B≤w.heap.size) (hfew:FewV f) (hl5:f.blocks.length≤512) :
  Calls Tryz.prog 87 #[.agg #[pv,.int .i64 f.arrays,.int .i64 f.cells,bv]] w fun e w'=>∃ M,e=.returned (.map (some M))∧w.heap.size≤M∧PlacesAt w' M (defsM f)∧Below w.heap.size w w':=by
 have HFEW:=hideI hfew
 have hmm:=@run_makeMap Tryz.prog
 obtain⟨A,c,rfl,hbm,hbx⟩:=hbv
 obtain⟨P,pc,rfl,hpm,hpp⟩:=hpv
 have HPP:=hideI hpp
 have HX:=hideI hbx
 have hp16:=hfew.1
 clear hbx hfew hpp
 obtain⟨np,hnp⟩:∃ np,np=f.params.length:=⟨_,rfl⟩
 have HNP:=hideI hnp
 rw[← hnp]at hp16 hpm ⊢
 obtain⟨nb,hnb⟩:∃ nb,nb=f.blocks.length:=⟨_,rfl⟩
 have HNB:=hideI hnb
 rw[← hnb]at hl5 hbm ⊢
 obtain⟨W0,hW0⟩:∃ W0:World,W0=(w.alloc (.cells #[.slice P np pc,.int .i64 f.arrays,.int .i64 f.cells,.slice A nb c] 25)).alloc (.map #[] 0):=⟨_,rfl⟩
 have hsz0:W0.heap.size=w.heap.size+2:=by rw[hW0];simp
 have hK0:Hid (Below w.heap.size w W0):=by rw[hW0];exact hideI (((Below.refl _ w).alloc (Nat.le_refl _) _).alloc (by simp) _)
 have hbox0:Hid (W0.heap[w.heap.size]?=some (.cells #[.slice P np pc,.int .i64 f.arrays,.int .i64 f.cells,.slice A nb c] 25 (0,0))):=by
  show _=_
  rw[hW0,Below.heap_alloc _ _ _ (by simp)]
  exact heap_alloc_new w _
 have hM0:Hid (PlacesAt W0 (w.heap.size+1) []):=by
  have:=PlacesAt.new (w.alloc (.cells #[.slice P np pc,.int .i64 f.arrays,.int .i64 f.cells,.slice A nb c] 25))
  rw[hW0]
  exact hideI (by simpa using this)
 have HW0:=hideI hW0
 have HSZ0:=hideI hsz0
 clear hW0 hnp hnb hsz0
 go_enter Tryz.func87,Tryz.ntmps87
 go_wp2
 rw[← HW0.out]
 go_loopw [19] (fun i wr=>∃ k:Nat,k≤np∧i=.int .i64 k∧Hid (PlacesAt wr (w.heap.size+1) (dParams f.params k))∧Hid (W0.grownBy wr (some (w.heap.size+1)))) (fun i _=>np - (intOf i).toNat)
 case atStart=>exact⟨0,Nat.zero_le _,rfl,hM0,hideI (World.grownBy.refl W0 _)⟩
 case round =>
  obtain⟨k,hk,rfl,HM,HG⟩:=hrel
  have hx:=row_cells hbox0.out (HG.out.block w.heap.size (by rw[HSZ0.out];omega) (by simp))
  by_cases hlt:k<np
  ·obtain⟨D,hown,hD,hat⟩:=HM.out
   rw[dParams_len]at hown
   have HAT:=hideI hat
   have HIS:=hideI hD
   have HOWN:=hideI hown
   have hIk:Hid (I64 k):=by show I64 _;unfold I64;exact WalkArith.wf_i64 (by omega)
   obtain⟨pb,po,rfl,hpb,d0⟩:=HPP.out k (by rw[← HNP.out];exact hlt)
   obtain⟨pt,hpt⟩:∃ pt,pt=f.params[k]?.getD 0:=⟨_,rfl⟩
   rw[← hpt]at d0
   have HPT:=hideI hpt
   have hgs:=HG.out.size
   rw[HSZ0.out]at hgs
   have d1:=((Keeps.trans (Keeps.of_below (hK0.out.mono hB)) (Keeps.of_grown (B:=B) HG.out (by omega) (by rw[HSZ0.out];omega))) pb (po+k) hpb).trans d0
   clear hown hD hat d0 hpt
   go_wp2_with (at_mapUpdate;refine wpList_mapUpdate_own _ rfl _ _ _ 101 rfl 3 160 lawInt Tryz.underlying101 placeElem (w.heap.size+1) k _ rfl HOWN.out (by unfold maxLen;omega) _ _ _ rfl rfl (keyOf_int_mk Tryz.underlying3 hIk.out) _ [] (placeElem_mk _ _) ?_;intro w1 hown1 hgrow1;have HO1:=hideI hown1;have HG1:=hideI hgrow1;clear hown1 hgrow1)
   go_roundw
   case rel =>
    refine⟨k+1,by omega,by go_num,?_,hideI (HG.out.trans_grown HG1.out)⟩
    have:=PlacesAt.put (b:=0) (by rw[dParams_len];exact HO1.out) HIS.out HAT.out
    rw[HPT.out]at this
    exact hideI this
   case measure=>simp[intOf];omega
  ·obtain rfl:k=np:=by omega
   go_wp2
   obtain⟨wa,rfl⟩:∃ wa:World,wa=wr:=⟨_,rfl⟩
   clear hx hlt
   go_loopw [32] (fun i wr=>∃ j:Nat,j≤nb∧i=.int .i64 j∧Hid (PlacesAt wr (w.heap.size+1) (dParams f.params k++dBlocks f.blocks j))∧Hid (W0.grownBy wr (some (w.heap.size+1)))) (fun i _=>nb - (intOf i).toNat)
   case atStart=>exact⟨0,Nat.zero_le _,rfl,by simpa [dBlocks] using HM,HG⟩
   case round =>
    obtain⟨j,hj,rfl,HM,HG⟩:=hrel
    have hx:=row_cells hbox0.out (HG.out.block w.heap.size (by rw[HSZ0.out];omega) (by simp))
    have hgs:=HG.out.size
    rw[HSZ0.out]at hgs
    have HK:=hideI (Keeps.trans (Keeps.of_below (hK0.out.mono hB)) (Keeps.of_grown (B:=B) HG.out (by omega) (by rw[HSZ0.out];omega)))
    by_cases hlt:j<nb
    ·obtain⟨q,hq⟩:∃ q,f.blocks[j]?=some q:=⟨_,List.getElem?_eq_getElem (by rw[← HNB.out];exact hlt)⟩
     obtain⟨b,off,qpv,qcv,qtv,rfl,hb,e0,e1,e2,e3,e4,e5,hpv,hcv,htv,_⟩:=HX.out j q hq
     have c0:=(HK.out b (off+j*6) hb).trans e0
     have c1:=(HK.out b (off+j*6+1) hb).trans e1
     have c2:=(HK.out b (off+j*6+2) hb).trans e2
     have c3:=(HK.out b (off+j*6+3) hb).trans e3
     have c4:=(HK.out b (off+j*6+4) hb).trans e4
     have c5:=(HK.out b (off+j*6+5) hb).trans e5
     have HQ:=hideI hq
     obtain⟨PA,pc2,rfl,hpm2,hpx⟩:=hpv
     obtain⟨CA,cc,rfl,hcm,hcx⟩:=hcv
     obtain⟨TA,tc,rfl,_⟩:=htv
     have HPX:=hideI hpx
     have HCX:=hideI hcx
     obtain⟨nq,hnq⟩:∃ nq,nq=q.phis.length:=⟨_,rfl⟩
     obtain⟨nc,hnc⟩:∃ nc,nc=q.code.length:=⟨_,rfl⟩
     have HNQ:=hideI hnq
     have HNC:=hideI hnc
     rw[← hnq]at c0 hpm2
     rw[← hnc]at c1 hcm
     have hfw:Hid (∀ l:Placed,l.length≤sizeB q→(dParams f.params k++dBlocks f.blocks j++l).length<5000):=hideI (fun l hl=>by have:=d_few HFEW.out HQ.out l hl;rw[← HNP.out]at this;exact this)
     clear e0 e1 e2 e3 e4 e5 hq hpx hcx hnq hnc
     obtain⟨wo,rfl⟩:∃ wo:World,wo=wr:=⟨_,rfl⟩
     obtain⟨W1,hW1⟩:∃ W1:World,W1=wo.alloc (.cells #[.slice PA nq pc2,.slice CA nc cc,.int .i64 q.term.op,.int .i64 q.term.val,.slice TA q.term.to.length tc,.int .i64 q.term.n] 62):=⟨_,rfl⟩
     have HG1:Hid (W0.grownBy W1 (some (w.heap.size+1))):=by rw[hW1];exact hideI (grown_one HG.out)
     have HM1:Hid (PlacesAt W1 (w.heap.size+1) (dParams f.params k++dBlocks f.blocks j)):=by rw[hW1];exact hideI (HM.out.alloc _)
     have HB1:Hid (W1.heap[wo.heap.size]?=some (.cells #[.slice PA nq pc2,.slice CA nc cc,.int .i64 q.term.op,.int .i64 q.term.val,.slice TA q.term.to.length tc,.int .i64 q.term.n] 62 (0,0))):=by rw[hW1];exact hideI (heap_alloc_new wo _)
     have HW1:=hideI hW1
     clear hW1
     obtain⟨l1,hl1⟩:∃ l1,l1=dParams f.params k++dBlocks f.blocks j:=⟨_,rfl⟩
     have HL1:=hideI hl1
     rw[← hl1]at HM1 hfw
     clear hl1
     go_wp2
     rw[← HW1.out]
     go_loopw [40] (fun i wr=>∃ m:Nat,m≤nq∧i=.int .i64 m∧Hid (PlacesAt wr (w.heap.size+1) (l1++dPhis j (q.phis.take m)))∧Hid (W1.grownBy wr (some (w.heap.size+1)))) (fun i _=>nq - (intOf i).toNat)
     case atStart=>exact⟨0,Nat.zero_le _,rfl,by simpa [dPhis] using HM1,hideI (World.grownBy.refl W1 _)⟩
     case round =>
      obtain⟨m,hm,rfl,HMm,HGm⟩:=hrel
      have HGa:=hideI (HG1.out.trans_grown HGm.out)
      have hgs1:=HGa.out.size
      rw[HSZ0.out]at hgs1
      have HK1:=hideI (Keeps.trans (Keeps.of_below (hK0.out.mono hB)) (Keeps.of_grown (B:=B) HGa.out (by omega) (by rw[HSZ0.out];omega)))
      have hx1:=row_cells HB1.out (HGm.out.block wo.heap.size (lt_of_heap HB1.out) (by simp;omega))
      by_cases hlm:m<nq
      ·obtain⟨p,hp⟩:∃ p,q.phis[m]?=some p:=⟨_,List.getElem?_eq_getElem (by rw[← HNQ.out];exact hlm)⟩
       obtain⟨b2,off2,fv,vv,rfl,hb2,e0,e1,e2,e3,⟨FA,fc,rfl,_⟩,⟨VA,vc,rfl,_⟩,hpi,_⟩:=HPX.out m p hp
       have d0:=(HK1.out b2 (off2+m*4) hb2).trans e0
       have d1:=(HK1.out b2 (off2+m*4+1) hb2).trans e1
       have d2:=(HK1.out b2 (off2+m*4+2) hb2).trans e2
       have d3:=(HK1.out b2 (off2+m*4+3) hb2).trans e3
       have HP2:=hideI hp
       have HPI:=hideI hpi
       obtain⟨D,hown,hD,hat⟩:=HMm.out
       have hln:=hfw.out (dPhis j (q.phis.take m)) (by unfold dPhis sizeB;rw[List.length_map,List.length_take];omega)
       obtain⟨n,hn⟩:∃ n,n=(l1++dPhis j (q.phis.take m)).length:=⟨_,rfl⟩
       rw[← hn]at hown hln
       have HN:=hideI hn
       have HAT:=hideI hat
       have HIS:=hideI hD
       have HOWN:=hideI hown
       clear e0 e1 e2 e3 hp hpi hown hD hat hn
       go_wp2_with (at_mapUpdate;refine wpList_mapUpdate_own _ rfl _ _ _ 101 rfl 3 160 lawInt Tryz.underlying101 placeElem (w.heap.size+1) n _ rfl (HOWN.out.alloc _) (by unfold maxLen;omega) _ _ _ rfl rfl (keyOf_int_mk Tryz.underlying3 HPI.out) _ [] (placeElem_mk _ _) ?_;intro w1 hown1 hgrow1;have HO1:=hideI hown1;have HG3:=hideI ((World.grownBy_alloc wr _ (some (w.heap.size+1))).trans_grown hgrow1);clear hown1 hgrow1)
       go_roundw
       case rel =>
        refine⟨m+1,by omega,by go_num,?_,hideI (HGm.out.trans_grown HG3.out)⟩
        have:=PlacesAt.put (b:=j) (by rw[← HN.out];exact HO1.out) HIS.out HAT.out
        rw[List.append_assoc]at this
        have e:dPhis j (q.phis.take (m+1))=dPhis j (q.phis.take m)++[(p.id,(j,p.typ))]:=by
         unfold dPhis
         exact map_take' _ q.phis m p HP2.out
        rw[e]
        exact hideI this
       case measure=>simp[intOf];omega
      ·have HMe:Hid (PlacesAt wr (w.heap.size+1) (l1++dPhis j q.phis)):=by have:=HMm.out;rw[List.take_of_length_le (by rw[← HNQ.out];omega)]at this;exact hideI this
       go_wp2
       obtain⟨wp,rfl⟩:∃ wp:World,wp=wr:=⟨_,rfl⟩
       clear hx1 HK1 hlm HMm
       go_loopw [55] (fun i wr=>∃ m:Nat,m≤nc∧i=.int .i64 m∧Hid (PlacesAt wr (w.heap.size+1) (l1++(dPhis j q.phis++dCode j q.code m)))∧Hid (W1.grownBy wr (some (w.heap.size+1)))) (fun i _=>nc - (intOf i).toNat)
       case atStart=>exact⟨0,Nat.zero_le _,rfl,by simpa [dCode] using HMe,HGm⟩
       case round =>
        obtain⟨m,hm,rfl,HMm,HGm⟩:=hrel
        have HGa:=hideI (HG1.out.trans_grown HGm.out)
        have hgs1:=HGa.out.size
        rw[HSZ0.out]at hgs1
        have HK1:=hideI (Keeps.trans (Keeps.of_below (hK0.out.mono hB)) (Keeps.of_grown (B:=B) HGa.out (by omega) (by rw[HSZ0.out];omega)))
        have hx1:=row_cells HB1.out (HGm.out.block wo.heap.size (lt_of_heap HB1.out) (by simp;omega))
        by_cases hlm:m<nc
        ·obtain⟨p,hp⟩:∃ p,q.code[m]?=some p:=⟨_,List.getElem?_eq_getElem (by rw[← HNC.out];exact hlm)⟩
         obtain⟨b2,off2,av,rfl,hb2,e0,e1,e2,e3,⟨FA,fc,rfl,_⟩,_,hpi,_⟩:=HCX.out m p hp
         have d0:=(HK1.out b2 (off2+m*4) hb2).trans e0
         have d1:=(HK1.out b2 (off2+m*4+1) hb2).trans e1
         have d2:=(HK1.out b2 (off2+m*4+2) hb2).trans e2
         have d3:=(HK1.out b2 (off2+m*4+3) hb2).trans e3
         have HP2:=hideI hp
         have HPI:=hideI hpi
         have HSU:Hid (dCode j q.code (m+1)=dCode j q.code m++dInstr j p):=by show _=_;rw[dCode,hp]
         have hln:=hfw.out (dPhis j q.phis++dCode j q.code m) (by unfold dPhis sizeB;rw[List.length_append,List.length_map];have:=dCode_len j q.code m;have:=HNC.out;omega)
         obtain⟨na,hna⟩:∃ na,na=p.args.length:=⟨_,rfl⟩
         rw[← hna]at e2
         obtain⟨wi,hwi⟩:∃ wi:World,wi=wr.alloc (.cells #[.int .i64 p.op,.int .i64 p.id,.slice FA na fc,.int .i64 p.n] 68):=⟨_,rfl⟩
         have HBI:Hid (Below wr.heap.size wr wi):=by show Below _ _ _;rw[hwi];exact(Below.refl _ _).alloc (Nat.le_refl _) _
         have HXI:Hid (wi.heap[wr.heap.size]?=some (.cells #[.int .i64 p.op,.int .i64 p.id,.slice FA na fc,.int .i64 p.n] 68 (0,0))):=by show _=_;rw[hwi];exact heap_alloc_new wr _
         have HWI:=hideI hwi
         have d2':wr.cell? ⟨b2,off2+m*4+2,none⟩=some (.slice FA na fc):=by rw[hna];exact d2
         have HMI:=hideI (HMm.out.below HBI.out HMm.out.lt)
         have hqi:=row_cells HXI.out rfl
         have x0:=hqi 0
         have x1:=hqi 1
         clear hqi hwi d2 hna
         go_upto_region 18 with fail
         rw[← HWI.out]
         clear d0 d1 d2' d3 e0 e1 e2 e3
         have hap:=irArgs_any p.op wi
         obtain⟨mk,hmk⟩:∃ mk,mk=makesS p.op:=⟨_,rfl⟩
         have HMK:=hideI hmk
         unfold ArgsPost at hap
         rw[← hmk]at hap
         have HAP:=hideI hap
         clear hap hmk hp hpi
         by_cases hid:mk=0
         ·have HZ:=hideI hid
          have hzb:(mk != 0)=false:=by rw[hid];rfl
          clear hid
          go_wp2_with (go_at_call 140;refine HAP.out.mono ?_;rintro e w3 ⟨tv,rfl,htv,hbA⟩;(obtain⟨TK,tkc,rfl,_,_⟩:=htv);have HBA:=hideI hbA;clear hbA x0 x1)
          go_roundw
          case rel =>
           refine⟨m+1,by omega,by go_num,?_,hideI (HGm.out.trans_grown (grown_of_below (HBI.out.trans (HBA.out.mono HBI.out.size))))⟩
           rw[HSU.out]
           unfold dInstr
           rw[if_neg (by rw[← HMK.out,HZ.out];simp),List.append_nil]
           exact hideI (HMI.out.below HBA.out HMI.out.lt)
          case measure=>simp[intOf];omega
         ·have hzb:(mk != 0)=true:=by rw[bne_iff_ne];exact hid
          have HZ:=hideI hid
          clear hid
          go_wp2_with (first
          |(go_at_call 140;refine HAP.out.mono ?_;rintro e w3 ⟨tv,rfl,htv,hbA⟩;(obtain⟨TK,tkc,rfl,_,_⟩:=htv);have HBA:=hideI hbA;have hqi:=row_cells ((hbA.block _ (lt_of_heap HXI.out)).trans HXI.out) rfl;clear hbA x0 x1;have x0:=hqi 0;have x1:=hqi 1;(obtain⟨D,hown,hD,hat⟩:=HMI.out.below HBA.out HMI.out.lt);(obtain⟨n,hn⟩:∃ n,n=(l1++(dPhis j q.phis++dCode j q.code m)).length:=⟨_,rfl⟩);rw[← hn]at hown hln;have HN:=hideI hn;have HAT:=hideI hat;have HIS:=hideI hD;have HOWN:=hideI hown;clear hqi hown hD hat hn)
          |(at_mapUpdate;refine wpList_mapUpdate_own _ rfl _ _ _ 101 rfl 3 160 lawInt Tryz.underlying101 placeElem (w.heap.size+1) n _ rfl HOWN.out (by unfold maxLen;omega) _ _ _ rfl rfl (keyOf_int_mk Tryz.underlying3 HPI.out) _ [] (placeElem_mk _ _) ?_;intro w1 hown1 hgrow1;have HO1:=hideI hown1;have HG3:=hideI hgrow1;clear hown1 hgrow1))
          go_roundw
          case rel =>
           refine⟨m+1,by omega,by go_num,?_,hideI ((HGm.out.trans_grown (grown_of_below (HBI.out.trans (HBA.out.mono HBI.out.size)))).trans_grown HG3.out)⟩
           have:=PlacesAt.put (b:=j) (by rw[← HN.out];exact HO1.out) HIS.out HAT.out
           rw[HSU.out]
           unfold dInstr
           rw[if_pos (by rw[← HMK.out];exact HZ.out)]
           rw[List.append_assoc,List.append_assoc,HMK.out]at this
           exact hideI this
          case measure=>simp[intOf];omega
        ·have HMe:Hid (PlacesAt wr (w.heap.size+1) (dParams f.params k++dBlocks f.blocks (j+1))):=by
          have h1:=HMm.out
          have h2:m=q.code.length:=by have:=HNC.out;omega
          rw[h2,HL1.out]at h1
          show PlacesAt _ _ _
          rw[dBlocks,HQ.out,← List.append_assoc]
          exact h1
         go_wp2
         go_roundw
         case rel=>exact⟨j+1,by omega,by go_num,HMe,HGa⟩
         case measure=>simp[intOf];omega
    ·have HMe:Hid (PlacesAt wr (w.heap.size+1) (defsM f)):=by
      have h1:=HM.out
      have h2:j=f.blocks.length:=by have:=HNB.out;omega
      rw[h2,HNP.out]at h1
      exact h1
     go_wp2
     go_ret
     exact⟨w.heap.size+1,rfl,by omega,HMe.out,hK0.out.grown HG.out (by rw[HSZ0.out];omega) (by intro k hk;injection hk with hk;omega)⟩
end Go.Proofs.YtaehbgppfahdeaaGreat
