/- What ClosedChecks rests on, part 21: RForest9. -/
import Derived.Test.YtaehbgppfahdeaaGreatPkClosedChecks20

namespace Go.Proofs.YtaehbgppfahdeaaGreat
open Go.RowKit Go.Maps
def parAt (ls:List LpM) (i:Nat) (a:Int):List LpM:=(parsTo ls i).set i { ls.getD i noLp with parent:=a }
theorem parAt_len (ls:List LpM) (i:Nat) (a:Int):(parAt ls i a).length=ls.length:=by unfold parAt;rw[List.length_set,parsTo_len]
theorem parAt_self {ls:List LpM} {i:Nat} {a:Int} (h:i<ls.length):(parAt ls i a)[i]?=some ({ ls.getD i noLp with parent:=a }:LpM):=by
 unfold parAt
 rw[List.getElem?_set_self (by rw[parsTo_len];exact h)]
theorem parAt_get {ls:List LpM} {i k:Nat} {a:Int} (h:k<ls.length):∃ y,(parAt ls i a)[k]?=some y∧y.head=(ls.getD k noLp).head∧y.blocks=(ls.getD k noLp).blocks:=by
 unfold parAt
 by_cases e:i=k
 ·subst e
  exact⟨({ ls.getD i noLp with parent:=a }:LpM),by rw[List.getElem?_set_self (by rw[parsTo_len];exact h)],rfl,rfl⟩
 ·rw[List.getElem?_set_ne e,parsTo_at h]
  refine⟨_,rfl,?_⟩
  split <;> exact⟨rfl,rfl⟩
theorem parAt_set {ls:List LpM} {i:Nat} {a b:Int} (_h:i<ls.length):(parAt ls i a).set i { ({ ls.getD i noLp with parent:=a }:LpM)with parent:=b }=parAt ls i b:=by
 unfold parAt
 rw[List.set_set]
theorem parAt_first {ls:List LpM} {i:Nat} {a:Int} {x:LpM} (h:i<ls.length) (hx:(parsTo ls i)[i]?=some x):(parsTo ls i).set i { x with parent:=a }=parAt ls i a:=by
 rw[parsTo_at h,if_neg (by omega)]at hx
 cases hx
 rfl
theorem parAt_last {ls:List LpM} {i:Nat} (h:i<ls.length):parAt ls i (arM ls i ls.length)=parsTo ls (i+1):=by
 have hx:(parsTo ls i)[i]?=some (ls.getD i noLp):=by rw[parsTo_at h,if_neg (by omega)]
 exact parsTo_set h hx
theorem lp0_getD {bs:List BlockM} {D L:Nat→Nat→Bool} {i:Nat} (h:i<(lp0M bs D L bs.length).length):∃ hd,(headsM bs D bs.length)[i]?=some hd∧(lp0M bs D L bs.length).getD i noLp=lpOf bs D L hd:=by
 obtain⟨y,hy⟩:∃ y,(lp0M bs D L bs.length)[i]?=some y:=⟨_,List.getElem?_eq_getElem h⟩
 obtain⟨h1,h2⟩:=lp0_at hy
 exact⟨_,h1,by rw[getD_some hy];exact h2⟩
theorem within_lp0 {bs:List BlockM} {o:List Nat} {pl:Nat→Nat} {par:Nat→Option Nat} {D L:Nat→Nat→Bool} (K:LoopOk bs o pl par D L) {i k:Nat} (hi:i<(lp0M bs D L bs.length).length) (hk:k<(lp0M bs D L bs.length).length) (hne:k≠i) :
  (((lp0M bs D L bs.length).getD i noLp).blocks.all fun b=>decide (b∈((lp0M bs D L bs.length).getD k noLp).blocks))=decide (((lp0M bs D L bs.length).getD i noLp).head∈((lp0M bs D L bs.length).getD k noLp).blocks):=by
 obtain⟨x,hx,ex⟩:=lp0_getD hi
 obtain⟨y,hy,ey⟩:=lp0_getD hk
 rw[ex,ey]
 have hxl:=(mem_heads.1 (List.mem_of_getElem? hx)).1
 have hyl:=(mem_heads.1 (List.mem_of_getElem? hy)).1
 have hxy:x≠y:=by
  intro e
  subst e
  have h1:=List.getElem?_eq_some_iff.1 hx
  have h2:=List.getElem?_eq_some_iff.1 hy
  rcases Nat.lt_or_gt_of_ne hne with h|h
  ·have h3:=List.pairwise_iff_getElem.1 (heads_rise bs D bs.length) k i h2.1 h1.1 h
   rw[h1.2,h2.2]at h3
   omega
  ·have h3:=List.pairwise_iff_getElem.1 (heads_rise bs D bs.length) i k h1.1 h2.1 h
   rw[h1.2,h2.2]at h3
   omega
 show((blocksM bs.length L x).all fun b=>decide (b∈blocksM bs.length L y))=decide (x∈blocksM bs.length L y)
 rw[Bool.eq_iff_iff,decide_eq_true_iff,List.all_eq_true]
 constructor
 ·intro h
  exact of_decide_eq_true (h x ((K.fn.mem_blocks hxl).2 .head))
 ·intro h b hb
  exact decide_eq_true ((K.within hxl hyl hxy).2 ((K.fn.inL y x).2 ((K.fn.mem_blocks hyl).1 h)) b hb)
def RForestPost (bs:List BlockM) (D L:Nat→Nat→Bool) (w:World) (e:Ending) (w':World):Prop :=
 ∃ lv,e=.returned lv∧LoopsR w' w.heap.size lv (loopsM bs D L)∧Below w.heap.size w w'
set_option maxRecDepth 100000 in
set_option maxHeartbeats 40000000 in
theorem refForest_any (bs:List BlockM) (o:List Nat) (pl:Nat→Nat) (par:Nat→Option Nat) (D L:Nat→Nat→Bool) (B:Nat) (pv av cv bv:Value) (w:World) (K:LoopOk bs o pl par D L) (ho:OrderIs bs o) (h0:0<bs.length) (hin:EndsIn bs) (hbv:BlocksR w B bv bs) (hB:B≤w.heap.size) (hav:∃ x,av=.int .i64 x) :
  Calls Tryz.prog 50 #[.agg #[pv,av,cv,bv]] w (RForestPost bs D L w):=by
 have HK:=hideI K
 have hn5:=K.n5
 have HIN:=hideI hin
 have HO:=hideI ho
 have HBV:=hideI hbv
 have HAV:=hideI hav
 obtain⟨A,c,rfl,hbm,_⟩:=hbv
 have HB:Hid (Below w.heap.size w (w.alloc (.cells #[pv,av,cv,.slice A bs.length c] 25))):=(Below.refl _ w).alloc (Nat.le_refl _) _
 have HX:=hideI (heap_alloc_new w (.cells #[pv,av,cv,.slice A bs.length c] 25))
 clear K hin ho hav
 go_enter Tryz.func50,Tryz.ntmps50
 go_upto_region 3 with(first
  | (go_at_call 47;go_must (refine(refOver_any bs o D B _ _ _ _ _ (HBV.out.keeps (Keeps.of_below (HB.out.mono hB))) (Nat.le_trans hB HB.out.size) h0 hn5 HIN.out HO.out HK.out.fn.dom).mono ?_);rintro e w1 ⟨ov,rfl,hgr,hb⟩;have HGR:=hideI hgr;replace HX:=hideI ((hb.block _ (lt_of_heap HX.out)).trans HX.out);have hx:=row_cells HX.out rfl;have q0:=hx 0;have q1:=hx 1;have q2:=hx 2;have q3:=hx 3;clear hx;replace HB:=hideI (HB.out.trans (hb.mono HB.out.size));clear hb hgr)
  | (go_at_call 45;go_must (refine(refPreds_any bs B _ _ _ _ _ (HBV.out.keeps (Keeps.of_below (HB.out.mono hB))) (Nat.le_trans hB HB.out.size) hn5 HIN.out).mono ?_);rintro e w2 ⟨gp,vs,rfl,hls,hb⟩;have HLS:=hideI hls;replace HGR:=hideI (HGR.out.kept hb);replace HX:=hideI ((hb.block _ (lt_of_heap HX.out)).trans HX.out);replace HB:=hideI (HB.out.trans (hb.mono HB.out.size));clear hb hls q0 q1 q2 q3))
 obtain⟨gv,cg,rfl,hgv,hgrid⟩:=HGR.out
 have HGD:=hideI hgrid
 obtain⟨G0,hG0⟩:∃ G0,G0=w2.heap.size:=⟨_,rfl⟩
 obtain⟨W,hW⟩:∃ W,W=w2.alloc (.cells #[] 88):=⟨_,rfl⟩
 have HB2:Hid (Below G0 w2 W):=by show Below _ _ _;rw[hW,hG0];exact(Below.refl _ _).alloc (Nat.le_refl _) _
 have HL0:Hid (LoopsR W G0 (.slice (some ⟨G0,0,none⟩) 0 0) (lp0M bs D L 0)):=by
  show LoopsR _ _ _ _
  refine⟨[],?_,fun i lp hi=>by simp[lp0M,headsM]at hi⟩
  have h1:W.heap[G0]?=some (.cells #[] 88 (0,0)):=by rw[hW,hG0];exact heap_alloc_new w2 _
  exact⟨rfl,.inr ⟨G0,0,#[],rfl,Nat.le_refl _,h1,Nat.le_refl _,by unfold maxLen;omega,rfl,rfl⟩⟩
 have HG0:=hideI hG0
 have hGX:w.heap.size<G0:=by rw[hG0];exact lt_of_heap HX.out
 have hGgv:gv<G0:=by rw[hG0];exact hgv
 have hGgp:gp<G0:=by rw[hG0];exact HLS.out.lt.2
 have hGW:G0<W.heap.size:=by rw[hW,hG0];simp
 have HBG:Hid (∀ wr,Below G0 w2 wr→Below w.heap.size w wr∧LoopOk bs o pl par D L∧wr.heap[w.heap.size]?=some (.cells #[pv,av,cv,.slice A bs.length c] 25 (0,0))∧Lists wr 0 gp bs.length vs (predsAt bs bs.length bs.length 0)):=fun wr h=>by
  rw[HG0.out]at h
  exact⟨HB.out.trans (h.mono HB.out.size),HK.out,(h.block _ (lt_of_heap HX.out)).trans HX.out,(HLS.out.mono (Nat.zero_le _)).kept h⟩
 have HBF:Hid (∀ wr,Below w.heap.size w wr→BlocksR wr B (.slice A bs.length c) bs):=fun wr h=>HBV.out.keeps (Keeps.of_below (h.mono hB))
 have HGDr:Hid (∀ wr,Below G0 w2 wr→∀ a b,a<bs.length→b<bs.length→∃ ga,wr.cell? ⟨gv,a,none⟩=some (.slice (some ⟨ga,0,none⟩) bs.length bs.length)∧wr.cell? ⟨ga,b,none⟩=some (.bool (D a b))∧ga<G0):=fun wr h a b ha hb=>by
  rw[HG0.out]at h
  obtain⟨ga,h1,h2,h3⟩:=HGD.out a ha
  exact⟨ga,(h.cell (p:=⟨gv,a,none⟩) hgv).trans h2,(h.cell (p:=⟨ga,b,none⟩) h1).trans (h3 b hb),by rw[HG0.out];exact h1⟩
 obtain⟨i1,hjx,hy0,hy1,hy2⟩:=info_parts int_info
 obtain⟨i2,hjx2,hz0,hz1,hz2⟩:=info_parts loop_info
 go_wp2_with fail
 rw[← hW,← hG0]
 clear hgrid hgv HGR HLS HX HB hW hG0
 go_loopw [5,6] (fun ol u wr=>∃ (h:Nat) (lv:Value),h≤bs.length∧u=.int .i64 h∧lv=ol∧Hid (LoopsR wr G0 lv (lp0M bs D L h))∧Hid (Below G0 w2 wr)) (fun _ u _=>bs.length - (intOf u).toNat)
 case atStart => exact⟨0,_,Nat.zero_le _,rfl,rfl,HL0,HB2⟩
 case round =>
  clear HL0 HB2
  obtain⟨h,lv,hh,rfl,rfl,HLP,HBr⟩:=hrel
  obtain⟨hbw,_,hxw,_⟩:=HBG.out wr HBr.out
  have g3:=row_cells hxw rfl 3
  have hGr:G0≤wr.heap.size:=by have:=HBr.out.size;have:=HG0.out;omega
  by_cases hlt:h<bs.length
  ·obtain⟨q,hq⟩:∃ q,q=wr.heap.size:=⟨_,rfl⟩
   obtain⟨wq,hwq⟩:∃ wq,wq=wr.alloc (.cells #[.int .i64 (h:Int),.slice none 0 0,.slice none 0 0,.slice none 0 0,.int .i64 0] 88):=⟨_,rfl⟩
   have HQ0:Hid (wq.heap[q]?=some (.cells #[.int .i64 (h:Int),.slice none 0 0,.slice none 0 0,.slice none 0 0,.int .i64 0] 88 (0,0))):=by show _=_;rw[hwq,hq];exact heap_alloc_new wr _
   have HBQ:Hid (Below q wr wq):=by show Below _ _ _;rw[hwq,hq];exact(Below.refl _ _).alloc (Nat.le_refl _) _
   have HQ:=hideI hq
   have hGq:G0≤q:=by omega
   obtain⟨l,hl⟩:∃ l,l=predsTo bs bs.length h:=⟨_,rfl⟩
   have HLL:=hideI hl
   have hll:l.length≤512:=by rw[hl];exact Nat.le_trans (predsTo_len _ _ _) hn5
   have HPR:Hid (∃ (PA:Option Addr) (pc2:Nat),(∀ wr',Below G0 w2 wr'→wr'.cell? ⟨gp,h,none⟩=some (.slice PA l.length pc2))∧∀ (k p:Nat),l[k]?=some p→∃ b off,PA=some ⟨b,off,none⟩∧b<G0∧∀ wr',Below G0 w2 wr'→wr'.cell? ⟨b,off+k,none⟩=some (.int .i64 (p:Int))):=by
    obtain⟨_,_,_,hls⟩:=HBG.out w2 (Below.refl _ _)
    obtain⟨v,hv⟩:∃ v,vs[h]?=some v:=⟨_,List.getElem?_eq_getElem (by rw[hls.vl];exact hlt)⟩
    have hl':(predsAt bs bs.length bs.length 0)[h]?=some (predsTo bs bs.length h):=by rw[predsAt_at hlt];simp
    have hown:=hls.own h v _ hv hl'
    rw[← hl]at hown
    obtain⟨PA,pc2,e1,_,hpy⟩:=nat_ints hown (by omega)
    rw[List.length_map]at e1 hpy
    have c0:w2.cell? ⟨gp,h,none⟩=some v:=by rw[World.ownsRow.cellAt hls.row h (by omega)];exact hv
    refine⟨PA,pc2,fun wr' hw'=>?_,fun k p hk=>?_⟩
    ·rw[← e1]
     exact(hw'.cell (p:=⟨gp,h,none⟩) hGgp).trans c0
    ·obtain⟨b,off,e2,hb,hc⟩:=hpy k (List.getElem?_eq_some_iff.1 hk).1
     rw[List.getElem?_map,hk]at hc
     exact⟨b,off,e2,by rw[HG0.out];exact hb,fun wr' hw'=>(hw'.cell (p:=⟨b,off+k,none⟩) (by rw[HG0.out];exact hb)).trans hc⟩
   obtain⟨PA,pc2,hpc,hpx⟩:=HPR.out
   have HPC:=hideI hpc
   have HPX:=hideI hpx
   have HWQ:=hideI hwq
   clear hq hwq hl hpc hpx
   go_upto_region 9 with fail
   rw[← HWQ.out,← HQ.out]
   clear g3
   obtain⟨wo,rfl⟩:∃ wo:World,wo=wr:=⟨_,rfl⟩
   go_loopw [8] (fun u wr2=>∃ (i:Nat) (v:Value),i≤l.length∧u=.int .i64 i∧Hid (wr2.heap[q]?=some (.cells #[.int .i64 (h:Int),.slice none 0 0,v,.slice none 0 0,.int .i64 0] 88 (0,0)))∧Hid (wr2.ownsRow (q+1) 3 1 v ((l.take i).filter (D h)).length (natInts ((l.take i).filter (D h))))∧Hid (Below q wo wr2)) (fun u _=>l.length - (intOf u).toNat)
   case atStart => exact⟨0,_,Nat.zero_le _,rfl,HQ0,hideI (World.ownsRow_nil _ _ _ _),HBQ⟩
   case round =>
    clear HQ0 HBQ
    obtain⟨i,v,hi,rfl,HXQ,HV,HBi⟩:=hrel
    have HB2:Hid (Below G0 w2 wr):=HBr.out.trans (HBi.out.mono hGq)
    have cgp:=HPC.out wr HB2.out
    have hqr:=lt_of_heap HXQ.out
    by_cases hlti:i<l.length
    ·obtain⟨p,hp⟩:∃ p,l[i]?=some p:=⟨_,List.getElem?_eq_getElem hlti⟩
     have hpl:p<bs.length:=predsTo_lt (by rw[← HLL.out];exact List.mem_of_getElem? hp)
     obtain⟨pb,po,rfl,hpb,hd⟩:=HPX.out i p hp
     have d1:=hd wr HB2.out
     obtain⟨ga,y1,y2,hga⟩:=HGDr.out wr HB2.out h p hlt hpl
     cases hr:D h p with
     | false =>
      rw[hr]at y2
      have HS:Hid ((l.take (i+1)).filter (D h)=(l.take i).filter (D h)):=filter_skip hp hr
      clear hp hd hr
      go_wp2_with fail
      go_quiet (fail)
      go_wp2_with fail
      go_roundw
      case rel => exact⟨i+1,v,by omega,by go_num,HXQ,by rw[HS.out];exact HV,hideI (drew_below HBi.out _)⟩
      case measure => simp[intOf];omega
     | true =>
      rw[hr]at y2
      obtain⟨xs,hxs⟩:∃ xs,xs=(l.take i).filter (D h):=⟨_,rfl⟩
      have HS:Hid ((l.take (i+1)).filter (D h)=xs++[p]):=by show _=_;rw[hxs];exact filter_more hp hr
      have hxl:xs.length≤512:=by rw[hxs];exact Nat.le_trans filter_len hll
      rw[← hxs]at HV
      clear hp hr hxs
      go_wp2_with fail
      go_quiet (fail)
      go_wp2_with fail
      obtain⟨wz,hwz⟩:∃ wz,wz=wr.drewN nq:=⟨_,rfl⟩
      have HXZ:Hid (wz.heap[q]?=some (.cells #[.int .i64 (h:Int),.slice none 0 0,v,.slice none 0 0,.int .i64 0] 88 (0,0))):=by show _=_;rw[hwz];exact HXQ.out
      have HVZ:Hid (wz.ownsRow (q+1) 3 1 v xs.length (natInts xs)):=by show World.ownsRow _ _ _ _ _ _ _;rw[hwz];exact HV.out
      have HBZ:Hid (Below q wo wz):=by show Below _ _ _;rw[hwz];exact drew_below HBi.out _
      have HB2Z:Hid (Below G0 w2 wz):=HBr.out.trans (HBZ.out.mono hGq)
      have hqz:=lt_of_heap HXZ.out
      have hGz:G0≤wz.heap.size:=by omega
      rw[← hwz]
      clear hwz HXQ HV HBi HB2 cgp d1 y1 y2 hqr
      have HSS:Hid (∀ W',Below wz.heap.size wz W'→W'.cell? ⟨q,2,none⟩=some v∧W'.cell? ⟨gp,h,none⟩=some (.slice (some ⟨pb,po,none⟩) l.length pc2)∧W'.cell? ⟨pb,po+i,none⟩=some (.int .i64 (p:Int))):=fun W' hW'=>by
       have h2:=HB2Z.out.trans (hW'.mono hGz)
       exact⟨(row_cells HXZ.out (hW'.block q hqz)) 2,HPC.out _ h2,hd _ h2⟩
      have hS0:=HSS.out wz (Below.refl _ _)
      refine wp_region_late (by kernel_rfl) (fun W'=>W'.cell? ⟨q,2,none⟩=some v∧W'.cell? ⟨gp,h,none⟩=some (.slice (some ⟨pb,po,none⟩) l.length pc2)∧W'.cell? ⟨pb,po+i,none⟩=some (.int .i64 (p:Int))) [10,12] ?_
      refine wpAnyT_quiet (i:=0) (v:=?_) rfl (by kernel_rfl) (by kernel_rfl) (by kernel_rfl) (fun _ _ _ h=>h) (Or.inl ⟨by rfl,?_⟩) ?_
      rotate_left
      ·(intro w;go_simp;try with_reducible rfl)
      try simp only[Act.put,List.setIfInBounds_toArray,List.set_cons_zero,List.set_cons_succ]
      refine wpAnyT_take [10,12] (i:=1) (v:=?_) rfl (by kernel_rfl) (by kernel_rfl) (by kernel_rfl) (by kernel_rfl) (by kernel_rfl) (by kernel_rfl) (fun _ _ _ h=>h) hS0 (Or.inl ⟨by rfl,?_⟩) ?_
      rotate_left
      ·(intro w hSw;go_split_ands;go_simp;try with_reducible rfl)
      try simp only[Act.put,List.setIfInBounds_toArray,List.set_cons_zero,List.set_cons_succ]
      refine wpAnyT_quiet (i:=2) (v:=?_) rfl (by kernel_rfl) (by kernel_rfl) (by kernel_rfl) (fun _ _ _ h=>h) (Or.inl ⟨by rfl,?_⟩) ?_
      rotate_left
      ·(intro w;go_simp;try with_reducible rfl)
      try simp only[Act.put,List.setIfInBounds_toArray,List.set_cons_zero,List.set_cons_succ]
      refine wpAnyT_quiet (i:=3) (v:=?_) rfl (by kernel_rfl) (by kernel_rfl) (by kernel_rfl) (fun _ _ _ h=>h) (Or.inl ⟨by rfl,?_⟩) ?_
      rotate_left
      ·(intro w;go_simp;try with_reducible rfl)
      try simp only[Act.put,List.setIfInBounds_toArray,List.set_cons_zero,List.set_cons_succ]
      refine wpAnyT_quiet (i:=4) (v:=?_) rfl (by kernel_rfl) (by kernel_rfl) (by kernel_rfl) (fun _ _ _ h=>h) (Or.inl ⟨by rfl,?_⟩) ?_
      rotate_left
      ·(intro w;go_simp;try with_reducible rfl)
      try simp only[Act.put,List.setIfInBounds_toArray,List.set_cons_zero,List.set_cons_succ]
      refine wpAnyT_take [7,8,9,10,12] (i:=5) (v:=?_) rfl (by kernel_rfl) (by kernel_rfl) (by kernel_rfl) (by kernel_rfl) (by kernel_rfl) (by kernel_rfl) (fun _ _ _ h=>h) hS0 (Or.inl ⟨by rfl,?_⟩) ?_
      rotate_left
      ·(intro w hSw;go_split_ands;go_simp;try with_reducible rfl)
      try simp only[Act.put,List.setIfInBounds_toArray,List.set_cons_zero,List.set_cons_succ]
      refine wpAnyT_quiet (i:=6) (v:=?_) rfl (by kernel_rfl) (by kernel_rfl) (by kernel_rfl) (fun _ _ _ h=>h) (Or.inl ⟨by rfl,?_⟩) ?_
      rotate_left
      ·(intro w;go_simp;try with_reducible rfl)
      try simp only[Act.put,List.setIfInBounds_toArray,List.set_cons_zero,List.set_cons_succ]
      refine wpAnyT_quiet (i:=7) (v:=?_) rfl (by kernel_rfl) (by kernel_rfl) (by kernel_rfl) (fun _ _ _ h=>h) (Or.inl ⟨by rfl,?_⟩) ?_
      rotate_left
      ·(intro w;go_simp;try with_reducible rfl)
      try simp only[Act.put,List.setIfInBounds_toArray,List.set_cons_zero,List.set_cons_succ]
      refine wpAnyT_take [9,10,12] (i:=8) (v:=?_) rfl (by kernel_rfl) (by kernel_rfl) (by kernel_rfl) (by kernel_rfl) (by kernel_rfl) (by kernel_rfl) (fun _ _ _ h=>h) hS0 (Or.inl ⟨by rfl,?_⟩) ?_
      rotate_left
      ·(intro w hSw;go_split_ands;go_simp;try with_reducible rfl)
      try simp only[Act.put,List.setIfInBounds_toArray,List.set_cons_zero,List.set_cons_succ]
      refine wpAnyT_ready (rs:=[9]) (by kernel_rfl) (by simp) ?_
      refine AllReadyT.cons rfl (fun K hK=>?_) ?_
      ·go_simp
       refine hK.out _ _ (fun _ _=>HSS.out _ ((Below.refl _ wz).alloc (Nat.le_refl _) _).drew) ?_
       clear hK K
       try simp only[Act.put,List.setIfInBounds_toArray,List.set_cons_zero,List.set_cons_succ]
       refine wpAnyT_ready (rs:=[10]) (by kernel_rfl) (by simp) ?_
       refine AllReadyT.cons rfl (fun K hK=>?_) ?_
       ·refine step_append_lies _ rfl (.tmp 48) (.tmp 56) _ rfl (q+1) 3 i1 (.int .i64 0) 1 8 Tryz.underlying22 hjx hy0 hy1 hy2 rfl (by decide) v xs.length (natInts xs) rfl (World.ownsRow.alloc HVZ.out _) ⟨wz.heap.size,0,none⟩ 1 1 [.int .i64 p] rfl rfl (one_new wz _) (by simp[Value.oneCell']) (by decide) (by unfold maxLen;omega) (by omega) (by simp;omega) _ rfl ?_
        intro g1 cap1 w6 hown6 hgrow6 hor6 _
        refine hK.out _ _ (fun h=>absurd (by simp) h) ?_
        clear hK K
        try simp only[Act.put,List.setIfInBounds_toArray,List.set_cons_zero,List.set_cons_succ]
        have hX6:w6.heap[q]?=some (.cells #[.int .i64 (h:Int),.slice none 0 0,v,.slice none 0 0,.int .i64 0] 88 (0,0)):=by
         have h1:=hgrow6.block q (by simp;omega) (fun e=>by have:=(HVZ.out.lt q e.symm).1;omega)
         rw[h1]
         exact(Below.heap_alloc _ _ _ hqz).trans HXZ.out
        have HX6:=hideI hX6
        have k2:=row_cells hX6 rfl 2
        have z2:=free_rowN hX6 rfl 2
        have HB6:Hid (Below q wo w6):=(HBZ.out.alloc (Nat.le_of_lt hqz) (.cells #[.int .i64 (p:Int)] 3)).drew.grown hgrow6 (by simp;omega) (fun k hk=>by have:=(HVZ.out.lt k hk).1;omega)
        have HO6:=hideI hown6
        clear hX6 hown6 hgrow6 hor6
        refine wpAnyT_quiet (i:=11) (v:=?_) rfl (by kernel_rfl) (by kernel_rfl) (by kernel_rfl) (fun _ _ _ h=>h) (Or.inl ⟨by rfl,?_⟩) ?_
        rotate_left
        ·(intro w;go_simp;try with_reducible rfl)
        try simp only[Act.put,List.setIfInBounds_toArray,List.set_cons_zero,List.set_cons_succ]
        refine wpAnyT_ready (rs:=[12]) (by kernel_rfl) (by simp) ?_
        refine AllReadyT.cons rfl (fun K hK=>?_) ?_
        ·go_simp
         refine hK.out _ _ (fun h=>absurd (by simp) h) ?_
         clear hK K
         try simp only[Act.put,List.setIfInBounds_toArray,List.set_cons_zero,List.set_cons_succ]
         refine wpAnyT_done (by kernel_rfl) ?_ _
         clear hS0
         have HX7:Hid ((w6.setCell ⟨q,2,none⟩ (.slice (some ⟨g1,0,none⟩) (xs.length+1) cap1)).heap[q]?=some (.cells #[.int .i64 (h:Int),.slice none 0 0,.slice (some ⟨g1,0,none⟩) (xs.length+1) cap1,.slice none 0 0,.int .i64 0] 88 (0,0))):=by
          show _=_
          rw[heap_setCell_same _ q 2 _ _ _ HX6.out]
          rfl
         have HO7:Hid ((w6.setCell ⟨q,2,none⟩ (.slice (some ⟨g1,0,none⟩) (xs.length+1) cap1)).ownsRow (q+1) 3 1 (.slice (some ⟨g1,0,none⟩) (xs.length+1) cap1) (xs.length+1) (natInts xs++[.int .i64 (p:Int)])) :=
          ownsRow_setCell_other HO6.out (a:=⟨q,2,none⟩) (by intro e;have:=(HO6.out.lt q e).1;omega) _
         have HB7:Hid (Below q wo (w6.setCell ⟨q,2,none⟩ (.slice (some ⟨g1,0,none⟩) (xs.length+1) cap1))):=HB6.out.setCell (Nat.le_refl _) _
         go_wp2_with fail
         go_roundw
         case rel => exact⟨i+1,_,by omega,by go_num,HX7,by rw[HS.out,List.length_append,natInts_snoc];exact HO7,HB7⟩
         case measure => simp[intOf];omega
        ·exact AllReadyT.nil
       ·exact AllReadyT.nil
      ·exact AllReadyT.nil
    ·have HE:Hid ((l.take i).filter (D h)=latchesM bs D h):=by show _=_;rw[List.take_of_length_le (by omega),HLL.out];rfl
     rw[HE.out]at HV
     obtain⟨nl,hnl⟩:∃ nl,nl=(latchesM bs D h).length:=⟨_,rfl⟩
     rw[← hnl]at HV
     obtain⟨As,cs,rfl⟩:=own_sl HV.out
     have hnl5:nl≤512:=by
      rw[hnl]
      unfold latchesM
      exact Nat.le_trans (List.length_filter_le _ _) (Nat.le_trans (predsTo_len _ _ _) hn5)
     have HNL:=hideI hnl
     have hxq:=row_cells HXQ.out rfl
     have k0:=hxq 0
     have k1:=hxq 1
     have k2:=hxq 2
     have k3:=hxq 3
     have k4:=hxq 4
     have HLPr:=hideI (HLP.out.kept (by rw[← HQ.out];exact HBi.out))
     clear hxq
     by_cases hn0:nl=0
     ·have HSK:=hideI (lp0_skip (L:=L) (by rw[← hnl];exact hn0))
      have hnz:¬ 0<nl:=by omega
      clear hnl hn0
      go_wp2_with fail
      go_roundw
      case rel => exact⟨h+1,lv,by omega,by go_num,rfl,by rw[HSK.out];exact HLPr,HB2⟩
      case measure => simp[intOf];omega
     ·have HMR:=hideI (lp0_more (L:=L) (by rw[← hnl];exact hn0))
      have hnp:0<nl:=by omega
      have hlpl:=lp0_len bs D L h
      have hV:wr.ownsRow (q+1) 3 1 (.slice As nl cs) (latchesM bs D h).length (natInts (latchesM bs D h)):=by rw[← hnl];exact HV.out
      have HVV:=hideI hV
      obtain⟨hbw2,_,hxw2,hls2⟩:=HBG.out wr HB2.out
      have g0:=row_cells hxw2 rfl 0
      have g1:=row_cells hxw2 rfl 1
      have g2:=row_cells hxw2 rfl 2
      have g3:=row_cells hxw2 rfl 3
      have hsz:w.heap.size≤wr.heap.size:=hbw2.size
      have HBK:=hideI (refBlocks_any bs o pl par D L h gp B nl cs 0 As vs pv av cv (.slice A bs.length c) wr HK.out hlt HIN.out (HBF.out wr hbw2) (Nat.le_trans hB hsz) hls2 (nat_ints hV (by omega)) HAV.out)
      clear hnl hn0 hV hls2
      go_wp2_with (first
       | (go_at_call 84;go_must (refine HBK.out.mono ?_);rintro e w5 ⟨b1,b3,rfl,htwo,hb5⟩;(obtain⟨A7,c7,rfl⟩:=own_sl htwo.one);(obtain⟨Ax,cx,rfl⟩:=own_sl htwo.two);(obtain⟨nb,hnb⟩:∃ nb,nb=(blocksM bs.length L h).length:=⟨_,rfl⟩);(obtain⟨nx,hnx⟩:∃ nx,nx=(exitsM bs L h).length:=⟨_,rfl⟩);have HTW:=hideI htwo;rw[← hnb,← hnx]at HTW ⊢;have HNB:=hideI hnb;have HNX:=hideI hnx;have HB5:=hideI (HB2.out.trans (hb5.mono (Nat.le_of_lt (Nat.lt_of_le_of_lt hGq hqr))));have HLP5:=hideI (HLPr.out.kept hb5);have HV5:=hideI (own_kept_below HVV.out hb5 (fun k hk=>(HVV.out.lt k hk).2));have hs5:wr.heap.size≤w5.heap.size:=hb5.size;(obtain⟨cs0,hr1,hr2⟩:=HLP5.out.ex);have HROW:=hideI hr1;have HAT:=hideI hr2;(have hltv:∀ k,lv.ownBlock=some k→k<q:=fun k hk=>by obtain⟨cs1,hr3,_⟩:=HLP.out.ex;rw[HQ.out];exact(hr3.lt k hk).2);have S1:Hid (SubR w5 G0 lv (.slice A7 nb c7) (blocksM bs.length L h)):=⟨World.ownsRow.mono HTW.out.one (by omega),fun k hk e=>(by have h1:=(HTW.out.one.lt k hk).1;have h2:=hltv k e;omega)⟩;have S3:Hid (SubR w5 G0 lv (.slice Ax nx cx) (exitsM bs L h)):=⟨World.ownsRow.mono HTW.out.two (by omega),fun k hk e=>(by have h1:=(HTW.out.two.lt k hk).1;have h2:=hltv k e;omega)⟩;have S2:Hid (SubR w5 G0 lv (.slice As nl cs) (latchesM bs D h)):=⟨World.ownsRow.mono HV5.out (by omega),fun k hk e=>(by have h1:=(HV5.out.lt k hk).1;have h2:=hltv k e;omega)⟩;clear htwo hnb hnx hb5 hr1 hr2 hltv k0 k1 k2 k3 k4 g0 g1 g2 g3 cgp)
       | (at_builtin;go_must (refine wpList_append_lies _ rfl _ _ _ rfl G0 88 i2 _ 5 88 Tryz.underlying79 hjx2 hz0 hz1 hz2 rfl (by decide) _ _ _ rfl (HROW.out.alloc _) ⟨w5.heap.size,0,none⟩ 1 1 [.int .i64 (h:Int),.slice A7 nb c7,.slice As nl cs,.slice Ax nx cx,.int .i64 0] rfl rfl (World.news_of_block (heap_alloc_new w5 _)) (by simp[Value.oneCell']) (by decide) (by unfold maxLen;omega) (by omega) (by simp;omega) _ rfl ?_);intro g1 cap1 w6 hown6 hgrow6 hor6 _;go_must (have HLP6:=hideI (LoopsR.push (lp:=lpOf bs D L h) HROW.out HAT.out S1.out S2.out S3.out hown6 hgrow6 hor6);have HB6:Hid (Below G0 w2 w6):=(HB5.out.alloc (by have:=HB5.out.size;omega) _).grown hgrow6 (by have:=HB5.out.size;simp;omega) (fun k hk=>(HROW.out.lt k hk).1);clear hown6 hgrow6 hor6)))
      go_roundw
      case rel => exact⟨h+1,_,by omega,by go_num,rfl,by rw[HMR.out];exact HLP6,HB6⟩
      case measure => simp[intOf];omega
  ·have hhn:h=bs.length:=by omega
   subst hhn
   obtain⟨ls,hls⟩:∃ ls,ls=lp0M bs D L bs.length:=⟨_,rfl⟩
   have HLS2:=hideI hls
   have HRS:Hid (Rising ls):=by show Rising ls;rw[hls];exact lp0_rising _ _ _ _ hn5
   have hll:ls.length≤512:=by rw[hls];exact Nat.le_trans (lp0_len _ _ _ _) hn5
   have HWI:Hid (∀ i k,i<ls.length→k<ls.length→k≠i→((ls.getD i noLp).blocks.all fun b=>decide (b∈(ls.getD k noLp).blocks))=decide ((ls.getD i noLp).head∈(ls.getD k noLp).blocks)):=by
    intro i k h1 h2 h3
    rw[hls]at h1 h2 ⊢
    exact within_lp0 HK.out h1 h2 h3
   rw[← hls]at HLP
   obtain⟨Av,cv,rfl⟩:∃ A c,lv=.slice A ls.length c:=by obtain⟨cs,h1,_⟩:=HLP.out.ex;exact own_sl h1
   have HL0:Hid (LoopsR wr G0 (.slice Av ls.length cv) (parsTo ls 0)):=by show LoopsR _ _ _ _;rw[parsTo_zero];exact HLP.out
   clear hls HLP hxw
   go_wp2_with fail
   clear g3
   go_loopw [9] (fun u wr2=>∃ i:Nat,i≤ls.length∧u=.int .i64 i∧Hid (LoopsR wr2 G0 (.slice Av ls.length cv) (parsTo ls i))∧Hid (Below G0 w2 wr2)) (fun u _=>ls.length - (intOf u).toNat)
   case atStart => exact⟨0,Nat.zero_le _,rfl,HL0,HBr⟩
   case round =>
    clear HL0 HBr hbw hGr
    obtain⟨i,hi,rfl,HLP,HBr⟩:=hrel
    by_cases hlti:i<ls.length
    ·obtain⟨x0,hx0⟩:∃ x,(parsTo ls i)[i]?=some x:=⟨_,parsTo_at hlti⟩
     obtain⟨g,cap0,_,_,_,hv,hgb,hgl,_,_,_,_,r4,_,_,_,hfz⟩:=HLP.out.cells hx0
     rw[parsTo_len]at hv
     cases hv
     have z4:=hfz (i*5+4)
     have HL1:Hid (LoopsR (wr.setCell ⟨g,i*5+4,none⟩ (.int .i64 (-1))) G0 (.slice (some ⟨g,0,none⟩) ls.length cv) (parAt ls i (arM ls i 0))):=by
      show LoopsR _ _ _ _
      have h1:LoopsR wr G0 (.slice (some ⟨g,0,none⟩) (parsTo ls i).length cv) (parsTo ls i):=by rw[parsTo_len];exact HLP.out
      have h2:=h1.parent (p:=-1) hx0
      rw[parsTo_len,parAt_first hlti hx0]at h2
      exact h2
     have HB1:Hid (Below G0 w2 (wr.setCell ⟨g,i*5+4,none⟩ (.int .i64 (-1)))):=HBr.out.setCell hgb _
     clear hx0 hfz
     go_wp2_with fail
     clear r4 z4 hgl HLP HBr
     go_loopw [10] (fun u wr2=>∃ k:Nat,k≤ls.length∧u=.int .i64 k∧Hid (LoopsR wr2 G0 (.slice (some ⟨g,0,none⟩) ls.length cv) (parAt ls i (arM ls i k)))∧Hid (Below G0 w2 wr2)) (fun u _=>ls.length - (intOf u).toNat)
     case atStart => exact⟨0,Nat.zero_le _,rfl,HL1,HB1⟩
     case round =>
      clear HL1 HB1
      obtain⟨k,hk,rfl,HLP,HBr⟩:=hrel
      have hGr:G0≤wr.heap.size:=by have:=HBr.out.size;have:=HG0.out;omega
      by_cases hltk:k<ls.length
      ·obtain⟨a,ha⟩:∃ a,a=arM ls i k:=⟨_,rfl⟩
       rw[← ha]at HLP
       have HA:=hideI ha
       have HRG:=hideI (arM_range ls i k)
       rw[← ha]at HRG
       have HN:Hid (∀ b,lessB ls i a k=b→arM ls i (k+1)=if b=true then (k:Int)else a):=fun b hb=>by
        show(if lessB ls i (arM ls i k) k=true then (k:Int)else arM ls i k)=_
        rw[← HA.out,hb]
       have hxi:(parAt ls i a)[i]?=some ({ ls.getD i noLp with parent:=a }:LpM):=parAt_self hlti
       have HXI:=hideI hxi
       obtain⟨y,hy0,hyh,hyb⟩:=parAt_get (a:=a) (i:=i) hltk
       have hlenp:(parAt ls i a).length=ls.length:=parAt_len ls i a
       obtain⟨b1,b2,b3,hgl,r0,r1,r2,r3,r4,s1,_,_,hfz⟩:=HLP.out.row_at hlenp.symm hxi
       obtain⟨d1,d2,d3,_,t0,t1,t2,t3,t4,u1,_,_,_⟩:=HLP.out.row_at hlenp.symm hy0
       have z4:=hfz (i*5+4)
       obtain⟨A1,c1,rfl⟩:=own_sl s1.1
       obtain⟨A2,c2,rfl⟩:=own_sl u1.1
       have hlx:(ls.getD i noLp).blocks.length≤512:=by
        rw[List.getD_eq_getElem?_getD,List.getElem?_eq_getElem hlti]
        exact(HRS.out _ (List.getElem_mem hlti)).2
       have hly:(ls.getD k noLp).blocks.length≤512:=by
        rw[List.getD_eq_getElem?_getD,List.getElem?_eq_getElem hltk]
        exact(HRS.out _ (List.getElem_mem hltk)).2
       have HIX:=hideI (s1.ints (by show(ls.getD i noLp).blocks.length≤_;omega))
       have HIY:=hideI (u1.ints (by rw[hyb];omega))
       obtain⟨hx,hhx⟩:∃ hx,hx=(ls.getD i noLp).head:=⟨_,rfl⟩
       obtain⟨nx,hnx⟩:∃ nx,nx=(ls.getD i noLp).blocks.length:=⟨_,rfl⟩
       obtain⟨hy,hhy⟩:∃ hy,hy=y.head:=⟨_,rfl⟩
       obtain⟨ny,hny⟩:∃ ny,ny=y.blocks.length:=⟨_,rfl⟩
       obtain⟨py,hpy⟩:∃ py,py=y.parent:=⟨_,rfl⟩
       simp only[← hhx,← hnx]at r0 r1 HIX
       rw[← hhy]at t0
       rw[← hny]at t1 HIY
       rw[← hpy]at t4
       rw[hyb]at HIY
       have hny':ny=(ls.getD k noLp).blocks.length:=by rw[hny,hyb]
       obtain⟨rw',hrw⟩:∃ r,r=((ls.getD i noLp).blocks.all fun b=>decide (b∈(ls.getD k noLp).blocks)):=⟨_,rfl⟩
       have HWC:=hideI (refWithin_any (ls.getD i noLp).blocks (ls.getD k noLp).blocks nx ny c1 c2 A1 A2 (.int .i64 (hx:Int)) b2 b3 (.int .i64 a) (.int .i64 (hy:Int)) d2 d3 (.int .i64 py) wr.drew HIX.out HIY.out hnx (by omega))
       rw[← hrw]at HWC
       have HLB:Hid (k≠i→lessB ls i a k=(rw'&&(decide (a=-1)||decide (ny<(ls.getD a.toNat noLp).blocks.length)))):=fun hne=>by
        unfold lessB
        rw[← HWI.out i k hlti hltk hne,← hrw,← hny',decide_eq_true hne,Bool.true_and]
       have hny5:ny≤512:=by omega
       have hnx5:nx≤512:=by omega
       have HSS:Hid (∀ W',Below wr.heap.size wr W'→W'.cell? ⟨g,i*5,none⟩=some (.int .i64 (hx:Int))∧W'.cell? ⟨g,i*5+1,none⟩=some (.slice A1 nx c1)∧W'.cell? ⟨g,i*5+2,none⟩=some b2∧W'.cell? ⟨g,i*5+3,none⟩=some b3∧W'.cell? ⟨g,i*5+4,none⟩=some (.int .i64 a)∧W'.cell? ⟨g,k*5,none⟩=some (.int .i64 (hy:Int))∧W'.cell? ⟨g,k*5+1,none⟩=some (.slice A2 ny c2)∧W'.cell? ⟨g,k*5+2,none⟩=some d2∧W'.cell? ⟨g,k*5+3,none⟩=some d3∧W'.cell? ⟨g,k*5+4,none⟩=some (.int .i64 py)):=fun W' hW'=>⟨(hW'.cell (p:=⟨g,i*5,none⟩) hgl).trans r0,(hW'.cell (p:=⟨g,i*5+1,none⟩) hgl).trans r1,(hW'.cell (p:=⟨g,i*5+2,none⟩) hgl).trans r2,(hW'.cell (p:=⟨g,i*5+3,none⟩) hgl).trans r3,(hW'.cell (p:=⟨g,i*5+4,none⟩) hgl).trans r4,(hW'.cell (p:=⟨g,k*5,none⟩) hgl).trans t0,(hW'.cell (p:=⟨g,k*5+1,none⟩) hgl).trans t1,(hW'.cell (p:=⟨g,k*5+2,none⟩) hgl).trans t2,(hW'.cell (p:=⟨g,k*5+3,none⟩) hgl).trans t3,(hW'.cell (p:=⟨g,k*5+4,none⟩) hgl).trans t4⟩
       clear ha hxi hy0 hyh hyb s1 u1 hfz hhx hnx hhy hny hpy hny' hrw hlx hly r0 r1 r2 r3 t0 t1 t2 t3 t4
       go_upto_region 22 with fail
       by_cases hki:k=i
       ·have e1:((k:Int) != (i:Int))=false:=by rw[hki];simp
        have HNN:Hid (arM ls i (k+1)=a):=HN.out false (by unfold lessB;simp[hki])
        clear hki z4
        refine wp_region_late (by kernel_rfl) (fun _=>True) [] ?_
        refine wpAnyT_quiet (i:=0) (v:=?_) rfl (by kernel_rfl) (by kernel_rfl) (by kernel_rfl) (fun _ _ _ h=>h) (Or.inl ⟨by rfl,?_⟩) ?_
        rotate_left
        ·(intro w;go_simp;try with_reducible rfl)
        try simp only[Act.put,List.setIfInBounds_toArray,List.set_cons_zero,List.set_cons_succ]
        refine wpAnyT_quiet (i:=1) (v:=?_) rfl (by kernel_rfl) (by kernel_rfl) (by kernel_rfl) (fun _ _ _ h=>h) (Or.inl ⟨by rfl,?_⟩) ?_
        rotate_left
        ·(intro w;go_simp;try with_reducible rfl)
        try simp only[Act.put,List.setIfInBounds_toArray,List.set_cons_zero,List.set_cons_succ]
        refine wpAnyT_quiet (i:=2) (v:=?_) rfl (by kernel_rfl) (by kernel_rfl) (by kernel_rfl) (fun _ _ _ h=>h) (Or.inl ⟨by rfl,?_⟩) ?_
        rotate_left
        ·(intro w;go_simp;try with_reducible rfl)
        try simp only[Act.put,List.setIfInBounds_toArray,List.set_cons_zero,List.set_cons_succ]
        refine wpAnyT_quiet (i:=3) (v:=?_) rfl (by kernel_rfl) (by kernel_rfl) (by kernel_rfl) (fun _ _ _ h=>h) (Or.inl ⟨by rfl,?_⟩) ?_
        rotate_left
        ·(intro w;go_simp;try with_reducible rfl)
        try simp only[Act.put,List.setIfInBounds_toArray,List.set_cons_zero,List.set_cons_succ]
        refine wpAnyT_quiet (i:=4) (v:=undef) rfl (by kernel_rfl) (by kernel_rfl) (by kernel_rfl) (fun _ _ _ h=>h) (Or.inr ⟨by rfl,rfl⟩) ?_
        try simp only[Act.put,List.setIfInBounds_toArray,List.set_cons_zero,List.set_cons_succ]
        refine wpAnyT_quiet (i:=5) (v:=undef) rfl (by kernel_rfl) (by kernel_rfl) (by kernel_rfl) (fun _ _ _ h=>h) (Or.inr ⟨by rfl,rfl⟩) ?_
        try simp only[Act.put,List.setIfInBounds_toArray,List.set_cons_zero,List.set_cons_succ]
        refine wpAnyT_quiet (i:=6) (v:=undef) rfl (by kernel_rfl) (by kernel_rfl) (by kernel_rfl) (fun _ _ _ h=>h) (Or.inr ⟨by rfl,rfl⟩) ?_
        try simp only[Act.put,List.setIfInBounds_toArray,List.set_cons_zero,List.set_cons_succ]
        refine wpAnyT_quiet (i:=7) (v:=undef) rfl (by kernel_rfl) (by kernel_rfl) (by kernel_rfl) (fun _ _ _ h=>h) (Or.inr ⟨by rfl,rfl⟩) ?_
        try simp only[Act.put,List.setIfInBounds_toArray,List.set_cons_zero,List.set_cons_succ]
        refine wpAnyT_quiet (i:=8) (v:=undef) rfl (by kernel_rfl) (by kernel_rfl) (by kernel_rfl) (fun _ _ _ h=>h) (Or.inr ⟨by rfl,rfl⟩) ?_
        try simp only[Act.put,List.setIfInBounds_toArray,List.set_cons_zero,List.set_cons_succ]
        refine wpAnyT_quiet (i:=9) (v:=undef) rfl (by kernel_rfl) (by kernel_rfl) (by kernel_rfl) (fun _ _ _ h=>h) (Or.inr ⟨by rfl,rfl⟩) ?_
        try simp only[Act.put,List.setIfInBounds_toArray,List.set_cons_zero,List.set_cons_succ]
        refine wpAnyT_quiet (i:=10) (v:=undef) rfl (by kernel_rfl) (by kernel_rfl) (by kernel_rfl) (fun _ _ _ h=>h) (Or.inr ⟨by rfl,rfl⟩) ?_
        try simp only[Act.put,List.setIfInBounds_toArray,List.set_cons_zero,List.set_cons_succ]
        refine wpAnyT_quiet (i:=11) (v:=undef) rfl (by kernel_rfl) (by kernel_rfl) (by kernel_rfl) (fun _ _ _ h=>h) (Or.inr ⟨by rfl,rfl⟩) ?_
        try simp only[Act.put,List.setIfInBounds_toArray,List.set_cons_zero,List.set_cons_succ]
        refine wpAnyT_quiet (i:=12) (v:=undef) rfl (by kernel_rfl) (by kernel_rfl) (by kernel_rfl) (fun _ _ _ h=>h) (Or.inr ⟨by rfl,rfl⟩) ?_
        try simp only[Act.put,List.setIfInBounds_toArray,List.set_cons_zero,List.set_cons_succ]
        refine wpAnyT_quiet (i:=13) (v:=?_) rfl (by kernel_rfl) (by kernel_rfl) (by kernel_rfl) (fun _ _ _ h=>h) (Or.inl ⟨by rfl,?_⟩) ?_
        rotate_left
        ·(intro w;go_simp;try with_reducible rfl)
        try simp only[Act.put,List.setIfInBounds_toArray,List.set_cons_zero,List.set_cons_succ]
        refine wpAnyT_quiet (i:=14) (v:=?_) rfl (by kernel_rfl) (by kernel_rfl) (by kernel_rfl) (fun _ _ _ h=>h) (Or.inl ⟨by rfl,?_⟩) ?_
        rotate_left
        ·(intro w;go_simp;try with_reducible rfl)
        try simp only[Act.put,List.setIfInBounds_toArray,List.set_cons_zero,List.set_cons_succ]
        refine wpAnyT_quiet (i:=15) (v:=undef) rfl (by kernel_rfl) (by kernel_rfl) (by kernel_rfl) (fun _ _ _ h=>h) (Or.inr ⟨by rfl,rfl⟩) ?_
        try simp only[Act.put,List.setIfInBounds_toArray,List.set_cons_zero,List.set_cons_succ]
        refine wpAnyT_quiet (i:=16) (v:=undef) rfl (by kernel_rfl) (by kernel_rfl) (by kernel_rfl) (fun _ _ _ h=>h) (Or.inr ⟨by rfl,rfl⟩) ?_
        try simp only[Act.put,List.setIfInBounds_toArray,List.set_cons_zero,List.set_cons_succ]
        refine wpAnyT_quiet (i:=17) (v:=undef) rfl (by kernel_rfl) (by kernel_rfl) (by kernel_rfl) (fun _ _ _ h=>h) (Or.inr ⟨by rfl,rfl⟩) ?_
        try simp only[Act.put,List.setIfInBounds_toArray,List.set_cons_zero,List.set_cons_succ]
        refine wpAnyT_quiet (i:=18) (v:=undef) rfl (by kernel_rfl) (by kernel_rfl) (by kernel_rfl) (fun _ _ _ h=>h) (Or.inr ⟨by rfl,rfl⟩) ?_
        try simp only[Act.put,List.setIfInBounds_toArray,List.set_cons_zero,List.set_cons_succ]
        refine wpAnyT_quiet (i:=19) (v:=undef) rfl (by kernel_rfl) (by kernel_rfl) (by kernel_rfl) (fun _ _ _ h=>h) (Or.inr ⟨by rfl,rfl⟩) ?_
        try simp only[Act.put,List.setIfInBounds_toArray,List.set_cons_zero,List.set_cons_succ]
        refine wpAnyT_quiet (i:=20) (v:=undef) rfl (by kernel_rfl) (by kernel_rfl) (by kernel_rfl) (fun _ _ _ h=>h) (Or.inr ⟨by rfl,rfl⟩) ?_
        try simp only[Act.put,List.setIfInBounds_toArray,List.set_cons_zero,List.set_cons_succ]
        refine wpAnyT_quiet (i:=21) (v:=undef) rfl (by kernel_rfl) (by kernel_rfl) (by kernel_rfl) (fun _ _ _ h=>h) (Or.inr ⟨by rfl,rfl⟩) ?_
        try simp only[Act.put,List.setIfInBounds_toArray,List.set_cons_zero,List.set_cons_succ]
        refine wpAnyT_quiet (i:=22) (v:=undef) rfl (by kernel_rfl) (by kernel_rfl) (by kernel_rfl) (fun _ _ _ h=>h) (Or.inr ⟨by rfl,rfl⟩) ?_
        try simp only[Act.put,List.setIfInBounds_toArray,List.set_cons_zero,List.set_cons_succ]
        refine wpAnyT_quiet (i:=23) (v:=undef) rfl (by kernel_rfl) (by kernel_rfl) (by kernel_rfl) (fun _ _ _ h=>h) (Or.inr ⟨by rfl,rfl⟩) ?_
        try simp only[Act.put,List.setIfInBounds_toArray,List.set_cons_zero,List.set_cons_succ]
        refine wpAnyT_quiet (i:=24) (v:=undef) rfl (by kernel_rfl) (by kernel_rfl) (by kernel_rfl) (fun _ _ _ h=>h) (Or.inr ⟨by rfl,rfl⟩) ?_
        try simp only[Act.put,List.setIfInBounds_toArray,List.set_cons_zero,List.set_cons_succ]
        refine wpAnyT_quiet (i:=25) (v:=undef) rfl (by kernel_rfl) (by kernel_rfl) (by kernel_rfl) (fun _ _ _ h=>h) (Or.inr ⟨by rfl,rfl⟩) ?_
        try simp only[Act.put,List.setIfInBounds_toArray,List.set_cons_zero,List.set_cons_succ]
        refine wpAnyT_quiet (i:=26) (v:=undef) rfl (by kernel_rfl) (by kernel_rfl) (by kernel_rfl) (fun _ _ _ h=>h) (Or.inr ⟨by rfl,rfl⟩) ?_
        try simp only[Act.put,List.setIfInBounds_toArray,List.set_cons_zero,List.set_cons_succ]
        refine wpAnyT_quiet (i:=27) (v:=undef) rfl (by kernel_rfl) (by kernel_rfl) (by kernel_rfl) (fun _ _ _ h=>h) (Or.inr ⟨by rfl,rfl⟩) ?_
        try simp only[Act.put,List.setIfInBounds_toArray,List.set_cons_zero,List.set_cons_succ]
        refine wpAnyT_quiet (i:=28) (v:=undef) rfl (by kernel_rfl) (by kernel_rfl) (by kernel_rfl) (fun _ _ _ h=>h) (Or.inr ⟨by rfl,rfl⟩) ?_
        try simp only[Act.put,List.setIfInBounds_toArray,List.set_cons_zero,List.set_cons_succ]
        refine wpAnyT_quiet (i:=29) (v:=undef) rfl (by kernel_rfl) (by kernel_rfl) (by kernel_rfl) (fun _ _ _ h=>h) (Or.inr ⟨by rfl,rfl⟩) ?_
        try simp only[Act.put,List.setIfInBounds_toArray,List.set_cons_zero,List.set_cons_succ]
        refine wpAnyT_quiet (i:=30) (v:=undef) rfl (by kernel_rfl) (by kernel_rfl) (by kernel_rfl) (fun _ _ _ h=>h) (Or.inr ⟨by rfl,rfl⟩) ?_
        try simp only[Act.put,List.setIfInBounds_toArray,List.set_cons_zero,List.set_cons_succ]
        refine wpAnyT_quiet (i:=31) (v:=undef) rfl (by kernel_rfl) (by kernel_rfl) (by kernel_rfl) (fun _ _ _ h=>h) (Or.inr ⟨by rfl,rfl⟩) ?_
        try simp only[Act.put,List.setIfInBounds_toArray,List.set_cons_zero,List.set_cons_succ]
        refine wpAnyT_quiet (i:=32) (v:=undef) rfl (by kernel_rfl) (by kernel_rfl) (by kernel_rfl) (fun _ _ _ h=>h) (Or.inr ⟨by rfl,rfl⟩) ?_
        try simp only[Act.put,List.setIfInBounds_toArray,List.set_cons_zero,List.set_cons_succ]
        refine wpAnyT_quiet (i:=33) (v:=undef) rfl (by kernel_rfl) (by kernel_rfl) (by kernel_rfl) (fun _ _ _ h=>h) (Or.inr ⟨by rfl,rfl⟩) ?_
        try simp only[Act.put,List.setIfInBounds_toArray,List.set_cons_zero,List.set_cons_succ]
        refine wpAnyT_quiet (i:=34) (v:=undef) rfl (by kernel_rfl) (by kernel_rfl) (by kernel_rfl) (fun _ _ _ h=>h) (Or.inr ⟨by rfl,rfl⟩) ?_
        try simp only[Act.put,List.setIfInBounds_toArray,List.set_cons_zero,List.set_cons_succ]
        refine wpAnyT_quiet (i:=35) (v:=undef) rfl (by kernel_rfl) (by kernel_rfl) (by kernel_rfl) (fun _ _ _ h=>h) (Or.inr ⟨by rfl,rfl⟩) ?_
        try simp only[Act.put,List.setIfInBounds_toArray,List.set_cons_zero,List.set_cons_succ]
        refine wpAnyT_quiet (i:=36) (v:=undef) rfl (by kernel_rfl) (by kernel_rfl) (by kernel_rfl) (fun _ _ _ h=>h) (Or.inr ⟨by rfl,rfl⟩) ?_
        try simp only[Act.put,List.setIfInBounds_toArray,List.set_cons_zero,List.set_cons_succ]
        refine wpAnyT_quiet (i:=37) (v:=undef) rfl (by kernel_rfl) (by kernel_rfl) (by kernel_rfl) (fun _ _ _ h=>h) (Or.inr ⟨by rfl,rfl⟩) ?_
        try simp only[Act.put,List.setIfInBounds_toArray,List.set_cons_zero,List.set_cons_succ]
        refine wpAnyT_quiet (i:=38) (v:=undef) rfl (by kernel_rfl) (by kernel_rfl) (by kernel_rfl) (fun _ _ _ h=>h) (Or.inr ⟨by rfl,rfl⟩) ?_
        try simp only[Act.put,List.setIfInBounds_toArray,List.set_cons_zero,List.set_cons_succ]
        refine wpAnyT_quiet (i:=39) (v:=undef) rfl (by kernel_rfl) (by kernel_rfl) (by kernel_rfl) (fun _ _ _ h=>h) (Or.inr ⟨by rfl,rfl⟩) ?_
        try simp only[Act.put,List.setIfInBounds_toArray,List.set_cons_zero,List.set_cons_succ]
        refine wpAnyT_quiet (i:=40) (v:=?_) rfl (by kernel_rfl) (by kernel_rfl) (by kernel_rfl) (fun _ _ _ h=>h) (Or.inl ⟨by rfl,?_⟩) ?_
        rotate_left
        ·(intro w;go_simp;try with_reducible rfl)
        try simp only[Act.put,List.setIfInBounds_toArray,List.set_cons_zero,List.set_cons_succ]
        refine wpAnyT_done (by kernel_rfl) ?_ _
        go_wp2_with fail
        go_roundw
        case rel => exact⟨k+1,by omega,by go_num,by rw[HNN.out];exact hideI (HLP.out.kept ((Below.refl wr.heap.size wr).drew)),hideI (HBr.out.trans ((((Below.refl wr.heap.size wr).drew):Below wr.heap.size wr _).mono hGr))⟩
        case measure => simp[intOf];omega
       ·have e1:((k:Int) != (i:Int))=true:=by rw[bne_iff_ne];omega
        have HLB2:=hideI (HLB.out hki)
        clear hki z4
        cases rw' with
        | false =>
         have HNN:Hid (arM ls i (k+1)=a):=HN.out false (by rw[HLB2.out];rfl)
         have hS0:=HSS.out wr (Below.refl _ _)
         refine wp_region_late (by kernel_rfl) (fun W'=>W'.cell? ⟨g,i*5,none⟩=some (.int .i64 (hx:Int))∧W'.cell? ⟨g,i*5+1,none⟩=some (.slice A1 nx c1)∧W'.cell? ⟨g,i*5+2,none⟩=some b2∧W'.cell? ⟨g,i*5+3,none⟩=some b3∧W'.cell? ⟨g,i*5+4,none⟩=some (.int .i64 a)∧W'.cell? ⟨g,k*5,none⟩=some (.int .i64 (hy:Int))∧W'.cell? ⟨g,k*5+1,none⟩=some (.slice A2 ny c2)∧W'.cell? ⟨g,k*5+2,none⟩=some d2∧W'.cell? ⟨g,k*5+3,none⟩=some d3∧W'.cell? ⟨g,k*5+4,none⟩=some (.int .i64 py)) [] ?_
         refine wpAnyT_quiet (i:=0) (v:=?_) rfl (by kernel_rfl) (by kernel_rfl) (by kernel_rfl) (fun _ _ _ h=>h) (Or.inl ⟨by rfl,?_⟩) ?_
         rotate_left
         ·(intro w;go_simp;try with_reducible rfl)
         try simp only[Act.put,List.setIfInBounds_toArray,List.set_cons_zero,List.set_cons_succ]
         refine wpAnyT_quiet (i:=1) (v:=?_) rfl (by kernel_rfl) (by kernel_rfl) (by kernel_rfl) (fun _ _ _ h=>h) (Or.inl ⟨by rfl,?_⟩) ?_
         rotate_left
         ·(intro w;go_simp;try with_reducible rfl)
         try simp only[Act.put,List.setIfInBounds_toArray,List.set_cons_zero,List.set_cons_succ]
         refine wpAnyT_quiet (i:=2) (v:=?_) rfl (by kernel_rfl) (by kernel_rfl) (by kernel_rfl) (fun _ _ _ h=>h) (Or.inl ⟨by rfl,?_⟩) ?_
         rotate_left
         ·(intro w;go_simp;try with_reducible rfl)
         try simp only[Act.put,List.setIfInBounds_toArray,List.set_cons_zero,List.set_cons_succ]
         refine wpAnyT_quiet (i:=3) (v:=?_) rfl (by kernel_rfl) (by kernel_rfl) (by kernel_rfl) (fun _ _ _ h=>h) (Or.inl ⟨by rfl,?_⟩) ?_
         rotate_left
         ·(intro w;go_simp;try with_reducible rfl)
         try simp only[Act.put,List.setIfInBounds_toArray,List.set_cons_zero,List.set_cons_succ]
         refine wpAnyT_quiet (i:=4) (v:=?_) rfl (by kernel_rfl) (by kernel_rfl) (by kernel_rfl) (fun _ _ _ h=>h) (Or.inl ⟨by rfl,?_⟩) ?_
         rotate_left
         ·(intro w;go_simp;try with_reducible rfl)
         try simp only[Act.put,List.setIfInBounds_toArray,List.set_cons_zero,List.set_cons_succ]
         refine wpAnyT_quiet (i:=5) (v:=?_) rfl (by kernel_rfl) (by kernel_rfl) (by kernel_rfl) (fun _ _ _ h=>h) (Or.inl ⟨by rfl,?_⟩) ?_
         rotate_left
         ·(intro w;go_simp;try with_reducible rfl)
         try simp only[Act.put,List.setIfInBounds_toArray,List.set_cons_zero,List.set_cons_succ]
         refine wpAnyT_quiet (i:=6) (v:=?_) rfl (by kernel_rfl) (by kernel_rfl) (by kernel_rfl) (fun _ _ _ h=>h) (Or.inl ⟨by rfl,?_⟩) ?_
         rotate_left
         ·(intro w;go_simp;try with_reducible rfl)
         try simp only[Act.put,List.setIfInBounds_toArray,List.set_cons_zero,List.set_cons_succ]
         refine wpAnyT_take [] (i:=7) (v:=?_) rfl (by kernel_rfl) (by kernel_rfl) (by kernel_rfl) (by kernel_rfl) (by kernel_rfl) (by kernel_rfl) (fun _ _ _ h=>h) hS0 (Or.inl ⟨by rfl,?_⟩) ?_
         rotate_left
         ·(intro w hSw;go_split_ands;go_simp;try with_reducible rfl)
         try simp only[Act.put,List.setIfInBounds_toArray,List.set_cons_zero,List.set_cons_succ]
         refine wpAnyT_quiet (i:=8) (v:=?_) rfl (by kernel_rfl) (by kernel_rfl) (by kernel_rfl) (fun _ _ _ h=>h) (Or.inl ⟨by rfl,?_⟩) ?_
         rotate_left
         ·(intro w;go_simp;try with_reducible rfl)
         try simp only[Act.put,List.setIfInBounds_toArray,List.set_cons_zero,List.set_cons_succ]
         refine wpAnyT_quiet (i:=9) (v:=?_) rfl (by kernel_rfl) (by kernel_rfl) (by kernel_rfl) (fun _ _ _ h=>h) (Or.inl ⟨by rfl,?_⟩) ?_
         rotate_left
         ·(intro w;go_simp;try with_reducible rfl)
         try simp only[Act.put,List.setIfInBounds_toArray,List.set_cons_zero,List.set_cons_succ]
         refine wpAnyT_quiet (i:=10) (v:=?_) rfl (by kernel_rfl) (by kernel_rfl) (by kernel_rfl) (fun _ _ _ h=>h) (Or.inl ⟨by rfl,?_⟩) ?_
         rotate_left
         ·(intro w;go_simp;try with_reducible rfl)
         try simp only[Act.put,List.setIfInBounds_toArray,List.set_cons_zero,List.set_cons_succ]
         refine wpAnyT_take [] (i:=11) (v:=?_) rfl (by kernel_rfl) (by kernel_rfl) (by kernel_rfl) (by kernel_rfl) (by kernel_rfl) (by kernel_rfl) (fun _ _ _ h=>h) hS0 (Or.inl ⟨by rfl,?_⟩) ?_
         rotate_left
         ·(intro w hSw;go_split_ands;go_simp;try with_reducible rfl)
         try simp only[Act.put,List.setIfInBounds_toArray,List.set_cons_zero,List.set_cons_succ]
         refine wpAnyT_ready (rs:=[12]) (by kernel_rfl) (by simp) ?_
         refine AllReadyT.cons rfl (fun K hK=>?_) ?_
         ·go_simp
          refine HWC.out.mono ?_
          rintro e w3 ⟨rfl,hb3d⟩
          have hb3:Below wr.heap.size wr w3:=⟨hb3d.os,hb3d.tape,hb3d.output,hb3d.size,hb3d.block⟩
          have HB3:=hideI hb3
          have hS3:=HSS.out _ HB3.out
          refine hK.out _ _ (fun _ _=>HSS.out _ HB3.out) ?_
          clear hK K hb3d hb3
          try simp only[Act.put,List.setIfInBounds_toArray,List.set_cons_zero,List.set_cons_succ]
          refine wpAnyT_quiet (i:=13) (v:=?_) rfl (by kernel_rfl) (by kernel_rfl) (by kernel_rfl) (fun _ _ _ h=>h) (Or.inl ⟨by rfl,?_⟩) ?_
          rotate_left
          ·(intro w;go_simp;try with_reducible rfl)
          try simp only[Act.put,List.setIfInBounds_toArray,List.set_cons_zero,List.set_cons_succ]
          refine wpAnyT_quiet (i:=14) (v:=?_) rfl (by kernel_rfl) (by kernel_rfl) (by kernel_rfl) (fun _ _ _ h=>h) (Or.inl ⟨by rfl,?_⟩) ?_
          rotate_left
          ·(intro w;go_simp;try with_reducible rfl)
          try simp only[Act.put,List.setIfInBounds_toArray,List.set_cons_zero,List.set_cons_succ]
          refine wpAnyT_quiet (i:=15) (v:=undef) rfl (by kernel_rfl) (by kernel_rfl) (by kernel_rfl) (fun _ _ _ h=>h) (Or.inr ⟨by rfl,rfl⟩) ?_
          try simp only[Act.put,List.setIfInBounds_toArray,List.set_cons_zero,List.set_cons_succ]
          refine wpAnyT_quiet (i:=16) (v:=undef) rfl (by kernel_rfl) (by kernel_rfl) (by kernel_rfl) (fun _ _ _ h=>h) (Or.inr ⟨by rfl,rfl⟩) ?_
          try simp only[Act.put,List.setIfInBounds_toArray,List.set_cons_zero,List.set_cons_succ]
          refine wpAnyT_quiet (i:=17) (v:=undef) rfl (by kernel_rfl) (by kernel_rfl) (by kernel_rfl) (fun _ _ _ h=>h) (Or.inr ⟨by rfl,rfl⟩) ?_
          try simp only[Act.put,List.setIfInBounds_toArray,List.set_cons_zero,List.set_cons_succ]
          refine wpAnyT_quiet (i:=18) (v:=undef) rfl (by kernel_rfl) (by kernel_rfl) (by kernel_rfl) (fun _ _ _ h=>h) (Or.inr ⟨by rfl,rfl⟩) ?_
          try simp only[Act.put,List.setIfInBounds_toArray,List.set_cons_zero,List.set_cons_succ]
          refine wpAnyT_quiet (i:=19) (v:=undef) rfl (by kernel_rfl) (by kernel_rfl) (by kernel_rfl) (fun _ _ _ h=>h) (Or.inr ⟨by rfl,rfl⟩) ?_
          try simp only[Act.put,List.setIfInBounds_toArray,List.set_cons_zero,List.set_cons_succ]
          refine wpAnyT_quiet (i:=20) (v:=undef) rfl (by kernel_rfl) (by kernel_rfl) (by kernel_rfl) (fun _ _ _ h=>h) (Or.inr ⟨by rfl,rfl⟩) ?_
          try simp only[Act.put,List.setIfInBounds_toArray,List.set_cons_zero,List.set_cons_succ]
          refine wpAnyT_quiet (i:=21) (v:=undef) rfl (by kernel_rfl) (by kernel_rfl) (by kernel_rfl) (fun _ _ _ h=>h) (Or.inr ⟨by rfl,rfl⟩) ?_
          try simp only[Act.put,List.setIfInBounds_toArray,List.set_cons_zero,List.set_cons_succ]
          refine wpAnyT_quiet (i:=22) (v:=undef) rfl (by kernel_rfl) (by kernel_rfl) (by kernel_rfl) (fun _ _ _ h=>h) (Or.inr ⟨by rfl,rfl⟩) ?_
          try simp only[Act.put,List.setIfInBounds_toArray,List.set_cons_zero,List.set_cons_succ]
          refine wpAnyT_quiet (i:=23) (v:=undef) rfl (by kernel_rfl) (by kernel_rfl) (by kernel_rfl) (fun _ _ _ h=>h) (Or.inr ⟨by rfl,rfl⟩) ?_
          try simp only[Act.put,List.setIfInBounds_toArray,List.set_cons_zero,List.set_cons_succ]
          refine wpAnyT_quiet (i:=24) (v:=undef) rfl (by kernel_rfl) (by kernel_rfl) (by kernel_rfl) (fun _ _ _ h=>h) (Or.inr ⟨by rfl,rfl⟩) ?_
          try simp only[Act.put,List.setIfInBounds_toArray,List.set_cons_zero,List.set_cons_succ]
          refine wpAnyT_quiet (i:=25) (v:=undef) rfl (by kernel_rfl) (by kernel_rfl) (by kernel_rfl) (fun _ _ _ h=>h) (Or.inr ⟨by rfl,rfl⟩) ?_
          try simp only[Act.put,List.setIfInBounds_toArray,List.set_cons_zero,List.set_cons_succ]
          refine wpAnyT_quiet (i:=26) (v:=undef) rfl (by kernel_rfl) (by kernel_rfl) (by kernel_rfl) (fun _ _ _ h=>h) (Or.inr ⟨by rfl,rfl⟩) ?_
          try simp only[Act.put,List.setIfInBounds_toArray,List.set_cons_zero,List.set_cons_succ]
          refine wpAnyT_quiet (i:=27) (v:=undef) rfl (by kernel_rfl) (by kernel_rfl) (by kernel_rfl) (fun _ _ _ h=>h) (Or.inr ⟨by rfl,rfl⟩) ?_
          try simp only[Act.put,List.setIfInBounds_toArray,List.set_cons_zero,List.set_cons_succ]
          refine wpAnyT_quiet (i:=28) (v:=undef) rfl (by kernel_rfl) (by kernel_rfl) (by kernel_rfl) (fun _ _ _ h=>h) (Or.inr ⟨by rfl,rfl⟩) ?_
          try simp only[Act.put,List.setIfInBounds_toArray,List.set_cons_zero,List.set_cons_succ]
          refine wpAnyT_quiet (i:=29) (v:=undef) rfl (by kernel_rfl) (by kernel_rfl) (by kernel_rfl) (fun _ _ _ h=>h) (Or.inr ⟨by rfl,rfl⟩) ?_
          try simp only[Act.put,List.setIfInBounds_toArray,List.set_cons_zero,List.set_cons_succ]
          refine wpAnyT_quiet (i:=30) (v:=undef) rfl (by kernel_rfl) (by kernel_rfl) (by kernel_rfl) (fun _ _ _ h=>h) (Or.inr ⟨by rfl,rfl⟩) ?_
          try simp only[Act.put,List.setIfInBounds_toArray,List.set_cons_zero,List.set_cons_succ]
          refine wpAnyT_quiet (i:=31) (v:=undef) rfl (by kernel_rfl) (by kernel_rfl) (by kernel_rfl) (fun _ _ _ h=>h) (Or.inr ⟨by rfl,rfl⟩) ?_
          try simp only[Act.put,List.setIfInBounds_toArray,List.set_cons_zero,List.set_cons_succ]
          refine wpAnyT_quiet (i:=32) (v:=undef) rfl (by kernel_rfl) (by kernel_rfl) (by kernel_rfl) (fun _ _ _ h=>h) (Or.inr ⟨by rfl,rfl⟩) ?_
          try simp only[Act.put,List.setIfInBounds_toArray,List.set_cons_zero,List.set_cons_succ]
          refine wpAnyT_quiet (i:=33) (v:=undef) rfl (by kernel_rfl) (by kernel_rfl) (by kernel_rfl) (fun _ _ _ h=>h) (Or.inr ⟨by rfl,rfl⟩) ?_
          try simp only[Act.put,List.setIfInBounds_toArray,List.set_cons_zero,List.set_cons_succ]
          refine wpAnyT_quiet (i:=34) (v:=undef) rfl (by kernel_rfl) (by kernel_rfl) (by kernel_rfl) (fun _ _ _ h=>h) (Or.inr ⟨by rfl,rfl⟩) ?_
          try simp only[Act.put,List.setIfInBounds_toArray,List.set_cons_zero,List.set_cons_succ]
          refine wpAnyT_quiet (i:=35) (v:=undef) rfl (by kernel_rfl) (by kernel_rfl) (by kernel_rfl) (fun _ _ _ h=>h) (Or.inr ⟨by rfl,rfl⟩) ?_
          try simp only[Act.put,List.setIfInBounds_toArray,List.set_cons_zero,List.set_cons_succ]
          refine wpAnyT_quiet (i:=36) (v:=undef) rfl (by kernel_rfl) (by kernel_rfl) (by kernel_rfl) (fun _ _ _ h=>h) (Or.inr ⟨by rfl,rfl⟩) ?_
          try simp only[Act.put,List.setIfInBounds_toArray,List.set_cons_zero,List.set_cons_succ]
          refine wpAnyT_quiet (i:=37) (v:=undef) rfl (by kernel_rfl) (by kernel_rfl) (by kernel_rfl) (fun _ _ _ h=>h) (Or.inr ⟨by rfl,rfl⟩) ?_
          try simp only[Act.put,List.setIfInBounds_toArray,List.set_cons_zero,List.set_cons_succ]
          refine wpAnyT_quiet (i:=38) (v:=undef) rfl (by kernel_rfl) (by kernel_rfl) (by kernel_rfl) (fun _ _ _ h=>h) (Or.inr ⟨by rfl,rfl⟩) ?_
          try simp only[Act.put,List.setIfInBounds_toArray,List.set_cons_zero,List.set_cons_succ]
          refine wpAnyT_quiet (i:=39) (v:=undef) rfl (by kernel_rfl) (by kernel_rfl) (by kernel_rfl) (fun _ _ _ h=>h) (Or.inr ⟨by rfl,rfl⟩) ?_
          try simp only[Act.put,List.setIfInBounds_toArray,List.set_cons_zero,List.set_cons_succ]
          refine wpAnyT_quiet (i:=40) (v:=?_) rfl (by kernel_rfl) (by kernel_rfl) (by kernel_rfl) (fun _ _ _ h=>h) (Or.inl ⟨by rfl,?_⟩) ?_
          rotate_left
          ·(intro w;go_simp;try with_reducible rfl)
          try simp only[Act.put,List.setIfInBounds_toArray,List.set_cons_zero,List.set_cons_succ]
          refine wpAnyT_done (by kernel_rfl) ?_ _
          clear hS0 hS3
          go_wp2_with fail
          go_roundw
          case rel => exact⟨k+1,by omega,by go_num,by rw[HNN.out];exact hideI (HLP.out.kept HB3.out),hideI (HBr.out.trans ((HB3.out:Below wr.heap.size wr _).mono hGr))⟩
          case measure => simp[intOf];omega
         ·exact AllReadyT.nil
        | true =>
         by_cases ham:a=-1
         ·subst ham
          have HNN:Hid (arM ls i (k+1)=(k:Int)):=HN.out true (by rw[HLB2.out];rfl)
          have hS0:=HSS.out wr (Below.refl _ _)
          refine wp_region_late (by kernel_rfl) (fun W'=>W'.cell? ⟨g,i*5,none⟩=some (.int .i64 (hx:Int))∧W'.cell? ⟨g,i*5+1,none⟩=some (.slice A1 nx c1)∧W'.cell? ⟨g,i*5+2,none⟩=some b2∧W'.cell? ⟨g,i*5+3,none⟩=some b3∧W'.cell? ⟨g,i*5+4,none⟩=some (.int .i64 (-1))∧W'.cell? ⟨g,k*5,none⟩=some (.int .i64 (hy:Int))∧W'.cell? ⟨g,k*5+1,none⟩=some (.slice A2 ny c2)∧W'.cell? ⟨g,k*5+2,none⟩=some d2∧W'.cell? ⟨g,k*5+3,none⟩=some d3∧W'.cell? ⟨g,k*5+4,none⟩=some (.int .i64 py)) [] ?_
          refine wpAnyT_quiet (i:=0) (v:=?_) rfl (by kernel_rfl) (by kernel_rfl) (by kernel_rfl) (fun _ _ _ h=>h) (Or.inl ⟨by rfl,?_⟩) ?_
          rotate_left
          ·(intro w;go_simp;try with_reducible rfl)
          try simp only[Act.put,List.setIfInBounds_toArray,List.set_cons_zero,List.set_cons_succ]
          refine wpAnyT_quiet (i:=1) (v:=?_) rfl (by kernel_rfl) (by kernel_rfl) (by kernel_rfl) (fun _ _ _ h=>h) (Or.inl ⟨by rfl,?_⟩) ?_
          rotate_left
          ·(intro w;go_simp;try with_reducible rfl)
          try simp only[Act.put,List.setIfInBounds_toArray,List.set_cons_zero,List.set_cons_succ]
          refine wpAnyT_quiet (i:=2) (v:=?_) rfl (by kernel_rfl) (by kernel_rfl) (by kernel_rfl) (fun _ _ _ h=>h) (Or.inl ⟨by rfl,?_⟩) ?_
          rotate_left
          ·(intro w;go_simp;try with_reducible rfl)
          try simp only[Act.put,List.setIfInBounds_toArray,List.set_cons_zero,List.set_cons_succ]
          refine wpAnyT_quiet (i:=3) (v:=?_) rfl (by kernel_rfl) (by kernel_rfl) (by kernel_rfl) (fun _ _ _ h=>h) (Or.inl ⟨by rfl,?_⟩) ?_
          rotate_left
          ·(intro w;go_simp;try with_reducible rfl)
          try simp only[Act.put,List.setIfInBounds_toArray,List.set_cons_zero,List.set_cons_succ]
          refine wpAnyT_quiet (i:=4) (v:=?_) rfl (by kernel_rfl) (by kernel_rfl) (by kernel_rfl) (fun _ _ _ h=>h) (Or.inl ⟨by rfl,?_⟩) ?_
          rotate_left
          ·(intro w;go_simp;try with_reducible rfl)
          try simp only[Act.put,List.setIfInBounds_toArray,List.set_cons_zero,List.set_cons_succ]
          refine wpAnyT_quiet (i:=5) (v:=?_) rfl (by kernel_rfl) (by kernel_rfl) (by kernel_rfl) (fun _ _ _ h=>h) (Or.inl ⟨by rfl,?_⟩) ?_
          rotate_left
          ·(intro w;go_simp;try with_reducible rfl)
          try simp only[Act.put,List.setIfInBounds_toArray,List.set_cons_zero,List.set_cons_succ]
          refine wpAnyT_quiet (i:=6) (v:=?_) rfl (by kernel_rfl) (by kernel_rfl) (by kernel_rfl) (fun _ _ _ h=>h) (Or.inl ⟨by rfl,?_⟩) ?_
          rotate_left
          ·(intro w;go_simp;try with_reducible rfl)
          try simp only[Act.put,List.setIfInBounds_toArray,List.set_cons_zero,List.set_cons_succ]
          refine wpAnyT_take [] (i:=7) (v:=?_) rfl (by kernel_rfl) (by kernel_rfl) (by kernel_rfl) (by kernel_rfl) (by kernel_rfl) (by kernel_rfl) (fun _ _ _ h=>h) hS0 (Or.inl ⟨by rfl,?_⟩) ?_
          rotate_left
          ·(intro w hSw;go_split_ands;go_simp;try with_reducible rfl)
          try simp only[Act.put,List.setIfInBounds_toArray,List.set_cons_zero,List.set_cons_succ]
          refine wpAnyT_quiet (i:=8) (v:=?_) rfl (by kernel_rfl) (by kernel_rfl) (by kernel_rfl) (fun _ _ _ h=>h) (Or.inl ⟨by rfl,?_⟩) ?_
          rotate_left
          ·(intro w;go_simp;try with_reducible rfl)
          try simp only[Act.put,List.setIfInBounds_toArray,List.set_cons_zero,List.set_cons_succ]
          refine wpAnyT_quiet (i:=9) (v:=?_) rfl (by kernel_rfl) (by kernel_rfl) (by kernel_rfl) (fun _ _ _ h=>h) (Or.inl ⟨by rfl,?_⟩) ?_
          rotate_left
          ·(intro w;go_simp;try with_reducible rfl)
          try simp only[Act.put,List.setIfInBounds_toArray,List.set_cons_zero,List.set_cons_succ]
          refine wpAnyT_quiet (i:=10) (v:=?_) rfl (by kernel_rfl) (by kernel_rfl) (by kernel_rfl) (fun _ _ _ h=>h) (Or.inl ⟨by rfl,?_⟩) ?_
          rotate_left
          ·(intro w;go_simp;try with_reducible rfl)
          try simp only[Act.put,List.setIfInBounds_toArray,List.set_cons_zero,List.set_cons_succ]
          refine wpAnyT_take [] (i:=11) (v:=?_) rfl (by kernel_rfl) (by kernel_rfl) (by kernel_rfl) (by kernel_rfl) (by kernel_rfl) (by kernel_rfl) (fun _ _ _ h=>h) hS0 (Or.inl ⟨by rfl,?_⟩) ?_
          rotate_left
          ·(intro w hSw;go_split_ands;go_simp;try with_reducible rfl)
          try simp only[Act.put,List.setIfInBounds_toArray,List.set_cons_zero,List.set_cons_succ]
          refine wpAnyT_ready (rs:=[12]) (by kernel_rfl) (by simp) ?_
          refine AllReadyT.cons rfl (fun K hK=>?_) ?_
          ·go_simp
           refine HWC.out.mono ?_
           rintro e w3 ⟨rfl,hb3d⟩
           have hb3:Below wr.heap.size wr w3:=⟨hb3d.os,hb3d.tape,hb3d.output,hb3d.size,hb3d.block⟩
           have HB3:=hideI hb3
           have hS3:=HSS.out _ HB3.out
           refine hK.out _ _ (fun _ _=>HSS.out _ HB3.out) ?_
           clear hK K hb3d hb3
           try simp only[Act.put,List.setIfInBounds_toArray,List.set_cons_zero,List.set_cons_succ]
           refine wpAnyT_quiet (i:=13) (v:=?_) rfl (by kernel_rfl) (by kernel_rfl) (by kernel_rfl) (fun _ _ _ h=>h) (Or.inl ⟨by rfl,?_⟩) ?_
           rotate_left
           ·(intro w;go_simp;try with_reducible rfl)
           try simp only[Act.put,List.setIfInBounds_toArray,List.set_cons_zero,List.set_cons_succ]
           refine wpAnyT_quiet (i:=14) (v:=?_) rfl (by kernel_rfl) (by kernel_rfl) (by kernel_rfl) (fun _ _ _ h=>h) (Or.inl ⟨by rfl,?_⟩) ?_
           rotate_left
           ·(intro w;go_simp;try with_reducible rfl)
           try simp only[Act.put,List.setIfInBounds_toArray,List.set_cons_zero,List.set_cons_succ]
           refine wpAnyT_quiet (i:=15) (v:=?_) rfl (by kernel_rfl) (by kernel_rfl) (by kernel_rfl) (fun _ _ _ h=>h) (Or.inl ⟨by rfl,?_⟩) ?_
           rotate_left
           ·(intro w;go_simp;try with_reducible rfl)
           try simp only[Act.put,List.setIfInBounds_toArray,List.set_cons_zero,List.set_cons_succ]
           refine wpAnyT_quiet (i:=16) (v:=?_) rfl (by kernel_rfl) (by kernel_rfl) (by kernel_rfl) (fun _ _ _ h=>h) (Or.inl ⟨by rfl,?_⟩) ?_
           rotate_left
           ·(intro w;go_simp;try with_reducible rfl)
           try simp only[Act.put,List.setIfInBounds_toArray,List.set_cons_zero,List.set_cons_succ]
           refine wpAnyT_quiet (i:=17) (v:=?_) rfl (by kernel_rfl) (by kernel_rfl) (by kernel_rfl) (fun _ _ _ h=>h) (Or.inl ⟨by rfl,?_⟩) ?_
           rotate_left
           ·(intro w;go_simp;try with_reducible rfl)
           try simp only[Act.put,List.setIfInBounds_toArray,List.set_cons_zero,List.set_cons_succ]
           refine wpAnyT_quiet (i:=18) (v:=?_) rfl (by kernel_rfl) (by kernel_rfl) (by kernel_rfl) (fun _ _ _ h=>h) (Or.inl ⟨by rfl,?_⟩) ?_
           rotate_left
           ·(intro w;go_simp;try with_reducible rfl)
           try simp only[Act.put,List.setIfInBounds_toArray,List.set_cons_zero,List.set_cons_succ]
           refine wpAnyT_take [] (i:=19) (v:=?_) rfl (by kernel_rfl) (by kernel_rfl) (by kernel_rfl) (by kernel_rfl) (by kernel_rfl) (by kernel_rfl) (fun _ _ _ h=>h) hS3 (Or.inl ⟨by rfl,?_⟩) ?_
           rotate_left
           ·(intro w hSw;go_split_ands;go_simp;try with_reducible rfl)
           try simp only[Act.put,List.setIfInBounds_toArray,List.set_cons_zero,List.set_cons_succ]
           refine wpAnyT_quiet (i:=20) (v:=?_) rfl (by kernel_rfl) (by kernel_rfl) (by kernel_rfl) (fun _ _ _ h=>h) (Or.inl ⟨by rfl,?_⟩) ?_
           rotate_left
           ·(intro w;go_simp;try with_reducible rfl)
           try simp only[Act.put,List.setIfInBounds_toArray,List.set_cons_zero,List.set_cons_succ]
           refine wpAnyT_quiet (i:=21) (v:=?_) rfl (by kernel_rfl) (by kernel_rfl) (by kernel_rfl) (fun _ _ _ h=>h) (Or.inl ⟨by rfl,?_⟩) ?_
           rotate_left
           ·(intro w;go_simp;try with_reducible rfl)
           try simp only[Act.put,List.setIfInBounds_toArray,List.set_cons_zero,List.set_cons_succ]
           refine wpAnyT_quiet (i:=22) (v:=undef) rfl (by kernel_rfl) (by kernel_rfl) (by kernel_rfl) (fun _ _ _ h=>h) (Or.inr ⟨by rfl,rfl⟩) ?_
           try simp only[Act.put,List.setIfInBounds_toArray,List.set_cons_zero,List.set_cons_succ]
           refine wpAnyT_quiet (i:=23) (v:=undef) rfl (by kernel_rfl) (by kernel_rfl) (by kernel_rfl) (fun _ _ _ h=>h) (Or.inr ⟨by rfl,rfl⟩) ?_
           try simp only[Act.put,List.setIfInBounds_toArray,List.set_cons_zero,List.set_cons_succ]
           refine wpAnyT_quiet (i:=24) (v:=undef) rfl (by kernel_rfl) (by kernel_rfl) (by kernel_rfl) (fun _ _ _ h=>h) (Or.inr ⟨by rfl,rfl⟩) ?_
           try simp only[Act.put,List.setIfInBounds_toArray,List.set_cons_zero,List.set_cons_succ]
           refine wpAnyT_quiet (i:=25) (v:=undef) rfl (by kernel_rfl) (by kernel_rfl) (by kernel_rfl) (fun _ _ _ h=>h) (Or.inr ⟨by rfl,rfl⟩) ?_
           try simp only[Act.put,List.setIfInBounds_toArray,List.set_cons_zero,List.set_cons_succ]
           refine wpAnyT_quiet (i:=26) (v:=undef) rfl (by kernel_rfl) (by kernel_rfl) (by kernel_rfl) (fun _ _ _ h=>h) (Or.inr ⟨by rfl,rfl⟩) ?_
           try simp only[Act.put,List.setIfInBounds_toArray,List.set_cons_zero,List.set_cons_succ]
           refine wpAnyT_quiet (i:=27) (v:=undef) rfl (by kernel_rfl) (by kernel_rfl) (by kernel_rfl) (fun _ _ _ h=>h) (Or.inr ⟨by rfl,rfl⟩) ?_
           try simp only[Act.put,List.setIfInBounds_toArray,List.set_cons_zero,List.set_cons_succ]
           refine wpAnyT_quiet (i:=28) (v:=undef) rfl (by kernel_rfl) (by kernel_rfl) (by kernel_rfl) (fun _ _ _ h=>h) (Or.inr ⟨by rfl,rfl⟩) ?_
           try simp only[Act.put,List.setIfInBounds_toArray,List.set_cons_zero,List.set_cons_succ]
           refine wpAnyT_quiet (i:=29) (v:=undef) rfl (by kernel_rfl) (by kernel_rfl) (by kernel_rfl) (fun _ _ _ h=>h) (Or.inr ⟨by rfl,rfl⟩) ?_
           try simp only[Act.put,List.setIfInBounds_toArray,List.set_cons_zero,List.set_cons_succ]
           refine wpAnyT_quiet (i:=30) (v:=undef) rfl (by kernel_rfl) (by kernel_rfl) (by kernel_rfl) (fun _ _ _ h=>h) (Or.inr ⟨by rfl,rfl⟩) ?_
           try simp only[Act.put,List.setIfInBounds_toArray,List.set_cons_zero,List.set_cons_succ]
           refine wpAnyT_quiet (i:=31) (v:=undef) rfl (by kernel_rfl) (by kernel_rfl) (by kernel_rfl) (fun _ _ _ h=>h) (Or.inr ⟨by rfl,rfl⟩) ?_
           try simp only[Act.put,List.setIfInBounds_toArray,List.set_cons_zero,List.set_cons_succ]
           refine wpAnyT_quiet (i:=32) (v:=undef) rfl (by kernel_rfl) (by kernel_rfl) (by kernel_rfl) (fun _ _ _ h=>h) (Or.inr ⟨by rfl,rfl⟩) ?_
           try simp only[Act.put,List.setIfInBounds_toArray,List.set_cons_zero,List.set_cons_succ]
           refine wpAnyT_quiet (i:=33) (v:=undef) rfl (by kernel_rfl) (by kernel_rfl) (by kernel_rfl) (fun _ _ _ h=>h) (Or.inr ⟨by rfl,rfl⟩) ?_
           try simp only[Act.put,List.setIfInBounds_toArray,List.set_cons_zero,List.set_cons_succ]
           refine wpAnyT_quiet (i:=34) (v:=undef) rfl (by kernel_rfl) (by kernel_rfl) (by kernel_rfl) (fun _ _ _ h=>h) (Or.inr ⟨by rfl,rfl⟩) ?_
           try simp only[Act.put,List.setIfInBounds_toArray,List.set_cons_zero,List.set_cons_succ]
           refine wpAnyT_quiet (i:=35) (v:=undef) rfl (by kernel_rfl) (by kernel_rfl) (by kernel_rfl) (fun _ _ _ h=>h) (Or.inr ⟨by rfl,rfl⟩) ?_
           try simp only[Act.put,List.setIfInBounds_toArray,List.set_cons_zero,List.set_cons_succ]
           refine wpAnyT_quiet (i:=36) (v:=undef) rfl (by kernel_rfl) (by kernel_rfl) (by kernel_rfl) (fun _ _ _ h=>h) (Or.inr ⟨by rfl,rfl⟩) ?_
           try simp only[Act.put,List.setIfInBounds_toArray,List.set_cons_zero,List.set_cons_succ]
           refine wpAnyT_quiet (i:=37) (v:=undef) rfl (by kernel_rfl) (by kernel_rfl) (by kernel_rfl) (fun _ _ _ h=>h) (Or.inr ⟨by rfl,rfl⟩) ?_
           try simp only[Act.put,List.setIfInBounds_toArray,List.set_cons_zero,List.set_cons_succ]
           refine wpAnyT_quiet (i:=38) (v:=undef) rfl (by kernel_rfl) (by kernel_rfl) (by kernel_rfl) (fun _ _ _ h=>h) (Or.inr ⟨by rfl,rfl⟩) ?_
           try simp only[Act.put,List.setIfInBounds_toArray,List.set_cons_zero,List.set_cons_succ]
           refine wpAnyT_quiet (i:=39) (v:=?_) rfl (by kernel_rfl) (by kernel_rfl) (by kernel_rfl) (fun _ _ _ h=>h) (Or.inl ⟨by rfl,?_⟩) ?_
           rotate_left
           ·(intro w;go_simp;try with_reducible rfl)
           try simp only[Act.put,List.setIfInBounds_toArray,List.set_cons_zero,List.set_cons_succ]
           refine wpAnyT_quiet (i:=40) (v:=?_) rfl (by kernel_rfl) (by kernel_rfl) (by kernel_rfl) (fun _ _ _ h=>h) (Or.inl ⟨by rfl,?_⟩) ?_
           rotate_left
           ·(intro w;go_simp;try with_reducible rfl)
           try simp only[Act.put,List.setIfInBounds_toArray,List.set_cons_zero,List.set_cons_succ]
           refine wpAnyT_done (by kernel_rfl) ?_ _
           clear hS0 hS3
           have z43:w3.frozen? ⟨g,i*5+4,none⟩=false:=(HLP.out.kept HB3.out).free _
           have r43:=(HSS.out _ HB3.out).2.2.2.2.1
           have HL4:Hid (LoopsR (w3.setCell ⟨g,i*5+4,none⟩ (.int .i64 (k:Int))) G0 (.slice (some ⟨g,0,none⟩) ls.length cv) (parAt ls i (k:Int))):=by
            show LoopsR _ _ _ _
            have h1:LoopsR w3 G0 (.slice (some ⟨g,0,none⟩) (parAt ls i (-1)).length cv) (parAt ls i (-1)):=by rw[parAt_len];exact HLP.out.kept HB3.out
            have h2:=h1.parent (p:=(k:Int)) HXI.out
            rw[parAt_len,parAt_set hlti]at h2
            exact h2
           have HB4:Hid (Below G0 w2 (w3.setCell ⟨g,i*5+4,none⟩ (.int .i64 (k:Int)))):=(HBr.out.trans (HB3.out.mono hGr)).setCell hgb _
           go_wp2_with fail
           go_roundw
           case rel => exact⟨k+1,by omega,by go_num,by rw[HNN.out];exact HL4,HB4⟩
           case measure => simp[intOf];omega
          ·exact AllReadyT.nil
         ·obtain⟨j,rfl,hjk,hji,_⟩:=HRG.out.resolve_left ham
          have hjl:j<ls.length:=by omega
          obtain⟨z,hz0,_,hzb⟩:=parAt_get (a:=(j:Int)) (i:=i) hjl
          obtain⟨f1,_,_,_,_,j1,_,_,_,v1,_,_,_⟩:=HLP.out.row_at (parAt_len ls i _).symm hz0
          obtain⟨AZ,cz,rfl⟩:=own_sl v1.1
          obtain⟨nz,hnz⟩:∃ nz,nz=z.blocks.length:=⟨_,rfl⟩
          rw[← hnz]at j1
          have hnz':nz=(ls.getD j noLp).blocks.length:=by rw[hnz,hzb]
          have hnz5:nz≤512:=by
           rw[hnz',List.getD_eq_getElem?_getD,List.getElem?_eq_getElem hjl]
           exact(HRS.out _ (List.getElem_mem hjl)).2
          have HLB3:Hid (lessB ls i (j:Int) k=decide (ny<nz)):=by
           show _=_
           rw[HLB2.out,Int.toNat_natCast,← hnz',decide_eq_false ham]
           simp
          have HS4:Hid (∀ W',Below wr.heap.size wr W'→W'.cell? ⟨g,i*5,none⟩=some (.int .i64 (hx:Int))∧W'.cell? ⟨g,i*5+1,none⟩=some (.slice A1 nx c1)∧W'.cell? ⟨g,i*5+2,none⟩=some b2∧W'.cell? ⟨g,i*5+3,none⟩=some b3∧W'.cell? ⟨g,i*5+4,none⟩=some (.int .i64 ((j:Nat):Int))∧W'.cell? ⟨g,k*5,none⟩=some (.int .i64 (hy:Int))∧W'.cell? ⟨g,k*5+1,none⟩=some (.slice A2 ny c2)∧W'.cell? ⟨g,k*5+2,none⟩=some d2∧W'.cell? ⟨g,k*5+3,none⟩=some d3∧W'.cell? ⟨g,k*5+4,none⟩=some (.int .i64 py)∧W'.cell? ⟨g,j*5+1,none⟩=some (.slice AZ nz cz)):=fun W' hW'=>by
           obtain⟨a0,a1,a2,a3,a4,a5,a6,a7,a8,a9⟩:=HSS.out W' hW'
           exact⟨a0,a1,a2,a3,a4,a5,a6,a7,a8,a9,(hW'.cell (p:=⟨g,j*5+1,none⟩) hgl).trans j1⟩
          have hS0:=HS4.out wr (Below.refl _ _)
          clear ham hz0 hzb v1 hnz hnz' j1
          refine wp_region_late (by kernel_rfl) (fun W'=>W'.cell? ⟨g,i*5,none⟩=some (.int .i64 (hx:Int))∧W'.cell? ⟨g,i*5+1,none⟩=some (.slice A1 nx c1)∧W'.cell? ⟨g,i*5+2,none⟩=some b2∧W'.cell? ⟨g,i*5+3,none⟩=some b3∧W'.cell? ⟨g,i*5+4,none⟩=some (.int .i64 ((j:Nat):Int))∧W'.cell? ⟨g,k*5,none⟩=some (.int .i64 (hy:Int))∧W'.cell? ⟨g,k*5+1,none⟩=some (.slice A2 ny c2)∧W'.cell? ⟨g,k*5+2,none⟩=some d2∧W'.cell? ⟨g,k*5+3,none⟩=some d3∧W'.cell? ⟨g,k*5+4,none⟩=some (.int .i64 py)∧W'.cell? ⟨g,j*5+1,none⟩=some (.slice AZ nz cz)) [] ?_
          refine wpAnyT_quiet (i:=0) (v:=?_) rfl (by kernel_rfl) (by kernel_rfl) (by kernel_rfl) (fun _ _ _ h=>h) (Or.inl ⟨by rfl,?_⟩) ?_
          rotate_left
          ·(intro w;go_simp;try with_reducible rfl)
          try simp only[Act.put,List.setIfInBounds_toArray,List.set_cons_zero,List.set_cons_succ]
          refine wpAnyT_quiet (i:=1) (v:=?_) rfl (by kernel_rfl) (by kernel_rfl) (by kernel_rfl) (fun _ _ _ h=>h) (Or.inl ⟨by rfl,?_⟩) ?_
          rotate_left
          ·(intro w;go_simp;try with_reducible rfl)
          try simp only[Act.put,List.setIfInBounds_toArray,List.set_cons_zero,List.set_cons_succ]
          refine wpAnyT_quiet (i:=2) (v:=?_) rfl (by kernel_rfl) (by kernel_rfl) (by kernel_rfl) (fun _ _ _ h=>h) (Or.inl ⟨by rfl,?_⟩) ?_
          rotate_left
          ·(intro w;go_simp;try with_reducible rfl)
          try simp only[Act.put,List.setIfInBounds_toArray,List.set_cons_zero,List.set_cons_succ]
          refine wpAnyT_quiet (i:=3) (v:=?_) rfl (by kernel_rfl) (by kernel_rfl) (by kernel_rfl) (fun _ _ _ h=>h) (Or.inl ⟨by rfl,?_⟩) ?_
          rotate_left
          ·(intro w;go_simp;try with_reducible rfl)
          try simp only[Act.put,List.setIfInBounds_toArray,List.set_cons_zero,List.set_cons_succ]
          refine wpAnyT_quiet (i:=4) (v:=?_) rfl (by kernel_rfl) (by kernel_rfl) (by kernel_rfl) (fun _ _ _ h=>h) (Or.inl ⟨by rfl,?_⟩) ?_
          rotate_left
          ·(intro w;go_simp;try with_reducible rfl)
          try simp only[Act.put,List.setIfInBounds_toArray,List.set_cons_zero,List.set_cons_succ]
          refine wpAnyT_quiet (i:=5) (v:=?_) rfl (by kernel_rfl) (by kernel_rfl) (by kernel_rfl) (fun _ _ _ h=>h) (Or.inl ⟨by rfl,?_⟩) ?_
          rotate_left
          ·(intro w;go_simp;try with_reducible rfl)
          try simp only[Act.put,List.setIfInBounds_toArray,List.set_cons_zero,List.set_cons_succ]
          refine wpAnyT_quiet (i:=6) (v:=?_) rfl (by kernel_rfl) (by kernel_rfl) (by kernel_rfl) (fun _ _ _ h=>h) (Or.inl ⟨by rfl,?_⟩) ?_
          rotate_left
          ·(intro w;go_simp;try with_reducible rfl)
          try simp only[Act.put,List.setIfInBounds_toArray,List.set_cons_zero,List.set_cons_succ]
          refine wpAnyT_take [] (i:=7) (v:=?_) rfl (by kernel_rfl) (by kernel_rfl) (by kernel_rfl) (by kernel_rfl) (by kernel_rfl) (by kernel_rfl) (fun _ _ _ h=>h) hS0 (Or.inl ⟨by rfl,?_⟩) ?_
          rotate_left
          ·(intro w hSw;go_split_ands;go_simp;try with_reducible rfl)
          try simp only[Act.put,List.setIfInBounds_toArray,List.set_cons_zero,List.set_cons_succ]
          refine wpAnyT_quiet (i:=8) (v:=?_) rfl (by kernel_rfl) (by kernel_rfl) (by kernel_rfl) (fun _ _ _ h=>h) (Or.inl ⟨by rfl,?_⟩) ?_
          rotate_left
          ·(intro w;go_simp;try with_reducible rfl)
          try simp only[Act.put,List.setIfInBounds_toArray,List.set_cons_zero,List.set_cons_succ]
          refine wpAnyT_quiet (i:=9) (v:=?_) rfl (by kernel_rfl) (by kernel_rfl) (by kernel_rfl) (fun _ _ _ h=>h) (Or.inl ⟨by rfl,?_⟩) ?_
          rotate_left
          ·(intro w;go_simp;try with_reducible rfl)
          try simp only[Act.put,List.setIfInBounds_toArray,List.set_cons_zero,List.set_cons_succ]
          refine wpAnyT_quiet (i:=10) (v:=?_) rfl (by kernel_rfl) (by kernel_rfl) (by kernel_rfl) (fun _ _ _ h=>h) (Or.inl ⟨by rfl,?_⟩) ?_
          rotate_left
          ·(intro w;go_simp;try with_reducible rfl)
          try simp only[Act.put,List.setIfInBounds_toArray,List.set_cons_zero,List.set_cons_succ]
          refine wpAnyT_take [] (i:=11) (v:=?_) rfl (by kernel_rfl) (by kernel_rfl) (by kernel_rfl) (by kernel_rfl) (by kernel_rfl) (by kernel_rfl) (fun _ _ _ h=>h) hS0 (Or.inl ⟨by rfl,?_⟩) ?_
          rotate_left
          ·(intro w hSw;go_split_ands;go_simp;try with_reducible rfl)
          try simp only[Act.put,List.setIfInBounds_toArray,List.set_cons_zero,List.set_cons_succ]
          refine wpAnyT_ready (rs:=[12]) (by kernel_rfl) (by simp) ?_
          refine AllReadyT.cons rfl (fun K hK=>?_) ?_
          ·go_simp
           refine HWC.out.mono ?_
           rintro e w3 ⟨rfl,hb3d⟩
           have hb3:Below wr.heap.size wr w3:=⟨hb3d.os,hb3d.tape,hb3d.output,hb3d.size,hb3d.block⟩
           have HB3:=hideI hb3
           have hS3:=HS4.out _ HB3.out
           refine hK.out _ _ (fun _ _=>HS4.out _ HB3.out) ?_
           clear hK K hb3d hb3
           try simp only[Act.put,List.setIfInBounds_toArray,List.set_cons_zero,List.set_cons_succ]
           refine wpAnyT_quiet (i:=13) (v:=?_) rfl (by kernel_rfl) (by kernel_rfl) (by kernel_rfl) (fun _ _ _ h=>h) (Or.inl ⟨by rfl,?_⟩) ?_
           rotate_left
           ·(intro w;go_simp;try with_reducible rfl)
           try simp only[Act.put,List.setIfInBounds_toArray,List.set_cons_zero,List.set_cons_succ]
           refine wpAnyT_quiet (i:=14) (v:=?_) rfl (by kernel_rfl) (by kernel_rfl) (by kernel_rfl) (fun _ _ _ h=>h) (Or.inl ⟨by rfl,?_⟩) ?_
           rotate_left
           ·(intro w;go_simp;try with_reducible rfl)
           try simp only[Act.put,List.setIfInBounds_toArray,List.set_cons_zero,List.set_cons_succ]
           refine wpAnyT_quiet (i:=15) (v:=?_) rfl (by kernel_rfl) (by kernel_rfl) (by kernel_rfl) (fun _ _ _ h=>h) (Or.inl ⟨by rfl,?_⟩) ?_
           rotate_left
           ·(intro w;go_simp;try with_reducible rfl)
           try simp only[Act.put,List.setIfInBounds_toArray,List.set_cons_zero,List.set_cons_succ]
           refine wpAnyT_quiet (i:=16) (v:=?_) rfl (by kernel_rfl) (by kernel_rfl) (by kernel_rfl) (fun _ _ _ h=>h) (Or.inl ⟨by rfl,?_⟩) ?_
           rotate_left
           ·(intro w;go_simp;try with_reducible rfl)
           try simp only[Act.put,List.setIfInBounds_toArray,List.set_cons_zero,List.set_cons_succ]
           refine wpAnyT_quiet (i:=17) (v:=?_) rfl (by kernel_rfl) (by kernel_rfl) (by kernel_rfl) (fun _ _ _ h=>h) (Or.inl ⟨by rfl,?_⟩) ?_
           rotate_left
           ·(intro w;go_simp;try with_reducible rfl)
           try simp only[Act.put,List.setIfInBounds_toArray,List.set_cons_zero,List.set_cons_succ]
           refine wpAnyT_quiet (i:=18) (v:=?_) rfl (by kernel_rfl) (by kernel_rfl) (by kernel_rfl) (fun _ _ _ h=>h) (Or.inl ⟨by rfl,?_⟩) ?_
           rotate_left
           ·(intro w;go_simp;try with_reducible rfl)
           try simp only[Act.put,List.setIfInBounds_toArray,List.set_cons_zero,List.set_cons_succ]
           refine wpAnyT_take [] (i:=19) (v:=?_) rfl (by kernel_rfl) (by kernel_rfl) (by kernel_rfl) (by kernel_rfl) (by kernel_rfl) (by kernel_rfl) (fun _ _ _ h=>h) hS3 (Or.inl ⟨by rfl,?_⟩) ?_
           rotate_left
           ·(intro w hSw;go_split_ands;go_simp;try with_reducible rfl)
           try simp only[Act.put,List.setIfInBounds_toArray,List.set_cons_zero,List.set_cons_succ]
           refine wpAnyT_quiet (i:=20) (v:=?_) rfl (by kernel_rfl) (by kernel_rfl) (by kernel_rfl) (fun _ _ _ h=>h) (Or.inl ⟨by rfl,?_⟩) ?_
           rotate_left
           ·(intro w;go_simp;try with_reducible rfl)
           try simp only[Act.put,List.setIfInBounds_toArray,List.set_cons_zero,List.set_cons_succ]
           refine wpAnyT_quiet (i:=21) (v:=?_) rfl (by kernel_rfl) (by kernel_rfl) (by kernel_rfl) (fun _ _ _ h=>h) (Or.inl ⟨by rfl,?_⟩) ?_
           rotate_left
           ·(intro w;go_simp;try with_reducible rfl)
           try simp only[Act.put,List.setIfInBounds_toArray,List.set_cons_zero,List.set_cons_succ]
           refine wpAnyT_quiet (i:=22) (v:=?_) rfl (by kernel_rfl) (by kernel_rfl) (by kernel_rfl) (fun _ _ _ h=>h) (Or.inl ⟨by rfl,?_⟩) ?_
           rotate_left
           ·(intro w;go_simp;try with_reducible rfl)
           try simp only[Act.put,List.setIfInBounds_toArray,List.set_cons_zero,List.set_cons_succ]
           refine wpAnyT_quiet (i:=23) (v:=?_) rfl (by kernel_rfl) (by kernel_rfl) (by kernel_rfl) (fun _ _ _ h=>h) (Or.inl ⟨by rfl,?_⟩) ?_
           rotate_left
           ·(intro w;go_simp;try with_reducible rfl)
           try simp only[Act.put,List.setIfInBounds_toArray,List.set_cons_zero,List.set_cons_succ]
           refine wpAnyT_quiet (i:=24) (v:=?_) rfl (by kernel_rfl) (by kernel_rfl) (by kernel_rfl) (fun _ _ _ h=>h) (Or.inl ⟨by rfl,?_⟩) ?_
           rotate_left
           ·(intro w;go_simp;try with_reducible rfl)
           try simp only[Act.put,List.setIfInBounds_toArray,List.set_cons_zero,List.set_cons_succ]
           refine wpAnyT_quiet (i:=25) (v:=?_) rfl (by kernel_rfl) (by kernel_rfl) (by kernel_rfl) (fun _ _ _ h=>h) (Or.inl ⟨by rfl,?_⟩) ?_
           rotate_left
           ·(intro w;go_simp;try with_reducible rfl)
           try simp only[Act.put,List.setIfInBounds_toArray,List.set_cons_zero,List.set_cons_succ]
           refine wpAnyT_take [] (i:=26) (v:=?_) rfl (by kernel_rfl) (by kernel_rfl) (by kernel_rfl) (by kernel_rfl) (by kernel_rfl) (by kernel_rfl) (fun _ _ _ h=>h) hS3 (Or.inl ⟨by rfl,?_⟩) ?_
           rotate_left
           ·(intro w hSw;go_split_ands;go_simp;try with_reducible rfl)
           try simp only[Act.put,List.setIfInBounds_toArray,List.set_cons_zero,List.set_cons_succ]
           refine wpAnyT_quiet (i:=27) (v:=?_) rfl (by kernel_rfl) (by kernel_rfl) (by kernel_rfl) (fun _ _ _ h=>h) (Or.inl ⟨by rfl,?_⟩) ?_
           rotate_left
           ·(intro w;go_simp;try with_reducible rfl)
           try simp only[Act.put,List.setIfInBounds_toArray,List.set_cons_zero,List.set_cons_succ]
           refine wpAnyT_quiet (i:=28) (v:=?_) rfl (by kernel_rfl) (by kernel_rfl) (by kernel_rfl) (fun _ _ _ h=>h) (Or.inl ⟨by rfl,?_⟩) ?_
           rotate_left
           ·(intro w;go_simp;try with_reducible rfl)
           try simp only[Act.put,List.setIfInBounds_toArray,List.set_cons_zero,List.set_cons_succ]
           refine wpAnyT_quiet (i:=29) (v:=?_) rfl (by kernel_rfl) (by kernel_rfl) (by kernel_rfl) (fun _ _ _ h=>h) (Or.inl ⟨by rfl,?_⟩) ?_
           rotate_left
           ·(intro w;go_simp;try with_reducible rfl)
           try simp only[Act.put,List.setIfInBounds_toArray,List.set_cons_zero,List.set_cons_succ]
           refine wpAnyT_quiet (i:=30) (v:=?_) rfl (by kernel_rfl) (by kernel_rfl) (by kernel_rfl) (fun _ _ _ h=>h) (Or.inl ⟨by rfl,?_⟩) ?_
           rotate_left
           ·(intro w;go_simp;try with_reducible rfl)
           try simp only[Act.put,List.setIfInBounds_toArray,List.set_cons_zero,List.set_cons_succ]
           refine wpAnyT_quiet (i:=31) (v:=?_) rfl (by kernel_rfl) (by kernel_rfl) (by kernel_rfl) (fun _ _ _ h=>h) (Or.inl ⟨by rfl,?_⟩) ?_
           rotate_left
           ·(intro w;go_simp;try with_reducible rfl)
           try simp only[Act.put,List.setIfInBounds_toArray,List.set_cons_zero,List.set_cons_succ]
           refine wpAnyT_quiet (i:=32) (v:=?_) rfl (by kernel_rfl) (by kernel_rfl) (by kernel_rfl) (fun _ _ _ h=>h) (Or.inl ⟨by rfl,?_⟩) ?_
           rotate_left
           ·(intro w;go_simp;try with_reducible rfl)
           try simp only[Act.put,List.setIfInBounds_toArray,List.set_cons_zero,List.set_cons_succ]
           refine wpAnyT_take [] (i:=33) (v:=?_) rfl (by kernel_rfl) (by kernel_rfl) (by kernel_rfl) (by kernel_rfl) (by kernel_rfl) (by kernel_rfl) (fun _ _ _ h=>h) hS3 (Or.inl ⟨by rfl,?_⟩) ?_
           rotate_left
           ·(intro w hSw;go_split_ands;go_simp;try with_reducible rfl)
           try simp only[Act.put,List.setIfInBounds_toArray,List.set_cons_zero,List.set_cons_succ]
           refine wpAnyT_quiet (i:=34) (v:=?_) rfl (by kernel_rfl) (by kernel_rfl) (by kernel_rfl) (fun _ _ _ h=>h) (Or.inl ⟨by rfl,?_⟩) ?_
           rotate_left
           ·(intro w;go_simp;try with_reducible rfl)
           try simp only[Act.put,List.setIfInBounds_toArray,List.set_cons_zero,List.set_cons_succ]
           refine wpAnyT_quiet (i:=35) (v:=?_) rfl (by kernel_rfl) (by kernel_rfl) (by kernel_rfl) (fun _ _ _ h=>h) (Or.inl ⟨by rfl,?_⟩) ?_
           rotate_left
           ·(intro w;go_simp;try with_reducible rfl)
           try simp only[Act.put,List.setIfInBounds_toArray,List.set_cons_zero,List.set_cons_succ]
           refine wpAnyT_take [] (i:=36) (v:=?_) rfl (by kernel_rfl) (by kernel_rfl) (by kernel_rfl) (by kernel_rfl) (by kernel_rfl) (by kernel_rfl) (fun _ _ _ h=>h) hS3 (Or.inl ⟨by rfl,?_⟩) ?_
           rotate_left
           ·(intro w hSw;go_split_ands;go_simp;try with_reducible rfl)
           try simp only[Act.put,List.setIfInBounds_toArray,List.set_cons_zero,List.set_cons_succ]
           refine wpAnyT_quiet (i:=37) (v:=?_) rfl (by kernel_rfl) (by kernel_rfl) (by kernel_rfl) (fun _ _ _ h=>h) (Or.inl ⟨by rfl,?_⟩) ?_
           rotate_left
           ·(intro w;go_simp;try with_reducible rfl)
           try simp only[Act.put,List.setIfInBounds_toArray,List.set_cons_zero,List.set_cons_succ]
           refine wpAnyT_quiet (i:=38) (v:=?_) rfl (by kernel_rfl) (by kernel_rfl) (by kernel_rfl) (fun _ _ _ h=>h) (Or.inl ⟨by rfl,?_⟩) ?_
           rotate_left
           ·(intro w;go_simp;try with_reducible rfl)
           try simp only[Act.put,List.setIfInBounds_toArray,List.set_cons_zero,List.set_cons_succ]
           refine wpAnyT_quiet (i:=39) (v:=?_) rfl (by kernel_rfl) (by kernel_rfl) (by kernel_rfl) (fun _ _ _ h=>h) (Or.inl ⟨by rfl,?_⟩) ?_
           rotate_left
           ·(intro w;go_simp;try with_reducible rfl)
           try simp only[Act.put,List.setIfInBounds_toArray,List.set_cons_zero,List.set_cons_succ]
           refine wpAnyT_quiet (i:=40) (v:=?_) rfl (by kernel_rfl) (by kernel_rfl) (by kernel_rfl) (fun _ _ _ h=>h) (Or.inl ⟨by rfl,?_⟩) ?_
           rotate_left
           ·(intro w;go_simp;try with_reducible rfl)
           try simp only[Act.put,List.setIfInBounds_toArray,List.set_cons_zero,List.set_cons_succ]
           refine wpAnyT_done (by kernel_rfl) ?_ _
           clear hS0 hS3
           by_cases hlz:ny<nz
           ·have HNN:Hid (arM ls i (k+1)=(k:Int)):=HN.out true (by rw[HLB3.out];exact decide_eq_true hlz)
            have z43:w3.frozen? ⟨g,i*5+4,none⟩=false:=(HLP.out.kept HB3.out).free _
            have r43:=(HSS.out _ HB3.out).2.2.2.2.1
            have HL4:Hid (LoopsR (w3.setCell ⟨g,i*5+4,none⟩ (.int .i64 (k:Int))) G0 (.slice (some ⟨g,0,none⟩) ls.length cv) (parAt ls i (k:Int))):=by
             show LoopsR _ _ _ _
             have h1:LoopsR w3 G0 (.slice (some ⟨g,0,none⟩) (parAt ls i ((j:Nat):Int)).length cv) (parAt ls i ((j:Nat):Int)):=by rw[parAt_len];exact HLP.out.kept HB3.out
             have h2:=h1.parent (p:=(k:Int)) HXI.out
             rw[parAt_len,parAt_set hlti]at h2
             exact h2
            have HB4:Hid (Below G0 w2 (w3.setCell ⟨g,i*5+4,none⟩ (.int .i64 (k:Int)))):=(HBr.out.trans (HB3.out.mono hGr)).setCell hgb _
            go_wp2_with fail
            go_roundw
            case rel => exact⟨k+1,by omega,by go_num,by rw[HNN.out];exact HL4,HB4⟩
            case measure => simp[intOf];omega
           ·have HNN:Hid (arM ls i (k+1)=(j:Int)):=HN.out false (by rw[HLB3.out];exact decide_eq_false hlz)
            go_wp2_with fail
            go_roundw
            case rel => exact⟨k+1,by omega,by go_num,by rw[HNN.out];exact hideI (HLP.out.kept HB3.out),hideI (HBr.out.trans ((HB3.out:Below wr.heap.size wr _).mono hGr))⟩
            case measure => simp[intOf];omega
          ·exact AllReadyT.nil
      ·have hkl:k=ls.length:=by omega
       subst hkl
       have HPL:=hideI (parAt_last hlti)
       rw[HPL.out]at HLP
       go_wp2_with fail
       go_roundw
       case rel => exact⟨i+1,by omega,by go_num,HLP,HBr⟩
       case measure => simp[intOf];omega
    ·have hil:i=ls.length:=by omega
     subst hil
     have HPT:Hid (loopsM bs D L=parsTo ls ls.length):=by show _=_;unfold loopsM;rw[← HLS2.out]
     go_wp2_with fail
     go_ret
     refine⟨_,rfl,?_,(HBG.out wr HBr.out).1⟩
     rw[HPT.out]
     exact HLP.out.mono (Nat.le_of_lt hGX)
end Go.Proofs.YtaehbgppfahdeaaGreat
