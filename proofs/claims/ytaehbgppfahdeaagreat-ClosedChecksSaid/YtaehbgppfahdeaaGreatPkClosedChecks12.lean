/- What ClosedChecks rests on, part 12: LExits, LpM, LAddL, LAround, StrictIs, LFunc. -/
import Derived.Test.YtaehbgppfahdeaaGreatPkClosedChecks11
import Derived.Deep.AppendLies

namespace Go.Proofs.YtaehbgppfahdeaaGreat
open Go.RowKit Go.Maps
structure ExS (bs:List BlockM) (P:Nat→Bool) (l:List Nat) (i:Nat) (c:Nat) (j:Nat) (S:List Nat):Prop where
 is:∀ x,x∈S↔(P x=false∧((∃ k b,k<i∧l[k]?=some b∧x∈succM bs b)∨x∈(succM bs c).take j))
section
variable {bs:List BlockM} {P:Nat→Bool} {l:List Nat} {i c j t:Nat} {S:List Nat}
theorem ExS.start:ExS bs P l 0 c 0 []:=⟨fun x=>by simp⟩
theorem ExS.begin (h:ExS bs P l i c 0 S) (c':Nat):ExS bs P l i c' 0 S:=⟨fun x=>by rw[h.is];simp⟩
theorem ExS.skip (h:ExS bs P l i c j S) (ht:(succM bs c)[j]?=some t) (hp:P t=true):ExS bs P l i c (j+1) S:=⟨fun x=>by
 rw[h.is,List.take_add_one,ht]
 simp only[Option.toList_some,List.mem_append,List.mem_singleton]
 constructor
 ·rintro⟨h1,h2|h2⟩
  ·exact⟨h1,.inl h2⟩
  ·exact⟨h1,.inr (.inl h2)⟩
 ·rintro⟨h1,h2|h2|h2⟩
  ·exact⟨h1,.inl h2⟩
  ·exact⟨h1,.inr h2⟩
  ·subst h2;rw[hp]at h1;cases h1⟩
theorem ExS.mark (h:ExS bs P l i c j S) (ht:(succM bs c)[j]?=some t) (hp:P t=false):ExS bs P l i c (j+1) (t::S):=⟨fun x=>by
 rw[List.mem_cons,h.is,List.take_add_one,ht]
 simp only[Option.toList_some,List.mem_append,List.mem_singleton]
 constructor
 ·rintro(rfl|⟨h1,h2|h2⟩)
  ·exact⟨hp,.inr (.inr rfl)⟩
  ·exact⟨h1,.inl h2⟩
  ·exact⟨h1,.inr (.inl h2)⟩
 ·rintro⟨h1,h2|h2|h2⟩
  ·exact .inr ⟨h1,.inl h2⟩
  ·exact .inr ⟨h1,.inr h2⟩
  ·exact .inl h2⟩
theorem ExS.next (h:ExS bs P l i c j S) (hc:l[i]?=some c) (hj:(succM bs c).length≤j):ExS bs P l (i+1) c 0 S:=⟨fun x=>by
 rw[h.is,List.take_of_length_le hj]
 constructor
 ·rintro⟨h1,⟨k,b,h2,h3,h4⟩|h2⟩
  ·exact⟨h1,.inl ⟨k,b,by omega,h3,h4⟩⟩
  ·exact⟨h1,.inl ⟨i,c,by omega,hc,h2⟩⟩
 ·rintro⟨h1,⟨k,b,h2,h3,h4⟩|h2⟩
  ·by_cases e:k=i
   ·subst e
    rw[hc]at h3
    cases h3
    exact⟨h1,.inr h4⟩
   ·exact⟨h1,.inl ⟨k,b,by omega,h3,h4⟩⟩
  ·simp at h2⟩
theorem ExS.done {L:Nat→Nat→Bool} {h n:Nat} (H:ExS bs (L h) (blocksM n L h) (blocksM n L h).length c 0 S) (hn:n=bs.length) (x:Nat):decide (x∈S)=(!L h x&&outB bs L h x):=by
 subst hn
 rw[Bool.eq_iff_iff,decide_eq_true_iff,H.is,Bool.and_eq_true,Bool.not_eq_true']
 unfold outB
 rw[List.any_eq_true]
 constructor
 ·rintro⟨h1,⟨k,b,h2,h3,h4⟩|h2⟩
  ·have hm:=List.mem_of_getElem? h3
   unfold blocksM at hm
   rw[List.mem_filter]at hm
   exact⟨h1,b,hm.1,by rw[hm.2,Bool.true_and];exact decide_eq_true h4⟩
  ·simp at h2
 ·rintro⟨h1,b,h2,h3⟩
  rw[Bool.and_eq_true]at h3
  have hm:b∈blocksM bs.length L h:=by unfold blocksM;exact List.mem_filter.2 ⟨h2,h3.1⟩
  obtain⟨k,hk⟩:=List.getElem?_of_mem hm
  exact⟨h1,.inl ⟨k,b,(List.getElem?_eq_some_iff.1 hk).1,hk,of_decide_eq_true h3.2⟩⟩
end
set_option maxRecDepth 100000 in
set_option maxHeartbeats 4000000 in
theorem lExits_any (bs:List BlockM) (L:Nat→Nat→Bool) (h c B gm:Nat) (p0 p1 p2 p4 p5 p6 lv s:Value) (A:Option Addr) (w:World) (hn5:bs.length≤512) (hin:EndsIn bs) (hbv:BlocksR w B (.slice A bs.length c) bs) (hB:B≤w.heap.size) (hs:Ints w w.heap.size s ((blocksM bs.length L h).map fun(x:Nat)=>(x:Int))) (hg:gm<w.heap.size) (hc:∀ b,b<bs.length→w.cell? ⟨gm,b,none⟩=some (.bool (L h b))) :
  Calls Tryz.prog 236 #[.agg #[p0,p1,p2,.slice A bs.length c,p4,p5,p6,lv],s,.slice (some ⟨gm,0,none⟩) bs.length bs.length] w (RowPost (exitsM bs L h) w):=by
 have HIN:=hideI hin
 obtain⟨W,hW⟩:∃ W:World,W=w.alloc (.cells #[p0,p1,p2,.slice A bs.length c,p4,p5,p6,lv] 248):=⟨_,rfl⟩
 have HBW:Hid (Below w.heap.size w W):=by show Below _ _ _;rw[hW];exact(Below.refl _ _).alloc (Nat.le_refl _) _
 have HXW:Hid (W.heap[w.heap.size]?=some (.cells #[p0,p1,p2,.slice A bs.length c,p4,p5,p6,lv] 248 (0,0))):=by show _=_;rw[hW];exact heap_alloc_new w _
 have hwW:w.heap.size<W.heap.size:=lt_of_heap HXW.out
 have HBL:=hideI ((hbv.keeps (Keeps.of_below (HBW.out.mono hB))).more' (Nat.le_trans hB HBW.out.size))
 have HSW:=hideI ((hs.keep HBW.out).more HBW.out.size)
 have HCW:Hid (∀ b,b<bs.length→W.cell? ⟨gm,b,none⟩=some (.bool (L h b))):=fun b hb=>(HBW.out.cell (p:=⟨gm,b,none⟩) hg).trans (hc b hb)
 have hgW:gm<W.heap.size:=by omega
 have HW0:=hideI hW
 have hx:=row_cells HXW.out rfl
 have q3:=hx 3
 obtain⟨i0,hix,hz0,hz1,hz2⟩:=info_parts bool_info
 obtain⟨l,hl⟩:∃ l,l=blocksM bs.length L h:=⟨_,rfl⟩
 have HL:=hideI hl
 have hlb:∀ x∈l,x<bs.length:=fun x hx=>by
  rw[hl]at hx
  unfold blocksM at hx
  simpa using (List.mem_filter.1 hx).1
 have HLB:=hideI hlb
 have hll:l.length≤512:=by
  rw[hl]
  unfold blocksM
  have:=List.length_filter_le (L h) (List.range bs.length)
  rw[List.length_range]at this
  omega
 rw[← hl]at HSW
 obtain⟨PA,pc2,e1,_,hpx⟩:=HSW.out
 rw[List.length_map]at e1 hpx
 subst e1
 have HPX:=hideI hpx
 clear hin hW hs hx hbv hc hl hpx hlb
 go_enter Tryz.func236,Tryz.ntmps236
 go_upto_region 1 with fail
 rw[← HW0.out]
 go_wp2_with (at_make;go_must (refine wpList_make_full _ rfl _ _ 294 rfl W.heap.size 4 i0 (.bool false) 1 Tryz.underlying294 hix hz0 hz1 .i64 .i64 _ _ bs.length rfl rfl rfl rfl (by rw[hz2];omega) (by unfold maxLen;omega) (Nat.le_refl _) ?_);intro w1 hown1 hg1;go_must (rw[marks_made]at hown1;have HO1:=hideI hown1;have HB1:Hid (Below W.heap.size W w1):=hideI ((Below.refl _ _).grown hg1 (Nat.le_refl _) (by simp));clear hown1 hg1 q3))
 clear hix hz0 hz1 hz2
 go_loopw [20] (fun u wr=>∃ (i:Nat) (S:List Nat),i≤l.length∧u=.int .i64 i∧Hid (ExS bs (L h) l i 0 0 S)∧Hid (wr.ownsRow W.heap.size 4 1 (.slice (some ⟨W.heap.size,0,none⟩) bs.length bs.length) bs.length (marks bs.length S))∧Hid (Below W.heap.size W wr)) (fun u _=>l.length - (intOf u).toNat)
 case atStart=>exact⟨0,[],Nat.zero_le _,rfl,hideI ExS.start,HO1,HB1⟩
 case round =>
  obtain⟨i,S,hi,rfl,HX,HO,HBr⟩:=hrel
  by_cases hlt:i<l.length
  ·obtain⟨b,hb⟩:∃ b,l[i]?=some b:=⟨_,List.getElem?_eq_getElem hlt⟩
   have hbl:=HLB.out b (List.mem_of_getElem? hb)
   obtain⟨pb,po,rfl,hpb,d0⟩:=HPX.out i hlt
   rw[List.getElem?_map,hb]at d0
   simp only[Option.map_some,Option.getD_some]at d0
   have d1:=(HBr.out.cell (p:=⟨pb,po+i,none⟩) hpb).trans d0
   have HXB:=hideI (HX.out.begin b)
   have HBI:=hideI hb
   obtain⟨q,hq⟩:∃ q,bs[b]?=some q:=⟨_,List.getElem?_eq_getElem hbl⟩
   obtain⟨A',c',e0,_,hbx⟩:=HBL.out.keeps (Keeps.of_below HBr.out)
   cases e0
   obtain⟨ab,off,pq,cq,tv,rfl,hab,x0,x1,x2,x3,x4,x5,_,_,htv,_⟩:=hbx b q hq
   have HTV:=hideI htv
   have HQ:=hideI hq
   have HSU:Hid (succM bs b=q.term.to.map Int.toNat):=by show _=_;unfold succM;rw[hq]
   obtain⟨TA,tc,rfl,htm,_⟩:=htv
   obtain⟨m,hm⟩:∃ m,m=q.term.to.length:=⟨_,rfl⟩
   have HM:=hideI hm
   rw[← hm]at x4 htm
   have hxr:=row_cells HXW.out (HBr.out.block w.heap.size hwW)
   have g3:=hxr 3
   clear hbx hq x0 x1 x2 x3 x5 hm hxr hb d0
   go_wp2
   clear x4 g3 d1
   obtain⟨wo,rfl⟩:∃ wo:World,wo=wr:=⟨_,rfl⟩
   go_loopw [34] (fun u wr=>∃ (j:Nat) (S:List Nat),j≤m∧u=.int .i64 j∧Hid (ExS bs (L h) l i b j S)∧Hid (wr.ownsRow W.heap.size 4 1 (.slice (some ⟨W.heap.size,0,none⟩) bs.length bs.length) bs.length (marks bs.length S))∧Hid (Below W.heap.size W wr)) (fun u _=>m - (intOf u).toNat)
   case atStart=>exact⟨0,S,Nat.zero_le _,rfl,HXB,HO,HBr⟩
   case round =>
    have HBo:=HBr
    clear HXB HX HO HBr
    obtain⟨j,S,hj,rfl,HX,HO,HBr⟩:=hrel
    by_cases hltj:j<m
    ·obtain⟨t,ht⟩:∃ t,q.term.to[j]?=some t:=⟨_,List.getElem?_eq_getElem (by rw[HM.out]at hltj;exact hltj)⟩
     have htn:=HIN.out q (List.mem_of_getElem? HQ.out) t (List.mem_of_getElem? ht)
     obtain⟨tn,rfl⟩:∃ tn:Nat,t=(tn:Int):=⟨t.toNat,by omega⟩
     have htl:tn<bs.length:=by omega
     have HTI:Hid ((succM bs b)[j]?=some tn):=by
      show _=_
      rw[HSU.out,List.getElem?_map,ht]
      rfl
     obtain⟨TA',tc',e0,_,hxx⟩:=HTV.out
     cases e0
     obtain⟨tb,toff,rfl,htb,hcell0⟩:=hxx j (by rw[← HM.out];exact hltj)
     rw[ht]at hcell0
     simp only[Option.getD_some]at hcell0
     have hcell:wr.cell? ⟨tb,toff+j,none⟩=some (.int .i64 (tn:Int)):=by
      rw[← hcell0]
      exact World.cell?_of_block (a:=⟨tb,toff+j,none⟩) ((HBr.out.block tb htb).trans (HBo.out.block tb htb).symm)
     have cm:=(HBr.out.cell (p:=⟨gm,tn,none⟩) hgW).trans (HCW.out tn htl)
     cases hr:L h tn with
    |true =>
      rw[hr]at cm
      have HX2:=hideI (HX.out.skip HTI.out hr)
      clear hxx ht htn hcell0 hr
      go_wp2
      go_roundw
      case rel=>exact⟨j+1,S,by omega,by go_num,HX2,HO,HBr⟩
      case measure=>simp[intOf];omega
    |false =>
      rw[hr]at cm
      have HX2:=hideI (HX.out.mark HTI.out hr)
      have hmk:wr.cell? ⟨W.heap.size,tn,none⟩=some (.bool (decide (tn∈S))):=by rw[World.ownsRow.cellAt HO.out tn (by omega),marks_at htl]
      obtain⟨old,hold⟩:∃ old:Bool,old=decide (tn∈S):=⟨_,rfl⟩
      rw[← hold]at hmk
      have hmf:wr.frozen? ⟨W.heap.size,tn,none⟩=false:=World.ownsRow.frozenAt HO.out tn
      have hst:=(World.ownsRow.stored HO.out tn (.bool true)).1
      rw[marks_set]at hst
      have HST:=hideI hst
      have HBS:Hid (Below W.heap.size W (wr.setCell ⟨W.heap.size,tn,none⟩ (.bool true))):=HBr.out.setCell (Nat.le_refl _) _
      clear hxx ht htn hcell0 hr hold hst
      go_wp2
      go_roundw
      case rel=>exact⟨j+1,_,by omega,by go_num,HX2,HST,HBS⟩
      case measure=>simp[intOf];omega
    ·have HX2:=hideI ((HX.out.next HBI.out (by rw[HSU.out,List.length_map,← HM.out];omega)).begin 0)
     go_wp2
     go_roundw
     case rel=>exact⟨i+1,S,by omega,by go_num,HX2,HO,HBr⟩
     case measure=>simp[intOf];omega
  ·have hil:i=l.length:=by omega
   have HDN:Hid (∀ x,decide (x∈S)=(!L h x&&outB bs L h x)):=fun x=>by
    have h1:=HX.out
    rw[hil,HL.out]at h1
    exact h1.done rfl x
   have hgr:W.heap.size<wr.heap.size:=(HO.out.lt _ rfl).2
   have HRS:=hideI (lRise_any bs.length W.heap.size (fun x=>!L h x&&outB bs L h x) wr hn5 hgr (fun b hb=>by rw[World.ownsRow.cellAt HO.out b (by omega),marks_at hb,HDN.out]))
   clear hil
   go_wp2_with (go_at_call 235;go_must (refine HRS.out.mono ?_);rintro e w5 ⟨v,rfl,hown5,hb5⟩;have HO5:=hideI hown5;have HB5:=hideI hb5;clear hown5 hb5)
   go_ret
   have h1:w.heap.size≤wr.heap.size:=Nat.le_trans HBW.out.size HBr.out.size
   exact⟨v,rfl,World.ownsRow.mono HO5.out h1,HBW.out.trans ((HBr.out.mono (Nat.le_of_lt hwW)).trans (HB5.out.mono h1))⟩
end Go.Proofs.YtaehbgppfahdeaaGreat

namespace Go.Proofs.YtaehbgppfahdeaaGreat
open Go.RowKit Go.Maps
structure LpM where
 head:Nat
 blocks:List Nat
 latches:List Nat
 exits:List Nat
 parent:Int
theorem loop_info:(Tryz.prog.info? 88).map (fun i=>(i.zero,i.size,i.bytes))=some (some (.agg #[.int .i64 0,.slice none 0 0,.slice none 0 0,.slice none 0 0,.int .i64 0]),5,88):=by kernel_rfl
def SubR (w:World) (base:Nat) (vr b:Value) (l:List Nat):Prop :=
 w.ownsRow base 3 1 b l.length (natInts l)∧∀ k,b.ownBlock=some k→vr.ownBlock≠some k
structure LpAt (w:World) (base:Nat) (vr:Value) (cs:List Value) (i:Nat) (lp:LpM):Prop where
 ex:∃ b1 b2 b3:Value,cs[i*5]?=some (.int .i64 (lp.head:Int))∧cs[i*5+1]?=some b1∧cs[i*5+2]?=some b2∧cs[i*5+3]?=some b3∧cs[i*5+4]?=some (.int .i64 lp.parent) ∧
  SubR w base vr b1 lp.blocks∧SubR w base vr b2 lp.latches∧SubR w base vr b3 lp.exits
structure LoopsR (w:World) (base:Nat) (v:Value) (ls:List LpM):Prop where
 ex:∃ cs:List Value,w.ownsRow base 88 5 v ls.length cs∧∀ (i:Nat) lp,ls[i]?=some lp→LpAt w base v cs i lp
section
variable {w w' w1:World} {base base' B:Nat} {v vr b:Value} {l:List Nat} {ls:List LpM} {o:Obj}
theorem SubR.kept (h:SubR w base vr b l) (hb:Below w.heap.size w w'):SubR w' base vr b l :=
 ⟨own_kept_below h.1 hb (fun k hk=>(h.1.lt k hk).2),h.2⟩
theorem SubR.mono (h:SubR w base vr b l) (hb:base'≤base):SubR w base' vr b l:=⟨World.ownsRow.mono h.1 hb,h.2⟩
theorem SubR.grow {g' n' cap':Nat} (h:SubR w base vr b l) (hg:(w.alloc o).grownBy w1 vr.ownBlock) (hor:vr.ownBlock=some g'∨g'=(w.alloc o).heap.size):SubR w1 base (.slice (some ⟨g',0,none⟩) n' cap') b l:=by
 refine⟨(h.1.alloc o).kept hg ?_,fun k hk=>?_⟩
 ·cases e:b.ownBlock with
 |none=>exact .inl rfl
 |some k=>exact .inr (fun e2=>h.2 k e e2.symm)
 ·intro e
  have e1:g'=k:=by simpa [Value.ownBlock] using e
  subst e1
  rcases hor with h1|h1
  ·exact h.2 g' hk h1
  ·have:=(h.1.lt g' hk).2
   simp at h1
   omega
theorem SubR.ints (h:SubR w base vr b l) (hl:l.length≤100000):Ints w w.heap.size b (l.map fun(x:Nat)=>(x:Int)):=nat_ints h.1 hl
theorem LpAt.map {cs:List Value} {i:Nat} {lp:LpM} {vr':Value} (h:LpAt w base vr cs i lp) (f:∀ b l,SubR w base vr b l→SubR w' base' vr' b l):LpAt w' base' vr' cs i lp:=by
 obtain⟨b1,b2,b3,h0,h1,h2,h3,h4,s1,s2,s3⟩:=h.ex
 exact⟨b1,b2,b3,h0,h1,h2,h3,h4,f _ _ s1,f _ _ s2,f _ _ s3⟩
theorem LoopsR.nil (w:World) (base:Nat):LoopsR w base (.slice none 0 0) []:=⟨[],World.ownsRow_nil _ _ _ _,fun i lp h=>by simp at h⟩
theorem LoopsR.kept (h:LoopsR w base v ls) (hb:Below w.heap.size w w'):LoopsR w' base v ls:=by
 obtain⟨cs,h1,h2⟩:=h.ex
 exact⟨cs,own_kept_below h1 hb (fun k hk=>(h1.lt k hk).2),fun i lp hi=>(h2 i lp hi).map fun _ _ s=>s.kept hb⟩
theorem LoopsR.mono (h:LoopsR w base v ls) (hb:base'≤base):LoopsR w base' v ls:=by
 obtain⟨cs,h1,h2⟩:=h.ex
 exact⟨cs,World.ownsRow.mono h1 hb,fun i lp hi=>(h2 i lp hi).map fun _ _ s=>s.mono hb⟩
theorem LoopsR.other {j off:Nat} (h:LoopsR w base v ls) (hj:j<base) (u:Value):LoopsR (w.setCell ⟨j,off,none⟩ u) base v ls:=by
 obtain⟨cs,h1,h2⟩:=h.ex
 refine⟨cs,ownsRow_setCell_other h1 (a:=⟨j,off,none⟩) (by intro e;have:=(h1.lt j e).1;omega) u,fun i lp hi=>(h2 i lp hi).map fun b l s=>⟨ownsRow_setCell_other s.1 (a:=⟨j,off,none⟩) (by intro e;have:=(s.1.lt j e).1;omega) u,s.2⟩⟩
theorem LoopsR.push {cs:List Value} {lp:LpM} {b1 b2 b3:Value} {g' cap':Nat} (h1:w.ownsRow base 88 5 v ls.length cs) (h2:∀ (i:Nat) lp,ls[i]?=some lp→LpAt w base v cs i lp)
  (s1:SubR w base v b1 lp.blocks) (s2:SubR w base v b2 lp.latches) (s3:SubR w base v b3 lp.exits)
  (hown:w1.ownsRow base 88 5 (.slice (some ⟨g',0,none⟩) (ls.length+1) cap') (ls.length+1) (cs++[.int .i64 (lp.head:Int),b1,b2,b3,.int .i64 lp.parent])) (hg:(w.alloc o).grownBy w1 v.ownBlock) (hor:v.ownBlock=some g'∨g'=(w.alloc o).heap.size) :
  LoopsR w1 base (.slice (some ⟨g',0,none⟩) (ls.length+1) cap') (ls++[lp]):=by
 have hl:cs.length=ls.length*5:=h1.1
 refine⟨cs++[.int .i64 (lp.head:Int),b1,b2,b3,.int .i64 lp.parent],by rw[List.length_append];exact hown,fun i lp' hi=>?_⟩
 by_cases hlt:i<ls.length
 ·rw[List.getElem?_append_left hlt]at hi
  obtain⟨c1,c2,c3,k0,k1,k2,k3,k4,t1,t2,t3⟩:=(h2 i lp' hi).ex
  refine⟨c1,c2,c3,?_,?_,?_,?_,?_,t1.grow hg hor,t2.grow hg hor,t3.grow hg hor⟩
  ·rw[List.getElem?_append_left (by omega)];exact k0
  ·rw[List.getElem?_append_left (by omega)];exact k1
  ·rw[List.getElem?_append_left (by omega)];exact k2
  ·rw[List.getElem?_append_left (by omega)];exact k3
  ·rw[List.getElem?_append_left (by omega)];exact k4
 ·rw[List.getElem?_append_right (by omega)]at hi
  have hi0:i=ls.length:=by
   have:=(List.getElem?_eq_some_iff.1 hi).1
   simp at this
   omega
  subst hi0
  simp at hi
  subst hi
  refine⟨b1,b2,b3,?_,?_,?_,?_,?_,s1.grow hg hor,s2.grow hg hor,s3.grow hg hor⟩
  ·rw[List.getElem?_append_right (by omega),show ls.length*5 - cs.length=0 by omega];rfl
  ·rw[List.getElem?_append_right (by omega),show ls.length*5+1 - cs.length=1 by omega];rfl
  ·rw[List.getElem?_append_right (by omega),show ls.length*5+2 - cs.length=2 by omega];rfl
  ·rw[List.getElem?_append_right (by omega),show ls.length*5+3 - cs.length=3 by omega];rfl
  ·rw[List.getElem?_append_right (by omega),show ls.length*5+4 - cs.length=4 by omega];rfl
theorem LoopsR.cells (h:LoopsR w base v ls) {i:Nat} {lp:LpM} (hi:ls[i]?=some lp):∃ (g cap:Nat) (b1 b2 b3:Value),v=.slice (some ⟨g,0,none⟩) ls.length cap∧base≤g∧g<w.heap.size ∧
  w.cell? ⟨g,i*5,none⟩=some (.int .i64 (lp.head:Int))∧w.cell? ⟨g,i*5+1,none⟩=some b1∧w.cell? ⟨g,i*5+2,none⟩=some b2∧w.cell? ⟨g,i*5+3,none⟩=some b3∧w.cell? ⟨g,i*5+4,none⟩=some (.int .i64 lp.parent) ∧
  SubR w base v b1 lp.blocks∧SubR w base v b2 lp.latches∧SubR w base v b3 lp.exits∧∀ o,w.frozen? ⟨g,o,none⟩=false:=by
 obtain⟨cs,h1,h2⟩:=h.ex
 obtain⟨b1,b2,b3,k0,k1,k2,k3,k4,s1,s2,s3⟩:=(h2 i lp hi).ex
 have hil:=(List.getElem?_eq_some_iff.1 hi).1
 obtain⟨g,cap,rfl⟩:∃ g cap,v=.slice (some ⟨g,0,none⟩) ls.length cap:=by
  rcases h1.2 with⟨_,e⟩|⟨g,cap,_,e,_⟩
  ·omega
  ·exact⟨g,cap,e⟩
 have hg:=h1.lt g rfl
 refine⟨g,cap,b1,b2,b3,rfl,hg.1,hg.2,?_,?_,?_,?_,?_,s1,s2,s3,fun o=>World.ownsRow.frozenAt h1 o⟩
 ·rw[World.ownsRow.cellAt h1 _ (by omega)];exact k0
 ·rw[World.ownsRow.cellAt h1 _ (by omega)];exact k1
 ·rw[World.ownsRow.cellAt h1 _ (by omega)];exact k2
 ·rw[World.ownsRow.cellAt h1 _ (by omega)];exact k3
 ·rw[World.ownsRow.cellAt h1 _ (by omega)];exact k4
theorem LoopsR.free {g n cap:Nat} (h:LoopsR w base (.slice (some ⟨g,0,none⟩) n cap) ls) (i:Nat):w.frozen? ⟨g,i,none⟩=false:=by
 obtain⟨cs,h1,_⟩:=h.ex
 rcases h1.2 with⟨e,_⟩|⟨g1,cap1,cur,e,_,hg,_⟩
 ·cases e
 ·cases e
  exact free_rowN hg rfl i
theorem LoopsR.parent {g cap i:Nat} {lp:LpM} {p:Int} (h:LoopsR w base (.slice (some ⟨g,0,none⟩) ls.length cap) ls) (hi:ls[i]?=some lp):LoopsR (w.setCell ⟨g,i*5+4,none⟩ (.int .i64 p)) base (.slice (some ⟨g,0,none⟩) ls.length cap) (ls.set i { lp with parent:=p }):=by
 obtain⟨cs,h1,h2⟩:=h.ex
 have hil:=(List.getElem?_eq_some_iff.1 hi).1
 have hl:cs.length=ls.length*5:=h1.1
 have key:∀ b l,SubR w base (.slice (some ⟨g,0,none⟩) ls.length cap) b l→SubR (w.setCell ⟨g,i*5+4,none⟩ (.int .i64 p)) base (.slice (some ⟨g,0,none⟩) ls.length cap) b l:=fun b l s =>
  ⟨ownsRow_setCell_other s.1 (a:=⟨g,i*5+4,none⟩) (by intro e;exact s.2 g e rfl) _,s.2⟩
 refine⟨cs.set (i*5+4) (.int .i64 p),by rw[List.length_set];exact(h1.stored (i*5+4) _).1,fun j lp' hj=>?_⟩
 by_cases e:i=j
 ·subst e
  rw[List.getElem?_set_self hil]at hj
  cases hj
  obtain⟨b1,b2,b3,k0,k1,k2,k3,k4,s1,s2,s3⟩:=(h2 i lp hi).ex
  refine⟨b1,b2,b3,?_,?_,?_,?_,?_,key _ _ s1,key _ _ s2,key _ _ s3⟩
  ·rw[List.getElem?_set_ne (by omega)];exact k0
  ·rw[List.getElem?_set_ne (by omega)];exact k1
  ·rw[List.getElem?_set_ne (by omega)];exact k2
  ·rw[List.getElem?_set_ne (by omega)];exact k3
  ·rw[List.getElem?_set_self (by omega)]
 ·rw[List.getElem?_set_ne e]at hj
  obtain⟨b1,b2,b3,k0,k1,k2,k3,k4,s1,s2,s3⟩:=(h2 j lp' hj).ex
  refine⟨b1,b2,b3,?_,?_,?_,?_,?_,key _ _ s1,key _ _ s2,key _ _ s3⟩
  ·rw[List.getElem?_set_ne (by omega)];exact k0
  ·rw[List.getElem?_set_ne (by omega)];exact k1
  ·rw[List.getElem?_set_ne (by omega)];exact k2
  ·rw[List.getElem?_set_ne (by omega)];exact k3
  ·rw[List.getElem?_set_ne (by omega)];exact k4
end
end Go.Proofs.YtaehbgppfahdeaaGreat

namespace Go.Proofs.YtaehbgppfahdeaaGreat
open Go.RowKit Go.Maps
theorem own_sl {w:World} {base n:Nat} {e:TypeId} {v:Value} {xs:List Value} {size:Nat} (h:w.ownsRow base e size v n xs):∃ A c,v=.slice A n c:=by
 rcases h.2 with⟨e,e0⟩|⟨g,cap,cur,e,_⟩
 ·exact⟨none,0,by rw[e,e0]⟩
 ·exact⟨_,_,e⟩
def lpOf (bs:List BlockM) (D L:Nat→Nat→Bool) (h:Nat):LpM:=⟨h,blocksM bs.length L h,latchesM bs D h,exitsM bs L h,0⟩
def AddLPost (f7:Array Value) (gn base:Nat) (ls:List LpM) (w:World) (e:Ending) (w':World):Prop :=
 ∃ g cap:Nat,e=.returned (.tuple #[])∧w'.heap[gn]?=some (.cells (f7.push (.slice (some ⟨g,0,none⟩) ls.length cap)) 248 (0,0))∧LoopsR w' base (.slice (some ⟨g,0,none⟩) ls.length cap) ls∧Below gn w w'
set_option maxRecDepth 100000 in
set_option maxHeartbeats 8000000 in
theorem lAddL_any (bs:List BlockM) (o:List Nat) (pl:Nat→Nat) (par:Nat→Option Nat) (D L:Nat→Nat→Bool) (lo gp gi gl h c B gn base:Nat) (vs:List Value) (p0 p1 p2 lv s:Value) (A:Option Addr) (ls:List LpM) (w:World) (K:LoopOk bs o pl par D L) (H:LfAt w lo bs o pl par gp vs gi gl) (hh:h<bs.length) (hin:EndsIn bs) (hbv:BlocksR w B (.slice A bs.length c) bs) (hB:B≤gn)
  (hgn:w.heap[gn]?=some (.cells #[p0,p1,p2,.slice A bs.length c,.slice (some ⟨gp,0,none⟩) bs.length bs.length,.slice (some ⟨gi,0,none⟩) bs.length bs.length,.slice (some ⟨gl,0,none⟩) bs.length bs.length,lv] 248 (0,0))) (hbase:gn<base) (hbs:base≤w.heap.size) (hls:LoopsR w base lv ls) (hlen:ls.length≤512) (hsub:SubR w base lv s (latchesM bs D h)) :
  Calls Tryz.prog 211 #[.pointer (some ⟨gn,0,none⟩),.int .i64 h,s] w (AddLPost #[p0,p1,p2,.slice A bs.length c,.slice (some ⟨gp,0,none⟩) bs.length bs.length,.slice (some ⟨gi,0,none⟩) bs.length bs.length,.slice (some ⟨gl,0,none⟩) bs.length bs.length] gn base (ls++[lpOf bs D L h]) w):=by
 have HK:=hideI K
 have hn5:=K.n5
 have HIN:=hideI hin
 have hgl:=lt_of_heap hgn
 have hBw:B≤w.heap.size:=by omega
 have HG:=hideI hgn
 have hlatl:(latchesM bs D h).length≤512:=by
  unfold latchesM
  exact Nat.le_trans (List.length_filter_le _ _) (Nat.le_trans (predsTo_len _ _ _) hn5)
 have hblkl:(blocksM bs.length L h).length≤512:=by
  unfold blocksM
  have:=List.length_filter_le (L h) (List.range bs.length)
  rw[List.length_range]at this
  omega
 have HBV:=hideI hbv
 have HLS:=hideI hls
 have HSUB:=hideI hsub
 have HWI:=hideI (lWithin_any bs o pl par D L lo gp gi gl h c w.heap.size vs p0 p1 p2 lv s A w K H hh (hsub.ints (by omega)) (Nat.le_refl _))
 obtain⟨As,cs,rfl⟩:=own_sl hsub.1
 obtain⟨nl,hnl⟩:∃ nl,nl=(latchesM bs D h).length:=⟨_,rfl⟩
 obtain⟨nb,hnb⟩:∃ nb,nb=(blocksM bs.length L h).length:=⟨_,rfl⟩
 have HNL:=hideI hnl
 have HNB:=hideI hnb
 rw[← hnl]at hlatl HWI HSUB ⊢
 have hx:=row_cells hgn rfl
 have q0:=hx 0
 have q1:=hx 1
 have q2:=hx 2
 have q3:=hx 3
 have q4:=hx 4
 have q5:=hx 5
 have q6:=hx 6
 have q7:=hx 7
 clear K H hin hgn hbv hls hsub hx hnl hnb
 go_enter Tryz.func211,Tryz.ntmps211
 go_upto_region 2 with(first
 |(go_at_call 234;go_must (refine HWI.out.mono ?_);rintro e w1 ⟨gm,rfl,hown1,hb1⟩;have HO1:=hideI hown1;have HB1:=hideI hb1;have hgm:=hown1.lt gm rfl;have HRI:=hideI (lRise_any bs.length gm (L h) w1 hn5 hgm.2 (fun b hb=>(by rw[World.ownsRow.cellAt hown1 b (by omega)];exact boolsM_at hb)));clear hown1 hb1 hgm q0 q1 q2 q3 q4 q5 q6 q7)
 |(go_at_call 235;go_must (refine HRI.out.mono ?_);rintro e w2 ⟨v7,rfl,hown2,hb2⟩;(obtain⟨A7,c7,rfl⟩:=own_sl hown2);have HO2:=hideI hown2;have HB2:=hideI (HB1.out.trans (hb2.mono HB1.out.size));replace HO1:=hideI (own_kept_below HO1.out hb2 (fun k hk=>(HO1.out.lt k hk).2));clear hown2 hb2))
 have hO7:w2.ownsRow w1.heap.size 3 1 (.slice A7 nb c7) (blocksM bs.length L h).length (natInts (blocksM bs.length L h)):=by rw[HNB.out];exact HO2.out
 have HO7:=hideI (World.ownsRow.mono hO7 HB1.out.size)
 rw[show((List.range bs.length).filter (L h)).length=nb from HNB.out.symm]
 have HX2:=hideI ((HB2.out.block gn hgl).trans HG.out)
 have hx:=row_cells HX2.out rfl
 have q0:=hx 0
 have q1:=hx 1
 have q2:=hx 2
 have q3:=hx 3
 have q4:=hx 4
 have q5:=hx 5
 have q6:=hx 6
 have q7:=hx 7
 have f7:=free_rowN HX2.out rfl 7
 have hw2:w.heap.size≤w2.heap.size:=HB2.out.size
 have hgl2:gn<w2.heap.size:=by omega
 have hI7:Ints w2.drew w2.drew.heap.size (.slice A7 nb c7) ((blocksM bs.length L h).map fun(x:Nat)=>(x:Int)):=nat_ints hO7 (by omega)
 have HEX:=hideI (lExits_any bs L h c w2.heap.size gm p0 p1 p2 (.slice (some ⟨gp,0,none⟩) bs.length bs.length) (.slice (some ⟨gi,0,none⟩) bs.length bs.length) (.slice (some ⟨gl,0,none⟩) bs.length bs.length) lv (.slice A7 nb c7) A w2.drew hn5 HIN.out (((HBV.out.keeps (Keeps.of_below (HB2.out.mono hBw))).more' (Nat.le_trans hBw hw2)).keeps (fun _ _ _=>rfl)) (Nat.le_refl _) hI7 (HO1.out.lt gm rfl).2 (fun b hb=>(by rw[World.ownsRow.cellAt HO1.out b (by omega)];exact boolsM_at hb:w2.cell? ⟨gm,b,none⟩=_)))
 clear hI7
 have HS:Hid (∀ W,Below w2.heap.size w2 W→W.cell? ⟨gn,0,none⟩=some (p0)∧W.cell? ⟨gn,1,none⟩=some (p1)∧W.cell? ⟨gn,2,none⟩=some (p2)∧W.cell? ⟨gn,3,none⟩=some (.slice A bs.length c)∧W.cell? ⟨gn,4,none⟩=some (.slice (some ⟨gp,0,none⟩) bs.length bs.length)∧W.cell? ⟨gn,5,none⟩=some (.slice (some ⟨gi,0,none⟩) bs.length bs.length)∧W.cell? ⟨gn,6,none⟩=some (.slice (some ⟨gl,0,none⟩) bs.length bs.length)∧W.cell? ⟨gn,7,none⟩=some (lv)):=fun W hW=>by
  have hx:=row_cells HX2.out (hW.block gn hgl2)
  exact⟨hx 0,hx 1,hx 2,hx 3,hx 4,hx 5,hx 6,hx 7⟩
 have hS0:=HS.out w2 (Below.refl _ _)
 clear hx hO7
 refine wp_region_late (by kernel_rfl) (fun W=>W.cell? ⟨gn,0,none⟩=some (p0)∧W.cell? ⟨gn,1,none⟩=some (p1)∧W.cell? ⟨gn,2,none⟩=some (p2)∧W.cell? ⟨gn,3,none⟩=some (.slice A bs.length c)∧W.cell? ⟨gn,4,none⟩=some (.slice (some ⟨gp,0,none⟩) bs.length bs.length)∧W.cell? ⟨gn,5,none⟩=some (.slice (some ⟨gi,0,none⟩) bs.length bs.length)∧W.cell? ⟨gn,6,none⟩=some (.slice (some ⟨gl,0,none⟩) bs.length bs.length)∧W.cell? ⟨gn,7,none⟩=some (lv)) [16,19] ?_
 refine wpAnyT_quiet (i:=0) (v:=?_) rfl (by kernel_rfl) (by kernel_rfl) (by kernel_rfl) (fun _ _ _ h=>h) (Or.inl ⟨by rfl,?_⟩) ?_
 rotate_left
 ·(intro w;go_simp;try with_reducible rfl)
 try simp only[Act.put,List.setIfInBounds_toArray,List.set_cons_zero,List.set_cons_succ]
 refine wpAnyT_quiet (i:=1) (v:=?_) rfl (by kernel_rfl) (by kernel_rfl) (by kernel_rfl) (fun _ _ _ h=>h) (Or.inl ⟨by rfl,?_⟩) ?_
 rotate_left
 ·(intro w;go_simp;try with_reducible rfl)
 try simp only[Act.put,List.setIfInBounds_toArray,List.set_cons_zero,List.set_cons_succ]
 refine wpAnyT_quiet (i:=2) (v:=?_) rfl (by kernel_rfl) (by kernel_rfl) (by kernel_rfl) (fun _ _ _ h=>h) (Or.inl ⟨by rfl,?_⟩) ?_
 rotate_left
 ·(intro w;go_simp;try with_reducible rfl)
 try simp only[Act.put,List.setIfInBounds_toArray,List.set_cons_zero,List.set_cons_succ]
 refine wpAnyT_quiet (i:=3) (v:=?_) rfl (by kernel_rfl) (by kernel_rfl) (by kernel_rfl) (fun _ _ _ h=>h) (Or.inl ⟨by rfl,?_⟩) ?_
 rotate_left
 ·(intro w;go_simp;try with_reducible rfl)
 try simp only[Act.put,List.setIfInBounds_toArray,List.set_cons_zero,List.set_cons_succ]
 refine wpAnyT_take [16,19] (i:=4) (v:=?_) rfl (by kernel_rfl) (by kernel_rfl) (by kernel_rfl) (by kernel_rfl) (by kernel_rfl) (by kernel_rfl) (fun _ _ _ h=>h) hS0 (Or.inl ⟨by rfl,?_⟩) ?_
 rotate_left
 ·(intro w hSw;go_split_ands;go_simp;try with_reducible rfl)
 try simp only[Act.put,List.setIfInBounds_toArray,List.set_cons_zero,List.set_cons_succ]
 refine wpAnyT_quiet (i:=5) (v:=?_) rfl (by kernel_rfl) (by kernel_rfl) (by kernel_rfl) (fun _ _ _ h=>h) (Or.inl ⟨by rfl,?_⟩) ?_
 rotate_left
 ·(intro w;go_simp;try with_reducible rfl)
 try simp only[Act.put,List.setIfInBounds_toArray,List.set_cons_zero,List.set_cons_succ]
 refine wpAnyT_quiet (i:=6) (v:=?_) rfl (by kernel_rfl) (by kernel_rfl) (by kernel_rfl) (fun _ _ _ h=>h) (Or.inl ⟨by rfl,?_⟩) ?_
 rotate_left
 ·(intro w;go_simp;try with_reducible rfl)
 try simp only[Act.put,List.setIfInBounds_toArray,List.set_cons_zero,List.set_cons_succ]
 refine wpAnyT_quiet (i:=7) (v:=?_) rfl (by kernel_rfl) (by kernel_rfl) (by kernel_rfl) (fun _ _ _ h=>h) (Or.inl ⟨by rfl,?_⟩) ?_
 rotate_left
 ·(intro w;go_simp;try with_reducible rfl)
 try simp only[Act.put,List.setIfInBounds_toArray,List.set_cons_zero,List.set_cons_succ]
 refine wpAnyT_quiet (i:=8) (v:=?_) rfl (by kernel_rfl) (by kernel_rfl) (by kernel_rfl) (fun _ _ _ h=>h) (Or.inl ⟨by rfl,?_⟩) ?_
 rotate_left
 ·(intro w;go_simp;try with_reducible rfl)
 try simp only[Act.put,List.setIfInBounds_toArray,List.set_cons_zero,List.set_cons_succ]
 refine wpAnyT_quiet (i:=9) (v:=?_) rfl (by kernel_rfl) (by kernel_rfl) (by kernel_rfl) (fun _ _ _ h=>h) (Or.inl ⟨by rfl,?_⟩) ?_
 rotate_left
 ·(intro w;go_simp;try with_reducible rfl)
 try simp only[Act.put,List.setIfInBounds_toArray,List.set_cons_zero,List.set_cons_succ]
 refine wpAnyT_take [13,14,15,16,19] (i:=10) (v:=?_) rfl (by kernel_rfl) (by kernel_rfl) (by kernel_rfl) (by kernel_rfl) (by kernel_rfl) (by kernel_rfl) (fun _ _ _ h=>h) hS0 (Or.inl ⟨by rfl,?_⟩) ?_
 rotate_left
 ·(intro w hSw;go_split_ands;go_simp;try with_reducible rfl)
 try simp only[Act.put,List.setIfInBounds_toArray,List.set_cons_zero,List.set_cons_succ]
 refine wpAnyT_quiet (i:=11) (v:=?_) rfl (by kernel_rfl) (by kernel_rfl) (by kernel_rfl) (fun _ _ _ h=>h) (Or.inl ⟨by rfl,?_⟩) ?_
 rotate_left
 ·(intro w;go_simp;try with_reducible rfl)
 try simp only[Act.put,List.setIfInBounds_toArray,List.set_cons_zero,List.set_cons_succ]
 refine wpAnyT_quiet (i:=12) (v:=?_) rfl (by kernel_rfl) (by kernel_rfl) (by kernel_rfl) (fun _ _ _ h=>h) (Or.inl ⟨by rfl,?_⟩) ?_
 rotate_left
 ·(intro w;go_simp;try with_reducible rfl)
 try simp only[Act.put,List.setIfInBounds_toArray,List.set_cons_zero,List.set_cons_succ]
 refine wpAnyT_ready (rs:=[13]) (by kernel_rfl) (by simp) ?_
 refine AllReadyT.cons rfl (fun K hK=>?_) ?_
 ·go_simp
  refine HEX.out.mono ?_
  rintro e w3 ⟨vx,rfl,hown3,hb3d⟩
  have hb3:Below w2.heap.size w2 w3:=⟨hb3d.os,hb3d.tape,hb3d.output,hb3d.size,hb3d.block⟩
  obtain⟨Ax,cx,rfl⟩:=own_sl hown3
  obtain⟨nx,hnx⟩:∃ nx,nx=(exitsM bs L h).length:=⟨_,rfl⟩
  have HO3:=hideI hown3
  rw[← hnx]at HO3 ⊢
  have HNX:=hideI hnx
  have HB3:=hideI hb3
  refine hK.out _ _ (fun _ _=>HS.out _ HB3.out) ?_
  clear hK K hown3 hb3d hb3 hnx
  try simp only[Act.put,List.setIfInBounds_toArray,List.set_cons_zero,List.set_cons_succ]
  refine wpAnyT_quiet (i:=14) (v:=?_) rfl (by kernel_rfl) (by kernel_rfl) (by kernel_rfl) (fun _ _ _ h=>h) (Or.inl ⟨by rfl,?_⟩) ?_
  rotate_left
  ·(intro w;go_simp;try with_reducible rfl)
  try simp only[Act.put,List.setIfInBounds_toArray,List.set_cons_zero,List.set_cons_succ]
  refine wpAnyT_ready (rs:=[15]) (by kernel_rfl) (by simp) ?_
  refine AllReadyT.cons rfl (fun K hK=>?_) ?_
  ·go_simp
   have hs3:w2.heap.size≤w3.heap.size:=HB3.out.size
   refine hK.out _ _ (fun _ _=>HS.out _ (HB3.out.alloc hs3 _)) ?_
   clear hK K
   try simp only[Act.put,List.setIfInBounds_toArray,List.set_cons_zero,List.set_cons_succ]
   obtain⟨cs0,hr1,hr2⟩:=HLS.out.ex
   have HB23:Hid (Below w.heap.size w w3):=HB2.out.trans (HB3.out.mono hw2)
   have hrow:=own_kept_below hr1 HB23.out (fun k hk=>(hr1.lt k hk).2)
   have HAT:Hid (∀ (i:Nat) lp,ls[i]?=some lp→LpAt w3 base lv cs0 i lp):=fun i lp hi=>(hr2 i lp hi).map fun _ _ sr=>sr.kept HB23.out
   have hlt:∀ k,lv.ownBlock=some k→k<w.heap.size:=fun k hk=>(hr1.lt k hk).2
   have S1:Hid (SubR w3 base lv (.slice A7 nb c7) (blocksM bs.length L h)):=by
    have h1:w2.ownsRow w.heap.size 3 1 (.slice A7 nb c7) (blocksM bs.length L h).length (natInts (blocksM bs.length L h)):=by rw[HNB.out];exact World.ownsRow.mono HO2.out HB1.out.size
    refine⟨World.ownsRow.mono (own_kept_below h1 HB3.out (fun k hk=>(h1.lt k hk).2)) hbs,fun k hk e=>?_⟩
    have h2:=(h1.lt k hk).1
    have h3:=hlt k e
    omega
   have S2:Hid (SubR w3 base lv (.slice As nl cs) (latchesM bs D h)):=HSUB.out.kept HB23.out
   have S3:Hid (SubR w3 base lv (.slice Ax nx cx) (exitsM bs L h)):=by
    have h1:w3.ownsRow w2.heap.size 3 1 (.slice Ax nx cx) (exitsM bs L h).length (natInts (exitsM bs L h)):=by rw[← HNX.out];exact HO3.out
    refine⟨World.ownsRow.mono h1 (Nat.le_trans hbs hw2),fun k hk e=>?_⟩
    have h2:=(h1.lt k hk).1
    have h3:=hlt k e
    omega
   have HROW:=hideI hrow
   have hnews:=World.news_of_block (heap_alloc_new w3 (.cells #[.int .i64 (h:Int),.slice A7 nb c7,.slice As nl cs,.slice Ax nx cx,.int .i64 0] 88))
   obtain⟨i0,hix,hz0,hz1,hz2⟩:=info_parts loop_info
   clear hr1 hr2 hrow hlt
   refine wpAnyT_ready (rs:=[16]) (by kernel_rfl) (by simp) ?_
   refine AllReadyT.cons rfl (fun K hK=>?_) ?_
   ·refine step_append_lies _ rfl (.tmp 20) (.tmp 31) _ rfl base 88 i0 _ 5 88 Tryz.underlying79 hix hz0 hz1 hz2 rfl (by decide) lv ls.length cs0 rfl (HROW.out.alloc _) ⟨w3.heap.size,0,none⟩ 1 1 [.int .i64 (h:Int),.slice A7 nb c7,.slice As nl cs,.slice Ax nx cx,.int .i64 0] rfl rfl hnews (by simp[Value.oneCell']) (by decide) (by unfold maxLen;omega) (by omega) (by simp;omega) _ rfl ?_
    intro g1 cap1 w5 hown5 hgrow5 hor5 _
    refine hK.out _ _ (fun h=>absurd (by simp) h) ?_
    clear hK K hnews hix hz0 hz1 hz2
    try simp only[Act.put,List.setIfInBounds_toArray,List.set_cons_zero,List.set_cons_succ]
    have hX5:w5.heap[gn]?=some (.cells #[p0,p1,p2,.slice A bs.length c,.slice (some ⟨gp,0,none⟩) bs.length bs.length,.slice (some ⟨gi,0,none⟩) bs.length bs.length,.slice (some ⟨gl,0,none⟩) bs.length bs.length,lv] 248 (0,0)):=by
     have h1:=hgrow5.block gn (by simp;omega) (fun e=>by have:=(HROW.out.lt gn e.symm).1;omega)
     rw[h1,Below.heap_alloc _ _ _ (by omega)]
     exact(HB3.out.block gn hgl2).trans HX2.out
    have HX5:=hideI hX5
    have HB5:Hid (Below gn w w5):=((HB23.out.mono (Nat.le_of_lt hgl)).alloc (by have:=HB23.out.size;omega) (.cells #[.int .i64 (h:Int),.slice A7 nb c7,.slice As nl cs,.slice Ax nx cx,.int .i64 0] 88)).grown hgrow5 (by simp;omega) (fun k hk=>by have:=(HROW.out.lt k hk).1;omega)
    have HLP:=hideI (LoopsR.push (lp:=lpOf bs D L h) HROW.out HAT.out S1.out S2.out S3.out hown5 hgrow5 hor5)
    have k7:=row_cells hX5 rfl 7
    have z7:=free_rowN hX5 rfl 7
    clear hown5 hgrow5 hor5 hX5
    refine wpAnyT_quiet (i:=17) (v:=?_) rfl (by kernel_rfl) (by kernel_rfl) (by kernel_rfl) (fun _ _ _ h=>h) (Or.inl ⟨by rfl,?_⟩) ?_
    rotate_left
    ·(intro w;go_simp;try with_reducible rfl)
    try simp only[Act.put,List.setIfInBounds_toArray,List.set_cons_zero,List.set_cons_succ]
    refine wpAnyT_quiet (i:=18) (v:=?_) rfl (by kernel_rfl) (by kernel_rfl) (by kernel_rfl) (fun _ _ _ h=>h) (Or.inl ⟨by rfl,?_⟩) ?_
    rotate_left
    ·(intro w;go_simp;try with_reducible rfl)
    try simp only[Act.put,List.setIfInBounds_toArray,List.set_cons_zero,List.set_cons_succ]
    refine wpAnyT_ready (rs:=[19]) (by kernel_rfl) (by simp) ?_
    refine AllReadyT.cons rfl (fun K hK=>?_) ?_
    ·go_simp
     refine hK.out _ _ (fun h=>absurd (by simp) h) ?_
     clear hK K
     try simp only[Act.put,List.setIfInBounds_toArray,List.set_cons_zero,List.set_cons_succ]
     refine wpAnyT_done (by kernel_rfl) ?_ _
     go_wp2_with fail
     refine bodyPost_ret (v:=.tuple #[]) (by simp[results,Tryz.results211,go_sem]) rfl ⟨g1,cap1,rfl,?_,?_,?_⟩
     ·rw[List.length_append]
      rw[heap_setCell_same _ gn 7 _ _ _ HX5.out]
      rfl
     ·rw[List.length_append]
      exact HLP.out.other hbase _
     ·exact HB5.out.setCell (Nat.le_refl _) _
    ·exact AllReadyT.nil
   ·exact AllReadyT.nil
  ·exact AllReadyT.nil
 ·exact AllReadyT.nil
end Go.Proofs.YtaehbgppfahdeaaGreat

namespace Go.Proofs.YtaehbgppfahdeaaGreat
open Go.RowKit Go.Maps
def noLp:LpM:=⟨0,[],[],[],0⟩
def lessB (ls:List LpM) (i:Nat) (a:Int) (k:Nat):Bool :=
 decide (k≠i)&&(decide ((ls.getD i noLp).head∈(ls.getD k noLp).blocks)&&(decide (a=-1)||decide ((ls.getD k noLp).blocks.length<(ls.getD a.toNat noLp).blocks.length)))
def arM (ls:List LpM) (i:Nat):Nat→Int
|0=>-1
|k+1=>if lessB ls i (arM ls i k) k=true then (k:Int)else arM ls i k
theorem arM_range (ls:List LpM) (i:Nat):∀ k,arM ls i k=-1∨∃ j:Nat,arM ls i k=(j:Int)∧j<k∧j≠i∧(ls.getD i noLp).head∈(ls.getD j noLp).blocks
|0=>.inl rfl
|k+1=>by
  unfold arM
  split
  ·rename_i h
   unfold lessB at h
   simp only[Bool.and_eq_true,decide_eq_true_eq]at h
   exact .inr ⟨k,rfl,Nat.lt_succ_self _,h.1,h.2.1⟩
  ·rcases arM_range ls i k with h|⟨j,h1,h2,h3⟩
   ·exact .inl h
   ·exact .inr ⟨j,h1,by omega,h3⟩
theorem getD_some {ls:List LpM} {i:Nat} {x:LpM} (h:ls[i]?=some x):ls.getD i noLp=x:=by
 rw[List.getD_eq_getElem?_getD,h]
 rfl
def Rising (ls:List LpM):Prop:=∀ x∈ls,x.blocks.Pairwise (·<·)∧x.blocks.length≤512
theorem LoopsR.row_at {w:World} {base g cap n:Nat} {ls:List LpM} (h:LoopsR w base (.slice (some ⟨g,0,none⟩) n cap) ls) (hn:n=ls.length) {i:Nat} {lp:LpM} (hi:ls[i]?=some lp):∃ (b1 b2 b3:Value),g<w.heap.size ∧
  w.cell? ⟨g,i*5,none⟩=some (.int .i64 (lp.head:Int))∧w.cell? ⟨g,i*5+1,none⟩=some b1∧w.cell? ⟨g,i*5+2,none⟩=some b2∧w.cell? ⟨g,i*5+3,none⟩=some b3∧w.cell? ⟨g,i*5+4,none⟩=some (.int .i64 lp.parent) ∧
  SubR w base (.slice (some ⟨g,0,none⟩) n cap) b1 lp.blocks∧SubR w base (.slice (some ⟨g,0,none⟩) n cap) b2 lp.latches∧SubR w base (.slice (some ⟨g,0,none⟩) n cap) b3 lp.exits∧∀ o,w.frozen? ⟨g,o,none⟩=false:=by
 subst hn
 obtain⟨g1,cap1,b1,b2,b3,e,_,k0,k⟩:=h.cells hi
 cases e
 exact⟨b1,b2,b3,k0,k⟩
set_option maxRecDepth 100000 in
set_option maxHeartbeats 4000000 in
theorem lAround_any (ls:List LpM) (i base g cap:Nat) (p0 p1 p2 p3 p4 p5 p6:Value) (w:World) (hls:LoopsR w base (.slice (some ⟨g,0,none⟩) ls.length cap) ls) (hi:i<ls.length) (hr:Rising ls) (hlen:ls.length≤512) :
  Calls Tryz.prog 212 #[.agg #[p0,p1,p2,p3,p4,p5,p6,.slice (some ⟨g,0,none⟩) ls.length cap],.int .i64 i] w fun e w'=>e=.returned (.int .i64 (arM ls i ls.length))∧Below w.heap.size w w':=by
 have HR:=hideI hr
 obtain⟨W,hW⟩:∃ W:World,W=w.alloc (.cells #[p0,p1,p2,p3,p4,p5,p6,.slice (some ⟨g,0,none⟩) ls.length cap] 248):=⟨_,rfl⟩
 have HBW:Hid (Below w.heap.size w W):=by show Below _ _ _;rw[hW];exact(Below.refl _ _).alloc (Nat.le_refl _) _
 have HXW:Hid (W.heap[w.heap.size]?=some (.cells #[p0,p1,p2,p3,p4,p5,p6,.slice (some ⟨g,0,none⟩) ls.length cap] 248 (0,0))):=by show _=_;rw[hW];exact heap_alloc_new w _
 have hwW:w.heap.size<W.heap.size:=lt_of_heap HXW.out
 have HLW:=hideI (hls.kept HBW.out)
 have HW0:=hideI hW
 have hx:=row_cells HXW.out rfl
 have q7:=hx 7
 obtain⟨y,hy⟩:∃ y,ls[i]?=some y:=⟨_,List.getElem?_eq_getElem hi⟩
 have HY:=hideI hy
 clear hls hW hx hr hy
 go_enter Tryz.func212,Tryz.ntmps212
 go_upto_region 1 with fail
 rw[← HW0.out]
 go_wp2
 clear q7
 go_loopw [5,13] (fun vo u wr=>∃ k:Nat,vo=.int .i64 (arM ls i k)∧k≤ls.length∧u=.int .i64 k∧Hid (Below W.heap.size W wr)) (fun _ u _=>ls.length - (intOf u).toNat)
 case atStart=>exact⟨0,rfl,Nat.zero_le _,rfl,hideI (Below.refl _ _)⟩
 case round =>
  obtain⟨k,rfl,hk,rfl,HBr⟩:=hrel
  by_cases hlt:k<ls.length
  ·obtain⟨x,hx⟩:∃ x,ls[k]?=some x:=⟨_,List.getElem?_eq_getElem hlt⟩
   have HX:=hideI hx
   have HLr:=hideI (HLW.out.kept HBr.out)
   obtain⟨b1,b2,b3,hgl,r0,r1,r2,r3,r4,s1,s2,s3,hfz⟩:=HLr.out.row_at rfl hx
   have HRX:=hideI (HR.out x (List.mem_of_getElem? hx))
   obtain⟨A1,c1,rfl⟩:=own_sl s1.1
   obtain⟨A2,c2,rfl⟩:=own_sl s2.1
   obtain⟨A3,c3,rfl⟩:=own_sl s3.1
   have HI1:=hideI (s1.ints (by have:=HRX.out.2;omega))
   obtain⟨_,_,_,_,y0,_⟩:=HLr.out.row_at rfl HY.out
   clear s1 s2 s3 hx hfz
   obtain⟨wa,hwa⟩:∃ wa:World,wa=wr.alloc (.cells #[.int .i64 (x.head:Int),.slice A1 x.blocks.length c1,.slice A2 x.latches.length c2,.slice A3 x.exits.length c3,.int .i64 x.parent] 88):=⟨_,rfl⟩
   have HBA:Hid (Below wr.heap.size wr wa):=by show Below _ _ _;rw[hwa];exact(Below.refl _ _).alloc (Nat.le_refl _) _
   have HBWA:Hid (Below W.heap.size W wa):=HBr.out.trans (HBA.out.mono HBr.out.size)
   have HWA:=hideI hwa
   have hca:=row_cells (by rw[hwa];exact heap_alloc_new wr _:wa.heap[wr.heap.size]?=some (.cells #[.int .i64 (x.head:Int),.slice A1 x.blocks.length c1,.slice A2 x.latches.length c2,.slice A3 x.exits.length c3,.int .i64 x.parent] 88 (0,0))) rfl
   have a1:=hca 1
   have hxr:=row_cells HXW.out (HBWA.out.block _ hwW)
   have g7:=hxr 7
   have ya:=(HBA.out.cell (p:=⟨g,i*5,none⟩) hgl).trans y0
   clear hwa hca hxr y0
   go_upto_region 5 with fail
   rw[← HWA.out]
   obtain⟨a,ha⟩:∃ a,a=arM ls i k:=⟨_,rfl⟩
   rw[← ha]
   have HA:=hideI ha
   have HRG:=hideI (arM_range ls i k)
   rw[← ha]at HRG
   have hS0:=And.intro a1 (And.intro g7 ya)
   have hdx:decide ((y.head:Int)∈x.blocks.map fun(x:Nat)=>(x:Int))=decide (y.head∈x.blocks):=by simp only[mem_nat]
   obtain⟨r,hr⟩:∃ r,r=decide (y.head∈x.blocks):=⟨_,rfl⟩
   rw[← hr]at hdx
   have hI:Ints wa.drew wa.drew.heap.size (.slice A1 x.blocks.length c1) (x.blocks.map fun(x:Nat)=>(x:Int)):=((HI1.out.keep HBA.out).more HBA.out.size)
   have HBS:=hideI (bs_any (x.blocks.map fun(x:Nat)=>(x:Int)) _ _ (y.head:Int) wa.drew hI (List.pairwise_map.2 (HRX.out.1.imp fun h=>by omega)) (by rw[List.length_map];exact HRX.out.2))
   have HDX:=hideI hdx
   have HRR:=hideI hr
   have HLA:=hideI (HLW.out.kept HBWA.out)
   have HLB:Hid (∀ b:Bool,lessB ls i a k=b↔(decide (k≠i)&&(r&&(decide (a=-1)||decide (x.blocks.length<(ls.getD a.toNat noLp).blocks.length))))=b):=fun b=>by
    unfold lessB
    rw[getD_some HX.out,getD_some HY.out,← HRR.out]
   clear ha hdx hr hI
   refine wp_region_late (by kernel_rfl) (fun W=>W.cell? ⟨wr.heap.size,1,none⟩=some (.slice A1 x.blocks.length c1)∧W.cell? ⟨w.heap.size,7,none⟩=some (.slice (some ⟨g,0,none⟩) ls.length cap)∧W.cell? ⟨g,i*5,none⟩=some (.int .i64 (y.head:Int))) [] ?_
   refine wpAnyT_quiet (i:=0) (v:=?_) rfl (by kernel_rfl) (by kernel_rfl) (by kernel_rfl) (fun _ _ _ h=>h) (Or.inl ⟨by rfl,?_⟩) ?_
   rotate_left
   ·(intro w;go_simp;try with_reducible rfl)
   try simp only[Act.put,List.setIfInBounds_toArray,List.set_cons_zero,List.set_cons_succ]
   refine wpAnyT_take [] (i:=1) (v:=?_) rfl (by kernel_rfl) (by kernel_rfl) (by kernel_rfl) (by kernel_rfl) (by kernel_rfl) (by kernel_rfl) (fun _ _ _ h=>h) hS0 (Or.inl ⟨by rfl,?_⟩) ?_
   rotate_left
   ·(intro w hSw;go_split_ands;go_simp;try with_reducible rfl)
   try simp only[Act.put,List.setIfInBounds_toArray,List.set_cons_zero,List.set_cons_succ]
   refine wpAnyT_quiet (i:=2) (v:=?_) rfl (by kernel_rfl) (by kernel_rfl) (by kernel_rfl) (fun _ _ _ h=>h) (Or.inl ⟨by rfl,?_⟩) ?_
   rotate_left
   ·(intro w;go_simp;try with_reducible rfl)
   try simp only[Act.put,List.setIfInBounds_toArray,List.set_cons_zero,List.set_cons_succ]
   refine wpAnyT_take [] (i:=3) (v:=?_) rfl (by kernel_rfl) (by kernel_rfl) (by kernel_rfl) (by kernel_rfl) (by kernel_rfl) (by kernel_rfl) (fun _ _ _ h=>h) hS0 (Or.inl ⟨by rfl,?_⟩) ?_
   rotate_left
   ·(intro w hSw;go_split_ands;go_simp;try with_reducible rfl)
   try simp only[Act.put,List.setIfInBounds_toArray,List.set_cons_zero,List.set_cons_succ]
   refine wpAnyT_quiet (i:=4) (v:=?_) rfl (by kernel_rfl) (by kernel_rfl) (by kernel_rfl) (fun _ _ _ h=>h) (Or.inl ⟨by rfl,?_⟩) ?_
   rotate_left
   ·(intro w;go_simp;try with_reducible rfl)
   try simp only[Act.put,List.setIfInBounds_toArray,List.set_cons_zero,List.set_cons_succ]
   refine wpAnyT_quiet (i:=5) (v:=?_) rfl (by kernel_rfl) (by kernel_rfl) (by kernel_rfl) (fun _ _ _ h=>h) (Or.inl ⟨by rfl,?_⟩) ?_
   rotate_left
   ·(intro w;go_simp;try with_reducible rfl)
   try simp only[Act.put,List.setIfInBounds_toArray,List.set_cons_zero,List.set_cons_succ]
   refine wpAnyT_quiet (i:=6) (v:=?_) rfl (by kernel_rfl) (by kernel_rfl) (by kernel_rfl) (fun _ _ _ h=>h) (Or.inl ⟨by rfl,?_⟩) ?_
   rotate_left
   ·(intro w;go_simp;try with_reducible rfl)
   try simp only[Act.put,List.setIfInBounds_toArray,List.set_cons_zero,List.set_cons_succ]
   refine wpAnyT_take [] (i:=7) (v:=?_) rfl (by kernel_rfl) (by kernel_rfl) (by kernel_rfl) (by kernel_rfl) (by kernel_rfl) (by kernel_rfl) (fun _ _ _ h=>h) hS0 (Or.inl ⟨by rfl,?_⟩) ?_
   rotate_left
   ·(intro w hSw;go_split_ands;go_simp;try with_reducible rfl)
   try simp only[Act.put,List.setIfInBounds_toArray,List.set_cons_zero,List.set_cons_succ]
   refine wpAnyT_ready (rs:=[8]) (by kernel_rfl) (by simp) ?_
   refine AllReadyT.cons rfl (fun K hK=>?_) ?_
   ·go_simp
    refine HBS.out.mono ?_
    rintro e w3 ⟨pp,rfl,rfl⟩
    rw[HDX.out]
    refine hK.out _ _ (fun _ h=>h) ?_
    clear hK K
    try simp only[Act.put,List.setIfInBounds_toArray,List.set_cons_zero,List.set_cons_succ]
    refine wpAnyT_quiet (i:=9) (v:=?_) rfl (by kernel_rfl) (by kernel_rfl) (by kernel_rfl) (fun _ _ _ h=>h) (Or.inl ⟨by rfl,?_⟩) ?_
    rotate_left
    ·(intro w;go_simp;try with_reducible rfl)
    try simp only[Act.put,List.setIfInBounds_toArray,List.set_cons_zero,List.set_cons_succ]
    refine wpAnyT_quiet (i:=10) (v:=?_) rfl (by kernel_rfl) (by kernel_rfl) (by kernel_rfl) (fun _ _ _ h=>h) (Or.inl ⟨by rfl,?_⟩) ?_
    rotate_left
    ·(intro w;go_simp;try with_reducible rfl)
    try simp only[Act.put,List.setIfInBounds_toArray,List.set_cons_zero,List.set_cons_succ]
    refine wpAnyT_quiet (i:=11) (v:=?_) rfl (by kernel_rfl) (by kernel_rfl) (by kernel_rfl) (fun _ _ _ h=>h) (Or.inl ⟨by rfl,?_⟩) ?_
    rotate_left
    ·(intro w;go_simp;try with_reducible rfl)
    try simp only[Act.put,List.setIfInBounds_toArray,List.set_cons_zero,List.set_cons_succ]
    refine wpAnyT_quiet (i:=12) (v:=?_) rfl (by kernel_rfl) (by kernel_rfl) (by kernel_rfl) (fun _ _ _ h=>h) (Or.inl ⟨by rfl,?_⟩) ?_
    rotate_left
    ·(intro w;go_simp;try with_reducible rfl)
    try simp only[Act.put,List.setIfInBounds_toArray,List.set_cons_zero,List.set_cons_succ]
    refine wpAnyT_quiet (i:=13) (v:=?_) rfl (by kernel_rfl) (by kernel_rfl) (by kernel_rfl) (fun _ _ _ h=>h) (Or.inl ⟨by rfl,?_⟩) ?_
    rotate_left
    ·(intro w;go_simp;try with_reducible rfl)
    try simp only[Act.put,List.setIfInBounds_toArray,List.set_cons_zero,List.set_cons_succ]
    refine wpAnyT_done (by kernel_rfl) ?_ _
    clear hS0
    by_cases hki:k=i
    ·have e1:((k:Int) != (i:Int))=false:=by rw[hki];simp
     have hlb:lessB ls i a k=false:=by rw[HLB.out];simp[hki]
     have HN:Hid (arM ls i (k+1)=a):=by
      show(if lessB ls i (arM ls i k) k=true then (k:Int)else arM ls i k)=_
      rw[← HA.out,hlb]
      rfl
     clear hki hlb
     go_wp2_with fail
     go_quiet (fail)
     go_wp2
     go_roundw
     case rel=>exact⟨k+1,by rw[HN.out],by omega,by go_num,hideI (drew_below HBWA.out _)⟩
     case measure=>simp[intOf];omega
    ·have e1:((k:Int) != (i:Int))=true:=by rw[bne_iff_ne];omega
     cases r with
    |false =>
      have hlb:lessB ls i a k=false:=by rw[HLB.out];simp
      have HN:Hid (arM ls i (k+1)=a):=by
       show(if lessB ls i (arM ls i k) k=true then (k:Int)else arM ls i k)=_
       rw[← HA.out,hlb]
       rfl
      clear hki hlb
      go_wp2_with fail
      go_quiet (fail)
      go_wp2
      go_roundw
      case rel=>exact⟨k+1,by rw[HN.out],by omega,by go_num,hideI (drew_below HBWA.out _)⟩
      case measure=>simp[intOf];omega
    |true =>
      by_cases ham:a=-1
      ·have e2:(a==-1)=true:=by rw[ham];rfl
       have hlb:lessB ls i a k=true:=by rw[HLB.out];simp[hki,ham]
       have HN:Hid (arM ls i (k+1)=(k:Int)):=by
        show(if lessB ls i (arM ls i k) k=true then (k:Int)else arM ls i k)=_
        rw[← HA.out,hlb]
        rfl
       clear hki hlb ham
       go_wp2_with fail
       go_quiet (fail)
       go_wp2
       go_roundw
       case rel=>exact⟨k+1,by rw[HN.out],by omega,by go_num,hideI (drew_below HBWA.out _)⟩
       case measure=>simp[intOf];omega
      ·obtain⟨j,rfl,hjk,hji,_⟩:=HRG.out.resolve_left ham
       have e2:((j:Int)==-1)=false:=by rw[beq_eq_false_iff_ne];omega
       have hjl:j<ls.length:=by omega
       obtain⟨z,hz⟩:∃ z,ls[j]?=some z:=⟨_,List.getElem?_eq_getElem hjl⟩
       obtain⟨d1,_,_,_,_,z1,_,_,_,t1,_⟩:=HLA.out.row_at rfl hz
       obtain⟨AZ,cz,rfl⟩:=own_sl t1.1
       have HZ:=hideI (getD_some hz)
       obtain⟨nz,hnz⟩:∃ nz,nz=z.blocks.length:=⟨_,rfl⟩
       obtain⟨nx,hnx⟩:∃ nx,nx=x.blocks.length:=⟨_,rfl⟩
       rw[← hnz]at z1
       rw[← hnx]at a1 ⊢
       have hnn:nx≤512∧nz≤512:=⟨by rw[hnx];exact HRX.out.2,by rw[hnz];exact(HR.out z (List.mem_of_getElem? hz)).2⟩
       have HNZ:=hideI hnz
       have HNX:=hideI hnx
       obtain⟨hn1,hn2⟩:=hnn
       clear t1 hz ham hnz hnx
       by_cases hlz:nx<nz
       ·have hlb:lessB ls i (j:Int) k=true:=by rw[HLB.out,Int.toNat_natCast,HZ.out,← HNZ.out,← HNX.out];simp[hki,hlz]
        have HN:Hid (arM ls i (k+1)=(k:Int)):=by
         show(if lessB ls i (arM ls i k) k=true then (k:Int)else arM ls i k)=_
         rw[← HA.out,hlb]
         rfl
        clear hki hlb
        go_wp2_with fail
        go_quiet (fail)
        go_wp2
        go_roundw
        case rel=>exact⟨k+1,by rw[HN.out],by omega,by go_num,hideI (drew_below HBWA.out _)⟩
        case measure=>simp[intOf];omega
       ·have hlb:lessB ls i (j:Int) k=false:=by rw[HLB.out,Int.toNat_natCast,HZ.out,← HNZ.out,← HNX.out];simp[hlz];try omega
        have HN:Hid (arM ls i (k+1)=(j:Int)):=by
         show(if lessB ls i (arM ls i k) k=true then (k:Int)else arM ls i k)=_
         rw[← HA.out,hlb]
         rfl
        clear hki hlb
        go_wp2_with fail
        go_quiet (fail)
        go_wp2
        go_roundw
        case rel=>exact⟨k+1,by rw[HN.out],by omega,by go_num,hideI (drew_below HBWA.out _)⟩
        case measure=>simp[intOf];omega
   ·exact AllReadyT.nil
  ·have hkl:k=ls.length:=by omega
   subst hkl
   go_wp2
   go_ret
   exact⟨rfl,HBW.out.trans (HBr.out.mono (Nat.le_of_lt hwW))⟩
end Go.Proofs.YtaehbgppfahdeaaGreat

namespace Go.Proofs.YtaehbgppfahdeaaGreat
open Go.RowKit
structure StrictM (f:FuncM) (o:List Nat):Prop where
 look:(lookM f).1=0
 order:OrderIs f.blocks o
 come:∀ b,b<f.blocks.length→b∈o
 phis:∀ b,b<f.blocks.length→phisR f b
 uses:∀ b,b<f.blocks.length→usesPR f o b
theorem strict_of {f:FuncM} {x:Int} (h:CheckIs f (x,0)):x=0∧∃ o,StrictM f o:=by
 rcases h with⟨h1,h2⟩|⟨h0,o,ho,hf⟩
 ·have:=(Prod.mk.inj h2).2
  exact absurd this.symm h1
 ·rcases hf with⟨b,_,e⟩|⟨_,b,_,e⟩|⟨_,_,b,_,e⟩|⟨a0,a1,a2,e⟩
  ·exact absurd (Prod.mk.inj e).2 (by decide)
  ·exact absurd (Prod.mk.inj e).2 (by decide)
  ·exact absurd (Prod.mk.inj e).2 (by decide)
  ·exact⟨(Prod.mk.inj e).1,o,h0,ho,a0,a1,a2⟩
theorem StrictM.check {f:FuncM} {o:List Nat} {r:Int×Int} (h:StrictM f o) (k:CheckIs f r):r=(0,0) :=
 k.one (.inr ⟨h.look,o,h.order,.inr (.inr (.inr ⟨h.come,h.phis,h.uses,rfl⟩))⟩)
end Go.Proofs.YtaehbgppfahdeaaGreat

namespace Go.Proofs.YtaehbgppfahdeaaGreat
open Go.RowKit Go.Maps
structure LoopsOf (f:FuncM) (o:List Nat) (pl:Nat→Nat) (par:Nat→Option Nat) (D L:Nat→Nat→Bool):Prop where
 strict:StrictM f o
 ok:LoopOk f.blocks o pl par D L
theorem lorder_len {bs:List BlockM} {o:List Nat} (ho:OrderIs bs o) (hr:∀ x∈o,x<bs.length) (hA:AllIn bs o):o.length=bs.length:=by
 have h1:=below_len _ _ ho.facts.2.1 hr
 have h2:=sub_len ((List.range bs.length).map fun(x:Nat)=>(x:Int)) (o.map fun(x:Nat)=>(x:Int)) (List.pairwise_map.2 (List.nodup_range.imp fun h e=>h (by omega))) (fun x hx=>by
  obtain⟨y,hy,rfl⟩:=List.mem_map.1 hx
  exact List.mem_map.2 ⟨y,hA y (by simpa using hy),rfl⟩)
 rw[List.length_map,List.length_map,List.length_range]at h2
 omega
def LfPost (f:FuncM) (pv bv:Value) (w:World) (e:Ending) (w':World):Prop :=
 (∃ x y:Int,CheckIs f (x,y)∧y≠0∧e=.returned (.tuple #[.agg #[.slice none 0 0,.int .i64 0,.int .i64 0,.slice none 0 0,.slice none 0 0,.slice none 0 0,.slice none 0 0],.int .i64 y])∧Below w.heap.size w w') ∨
 (∃ (o:List Nat) (pl:Nat→Nat) (par:Nat→Option Nat) (D L:Nat→Nat→Bool) (gp:Nat) (vs:List Value) (gi gl:Nat),LoopsOf f o pl par D L∧e=.returned (.tuple #[.agg #[pv,.int .i64 f.arrays,.int .i64 f.cells,bv,.slice (some ⟨gp,0,none⟩) f.blocks.length f.blocks.length,.slice (some ⟨gi,0,none⟩) f.blocks.length f.blocks.length,.slice (some ⟨gl,0,none⟩) f.blocks.length f.blocks.length],.int .i64 0])∧LfAt w' (w.heap.size+2) f.blocks o pl par gp vs gi gl∧Below w.heap.size w w')
set_option maxRecDepth 100000 in
set_option maxHeartbeats 4000000 in
theorem lFunc_any (f:FuncM) (B:Nat) (pv bv:Value) (w:World) (hpv:Ints w B pv f.params) (hbv:BlocksR w B bv f.blocks) (hB:B≤w.heap.size) (hid:∀ u∈usesM f,I64 u.1) :
  Calls Tryz.prog 209 #[.agg #[pv,.int .i64 f.arrays,.int .i64 f.cells,bv]] w (LfPost f pv bv w):=by
 have HP:=hideI hpv
 have HBL:=hideI hbv
 have HID:=hideI hid
 obtain⟨P,pc,rfl,_⟩:=hpv
 obtain⟨A,c,rfl,hbm,_⟩:=hbv
 obtain⟨W0,hW0⟩:∃ W0,W0=(w.alloc (.cells #[.slice P f.params.length pc,.int .i64 f.arrays,.int .i64 f.cells,.slice A f.blocks.length c] 25)).alloc (.cells #[.slice none 0 0,.int .i64 0,.int .i64 0,.slice none 0 0,.slice none 0 0,.slice none 0 0,.slice none 0 0] 246):=⟨_,rfl⟩
 have hB0:Below w.heap.size w W0:=by rw[hW0];exact((Below.refl _ w).alloc (Nat.le_refl _) _).alloc (by simp) _
 have hs0:W0.heap.size=w.heap.size+2:=by rw[hW0];simp
 have hbox:W0.heap[w.heap.size]?=some (.cells #[.slice P f.params.length pc,.int .i64 f.arrays,.int .i64 f.cells,.slice A f.blocks.length c] 25 (0,0)):=by
  rw[hW0,Below.heap_alloc _ _ _ (by simp)]
  exact heap_alloc_new w _
 have hres:W0.heap[w.heap.size+1]?=some (.cells #[.slice none 0 0,.int .i64 0,.int .i64 0,.slice none 0 0,.slice none 0 0,.slice none 0 0,.slice none 0 0] 246 (0,0)):=by
  rw[hW0]
  have:=heap_alloc_new (w.alloc (.cells #[.slice P f.params.length pc,.int .i64 f.arrays,.int .i64 f.cells,.slice A f.blocks.length c] 25)) (.cells #[.slice none 0 0,.int .i64 0,.int .i64 0,.slice none 0 0,.slice none 0 0,.slice none 0 0,.slice none 0 0] 246)
  simpa using this
 have HW0:=hideI hW0
 have HB0:=hideI hB0
 have HS0:=hideI hs0
 have G0:Hid (∀ W,Below W0.heap.size W0 W→(∀ o,W.cell? ⟨w.heap.size,o,none⟩=(#[.slice P f.params.length pc,.int .i64 f.arrays,.int .i64 f.cells,.slice A f.blocks.length c]:Array Value)[o]?)∧(∀ o,W.cell? ⟨w.heap.size+1,o,none⟩=(#[.slice none 0 0,.int .i64 0,.int .i64 0,.slice none 0 0,.slice none 0 0,.slice none 0 0,.slice none 0 0]:Array Value)[o]?)∧(∀ o,W.frozen? ⟨w.heap.size+1,o,none⟩=false)):=fun W hW=>by
  have h1:=hW.block w.heap.size (by omega)
  have h2:=hW.block (w.heap.size+1) (by omega)
  exact⟨row_cells hbox h1,row_cells hres h2,fun o=>free_rowN hres h2 o⟩
 have HPW:Hid (∀ W,Below W0.heap.size W0 W→Ints W B (.slice P f.params.length pc) f.params∧BlocksR W B (.slice A f.blocks.length c) f.blocks∧Below w.heap.size w W):=fun W hW=>by
  have h1:Below w.heap.size w W:=HB0.out.trans (hW.mono (by omega))
  exact⟨HP.out.keeps (Keeps.of_below (h1.mono hB)),HBL.out.keeps (Keeps.of_below (h1.mono hB)),h1⟩
 obtain⟨q1,q2,q3⟩:=G0.out W0 (Below.refl _ _)
 have b0:=q1 0
 have b1:=q1 1
 have b2:=q1 2
 have b3:=q1 3
 have hBW0:B≤W0.heap.size:=by omega
 have HCK:=hideI (sCheck_any f B _ _ W0 (HPW.out _ (Below.refl _ _)).1 (HPW.out _ (Below.refl _ _)).2.1 hBW0 HID.out)
 clear hid hW0 hB0 hs0 hbox hres q1 q2 q3
 by_cases hst:∃ o,StrictM f o
 ·obtain⟨o,hst⟩:=hst
  have HS:=hideI hst
  have hnb:=look_some_block hst.look
  have hn0:=hnb.1
  have hn5:=hnb.2
  have HR:=hideI (hst.order.range (look_ends hst.look) hn0)
  have hol:=lorder_len hst.order HR.out hst.come
  obtain⟨i0,hix,hz0,hz1,hz2⟩:=info_parts int_info
  clear hst hnb
  go_enter Tryz.func209,Tryz.ntmps209
  go_upto_region 1 with fail
  rw[← HW0.out]
  go_wp2_with (first
  |(go_at_call 27;go_must (refine HCK.out.mono ?_);rintro e w1 ⟨x1,y1,rfl,hci,hb1⟩;(obtain⟨rfl,rfl⟩:=Prod.mk.inj (HS.out.check hci));have HB1:=hideI hb1;obtain⟨q1,q2,q3⟩:=G0.out _ hb1;clear b0 b1 b2 b3;have b0:=q1 0;have b1:=q1 1;have b2:=q1 2;have b3:=q1 3;clear q1 q2 q3 hb1 hci)
  |(go_at_call 74;go_must (refine(gPreds_yes f B _ _ _ (HPW.out _ HB1.out).1 (HPW.out _ HB1.out).2.1 (Nat.le_trans hBW0 HB1.out.size) HID.out HS.out.look).mono ?_);rintro e w2 ⟨gp,vs,rfl,hls,hb2⟩;have HLS:=hideI (hls.mono HB1.out.size);have HB2:=hideI (HB1.out.trans (hb2.mono HB1.out.size));obtain⟨q1,q2,q3⟩:=G0.out _ HB2.out;clear b0 b1 b2 b3;have b0:=q1 0;have b1:=q1 1;have b2:=q1 2;have b3:=q1 3;clear q1 q2 q3 hb2 hls)
  |(go_at_call 86;go_must (refine(idoms_any f B _ _ _ (HPW.out _ HB2.out).1 (HPW.out _ HB2.out).2.1 (Nat.le_trans hBW0 HB2.out.size) HID.out).mono ?_);rintro e w3 (⟨hbad,_⟩|⟨_,o3,pl,par,capo3,gi,rfl,hfs,hdone,hown,hb3⟩);(exact absurd HS.out.look hbad);(obtain rfl:=HS.out.order.one hfs.order);have HFS:=hideI hfs;have HDONE:=hideI hdone;have HOI:=hideI (World.ownsRow.mono hown HB2.out.size);replace HLS:=hideI (HLS.out.kept hb3);have HB3:=hideI (HB2.out.trans (hb3.mono HB2.out.size));obtain⟨q1,q2,q3⟩:=G0.out _ HB3.out;clear b0 b1 b2 b3;have b0:=q1 0;have b1:=q1 1;have b2:=q1 2;have b3:=q1 3;clear q1 q2 q3 hfs hdone hown hb3)
  |(go_at_call 69;go_must (refine(gOrder_yes f B _ _ _ (HPW.out _ HB3.out).1 (HPW.out _ HB3.out).2.1 (Nat.le_trans hBW0 HB3.out.size) HID.out HS.out.look).mono ?_);rintro e w4 ⟨o4,go,capo,rfl,ho,ho0,ho1,hown,hb4⟩;(obtain rfl:=HS.out.order.one ho);have HOO:=hideI (World.ownsRow.mono hown HB3.out.size);replace HLS:=hideI (HLS.out.kept hb4);replace HOI:=hideI (own_kept_below HOI.out hb4 (fun k hk=>(HOI.out.lt k hk).2));have HB4:=hideI (HB3.out.trans (hb4.mono HB3.out.size));clear b0 b1 b2 b3 ho hown hb4;rw[hol])
  |(at_make;go_must (refine wpList_make_full _ rfl _ _ 22 rfl W0.heap.size 3 i0 (.int .i64 0) 1 Tryz.underlying22 hix hz0 hz1 .i64 .i64 _ _ f.blocks.length rfl rfl rfl rfl (by rw[hz2];omega) (by unfold maxLen;omega) (HB4.out.size) ?_);intro w5 hown5 hg5;go_must (have HB5:Hid (Below w4.heap.size w4 w5):=hideI ((Below.refl _ _).grown hg5 (Nat.le_refl _) (by simp));have HO5:=hideI hown5;clear hown5 hg5)))
  have hpl0:w5.ownsRow W0.heap.size 3 1 (.slice (some ⟨w4.heap.size,0,none⟩) f.blocks.length f.blocks.length) f.blocks.length (plcs f.blocks.length (o.take 0) pl):=by
   have h1:=HO5.out
   rw[show(Value.int IntKind.i64 0).cells=#[Value.int .i64 0]from rfl,toList_madeCells_one,Nat.mul_one]at h1
   rw[List.take_zero,plcs_none]
   exact h1
  have HPL:=hideI hpl0
  clear hpl0 hix hz0 hz1 hz2 HO5
  go_loopw [44] (fun u wr=>∃ i:Nat,i≤f.blocks.length∧u=.int .i64 i∧Hid (wr.ownsRow W0.heap.size 3 1 (.slice (some ⟨w4.heap.size,0,none⟩) f.blocks.length f.blocks.length) f.blocks.length (plcs f.blocks.length (o.take i) pl))∧Hid (Below w4.heap.size w4 wr)) (fun u _=>f.blocks.length - (intOf u).toNat)
  case atStart=>exact⟨0,Nat.zero_le _,rfl,HPL,HB5⟩
  case round =>
   obtain⟨i,hi,rfl,HPr,HBr⟩:=hrel
   by_cases hlt:i<f.blocks.length
   ·obtain⟨x,hx⟩:∃ x,o[i]?=some x:=⟨_,List.getElem?_eq_getElem (by omega)⟩
    have hxl:=HR.out x (List.mem_of_getElem? hx)
    have c1:=nat_cell (own_kept_below HOO.out HBr.out (fun k hk=>(HOO.out.lt k hk).2)) hx
    have c2:wr.cell? ⟨w4.heap.size,x,none⟩=some (.int .i64 (if x∈o.take i then ((pl x:Nat):Int)else 0)):=by rw[World.ownsRow.cellAt HPr.out x (by omega)];exact plcs_any hxl
    obtain⟨old,hold⟩:∃ old:Int,old=(if x∈o.take i then ((pl x:Nat):Int)else 0):=⟨_,rfl⟩
    rw[← hold]at c2
    have c3:wr.frozen? ⟨w4.heap.size,x,none⟩=false:=World.ownsRow.frozenAt HPr.out x
    have hst:=World.ownsRow.stored HPr.out x (.int .i64 (i:Int))
    rw[plcs_set hx (HFS.out.ord.place i x hx)]at hst
    have HST:=hideI hst.1
    have HSB:Hid (Below w4.heap.size w4 (wr.setCell ⟨w4.heap.size,x,none⟩ (.int .i64 (i:Int)))):=HBr.out.setCell (Nat.le_refl _) _
    clear hx hst hold
    go_wp2
    go_roundw
    case rel=>exact⟨i+1,by omega,by go_num,HST,HSB⟩
    case measure=>simp[intOf];omega
   ·have hil:i=o.length:=by omega
    have HP2:Hid (wr.ownsRow W0.heap.size 3 1 (.slice (some ⟨w4.heap.size,0,none⟩) f.blocks.length f.blocks.length) f.blocks.length (plcs f.blocks.length o pl)):=by
     have h1:=HPr.out
     rw[hil,List.take_of_length_le (Nat.le_refl _)]at h1
     exact h1
    have HBF:Hid (Below W0.heap.size W0 wr):=HB4.out.trans (HBr.out.mono HB4.out.size)
    obtain⟨q1,q2,q3⟩:=G0.out _ HBF.out
    have b0:=q1 0
    have b1:=q1 1
    have b2:=q1 2
    have b3:=q1 3
    have s0:=q2 0
    have s1:=q2 1
    have s2:=q2 2
    have s3:=q2 3
    have s4:=q2 4
    have s5:=q2 5
    have s6:=q2 6
    have g0:=q3 0
    have g1:=q3 1
    have g2:=q3 2
    have g3:=q3 3
    have g4:=q3 4
    have g5:=q3 5
    have g6:=q3 6
    have hs0:=HS0.out
    have hsr:W0.heap.size≤wr.heap.size:=HBF.out.size
    have HLF:Hid (LfAt wr W0.heap.size f.blocks o pl par gp vs gi w4.heap.size):=⟨HLS.out.kept HBr.out,own_kept_below HOI.out HBr.out (fun k hk=>(HOI.out.lt k hk).2),HP2.out⟩
    clear q1 q2 q3 hil HPr
    go_wp2
    obtain⟨D,L,hDL⟩:=loopF_exists f.blocks o
    refine bodyPost_ret (v:=.tuple #[.agg #[.slice P f.params.length pc,.int .i64 f.arrays,.int .i64 f.cells,.slice A f.blocks.length c,.slice (some ⟨gp,0,none⟩) f.blocks.length f.blocks.length,.slice (some ⟨gi,0,none⟩) f.blocks.length f.blocks.length,.slice (some ⟨w4.heap.size,0,none⟩) f.blocks.length f.blocks.length],.int .i64 0]) (by simp[results,Tryz.results209,go_sem,s0,s1,s2,s3,s4,s5,s6]) rfl (.inr ⟨o,pl,par,D,L,gp,vs,gi,w4.heap.size,⟨HS.out,HFS.out.ord,HDONE.out,HS.out.come,HR.out,hn5,hDL⟩,rfl,?_,?_⟩)
    ·rw[← HS0.out]
     have hl:w.heap.size+1<W0.heap.size:=by omega
     exact((((((HLF.out.other hl _).other hl _).other hl _).other hl _).other hl _).other hl _).other hl _
    ·exact(((((((HPW.out _ HBF.out).2.2.setCell (by simp) _).setCell (by simp) _).setCell (by simp) _).setCell (by simp) _).setCell (by simp) _).setCell (by simp) _).setCell (by simp) _
 ·have hno:∀ x:Int,¬ CheckIs f (x,0):=fun x hx=>hst (strict_of hx).2
  have HNO:=hideI hno
  clear hst hno
  go_enter Tryz.func209,Tryz.ntmps209
  go_upto_region 1 with fail
  rw[← HW0.out]
  go_wp2_with (first
  |(go_at_call 27;go_must (refine HCK.out.mono ?_);rintro e w1 ⟨x1,y1,rfl,hci,hb1⟩;have hy:(y1 != 0)=true:=(by rw[bne_iff_ne];rintro rfl;exact HNO.out _ hci);have HCI:=hideI hci;have HY:=hideI hy;have HB1:=hideI hb1;obtain⟨q1,q2,q3⟩:=G0.out _ hb1;clear b0 b1 b2 b3;have s0:=q2 0;have s1:=q2 1;have s2:=q2 2;have s3:=q2 3;have s4:=q2 4;have s5:=q2 5;have s6:=q2 6;have g0:=q3 0;have g1:=q3 1;have g2:=q3 2;have g3:=q3 3;have g4:=q3 4;have g5:=q3 5;have g6:=q3 6;clear q1 q2 q3 hb1 hci))
  refine bodyPost_ret (v:=.tuple #[.agg #[.slice none 0 0,.int .i64 0,.int .i64 0,.slice none 0 0,.slice none 0 0,.slice none 0 0,.slice none 0 0],.int .i64 y1]) (by simp[results,Tryz.results209,go_sem,s0,s1,s2,s3,s4,s5,s6]) rfl (.inl ⟨x1,y1,HCI.out,by simpa using HY.out,rfl,?_⟩)
  exact(((((((HPW.out _ HB1.out).2.2.setCell (by simp) _).setCell (by simp) _).setCell (by simp) _).setCell (by simp) _).setCell (by simp) _).setCell (by simp) _).setCell (by simp) _
end Go.Proofs.YtaehbgppfahdeaaGreat
