/- What CanonChecks rests on, part 18: CCheck, CAwake, LHas, RPlain, RPreds. -/
import Derived.Test.YtaehbgppfahdeaaGreatPkCanonChecks17
import Derived.Deep.QuietTactic
import Derived.BigQuiet

namespace Go.Proofs.YtaehbgppfahdeaaGreat
open Go.RowKit Go.Maps
structure LpGood (n:Nat) (x:LpM):Prop where
 rise:x.blocks.Pairwise (· < ·)
 blocks:x.blocks.length ≤ 512
 latches:x.latches.length ≤ 512
 exits:x.exits.length ≤ 512
 exin:∀ e ∈ x.exits,e < n
 head:x.head < n
structure NestAt (w:World) (lo B q gp n c:Nat) (A:Option Addr) (p0 p1 p2 lv lm:Value) (vs:List Value) (bs:List BlockM):Prop where
 box:w.heap[q]?=some (.cells #[p0,p1,p2,.slice A n c,lv,lm,.slice (some ⟨gp,0,none⟩) n n] 83 (0,0))
 preds:Lists w lo gp bs.length vs (predsAt bs bs.length bs.length 0)
 blocks:BlocksR w B (.slice A n c) bs
 le:B ≤ w.heap.size
 n_:n=bs.length
 n5:n ≤ 512
theorem NestAt.kept {w w':World} {lo B q gp n c:Nat} {A:Option Addr} {p0 p1 p2 lv lm:Value} {vs:List Value} {bs:List BlockM} (h:NestAt w lo B q gp n c A p0 p1 p2 lv lm vs bs) (hb:Below w.heap.size w w'):NestAt w' lo B q gp n c A p0 p1 p2 lv lm vs bs :=
 ⟨(hb.block _ (lt_of_heap h.box)).trans h.box,h.preds.kept hb,h.blocks.keeps (Keeps.of_below (hb.mono h.le)),Nat.le_trans h.le hb.size,h.n_,h.n5⟩
set_option maxRecDepth 100000 in
set_option maxHeartbeats 4000000 in
theorem cFn_any (bs:List BlockM) (x:LpM) (lo B q gp n c:Nat) (A:Option Addr) (vs:List Value) (p0 p1 p2 lv lm b1 b2 b3:Value) (w:World) (hN:NestAt w lo B q gp n c A p0 p1 p2 lv lm vs bs) (hg:LpGood n x) (s1:Ints w w.heap.size b1 (x.blocks.map fun (x:Nat) => (x:Int))) (s2:∃ A2 c2,b2=.slice A2 x.latches.length c2) (s3:Ints w w.heap.size b3 (x.exits.map fun (x:Nat) => (x:Int))) (v4:Value) :
  Calls Tryz.prog 41 #[.agg #[.int .i64 (x.head:Int),b1,b2,b3,v4],.pointer (some ⟨q,0,none⟩)] w fun e w' => e=.returned (.bool (!plainB bs x)) ∧ Below w.heap.size w w':=by
 have s1':=s1
 obtain ⟨A1,c1,rfl,_,_⟩:=s1
 obtain ⟨A2,c2,rfl⟩:=s2
 rw [List.length_map] at s1' ⊢
 obtain ⟨hd,hhd⟩:∃ hd,hd=x.head:=⟨_,rfl⟩
 obtain ⟨m1,hm1⟩:∃ m1,m1=x.blocks.length:=⟨_,rfl⟩
 obtain ⟨m2,hm2⟩:∃ m2,m2=x.latches.length:=⟨_,rfl⟩
 rw [← hm1] at s1' ⊢
 rw [← hm2,← hhd]
 obtain ⟨A3,c3,rfl⟩:∃ A3 c3,b3=.slice A3 x.exits.length c3:=by obtain ⟨A3,c3,e,_⟩:=s3;rw [List.length_map] at e;exact ⟨A3,c3,e⟩
 obtain ⟨m3,hm3⟩:∃ m3,m3=x.exits.length:=⟨_,rfl⟩
 rw [← hm3] at s3 ⊢
 obtain ⟨W,hW⟩:∃ W,W=w.alloc (.cells #[.int .i64 (hd:Int),.slice A1 m1 c1,.slice A2 m2 c2,.slice A3 m3 c3,v4] 88):=⟨_,rfl⟩
 have HBW:Hid (Below w.heap.size w W):=by show Below _ _ _;rw [hW];exact (Below.refl _ w).alloc (Nat.le_refl _) _
 have hNW:=hN.kept HBW.out
 have HC:=hideI (plain_any bs x n lo gp hd m1 m2 c c1 c2 B A A1 A2 vs p0 p1 p2 lv lm (.slice A3 m3 c3) v4 W hNW.preds hNW.blocks hNW.le ((s1'.keep HBW.out).more HBW.out.size) ((s3.keep HBW.out).more HBW.out.size) hm1 hm2 hg.rise hg.blocks hN.n5 hN.n_ hhd (by rw [hhd];exact hg.head) hg.exin)
 have hx1:=row_cells hNW.box rfl
 have q0:=hx1 0
 have q1:=hx1 1
 have q2:=hx1 2
 have q3:=hx1 3
 have q4:=hx1 4
 have q5:=hx1 5
 have q6:=hx1 6
 have HW0:=hideI hW
 clear hx1 hNW hN hg s1' s3 hhd hm1 hm2 hm3 hW
 go_enter Tryz.func41,Tryz.ntmps41
 go_upto_region 1 with fail
 rw [← HW0.out]
 have hx2:=row_cells (by rw [HW0.out];exact heap_alloc_new w _:W.heap[w.heap.size]?=some (.cells #[.int .i64 (hd:Int),.slice A1 m1 c1,.slice A2 m2 c2,.slice A3 m3 c3,v4] 88 (0,0))) rfl
 have l0:=hx2 0
 have l1:=hx2 1
 have l2:=hx2 2
 have l3:=hx2 3
 have l4:=hx2 4
 clear hx2
 go_wp2_with (go_at_call 42;go_must (refine HC.out.mono ?_);rintro e w1 ⟨rfl,hb⟩;have HB:=hideI hb;clear hb)
 go_ret
 exact ⟨rfl,HBW.out.trans (HB.out.mono HBW.out.size)⟩
set_option maxRecDepth 100000 in
set_option maxHeartbeats 4000000 in
theorem idxLp_any (bs:List BlockM) (ls:List LpM) (lo B q gp n c base:Nat) (A:Option Addr) (vs:List Value) (p0 p1 p2 lv lm lw:Value) (w:World) (hN:NestAt w lo B q gp n c A p0 p1 p2 lv lm vs bs) (hls:LoopsR w base lw ls) (hg:∀ x ∈ ls,LpGood n x) (hlen:ls.length ≤ 512) :
  Calls Tryz.prog 40 #[lw,.func (.func 41) #[] #[.pointer (some ⟨q,0,none⟩)]] w fun e w' => ∃ r,e=.returned (.int .i64 r) ∧ FirstBy (fun x => !plainB bs x) ls r ∧ Below w.heap.size w w':=by
 have HNA:=hideI hN
 have HLW:=hideI hls
 have HGD:=hideI hg
 obtain ⟨Av,cv,rfl⟩:∃ A c,lw=.slice A ls.length c:=by obtain ⟨cs,h1,_⟩:=hls.ex;exact own_sl h1
 obtain ⟨m,hm⟩:∃ m,m=ls.length:=⟨_,rfl⟩
 have HM:=hideI hm
 rw [← hm] at hlen ⊢
 clear hN hls hg hm
 go_enter Tryz.func40,Tryz.ntmps40
 go_wp2
 go_loopg [5,8] m (fun gg _ s8 wr => ∃ kk:Nat,kk ≤ m ∧ m - kk ≤ gg ∧ s8=.int .i64 kk ∧ Hid (Below w.heap.size w wr) ∧ Hid (∀ j y,j < kk → ls[j]?=some y → (!plainB bs y)=false))
 case atStart => exact ⟨0,Nat.zero_le _,by omega,rfl,Below.refl _ w,fun j y h => absurd h (Nat.not_lt_zero _)⟩
 case round =>
  obtain ⟨k,hk,hgg,rfl,HBr,HA⟩:=hrel
  by_cases hlt:k < m
  ·obtain ⟨x,hxk⟩:∃ x,ls[k]?=some x:=⟨_,List.getElem?_eq_getElem (by have:=HM.out;omega)⟩
   obtain ⟨g,cap0,b1,b2,b3,hv,hgb,hgl,k0,k1,k2,k3,k4,s1,s2,s3,_⟩:=HLW.out.cells hxk
   injection hv with e1 _ e3
   subst e1 e3
   have GD:=HGD.out x (List.mem_of_getElem? hxk)
   have r0:=(HBr.out.cell (p:=⟨g,k * 5,none⟩) hgl).trans k0
   have r1:=(HBr.out.cell (p:=⟨g,k * 5 + 1,none⟩) hgl).trans k1
   have r2:=(HBr.out.cell (p:=⟨g,k * 5 + 2,none⟩) hgl).trans k2
   have r3:=(HBr.out.cell (p:=⟨g,k * 5 + 3,none⟩) hgl).trans k3
   have r4:=(HBr.out.cell (p:=⟨g,k * 5 + 4,none⟩) hgl).trans k4
   have i1:=((s1.ints (by have:=GD.blocks;omega)).keep HBr.out).more HBr.out.size
   have i3:=((s3.ints (by have:=GD.exits;omega)).keep HBr.out).more HBr.out.size
   obtain ⟨A2,c2,e2⟩:=own_sl s2.1
   have HC:=hideI (cFn_any bs x lo B q gp n c A vs p0 p1 p2 lv lm b1 b2 b3 wr (HNA.out.kept HBr.out) GD i1 ⟨A2,c2,e2⟩ i3 (.int .i64 x.parent))
   have HXK:=hideI hxk
   have o1:=own_sl s1.1
   have o3:=own_sl s3.1
   obtain ⟨_,_,rfl⟩:=o1
   obtain ⟨_,_,rfl⟩:=o3
   subst e2
   obtain ⟨hd,hhd⟩:∃ hd,hd=x.head:=⟨_,rfl⟩
   obtain ⟨pr,hpr⟩:∃ pr,pr=x.parent:=⟨_,rfl⟩
   obtain ⟨m1,hm1⟩:∃ m1,m1=x.blocks.length:=⟨_,rfl⟩
   obtain ⟨m2,hm2⟩:∃ m2,m2=x.latches.length:=⟨_,rfl⟩
   obtain ⟨m3,hm3⟩:∃ m3,m3=x.exits.length:=⟨_,rfl⟩
   rw [← hhd] at r0 HC
   rw [← hpr] at r4 HC
   rw [← hm1] at r1 HC
   rw [← hm2] at r2 HC
   rw [← hm3] at r3 HC
   clear hxk k0 k1 k2 k3 k4 s1 s2 s3 GD i1 i3 hhd hpr hm1 hm2 hm3
   cases hq:!plainB bs x with
   | true =>
    rw [hq] at HC
    have HQ:=hideI hq
    clear hq
    go_wp2_with (go_at_call 41;refine HC.out.mono ?_;rintro e w' ⟨rfl,hb'⟩)
    go_ret
    exact ⟨_,rfl,.inr ⟨k,x,rfl,HXK.out,HQ.out,HA.out⟩,HBr.out.trans (hb'.mono HBr.out.size)⟩
   | false =>
    rw [hq] at HC
    have HQ:=hideI hq
    clear hq
    go_wp2_with (go_at_call 41;refine HC.out.mono ?_;rintro e w' ⟨rfl,hb'⟩)
    go_roundg (m - (k + 1))
    case measure => omega
    case rel =>
     refine ⟨k + 1,by omega,by omega,by go_num,HBr.out.trans (hb'.mono HBr.out.size),fun j y hj hy => ?_⟩
     by_cases e:j=k
     ·subst e
      have h1:=HXK.out
      rw [hy] at h1
      cases h1
      exact HQ.out
     ·exact HA.out j y (by omega) hy
  ·have hkn:k=m:=by omega
   subst hkn
   go_wp2
   go_ret
   refine ⟨_,rfl,.inl ⟨rfl,fun x hx => ?_⟩,HBr.out⟩
   obtain ⟨j,hj⟩:=List.getElem?_of_mem hx
   exact HA.out j x (by have:=(List.getElem?_eq_some_iff.1 hj).1;have:=HM.out;omega) hj
def CCheckPost (f:FuncM) (w:World) (e:Ending) (w':World):Prop :=
 (∃ x y:Int,CheckIs f (x,y) ∧ y ≠ 0 ∧ e=.returned (.tuple #[.int .i64 0,.int .i64 y]) ∧ Below w.heap.size w w') ∨
 (∃ (o:List Nat) (pl:Nat → Nat) (par:Nat → Option Nat) (D L:Nat → Nat → Bool),LoopsOf f o pl par D L ∧
  (((∀ x ∈ loopsM f.blocks D L,plainB f.blocks x=true) ∧ e=.returned (.tuple #[.int .i64 0,.int .i64 0])) ∨
   ∃ (k:Nat) (x:LpM),(loopsM f.blocks D L)[k]?=some x ∧ plainB f.blocks x=false ∧ (∀ j y,j < k → (loopsM f.blocks D L)[j]?=some y → plainB f.blocks y=true) ∧ e=.returned (.tuple #[.int .i64 (x.head:Int),.int .i64 11])) ∧ Below w.heap.size w w')
theorem loops_good {bs:List BlockM} {D L:Nat → Nat → Bool} (hn:bs.length ≤ 512):∀ x ∈ loopsM bs D L,LpGood bs.length x:=by
 intro x hx
 obtain ⟨i,hi⟩:=List.getElem?_of_mem hx
 have X:=loops_at hi
 have R:=loops_rising hn x hx
 refine ⟨R.1,R.2,?_,?_,?_,X.head_lt⟩
 ·rw [X.latches]
  exact Nat.le_trans (List.length_filter_le _ _) (Nat.le_trans (predsTo_len _ _ _) hn)
 ·rw [X.exits]
  refine Nat.le_trans (List.length_filter_le _ _) ?_
  simpa using hn
 ·rw [X.exits]
  intro e he
  simpa using (List.mem_filter.1 he).1
set_option maxRecDepth 100000 in
set_option maxHeartbeats 800000 in
theorem cCheck_any (f:FuncM) (B:Nat) (pv bv:Value) (w:World) (hpv:Ints w B pv f.params) (hbv:BlocksR w B bv f.blocks) (hB:B ≤ w.heap.size) (hid:∀ u ∈ usesM f,I64 u.1) :
  Calls Tryz.prog 16 #[.agg #[pv,.int .i64 f.arrays,.int .i64 f.cells,bv]] w (CCheckPost f w):=by
 have HP:=hideI hpv
 have HBL:=hideI hbv
 obtain ⟨P,pc,rfl,_⟩:=hpv
 obtain ⟨A,c,rfl,hbm,_⟩:=hbv
 obtain ⟨W,hW⟩:∃ W:World,W=w.alloc (.cells #[.slice P f.params.length pc,.int .i64 f.arrays,.int .i64 f.cells,.slice A f.blocks.length c] 25):=⟨_,rfl⟩
 have HB0:Hid (Below w.heap.size w W):=by show Below _ _ _;rw [hW];exact (Below.refl _ w).alloc (Nat.le_refl _) _
 have hx1:W.heap[w.heap.size]?=some (.cells #[.slice P f.params.length pc,.int .i64 f.arrays,.int .i64 f.cells,.slice A f.blocks.length c] 25 (0,0)):=by
  rw [hW]
  exact heap_alloc_new w _
 have HT:=hideI (cNest_any f B _ _ W (HP.out.keeps (Keeps.of_below (HB0.out.mono hB))) (HBL.out.keeps (Keeps.of_below (HB0.out.mono hB))) (Nat.le_trans hB HB0.out.size) hid)
 have HBW:=hideI (HBL.out.keeps (Keeps.of_below (HB0.out.mono hB)))
 have HW0:=hideI hW
 have hqs:=row_cells hx1 rfl
 have q0:=hqs 0
 have q1:=hqs 1
 have q2:=hqs 2
 have q3:=hqs 3
 clear hid hW hx1 hqs
 by_cases hst:∃ o,StrictM f o
 ·obtain ⟨o0,hst⟩:=hst
  have HST:=hideI hst
  have HN5:=hideI (look_some_block hst.look).2
  clear hst
  go_enter Tryz.func16,Tryz.ntmps16
  go_upto_region 1 with fail
  rw [← HW0.out]
  go_upto_region 4 with (go_at_call 39;go_must (refine HT.out.mono ?_);rintro e w1 (⟨x,y,hci,hy,_⟩ | ⟨o,pl,par,D,L,lv,lm,gp,vs,hk,rfl,hlp,⟨gl,rfl,_⟩,hls,hb⟩);(exact absurd (Prod.mk.inj (HST.out.check hci)).2 hy);(obtain ⟨Av,cv,rfl⟩:∃ A c,lv=.slice A (loopsM f.blocks D L).length c:=(by obtain ⟨cs,h1,_⟩:=hlp.ex;exact own_sl h1));have HK:=hideI hk;have HLP:=hideI hlp;have HLS:=hideI hls;have HB1:=hideI hb;clear hk hlp hls hb q0 q1 q2 q3)
  obtain ⟨w2,hw2⟩:∃ w2:World,w2=w1.alloc (.cells #[.slice P f.params.length pc,.int .i64 f.arrays,.int .i64 f.cells,.slice A f.blocks.length c,.slice Av (loopsM f.blocks D L).length cv,.slice (some ⟨gl,0,none⟩) f.blocks.length f.blocks.length,.slice (some ⟨gp,0,none⟩) f.blocks.length f.blocks.length] 83):=⟨_,rfl⟩
  rw [← hw2]
  have hX2:w2.heap[w1.heap.size]?=some (.cells #[.slice P f.params.length pc,.int .i64 f.arrays,.int .i64 f.cells,.slice A f.blocks.length c,.slice Av (loopsM f.blocks D L).length cv,.slice (some ⟨gl,0,none⟩) f.blocks.length f.blocks.length,.slice (some ⟨gp,0,none⟩) f.blocks.length f.blocks.length] 83 (0,0)):=by
   rw [hw2]
   exact heap_alloc_new w1 _
  have HX2:=hideI hX2
  have HK2:Hid (Below w1.heap.size w1 w2):=by show Below _ _ _;rw [hw2];exact (Below.refl _ w1).alloc (Nat.le_refl _) _
  have HNA:Hid (NestAt w2 W.heap.size B w1.heap.size gp f.blocks.length c A (.slice P f.params.length pc) (.int .i64 f.arrays) (.int .i64 f.cells) (.slice Av (loopsM f.blocks D L).length cv) (.slice (some ⟨gl,0,none⟩) f.blocks.length f.blocks.length) vs f.blocks) :=
   ⟨hX2,HLS.out.kept HK2.out,(HBW.out.keeps (Keeps.of_below (HB1.out.mono (Nat.le_trans hB HB0.out.size)))).keeps (Keeps.of_below (HK2.out.mono (Nat.le_trans (Nat.le_trans hB HB0.out.size) HB1.out.size))),Nat.le_trans (Nat.le_trans (Nat.le_trans hB HB0.out.size) HB1.out.size) HK2.out.size,rfl,HN5.out⟩
  have HL2:=hideI (HLP.out.kept HK2.out)
  have HB2:Hid (Below w.heap.size w w2):=(HB0.out.trans (HB1.out.mono HB0.out.size)).trans (HK2.out.mono (Nat.le_trans HB0.out.size HB1.out.size))
  have HIX:=hideI (idxLp_any f.blocks (loopsM f.blocks D L) W.heap.size B w1.heap.size gp f.blocks.length c W.heap.size A vs _ _ _ _ _ _ w2 HNA.out HL2.out (loops_good HN5.out) (Nat.le_trans loops_len HN5.out))
  obtain ⟨m,hm⟩:∃ m,m=(loopsM f.blocks D L).length:=⟨_,rfl⟩
  have HM:=hideI hm
  rw [← hm] at HIX hX2
  have hqs:=row_cells hX2 rfl
  have q4:=hqs 4
  clear hqs hX2 hw2 hm
  by_cases hall:∀ x ∈ loopsM f.blocks D L,plainB f.blocks x=true
  ·have HALL:=hideI hall
   clear hall
   go_wp2_with (go_at_call 40;go_must (refine HIX.out.mono ?_);rintro e w3 ⟨r,rfl,hr,hb⟩;obtain rfl:r=-1:=hr.one (.inl ⟨rfl,fun x hx => by show (!plainB f.blocks x)=false;rw [HALL.out x hx];rfl⟩);have HB3:=hideI hb;clear hr hb q4)
   go_ret2
   exact .inr ⟨o,pl,par,D,L,HK.out,.inl ⟨HALL.out,rfl⟩,HB2.out.trans (HB3.out.mono HB2.out.size)⟩
  ·have hne:¬ ∀ x ∈ loopsM f.blocks D L,(!plainB f.blocks x)=false:=fun h => hall fun x hx => by simpa using h x hx
   obtain ⟨k,x,hk,hx,hbf⟩:=first_some hne
   have hkm:k < m:=by rw [HM.out];exact (List.getElem?_eq_some_iff.1 hk).1
   obtain ⟨g,cap0,b1,b2,b3,hv,hgb,hgl,k0,_⟩:=HL2.out.cells hk
   injection hv with e1 _ e3
   subst e1 e3
   have HF:Hid (FirstBy (fun x => !plainB f.blocks x) (loopsM f.blocks D L) (k:Int)):=.inr ⟨k,x,rfl,hk,hx,hbf⟩
   have HC0:=hideI k0
   have hnk:¬ ((k:Int) < 0):=by omega
   have HKX:=hideI hk
   have HXF:=hideI hx
   have HBF:=hideI hbf
   clear hall hne hk hx hbf k0
   go_wp2_with (go_at_call 40;go_must (refine HIX.out.mono ?_);rintro e w3 ⟨r,rfl,hr,hb⟩;obtain rfl:=hr.one HF.out;have HB3:=hideI hb;have hqs:=row_cells ((hb.block _ (lt_of_heap HX2.out)).trans HX2.out) rfl;have q4':=hqs 4;have c0:=(hb.cell (p:=⟨g,k * 5,none⟩) hgl).trans HC0.out;rw [← HM.out] at q4';clear hr hb q4 hqs)
   go_ret2
   exact .inr ⟨o,pl,par,D,L,HK.out,.inr ⟨k,x,HKX.out,by simpa using HXF.out,fun j y hj hy => by simpa using HBF.out j y hj hy,rfl⟩,HB2.out.trans (HB3.out.mono HB2.out.size)⟩
 ·have HNG:Hid (∀ o,StrictM f o → False):=fun o h => hst ⟨o,h⟩
  clear hst
  go_enter Tryz.func16,Tryz.ntmps16
  go_upto_region 1 with fail
  rw [← HW0.out]
  go_wp2_with (go_at_call 39;go_must (refine HT.out.mono ?_);rintro e w1 (⟨x1,y1,hci,hy1,rfl,hb⟩ | ⟨o,pl,par,D,L,lv,lm,gp,vs,hk,_⟩);rotate_left;(exact (HNG.out o hk.strict).elim);have hy:(y1 != 0)=true:=(by rw [bne_iff_ne];exact hy1);have HCI:=hideI hci;have HY:=hideI hy1;have HB1:=hideI hb;clear hb hci hy1)
  go_ret2
  exact .inl ⟨x1,y1,HCI.out,HY.out,rfl,(HB0.out.trans (HB1.out.mono HB0.out.size)).alloc (Nat.le_trans HB0.out.size HB1.out.size) _⟩
end Go.Proofs.YtaehbgppfahdeaaGreat

namespace Go.Proofs.YtaehbgppfahdeaaGreat
open Go.RowKit Go.Maps
set_option maxRecDepth 100000 in
set_option maxHeartbeats 2000000 in
theorem simpNone_any (f:FuncM) (B:Nat) (pv bv:Value) (w:World) (hpv:Ints w B pv f.params) (hbv:BlocksR w B bv f.blocks) (hB:B ≤ w.heap.size) (hid:∀ u ∈ usesM f,I64 u.1) (hr:∀ x ∈ idsOut f,0 ≤ x ∧ x ≤ 1048575) (hst:∃ o,StrictM f o) (hf:FnFits f) (hone:f.blocks.length=1) (hpr:predsTo f.blocks f.blocks.length 0=[]) (hnl:∀ D L,loopsM f.blocks D L=[]) :
  Calls Tryz.prog 49 #[.agg #[pv,.int .i64 f.arrays,.int .i64 f.cells,bv]] w fun e w' => ∃ (P:Option Addr) (pc:Nat) (A:Option Addr) (c:Nat),e=.returned (.tuple #[.agg #[.slice P f.params.length pc,.int .i64 f.arrays,.int .i64 f.cells,.slice A f.blocks.length c],.int .i64 0]) ∧ Below w.heap.size w w':=by
 have HP:=hideI hpv
 have HBL:=hideI hbv
 have HID:=hideI hid
 obtain ⟨P,pc,rfl,_⟩:=hpv
 obtain ⟨A,c,rfl,_⟩:=hbv
 obtain ⟨o0,hst⟩:=hst
 have HST:=hideI hst
 obtain ⟨W,hW⟩:∃ W:World,W=(w.alloc (.cells #[.slice P f.params.length pc,.int .i64 f.arrays,.int .i64 f.cells,.slice A f.blocks.length c] 25)).alloc (.cells #[.slice none 0 0,.int .i64 0,.int .i64 0,.slice none 0 0] 25):=⟨_,rfl⟩
 have HB0:Hid (Below w.heap.size w W):=by show Below _ _ _;rw [hW];exact ((Below.refl _ w).alloc (Nat.le_refl _) _).alloc (by simp) _
 have hx1:W.heap[w.heap.size]?=some (.cells #[.slice P f.params.length pc,.int .i64 f.arrays,.int .i64 f.cells,.slice A f.blocks.length c] 25 (0,0)):=by
  rw [hW,Below.heap_alloc _ _ _ (by simp)]
  exact heap_alloc_new w _
 have hx2:W.heap[w.heap.size + 1]?=some (.cells #[.slice none 0 0,.int .i64 0,.int .i64 0,.slice none 0 0] 25 (0,0)):=by
  rw [hW]
  have:=heap_alloc_new (w.alloc (.cells #[.slice P f.params.length pc,.int .i64 f.arrays,.int .i64 f.cells,.slice A f.blocks.length c] 25)) (.cells #[.slice none 0 0,.int .i64 0,.int .i64 0,.slice none 0 0] 25)
  simpa using this
 have HX2:=hideI hx2
 have hwW:w.heap.size + 1 < W.heap.size:=lt_of_heap hx2
 have hBW:B ≤ W.heap.size:=Nat.le_trans hB HB0.out.size
 have hk:Keeps B w W:=Keeps.of_below (HB0.out.mono hB)
 have HPW:=hideI (HP.out.keeps hk)
 have HBV:=hideI (HBL.out.keeps hk)
 have HT:=hideI (cNest_any f B _ _ W HPW.out HBV.out hBW hid)
 have HW0:=hideI hW
 have HR:=hideI hr
 have HF:=hideI hf
 have HONE:=hideI hone
 have HPR:=hideI hpr
 have HNL:=hideI hnl
 have hqs:=row_cells hx1 rfl
 have q0:=hqs 0
 have q1:=hqs 1
 have q2:=hqs 2
 have q3:=hqs 3
 clear hid hW hx1 hx2 hqs hr hf hone hpr hnl hst hk
 go_enter Tryz.func49,Tryz.ntmps49
 go_upto_region 1 with fail
 rw [← HW0.out]
 go_upto_region 4 with (go_at_call 39;go_must (refine HT.out.mono ?_);rintro e w1 (⟨x,y,hci,hy,_⟩ | ⟨o,pl,par,D,L,lv,lm,gp,vs,hk,rfl,hlp,⟨gl,rfl,_⟩,hls,hb⟩);(exact absurd (Prod.mk.inj (HST.out.check hci)).2 hy);(obtain ⟨Av,cv,rfl⟩:∃ A c,lv=.slice A 0 c:=(by obtain ⟨cs,h1,_⟩:=hlp.ex;rw [HNL.out D L] at h1;exact own_sl h1));have HLS:=hideI hls;have HB1:=hideI hb;clear hk hlp hls hb q0 q1 q2 q3)
 obtain ⟨w2,hw2⟩:∃ w2:World,w2=w1.alloc (.cells #[.slice P f.params.length pc,.int .i64 f.arrays,.int .i64 f.cells,.slice A f.blocks.length c,.slice Av 0 cv,.slice (some ⟨gl,0,none⟩) f.blocks.length f.blocks.length,.slice (some ⟨gp,0,none⟩) f.blocks.length f.blocks.length] 83):=⟨_,rfl⟩
 rw [← hw2]
 have hX2:w2.heap[w1.heap.size]?=some (.cells #[.slice P f.params.length pc,.int .i64 f.arrays,.int .i64 f.cells,.slice A f.blocks.length c,.slice Av 0 cv,.slice (some ⟨gl,0,none⟩) f.blocks.length f.blocks.length,.slice (some ⟨gp,0,none⟩) f.blocks.length f.blocks.length] 83 (0,0)):=by
  rw [hw2]
  exact heap_alloc_new w1 _
 have HK2:Hid (Below w1.heap.size w1 w2):=by show Below _ _ _;rw [hw2];exact (Below.refl _ w1).alloc (Nat.le_refl _) _
 have HB2:Hid (Below W.heap.size W w2):=HB1.out.trans (HK2.out.mono HB1.out.size)
 have HSH:=hideI (shapedNone_any f B W.heap.size gp pc c cv f.blocks.length f.blocks.length P A Av (some ⟨gl,0,none⟩) vs w2 (HPW.out.keeps (Keeps.of_below (HB2.out.mono hBW))) (HBV.out.keeps (Keeps.of_below (HB2.out.mono hBW))) (Nat.le_trans hBW HB2.out.size) (HLS.out.kept HK2.out) HID.out HR.out HST.out.look HF.out HONE.out HPR.out)
 have hqs:=row_cells hX2 rfl
 have q0:=hqs 0
 have q1:=hqs 1
 have q2:=hqs 2
 have q3:=hqs 3
 have q4:=hqs 4
 have q5:=hqs 5
 have q6:=hqs 6
 clear hqs hX2 hw2
 go_upto_region 5 with (go_at_call 82;go_must (refine HSH.out.mono ?_);rintro e w3 ⟨v1,base,P1,pc1,A1,c1,rfl,e1,e2,ho,hlo,hb⟩;have HE1:=hideI e1;have HE2:=hideI e2;have HOW:=hideI ho;have HB3:=hideI (HB2.out.trans (hb.mono HB2.out.size));clear e1 e2 ho hlo hb q0 q1 q2 q3 q4 q5 q6)
 obtain ⟨w4,hw4⟩:∃ w4:World,w4=w3.alloc (.cells #[.slice P1 f.params.length pc1,.int .i64 f.arrays,.int .i64 f.cells,.slice A1 f.blocks.length c1] 25):=⟨_,rfl⟩
 rw [← hw4]
 have hX4:w4.heap[w3.heap.size]?=some (.cells #[.slice P1 f.params.length pc1,.int .i64 f.arrays,.int .i64 f.cells,.slice A1 f.blocks.length c1] 25 (0,0)):=by
  rw [hw4]
  exact heap_alloc_new w3 _
 have HX4:=hideI hX4
 have hK4:Below w3.heap.size w3 w4:=by rw [hw4];exact (Below.refl _ w3).alloc (Nat.le_refl _) _
 have HB4:Hid (Below W.heap.size W w4):=HB3.out.trans (hK4.mono HB3.out.size)
 have hrd:=OwnG.rd (HOW.out.below hK4) (look_small HST.out.look)
 have hi1:=hrd.params
 have hb1:=hrd.blocks HF.out
 rw [HE1.out] at hi1
 rw [HE2.out] at hb1
 have h0:=check_any f w4.heap.size _ _ w4 hi1 hb1 (Nat.le_refl _) HID.out
 rw [HST.out.look] at h0
 have HCK:=hideI h0
 have hqs:=row_cells hX4 rfl
 have q0:=hqs 0
 have q1:=hqs 1
 have q2:=hqs 2
 have q3:=hqs 3
 clear hqs hX4 hw4 hK4 hrd hi1 hb1 h0
 go_wp2_with (go_at_call 83;go_must (refine HCK.out.mono ?_);rintro e w5 ⟨rfl,hb⟩;have HB5:=hideI (HB4.out.trans (hb.mono HB4.out.size));have hxx:=row_cells ((hb.block _ (lt_of_heap HX4.out)).trans HX4.out) rfl;clear q0 q1 q2 q3;have q0:=hxx 0;have q1:=hxx 1;have q2:=hxx 2;have q3:=hxx 3;have hx2:=(HB5.out.block _ hwW).trans HX2.out;have hns:=row_cells hx2 rfl;have n0:=hns 0;have n1:=hns 1;have n2:=hns 2;have n3:=hns 3;have fr:=free_rowN hx2 rfl;have f0:=fr 0;have f1:=fr 1;have f2:=fr 2;have f3:=fr 3;clear hns fr hx2 hxx hb)
 refine bodyPost_ret (v:=.tuple #[.agg #[.slice P1 f.params.length pc1,.int .i64 f.arrays,.int .i64 f.cells,.slice A1 f.blocks.length c1],.int .i64 0]) (by simp [results,Tryz.results49,go_sem,n0,n1,n2,n3]) rfl ⟨P1,pc1,A1,c1,rfl,?_⟩
 exact ((((HB0.out.trans (HB5.out.mono HB0.out.size)).setCell (by simp) _).setCell (by simp) _).setCell (by simp) _).setCell (by simp) _
theorem awake_fits:FnFits awakeF:=by
 refine ⟨fun b hb p hp => ?_,fun b hb x hx => ?_,fun b hb => ?_⟩
 ·simp [awakeF] at hb
  subst hb
  simp at hp
 ·simp [awakeF] at hb
  subst hb
  simp at hx
  subst hx
  exact ⟨by unfold I64;decide,by unfold I64;decide,by unfold I64;decide⟩
 ·simp [awakeF] at hb
  subst hb
  exact ⟨by unfold I64;decide,by unfold I64;decide,by unfold I64;decide⟩
theorem awake_ids10:idsOut awakeF=[0]:=by
 unfold idsOut idsS
 rw [awake_look]
 simp
theorem awake_idsOut:∀ x ∈ idsOut awakeF,0 ≤ x ∧ x ≤ 1048575:=by
 intro x hx
 rw [awake_ids10] at hx
 simp at hx
 omega
theorem awake_simplify (w:World):Calls Tryz.prog 49 #[.agg #[.slice none 0 0,.int .i64 0,.int .i64 0,.slice (some ⟨w.heap.size + 1,0,none⟩) 1 1]] (awakeMade w) fun e w' => ∃ (P:Option Addr) (pc:Nat) (A:Option Addr) (c:Nat),e=.returned (.tuple #[.agg #[.slice P 0 pc,.int .i64 0,.int .i64 0,.slice A 1 c],.int .i64 0]) ∧ Below w.heap.size w w':=by
 obtain ⟨h1,h2,h3⟩:=awakeMade_facts w
 refine (simpNone_any awakeF (w.heap.size + 2) (.slice none 0 0) _ (awakeMade w) (Ints.nil _ _) h1 (by omega) awake_uses awake_idsOut awake_strict awake_fits rfl (by decide) (fun D L => awake_loops)).mono ?_
 rintro e w1 ⟨P,pc,A,c,rfl,hb⟩
 exact ⟨P,pc,A,c,rfl,h3.trans (hb.mono (by omega))⟩
theorem awake_check10 (w:World):Calls Tryz.prog 16 #[.agg #[.slice none 0 0,.int .i64 0,.int .i64 0,.slice (some ⟨w.heap.size + 1,0,none⟩) 1 1]] (awakeMade w) fun e w' => e=.returned (.tuple #[.int .i64 0,.int .i64 0]) ∧ Below w.heap.size w w':=by
 obtain ⟨h1,h2,h3⟩:=awakeMade_facts w
 refine (cCheck_any awakeF (w.heap.size + 2) (.slice none 0 0) _ (awakeMade w) (Ints.nil _ _) h1 (by omega) awake_uses).mono ?_
 rintro e w1 (⟨x,y,hc,hy,_⟩ | ⟨o,pl,par,D,L,hk,h,hb⟩)
 ·exact absurd (Prod.mk.inj (awake_check9 hc)).2 hy
 ·rw [awake_loops] at h
  rcases h with ⟨_,rfl⟩ | ⟨k,x,hx,_⟩
  ·exact ⟨rfl,h3.trans (hb.mono (by omega))⟩
  ·cases hx
set_option maxRecDepth 100000 in
set_option maxHeartbeats 1000000 in
theorem awake10_any (w:World):Calls Tryz.prog 18 #[] w fun e w' => e=.returned (.bool true) ∧ Below w.heap.size w w':=by
 have HI:=hideI (awake_check10 w)
 have HD:Hid (∀ w,_):=hideI (fun w => awake_simplify w)
 unfold awakeMade at HI
 go_enter Tryz.func18,Tryz.ntmps18
 go_wp2_with (first
  | (go_at_call 16;go_must (refine HI.out.mono ?_);rintro e w1 ⟨rfl,hb⟩;have HB1:=hideI hb;have HDW:=hideI (HD.out w1);unfold awakeMade at HDW;clear hb)
  | (go_at_call 49;go_must (refine HDW.out.mono ?_);rintro e w2 ⟨P,pc,A,c,rfl,hb⟩;have HB2:=hideI (HB1.out.trans (hb.mono HB1.out.size));clear hb))
 go_ret
 exact ⟨rfl,HB2.out.alloc HB2.out.size _⟩
end Go.Proofs.YtaehbgppfahdeaaGreat

namespace Go.Proofs.YtaehbgppfahdeaaGreat
open Go.RowKit
theorem has_at {w:World} {B:Nat} {v:Value} {l:List Nat} {p:Nat} {r:Bool} (hi:Ints w B v (l.map fun (x:Nat) => (x:Int))) (hr:decide (p ∈ l)=r) (a:Nat) :
  Calls Tryz.prog 56 #[v,.int .i64 (p:Int)] (w.drewN a) fun e w' => e=.returned (.bool r) ∧ w'=w.drewN a:=by
 have hi2:Ints (w.drewN a) B v (l.map fun (x:Nat) => (x:Int)):=hi
 have h1:=has_any _ B v (p:Int) (w.drewN a) hi2
 have e:decide ((p:Int) ∈ l.map fun (x:Nat) => (x:Int))=r:=by rw [← hr];simp only [mem_nat]
 rw [e] at h1
 exact h1.mono fun _ _ ⟨a,b⟩ => ⟨a,b.symm⟩
end Go.Proofs.YtaehbgppfahdeaaGreat

namespace Go.Proofs.YtaehbgppfahdeaaGreat
open Go.RowKit Go.Maps
def AhS (bs:List BlockM) (x:LpM) (i:Nat) (a:Int):Prop :=
 (a=-1 ∧ ((predsTo bs bs.length x.head).take i).filter (fun p => !decide (p ∈ x.blocks))=[]) ∨
 ∃ p:Nat,a=p ∧ ((predsTo bs bs.length x.head).take i).filter (fun p => !decide (p ∈ x.blocks))=[p] ∧ jumpB bs p=true
section
variable {bs:List BlockM} {x:LpM} {i p:Nat} {a:Int}
theorem AhS.skip (h:AhS bs x i a) (hp:(predsTo bs bs.length x.head)[i]?=some p) (hq:p ∈ x.blocks):AhS bs x (i + 1) a:=by
 unfold AhS
 rw [filter_skip hp (by simp [hq])]
 exact h
theorem AhS.take (h:AhS bs x i (-1)) (hp:(predsTo bs bs.length x.head)[i]?=some p) (hq:p ∉ x.blocks) (hj:jumpB bs p=true):AhS bs x (i + 1) p:=by
 rcases h with ⟨_,h⟩ | ⟨p',e,_⟩
 ·refine .inr ⟨p,rfl,?_,hj⟩
  rw [filter_more hp (by simp [hq]),h]
  rfl
 ·omega
theorem entries_split (i:Nat):entriesM bs x=((predsTo bs bs.length x.head).take i).filter (fun p => !decide (p ∈ x.blocks)) ++ ((predsTo bs bs.length x.head).drop i).filter (fun p => !decide (p ∈ x.blocks)):=by
 unfold entriesM
 rw [← List.filter_append,List.take_append_drop]
theorem AhS.two {p':Nat} (h:AhS bs x i (p':Int)) (hp:(predsTo bs bs.length x.head)[i]?=some p) (hq:p ∉ x.blocks):plainB bs x=false:=by
 rcases h with ⟨e,_⟩ | ⟨p2,e,h,_⟩
 ·omega
 ·refine plain_no ?_
  rw [entries_split (i + 1),filter_more hp (by simp [hq]),h]
  simp
theorem AhS.nojump (h:AhS bs x i (-1)) (hp:(predsTo bs bs.length x.head)[i]?=some p) (hq:p ∉ x.blocks) (hj:jumpB bs p=false):plainB bs x=false:=by
 rcases h with ⟨_,h⟩ | ⟨p',e,_⟩
 ·have e:=entries_split (bs:=bs) (x:=x) (i + 1)
  rw [filter_more hp (by simp [hq]),h,List.nil_append] at e
  cases hr:((predsTo bs bs.length x.head).drop (i + 1)).filter (fun p => !decide (p ∈ x.blocks)) with
  | nil =>
   rw [hr,List.append_nil] at e
   rw [plain_one e,hj]
   rfl
  | cons y r =>
   rw [hr] at e
   refine plain_no ?_
   rw [e]
   simp
 ·omega
theorem AhS.none_ (h:AhS bs x i (-1)) (hi:(predsTo bs bs.length x.head).length ≤ i):plainB bs x=false:=by
 rcases h with ⟨_,h⟩ | ⟨p',e,_⟩
 ·rw [List.take_of_length_le hi] at h
  refine plain_no ?_
  unfold entriesM
  rw [h]
  simp
 ·omega
theorem AhS.one_ {p:Nat} (h:AhS bs x i (p:Int)) (hi:(predsTo bs bs.length x.head).length ≤ i):plainB bs x=(x.latches.length == 1 && !(x.exits.any (sharedB bs x))):=by
 rcases h with ⟨e,_⟩ | ⟨p',e,h,hj⟩
 ·omega
 ·rw [List.take_of_length_le hi] at h
  rw [plain_one (show entriesM bs x=[p'] from h),hj]
  simp
theorem shared_no {e:Nat} (h:sharedB bs x e=true) (he:e ∈ x.exits):plainB bs x=false:=by
 unfold plainB
 have:x.exits.any (sharedB bs x)=true:=List.any_eq_true.2 ⟨e,he,h⟩
 rw [this]
 simp
theorem AhS.range {i:Nat} (h:AhS bs x i a):a=-1 ∨ ∃ p:Nat,a=(p:Int) ∧ p < bs.length:=by
 rcases h with ⟨e,_⟩ | ⟨p,e,h,_⟩
 ·exact .inl e
 ·refine .inr ⟨p,e,?_⟩
  have h1:p ∈ ((predsTo bs bs.length x.head).take i).filter (fun p => !decide (p ∈ x.blocks)):=by rw [h];simp
  exact predsTo_lt (List.mem_of_mem_take (List.mem_filter.1 h1).1)
end
set_option maxRecDepth 100000 in
set_option maxHeartbeats 8000000 in
theorem refPlain_any (bs:List BlockM) (x:LpM) (lo gp n hd m1 m2 m3 c c1 c2 c3 B:Nat) (A A1 A2 A3:Option Addr) (vs:List Value) (pv av cv v4:Value) (w:World) (hN:Lists w lo gp bs.length vs (predsAt bs bs.length bs.length 0)) (hbv:BlocksR w B (.slice A n c) bs) (hB:B ≤ w.heap.size)
  (hi:Ints w w.heap.size (.slice A1 m1 c1) (x.blocks.map fun (x:Nat) => (x:Int))) (hi3:Ints w w.heap.size (.slice A3 m3 c3) (x.exits.map fun (x:Nat) => (x:Int))) (hm1:m1=x.blocks.length) (hm2:m2=x.latches.length) (hm3:m3=x.exits.length) (hl3:m3 ≤ 512) (hn5:n ≤ 512) (hn:n=bs.length) (hd0:hd=x.head) (hh:hd < n) (hex:∀ e ∈ x.exits,e < n) :
  Calls Tryz.prog 51 #[.agg #[pv,av,cv,.slice A n c],.agg #[.int .i64 (hd:Int),.slice A1 m1 c1,.slice A2 m2 c2,.slice A3 m3 c3,v4],.slice (some ⟨gp,0,none⟩) n n] w fun e w' => e=.returned (.bool (plainB bs x)) ∧ Below w.heap.size w w':=by
 obtain ⟨W,hW⟩:∃ W:World,W=(w.alloc (.cells #[pv,av,cv,.slice A n c] 25)).alloc (.cells #[.int .i64 (hd:Int),.slice A1 m1 c1,.slice A2 m2 c2,.slice A3 m3 c3,v4] 88):=⟨_,rfl⟩
 have HBW:Hid (Below w.heap.size w W):=by show Below _ _ _;rw [hW];exact ((Below.refl _ w).alloc (Nat.le_refl _) _).alloc (by simp) _
 have hx1:W.heap[w.heap.size]?=some (.cells #[pv,av,cv,.slice A n c] 25 (0,0)):=by
  rw [hW,Below.heap_alloc _ _ _ (by simp)]
  exact heap_alloc_new w _
 have hx2:W.heap[w.heap.size + 1]?=some (.cells #[.int .i64 (hd:Int),.slice A1 m1 c1,.slice A2 m2 c2,.slice A3 m3 c3,v4] 88 (0,0)):=by
  rw [hW]
  have:=heap_alloc_new (w.alloc (.cells #[pv,av,cv,.slice A n c] 25)) (.cells #[.int .i64 (hd:Int),.slice A1 m1 c1,.slice A2 m2 c2,.slice A3 m3 c3,v4] 88)
  simpa using this
 have HIW:=hideI ((hi.keep HBW.out).more HBW.out.size)
 have HNW:=hideI (hN.kept HBW.out)
 have HBV:=hideI (hbv.keeps (Keeps.of_below (HBW.out.mono hB)))
 have HI3:=hideI ((hi3.keep HBW.out).more HBW.out.size)
 obtain ⟨vh,hv1,hgp,hv2⟩:=preds_list HNW.out (by omega:x.head < bs.length) (by omega)
 obtain ⟨Ah,ch,rfl,_,hat⟩:=hv2
 rw [List.length_map] at hv1 hat
 obtain ⟨mh,hmh⟩:∃ mh,mh=(predsTo bs bs.length x.head).length:=⟨_,rfl⟩
 have HMH:=hideI hmh
 have hmh5:mh ≤ 512:=by rw [hmh];exact Nat.le_trans (predsTo_len _ _ _) (by omega)
 rw [← hmh,← hd0] at hv1
 rw [← hmh] at hat
 have HAT:=hideI hat
 have HM1:=hideI hm1
 have HM2:=hideI hm2
 have HM3:=hideI hm3
 have HN:=hideI hn
 have HD:=hideI hd0
 have HEX:=hideI hex
 have HW0:=hideI hW
 have HR1:=hideI (row_cells hx1 rfl)
 have HR2:=hideI (row_cells hx2 rfl)
 have HV1:=hideI hv1
 clear hN hbv hi hi3 hm1 hm2 hm3 hn hd0 hex hW hx1 hx2 hv1 hat hmh
 go_enter Tryz.func51,Tryz.ntmps51
 go_upto_region 1 with fail
 rw [← HW0.out]
 go_wp2
 go_loopw [7,8] (fun a u wr => ∃ (i m:Nat) (ah:Int),i ≤ mh ∧ a=.int .i64 ah ∧ u=.int .i64 i ∧ Hid (AhS bs x i ah) ∧ Hid (wr=W.drewN m)) (fun _ u _ => mh - (intOf u).toNat)
 case atStart => exact ⟨0,0,-1,Nat.zero_le _,rfl,rfl,.inl ⟨rfl,rfl⟩,rfl⟩
 case round =>
  obtain ⟨i,m,ah,hi,rfl,rfl,HA,HWR⟩:=hrel
  have r0:wr.cell? ⟨w.heap.size + 1,0,none⟩=some (.int .i64 (hd:Int)):=by rw [HWR.out];exact HR2.out 0
  have rp:wr.cell? ⟨gp,hd,none⟩=some (.slice Ah mh ch):=by rw [HWR.out];exact HV1.out
  by_cases hlt:i < mh
  ·obtain ⟨p,hp⟩:∃ p,(predsTo bs bs.length x.head)[i]?=some p:=⟨_,List.getElem?_eq_getElem (by have:=HMH.out;omega)⟩
   obtain ⟨pb,po,rfl,hpb,d0⟩:=HAT.out i hlt
   rw [List.getElem?_map,hp] at d0
   simp only [Option.map_some,Option.getD_some] at d0
   have d1:wr.cell? ⟨pb,po + i,none⟩=some (.int .i64 (p:Int)):=by rw [HWR.out];exact d0
   have r1:wr.cell? ⟨w.heap.size + 1,1,none⟩=some (.slice A1 m1 c1):=by rw [HWR.out];exact HR2.out 1
   have r3:wr.cell? ⟨w.heap.size,3,none⟩=some (.slice A n c):=by rw [HWR.out];exact HR1.out 3
   have hpn:p < n:=by have:=HN.out;rw [this];exact predsTo_lt (List.mem_of_getElem? hp)
   have hiw:Ints wr W.heap.size (.slice A1 m1 c1) (x.blocks.map fun (x:Nat) => (x:Int)):=by rw [HWR.out];exact HIW.out
   have hh0:=has_any _ _ _ (p:Int) wr hiw
   rw [show decide ((p:Int) ∈ x.blocks.map fun (x:Nat) => (x:Int))=decide (p ∈ x.blocks) by simp only [mem_nat]] at hh0
   have HP:=hideI hp
   clear hp d0 hiw
   by_cases hin:p ∈ x.blocks
   ·have HH:=hideI hh0
    rw [decide_eq_true hin] at HH
    have HIN:=hideI hin
    clear hin hh0
    go_wp2_with (go_at_call 56;refine HH.out.mono ?_;rintro e w' ⟨rfl,rfl⟩)
    go_roundw
    case rel => exact ⟨i + 1,m,ah,by omega,rfl,by go_num,HA.out.skip HP.out HIN.out,HWR⟩
    case measure => simp [intOf];omega
   ·have HH:=hideI hh0
    rw [decide_eq_false hin] at HH
    have HIN:=hideI hin
    clear hin hh0
    rcases HA.out.range with rfl | ⟨p',rfl,hp'⟩
    ·obtain ⟨q,hq⟩:∃ q,bs[p]?=some q:=⟨_,List.getElem?_eq_getElem (by have:=HN.out;omega)⟩
     obtain ⟨Ab,cb,eb,_,hatb⟩:=HBV.out
     injection eb with eb1 eb2 eb3
     subst eb1
     obtain ⟨bb,ob,_,_,_,rfl,hbbB,_,_,hct,_⟩:=hatb p q hq
     have k2:wr.cell? ⟨bb,ob + p * 6 + 2,none⟩=some (.int .i64 q.term.op):=by rw [HWR.out];exact hct
     have hj:jumpB bs p=(q.term.op == 1):=by unfold jumpB;rw [hq]
     have HJ:=hideI hj
     clear hq hatb hct eb2 eb3 hj
     by_cases hop:q.term.op=1
     ·rw [hop] at k2 HJ
      have HJ1:Hid (jumpB bs p=true):=by show _=_;rw [HJ.out];rfl
      clear hop
      go_wp2_with (go_at_call 56;refine HH.out.mono ?_;rintro e w' ⟨rfl,rfl⟩)
      go_roundw
      case rel => exact ⟨i + 1,m,(p:Int),by omega,rfl,by go_num,HA.out.take HP.out HIN.out HJ1.out,HWR⟩
      case measure => simp [intOf];omega
     ·have HJ1:Hid (jumpB bs p=false):=by show _=_;rw [HJ.out];exact beq_eq_false_iff_ne.2 hop
      have hob:(q.term.op != 1)=true:=by rw [bne_iff_ne];exact hop
      clear hop
      go_wp2_with (go_at_call 56;refine HH.out.mono ?_;rintro e w' ⟨rfl,rfl⟩)
      go_ret
      refine ⟨?_,?_⟩
      ·rw [HA.out.nojump HP.out HIN.out HJ1.out];rfl
      ·rw [HWR.out];exact ⟨HBW.out.os,HBW.out.tape,HBW.out.output,HBW.out.size,HBW.out.block⟩
    ·go_wp2_with (go_at_call 56;refine HH.out.mono ?_;rintro e w' ⟨rfl,rfl⟩)
     go_ret
     refine ⟨?_,?_⟩
     ·rw [HA.out.two HP.out HIN.out];rfl
     ·rw [HWR.out];exact ⟨HBW.out.os,HBW.out.tape,HBW.out.output,HBW.out.size,HBW.out.block⟩
  ·have him:i=mh:=by omega
   subst him
   go_wp2
   clear r0 rp
   obtain ⟨wo,rfl⟩:∃ wo:World,wo=wr:=⟨_,rfl⟩
   go_loopw [10] (fun u wr2 => ∃ (j m':Nat),j ≤ m3 ∧ u=.int .i64 j ∧ Hid (∀ k e,k < j → x.exits[k]?=some e → sharedB bs x e=false) ∧ Hid (wr2=W.drewN m')) (fun u _ => m3 - (intOf u).toNat)
   case atStart => exact ⟨0,m,Nat.zero_le _,rfl,hideI (fun k e h => by omega),HWR⟩
   case round =>
    clear HWR
    obtain ⟨j,m',hj,rfl,HSH,HWR⟩:=hrel
    have r3:wr.cell? ⟨w.heap.size + 1,3,none⟩=some (.slice A3 m3 c3):=by rw [HWR.out];exact HR2.out 3
    by_cases hlt:j < m3
    ·obtain ⟨e,he⟩:∃ e,x.exits[j]?=some e:=⟨_,List.getElem?_eq_getElem (by have:=HM3.out;omega)⟩
     have hen:=HEX.out e (List.mem_of_getElem? he)
     obtain ⟨A3',c3',e3,_,hat3⟩:=HI3.out
     injection e3 with e31 e32 e33
     subst e31
     obtain ⟨b3,o3,rfl,hb3,d0⟩:=hat3 j (by rw [List.length_map];have:=HM3.out;omega)
     rw [List.getElem?_map,he] at d0
     simp only [Option.map_some,Option.getD_some] at d0
     have HD0:=hideI d0
     obtain ⟨ve,hv1,_,hv2⟩:=preds_list HNW.out (by have:=HN.out;omega:e < bs.length) (by have:=HN.out;omega)
     obtain ⟨Ae,ce,rfl,_,hate⟩:=hv2
     rw [List.length_map] at hv1 hate
     obtain ⟨me,hme⟩:∃ me,me=(predsTo bs bs.length e).length:=⟨_,rfl⟩
     have HME:=hideI hme
     have hme5:me ≤ 512:=by rw [hme];exact Nat.le_trans (predsTo_len _ _ _) (by have:=HN.out;omega)
     rw [← hme] at hv1 hate
     have HATE:=hideI hate
     have HVE:=hideI hv1
     have HE:=hideI he
     clear he hat3 d0 hv1 hate hme e32 e33
     go_wp2
     clear r3
     obtain ⟨wo2,rfl⟩:∃ wo:World,wo=wr:=⟨_,rfl⟩
     go_loopw [11] (fun u wr3 => ∃ (k m'':Nat),k ≤ me ∧ u=.int .i64 k ∧ Hid (∀ t q,t < k → (predsTo bs bs.length e)[t]?=some q → q ∈ x.blocks) ∧ Hid (wr3=W.drewN m'')) (fun u _ => me - (intOf u).toNat)
     case atStart => exact ⟨0,m',Nat.zero_le _,rfl,hideI (fun k e h => by omega),HWR⟩
     case round =>
      clear HWR
      obtain ⟨k,m'',hk,rfl,HAL,HWR⟩:=hrel
      have r3:wr.cell? ⟨w.heap.size + 1,3,none⟩=some (.slice (some ⟨b3,o3,none⟩) m3 c3):=by rw [HWR.out];exact HR2.out 3
      have re:wr.cell? ⟨b3,o3 + j,none⟩=some (.int .i64 (e:Int)):=by rw [HWR.out];exact HD0.out
      have rv:wr.cell? ⟨gp,e,none⟩=some (.slice Ae me ce):=by rw [HWR.out];exact HVE.out
      by_cases hltk:k < me
      ·obtain ⟨p,hp⟩:∃ p,(predsTo bs bs.length e)[k]?=some p:=⟨_,List.getElem?_eq_getElem (by have:=HME.out;omega)⟩
       obtain ⟨pb,po,rfl,hpb,d0⟩:=HATE.out k hltk
       rw [List.getElem?_map,hp] at d0
       simp only [Option.map_some,Option.getD_some] at d0
       have d1:wr.cell? ⟨pb,po + k,none⟩=some (.int .i64 (p:Int)):=by rw [HWR.out];exact d0
       have r1:wr.cell? ⟨w.heap.size + 1,1,none⟩=some (.slice A1 m1 c1):=by rw [HWR.out];exact HR2.out 1
       have hiw:Ints wr W.heap.size (.slice A1 m1 c1) (x.blocks.map fun (x:Nat) => (x:Int)):=by rw [HWR.out];exact HIW.out
       have HP:=hideI hp
       clear hp d0
       by_cases hin:p ∈ x.blocks
       ·have HH:Hid (∀ a,_):=hideI (has_at (w:=wr) (p:=p) (r:=true) hiw (decide_eq_true hin))
        have HIN:=hideI hin
        clear hin hiw
        go_wp2
        go_quiet (refine Calls.quiet_of_same (HH.out _))
        go_wp2
        go_roundw
        case rel =>
         refine ⟨k + 1,_,by omega,by go_num,hideI (fun t q ht hq => ?_),hideI (by rw [HWR.out];exact World.drewN_drewN ..)⟩
         by_cases et:t=k
         ·subst et
          have h1:=HP.out
          rw [hq] at h1
          cases h1
          exact HIN.out
         ·exact HAL.out t q (by omega) hq
        case measure => simp [intOf];omega
       ·have HH:Hid (∀ a,_):=hideI (has_at (w:=wr) (p:=p) (r:=false) hiw (decide_eq_false hin))
        have HIN:=hideI hin
        clear hin hiw
        go_wp2
        go_quiet (refine Calls.quiet_of_same (HH.out _))
        go_wp2
        go_ret
        refine ⟨?_,?_⟩
        ·have hsh:sharedB bs x e=true:=List.any_eq_true.2 ⟨p,List.mem_of_getElem? HP.out,by simp [HIN.out]⟩
         rw [shared_no hsh (List.mem_of_getElem? HE.out)]
         rfl
        ·rw [HWR.out];exact ⟨HBW.out.os,HBW.out.tape,HBW.out.output,HBW.out.size,HBW.out.block⟩
      ·have hkm:k=me:=by omega
       have HKM:=hideI hkm
       clear hkm
       go_wp2
       go_roundw
       case rel =>
        refine ⟨j + 1,m'',by omega,by go_num,hideI (fun t q ht hq => ?_),HWR⟩
        by_cases et:t=j
        ·subst et
         have h1:=HE.out
         rw [hq] at h1
         cases h1
         unfold sharedB
         rw [List.any_eq_false]
         intro y hy
         obtain ⟨s,hs⟩:=List.getElem?_of_mem hy
         have:=HAL.out s y (by have:=(List.getElem?_eq_some_iff.1 hs).1;have:=HME.out;have:=HKM.out;omega) hs
         simp [this]
        ·exact HSH.out t q (by omega) hq
       case measure => simp [intOf];omega
    ·have hjm:j=m3:=by omega
     have hany:x.exits.any (sharedB bs x)=false:=by
      rw [List.any_eq_false]
      intro y hy
      obtain ⟨s,hs⟩:=List.getElem?_of_mem hy
      have:=HSH.out s y (by have:=(List.getElem?_eq_some_iff.1 hs).1;have:=HM3.out;omega) hs
      simp [this]
     have HANY:=hideI hany
     have r2:wr.cell? ⟨w.heap.size + 1,2,none⟩=some (.slice A2 m2 c2):=by rw [HWR.out];exact HR2.out 2
     clear hany hjm
     rcases HA.out.range with rfl | ⟨p,rfl,hp⟩
     ·go_wp2
      go_ret
      refine ⟨?_,?_⟩
      ·rw [HA.out.none_ (by have:=HMH.out;omega)];rfl
      ·rw [HWR.out];exact ⟨HBW.out.os,HBW.out.tape,HBW.out.output,HBW.out.size,HBW.out.block⟩
     ·have hfin:=HA.out.one_ (by have:=HMH.out;omega)
      rw [HANY.out,← HM2.out,Bool.not_false,Bool.and_true] at hfin
      have HFIN:=hideI hfin
      clear hfin
      by_cases h2:m2=1
      ·subst h2
       go_wp2
       go_ret
       refine ⟨?_,?_⟩
       ·rw [HFIN.out];rfl
       ·rw [HWR.out];exact ⟨HBW.out.os,HBW.out.tape,HBW.out.output,HBW.out.size,HBW.out.block⟩
      ·have hmb:((m2:Int) == 1)=false:=beq_eq_false_iff_ne.2 (by omega)
       have HH2:=hideI h2
       clear h2
       go_wp2
       go_ret
       refine ⟨?_,?_⟩
       ·rw [HFIN.out,beq_eq_false_iff_ne.2 HH2.out];rfl
       ·rw [HWR.out];exact ⟨HBW.out.os,HBW.out.tape,HBW.out.output,HBW.out.size,HBW.out.block⟩
end Go.Proofs.YtaehbgppfahdeaaGreat

namespace Go.Proofs.YtaehbgppfahdeaaGreat
open Go.RowKit Go.Maps
def predsRow (bs:List BlockM) (n t b:Nat):List (List Nat):=(List.range n).map fun u => if u < t then predsTo bs n u else if u=t then predsTo bs b u else []
theorem predsRow_at {bs:List BlockM} {n t b u:Nat} (h:u < n):(predsRow bs n t b)[u]?=some (if u < t then predsTo bs n u else if u=t then predsTo bs b u else []):=by
 unfold predsRow
 rw [List.getElem?_map,List.getElem?_eq_getElem (by simpa using h)]
 simp
theorem predsRow_zero (bs:List BlockM) (n:Nat):predsRow bs n 0 0=(List.range n).map fun _ => []:=by
 unfold predsRow
 apply List.map_congr_left
 intro u _
 rw [if_neg (by omega)]
 split
 ·simp [predsTo]
 ·rfl
theorem predsRow_skip {bs:List BlockM} {n t b:Nat} (h:t ∉ succM bs b):predsRow bs n t (b + 1)=predsRow bs n t b:=by
 unfold predsRow
 apply List.map_congr_left
 intro u _
 by_cases e:u=t
 ·subst e
  rw [predsTo_succ,if_neg h,List.append_nil]
 ·simp [e]
theorem predsRow_push {bs:List BlockM} {n t b:Nat} (h:t ∈ succM bs b) (_htn:t < n):(predsRow bs n t b).set t (predsTo bs b t ++ [b])=predsRow bs n t (b + 1):=by
 apply List.ext_getElem?
 intro u
 by_cases hu:u < n
 ·rw [predsRow_at hu]
  by_cases e:t=u
  ·subst e
   rw [List.getElem?_set_self (by unfold predsRow;simpa using hu),if_neg (by omega),if_pos rfl,predsTo_succ,if_pos h]
  ·rw [List.getElem?_set_ne e,predsRow_at hu]
   have e':¬ u=t:=fun x => e x.symm
   simp [e']
 ·rw [List.getElem?_eq_none (by rw [List.length_set];unfold predsRow;simp;omega),List.getElem?_eq_none (by unfold predsRow;simp;omega)]
theorem predsRow_next (bs:List BlockM) (n t:Nat):predsRow bs n t n=predsRow bs n (t + 1) 0:=by
 unfold predsRow
 apply List.map_congr_left
 intro u _
 by_cases h1:u < t
 ·rw [if_pos h1,if_pos (by omega)]
 ·rw [if_neg h1]
  by_cases h2:u=t
  ·subst h2
   rw [if_pos rfl,if_pos (by omega)]
  ·rw [if_neg h2,if_neg (by omega)]
   split
   ·simp [predsTo]
   ·rfl
theorem predsRow_last (bs:List BlockM) (n:Nat):predsRow bs n n 0=predsAt bs n n 0:=by
 unfold predsRow predsAt
 apply List.map_congr_left
 intro u hu
 rw [if_pos (by simpa using hu)]
 simp
theorem mem_to {bs:List BlockM} {q:BlockM} {b t:Nat} (hin:EndsIn bs) (hq:bs[b]?=some q):((t:Int) ∈ q.term.to) ↔ t ∈ succM bs b:=by
 unfold succM
 rw [hq]
 simp only [List.mem_map]
 constructor
 ·exact fun h => ⟨(t:Int),h,by simp⟩
 ·rintro ⟨x,hx,he⟩
  have:=hin q (List.mem_of_getElem? hq) x hx
  have e:x=(t:Int):=by omega
  exact e ▸ hx
set_option maxRecDepth 100000 in
set_option maxHeartbeats 4000000 in
theorem refPreds_any (bs:List BlockM) (B:Nat) (pv av cv bv:Value) (w:World) (hbv:BlocksR w B bv bs) (hB:B ≤ w.heap.size) (hn5:bs.length ≤ 512) (hin:EndsIn bs) :
  Calls Tryz.prog 45 #[.agg #[pv,av,cv,bv]] w (PredsPost bs w):=by
 have HBL:=hideI hbv
 have HIN:=hideI hin
 obtain ⟨A,c,rfl,hbm,_⟩:=hbv
 obtain ⟨i0,hix,hz0,hz1,hz2⟩:=info_parts ints_info
 clear hin
 go_enter Tryz.func45,Tryz.ntmps45
 go_wp2_with (first
  | (at_make;go_must (refine wpList_make_full _ rfl _ _ 44 rfl (w.heap.size + 1) 22 i0 (.slice none 0 0) 1 Tryz.underlying44 hix hz0 hz1 .i64 .i64 _ _ bs.length rfl rfl rfl rfl (by rw [hz2];omega) (by unfold maxLen;omega) (by simp) ?_);intro w1 hown1 hg1;rw [World.size_alloc] at hown1;go_must (have HL1:=hideI (Lists.made hown1);have HGB:=hideI ((hg1.block w.heap.size (by simp) (by simp)).trans (heap_alloc_new w _));have HB0:Hid (Below w.heap.size w w1):=((Below.refl _ _).alloc (Nat.le_refl _) _).grown hg1 (by simp) (by simp);clear hown1 hg1)))
 clear hix hz0 hz1 hz2
 rw [← predsRow_zero bs bs.length] at HL1
 go_loopw [4] (fun u wr => ∃ (t:Nat) (vs:List Value),t ≤ bs.length ∧ u=.int .i64 t ∧ Hid (Lists wr (w.heap.size + 1) (w.heap.size + 1) bs.length vs (predsRow bs bs.length t 0)) ∧ Hid (Below w.heap.size w wr) ∧ Hid (Below (w.heap.size + 1) w1 wr)) (fun u _ => bs.length - (intOf u).toNat)
 case atStart => exact ⟨0,_,Nat.zero_le _,rfl,HL1,HB0,hideI (Below.refl _ _)⟩
 case round =>
  obtain ⟨t,vs,ht,rfl,HL,HBr,HBo⟩:=hrel
  have hxr:=row_cells HGB.out (HBo.out.block w.heap.size (by omega))
  have g3:=hxr 3
  clear hxr
  by_cases hlt:t < bs.length
  ·go_wp2
   clear g3
   obtain ⟨wo,rfl⟩:∃ wo:World,wo=wr:=⟨_,rfl⟩
   go_loopw [5] (fun u wr => ∃ (b:Nat) (vs:List Value),b ≤ bs.length ∧ u=.int .i64 b ∧ Hid (Lists wr (w.heap.size + 1) (w.heap.size + 1) bs.length vs (predsRow bs bs.length t b)) ∧ Hid (Below (w.heap.size + 1) wo wr)) (fun u _ => bs.length - (intOf u).toNat)
   case atStart => exact ⟨0,vs,Nat.zero_le _,rfl,HL,hideI (Below.refl _ _)⟩
   case round =>
    obtain ⟨b,vs2,hb,rfl,HLi,HBi⟩:=hrel
    have hxr:=row_cells HGB.out ((HBo.out.trans HBi.out).block w.heap.size (by omega))
    have g3:=hxr 3
    clear hxr
    by_cases hltb:b < bs.length
    ·obtain ⟨q,hq⟩:∃ q,bs[b]?=some q:=⟨_,List.getElem?_eq_getElem hltb⟩
     obtain ⟨A',c',e0,_,hbx⟩:=(HBL.out.more' hB).keeps (Keeps.of_below (HBr.out.trans (HBi.out.mono (Nat.le_succ _))))
     cases e0
     obtain ⟨ab,off,pq,cq,tv,rfl,hab,x0,x1,x2,x3,x4,x5,_,_,htv,_⟩:=hbx b q hq
     have HTV:=hideI htv
     have HMEM:=hideI (mem_to (t:=t) HIN.out hq)
     obtain ⟨TA,tc,rfl,htm,_⟩:=htv
     obtain ⟨v,hv⟩:∃ v,vs2[t]?=some v:=⟨_,List.getElem?_eq_getElem (by rw [HLi.out.vl];exact hlt)⟩
     obtain ⟨l,hl0⟩:∃ l,l=predsTo bs b t:=⟨_,rfl⟩
     have hl:(predsRow bs bs.length t b)[t]?=some l:=by rw [predsRow_at hlt,if_neg (by omega),if_pos rfl,hl0]
     have hll:l.length ≤ 1000:=by have:=predsTo_len bs b t;rw [hl0];omega
     have q1:wr.cell? ⟨w.heap.size + 1,t,none⟩=some v:=by rw [World.ownsRow.cellAt HLi.out.row t (by omega)];exact hv
     have HOWN:=hideI (HLi.out.own t v l hv hl)
     have hsz:=HLi.out.lt.2
     have HV:=hideI hv
     have HLL:=hideI hl
     have HL0:=hideI hl0
     obtain ⟨tl,htl⟩:∃ tl,tl=q.term.to:=⟨_,rfl⟩
     rw [← htl] at HTV HMEM x4 htm
     clear hbx hq x0 x1 x2 x3 x5 hv hl hl0 htl
     by_cases hin2:(t:Int) ∈ tl
     ·have HC:Hid (decide ((t:Int) ∈ tl)=true):=by show _=_;simpa using hin2
      have HIN2:=hideI (HMEM.out.1 hin2)
      obtain ⟨i1,hjx,hy0,hy1,hy2⟩:=info_parts int_info
      clear hin2
      go_wp2_with (first
       | (go_at_call 56;go_must (refine (has_any _ _ _ _ _ HTV.out).mono ?_);rw [HC.out];rintro e w2 ⟨rfl,rfl⟩)
       | (at_builtin;go_must (refine wpList_append_lies _ rfl _ _ _ rfl (w.heap.size + 1 + 1) 3 i1 (.int .i64 0) 1 8 Tryz.underlying22 hjx hy0 hy1 hy2 rfl (by decide) _ _ _ rfl (HOWN.out.alloc _) ⟨wr.heap.size,0,none⟩ 1 1 [.int .i64 b] rfl rfl (one_new wr _) (by simp [Value.oneCell']) (by decide) (by simp only [maxLen];omega) (by omega) (by simp;omega) _ rfl ?_);intro g1 cap1 w3 hown1 hgrow1 hor1 _;go_must (have HP:=hideI (HLi.out.push HV.out HLL.out hown1 hgrow1 hor1);have HPB:=hideI (HLi.out.pushed (u:=.slice (some ⟨g1,0,none⟩) (l.length + 1) cap1) HV.out HLL.out hgrow1 HBi.out (Nat.le_refl _));obtain ⟨hc4,hf4⟩:=HLi.out.held HV.out HLL.out hgrow1;clear hown1 hgrow1 hor1 q1)))
      go_roundw
      case rel => exact ⟨b + 1,_,by omega,by go_num,by rw [← predsRow_push HIN2.out hlt,← HL0.out];exact HP,HPB⟩
      case measure => simp [intOf];omega
     ·have HC:Hid (decide ((t:Int) ∈ tl)=false):=by show _=_;simpa using hin2
      have HIN2:=hideI (fun h => hin2 (HMEM.out.2 h))
      clear hin2
      go_wp2_with (first
       | (go_at_call 56;go_must (refine (has_any _ _ _ _ _ HTV.out).mono ?_);rw [HC.out];rintro e w2 ⟨rfl,rfl⟩))
      go_roundw
      case rel => exact ⟨b + 1,vs2,by omega,by go_num,by rw [predsRow_skip HIN2.out];exact HLi,HBi⟩
      case measure => simp [intOf];omega
    ·have hbn:b=bs.length:=by omega
     rw [hbn,predsRow_next] at HLi
     clear hbn
     go_wp2
     go_roundw
     case rel => exact ⟨t + 1,vs2,by omega,by go_num,HLi,hideI (HBr.out.trans (HBi.out.mono (Nat.le_succ _))),hideI (HBo.out.trans HBi.out)⟩
     case measure => simp [intOf];omega
  ·have hkn:t=bs.length:=by omega
   rw [hkn,predsRow_last] at HL
   clear hkn
   go_wp2
   go_ret
   exact ⟨_,vs,rfl,⟨HL.out.vl,HL.out.ll,World.ownsRow.mono HL.out.row (by omega),HL.out.own,HL.out.apart⟩,HBr.out⟩
end Go.Proofs.YtaehbgppfahdeaaGreat
