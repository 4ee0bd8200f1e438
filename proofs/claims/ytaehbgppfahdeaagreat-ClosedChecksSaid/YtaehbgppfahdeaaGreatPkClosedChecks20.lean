/- What ClosedChecks rests on, part 20: RefOver. -/
import Derived.Test.YtaehbgppfahdeaaGreatPkClosedChecks19
import Derived.Deep.AppendLies
import Derived.BigQuiet
import Derived.Deep.QuietTactic

namespace Go.Proofs.YtaehbgppfahdeaaGreat
open Go.RowKit Go.Maps
set_option maxRecDepth 100000 in
set_option maxHeartbeats 1000000 in
theorem refWithout_zero (bs:List BlockM) (B:Nat) (pv av cv bv:Value) (w:World) (hbv:BlocksR w B bv bs) (_hB:B≤w.heap.size) (hn5:bs.length≤512) :
  Calls Tryz.prog 44 #[.agg #[pv,av,cv,bv],.int .i64 0] w (WithoutPost bs 0 w):=by
 obtain⟨A,c,rfl,hbm,_⟩:=hbv
 obtain⟨i0,hix,hz0,hz1,hz2⟩:=info_parts bool_info
 go_enter Tryz.func44,Tryz.ntmps44
 go_wp2_with (first
  | (at_make;go_must (refine wpList_make_full _ rfl _ _ 91 rfl (w.heap.size+1) 4 i0 (.bool false) 1 Tryz.underlying91 hix hz0 hz1 .i64 .i64 _ _ bs.length rfl rfl rfl rfl (by rw[hz2];omega) (by unfold maxLen;omega) (by simp) ?_);intro w1 hown1 hg1;rw[World.size_alloc]at hown1;go_must (rw[marks_made]at hown1;have HO1:=hideI hown1;have HB0:Hid (Below w.heap.size w w1):=((Below.refl _ _).alloc (Nat.le_refl _) _).grown hg1 (by simp) (by simp);clear hown1 hg1)))
 go_ret
 exact⟨[],_,rfl,no_zero,World.ownsRow.mono HO1.out (by omega),HB0.out⟩
theorem refWithout_all (bs:List BlockM) (B:Nat) (pv av cv bv:Value) (gone:Int) (w:World) (hbv:BlocksR w B bv bs) (hB:B≤w.heap.size) (h0:0<bs.length) (hn5:bs.length≤512) (hin:EndsIn bs) :
  Calls Tryz.prog 44 #[.agg #[pv,av,cv,bv],.int .i64 gone] w (WithoutPost bs gone w):=by
 by_cases hg:gone=0
 ·subst hg
  exact refWithout_zero bs B pv av cv bv w hbv hB hn5
 ·exact refWithout_any bs B pv av cv bv gone w hbv hB h0 hn5 hin hg
def GridR (w:World) (v:Value) (n:Nat) (G:Nat→Nat→Bool):Prop :=
 ∃ gv c,v=.slice (some ⟨gv,0,none⟩) n c∧gv<w.heap.size∧∀ a,a<n→∃ ga,ga<w.heap.size∧w.cell? ⟨gv,a,none⟩=some (.slice (some ⟨ga,0,none⟩) n n)∧∀ b,b<n→w.cell? ⟨ga,b,none⟩=some (.bool (G a b))
theorem GridR.kept {w w':World} {v:Value} {n:Nat} {G:Nat→Nat→Bool} (h:GridR w v n G) (hb:Below w.heap.size w w'):GridR w' v n G:=by
 obtain⟨gv,c,e,h1,h2⟩:=h
 refine⟨gv,c,e,Nat.lt_of_lt_of_le h1 hb.size,fun a ha=>?_⟩
 obtain⟨ga,h3,h4,h5⟩:=h2 a ha
 exact⟨ga,Nat.lt_of_lt_of_le h3 hb.size,(hb.cell (p:=⟨gv,a,none⟩) h1).trans h4,fun b hb'=>(hb.cell (p:=⟨ga,b,none⟩) h3).trans (h5 b hb')⟩
def rowTo (n:Nat) (G:Nat→Nat→Bool) (a k:Nat):List Value:=(List.range n).map fun b=>.bool (decide (b<k)&&G a b)
theorem rowTo_zero (n:Nat) (G:Nat→Nat→Bool) (a:Nat):rowTo n G a 0=marks n []:=by
 unfold rowTo marks
 apply List.map_congr_left
 intro b _
 simp
theorem rowTo_at {n a k b:Nat} {G:Nat→Nat→Bool} (h:b<n):(rowTo n G a k)[b]?=some (.bool (decide (b<k)&&G a b)):=by
 unfold rowTo
 rw[List.getElem?_map,List.getElem?_eq_getElem (by simpa using h)]
 simp
theorem rowTo_set {n a k:Nat} {G:Nat→Nat→Bool}:(rowTo n G a k).set k (.bool (G a k))=rowTo n G a (k+1):=by
 apply List.ext_getElem?
 intro i
 by_cases hi:i<n
 ·by_cases e:k=i
  ·subst e
   rw[List.getElem?_set_self (by simpa [rowTo] using hi),rowTo_at hi]
   simp
  ·rw[List.getElem?_set_ne e,rowTo_at hi,rowTo_at hi]
   have:decide (i<k+1)=decide (i<k):=by
    apply decide_eq_decide.2
    omega
   rw[this]
 ·rw[List.getElem?_eq_none (by simp[rowTo];omega),List.getElem?_eq_none (by simp[rowTo];omega)]
structure Square (w:World) (base n k:Nat) (G:Nat→Nat→Bool) (v:Value) (vs:List Value):Prop where
 row:w.ownsRow base 91 1 v k vs
 each:∀ a,a<k→∃ ga,vs[a]?=some (.slice (some ⟨ga,0,none⟩) n n)∧w.ownsRow base 4 1 (.slice (some ⟨ga,0,none⟩) n n) n (rowTo n G a n)∧v.ownBlock≠some ga
theorem Square.kept {w w':World} {base n k:Nat} {G:Nat→Nat→Bool} {v:Value} {vs:List Value} (h:Square w base n k G v vs) (hb:Below w.heap.size w w'):Square w' base n k G v vs:=by
 refine⟨own_kept_below h.row hb (fun j hj=>(h.row.lt j hj).2),fun a ha=>?_⟩
 obtain⟨ga,h1,h2,h3⟩:=h.each a ha
 exact⟨ga,h1,own_kept_below h2 hb (fun j hj=>(h2.lt j hj).2),h3⟩
theorem Square.push {w w1:World} {base n k g' cap' gr:Nat} {G:Nat→Nat→Bool} {v:Value} {vs:List Value} {o:Obj} (h:Square w base n k G v vs) (hr:w.ownsRow base 4 1 (.slice (some ⟨gr,0,none⟩) n n) n (rowTo n G k n)) (hne:v.ownBlock≠some gr)
  (hown:w1.ownsRow base 91 1 (.slice (some ⟨g',0,none⟩) (k+1) cap') (k+1) (vs++[.slice (some ⟨gr,0,none⟩) n n])) (hg:(w.alloc o).grownBy w1 v.ownBlock) (hor:v.ownBlock=some g'∨g'=(w.alloc o).heap.size) :
  Square w1 base n (k+1) G (.slice (some ⟨g',0,none⟩) (k+1) cap') (vs++[.slice (some ⟨gr,0,none⟩) n n]):=by
 have hvl:vs.length=k:=by have:=h.row.1;simpa using this
 have hnew:∀ ga,ga<w.heap.size→v.ownBlock≠some ga→(Value.slice (some ⟨g',0,none⟩) (k+1) cap').ownBlock≠some ga:=by
  intro ga hlt hne e
  have e2:g'=ga:=Option.some.inj e
  subst e2
  rcases hor with h1|h1
  ·exact hne h1
  ·simp at h1;omega
 refine⟨hown,fun a ha=>?_⟩
 by_cases e:a=k
 ·subst e
  refine⟨gr,by rw[List.getElem?_append_right (by omega),hvl];simp,(hr.alloc o).kept hg (.inr fun e=>hne e.symm),hnew gr (hr.lt gr rfl).2 hne⟩
 ·obtain⟨ga,h1,h2,h3⟩:=h.each a (by omega)
  refine⟨ga,by rw[List.getElem?_append_left (by omega)];exact h1,(h2.alloc o).kept hg (.inr fun e=>h3 e.symm),hnew ga (h2.lt ga rfl).2 h3⟩
theorem Square.grid {w:World} {base n:Nat} {G:Nat→Nat→Bool} {v:Value} {vs:List Value} (h:Square w base n n G v vs) (hn:0<n):GridR w v n G:=by
 rcases h.row.2 with⟨_,h1⟩|⟨gv,c,_,rfl,_,_,_,_⟩
 ·omega
 ·refine⟨gv,c,rfl,(h.row.lt gv rfl).2,fun a ha=>?_⟩
  obtain⟨ga,h1,h2,_⟩:=h.each a ha
  refine⟨ga,(h2.lt ga rfl).2,by rw[World.ownsRow.cellAt h.row a (by omega)];exact h1,fun b hb=>?_⟩
  rw[World.ownsRow.cellAt h2 b (by omega),rowTo_at hb]
  simp[hb]
theorem bools_info:(Tryz.prog.info? 91).map (fun i=>(i.zero,i.size,i.bytes))=some (some (.slice none 0 0),1,24):=by kernel_rfl
theorem one_newB (w:World) (x:Value):∀ (j:Nat) (y:Value),[x][j]?=some y→(w.alloc (.cells #[x] 91)).cell? ((⟨w.heap.size,0,none⟩:Addr).add j)=some y:=by
 intro j y hy
 rcases j with _|j
 ·simp at hy
  subst hy
  exact row_cells (heap_alloc_new w (.cells #[x] 91)) (rfl:(w.alloc (.cells #[x] 91)).heap[w.heap.size]?=_) 0
 ·simp at hy
def OverPost (n:Nat) (G:Nat→Nat→Bool) (w:World) (e:Ending) (w':World):Prop:=∃ v,e=.returned v∧GridR w' v n G∧Below w.heap.size w w'
def overG (S0:List Nat) (S:Nat→List Nat) (a b:Nat):Bool:=decide (a∈S0)&&(decide (b∈S0)&&!decide (b∈S a))
set_option maxRecDepth 100000 in
set_option maxHeartbeats 4000000 in
theorem refOver_any (bs:List BlockM) (o:List Nat) (G:Nat→Nat→Bool) (B:Nat) (pv av cv bv:Value) (w:World) (hbv:BlocksR w B bv bs) (hB:B≤w.heap.size) (h0:0<bs.length) (hn5:bs.length≤512) (hin:EndsIn bs) (ho:OrderIs bs o) (hG:∀ a b,G a b=true↔OverP bs o a b) :
  Calls Tryz.prog 47 #[.agg #[pv,av,cv,bv]] w (OverPost bs.length G w):=by
 have HBL:=hideI hbv
 have HIN:=hideI hin
 have HO:=hideI ho
 have HG:=hideI hG
 obtain⟨A,c,rfl,hbm,_⟩:=hbv
 obtain⟨W,hW⟩:∃ W:World,W=w.alloc (.cells #[pv,av,cv,.slice A bs.length c] 25):=⟨_,rfl⟩
 have HBW:Hid (Below w.heap.size w W):=by show Below _ _ _;rw[hW];exact(Below.refl _ _).alloc (Nat.le_refl _) _
 have HXW:Hid (W.heap[w.heap.size]?=some (.cells #[pv,av,cv,.slice A bs.length c] 25 (0,0))):=by show _=_;rw[hW];exact heap_alloc_new w _
 have hwW:w.heap.size<W.heap.size:=lt_of_heap HXW.out
 have HW0:=hideI hW
 have G0:Hid (∀ W2,Below W.heap.size W W2→(∀ o,W2.cell? ⟨w.heap.size,o,none⟩=(#[pv,av,cv,.slice A bs.length c]:Array Value)[o]?)∧BlocksR W2 B (.slice A bs.length c) bs∧B≤W2.heap.size):=fun W2 h2=>by
  have h3:Below w.heap.size w W2:=HBW.out.trans (h2.mono HBW.out.size)
  exact⟨row_cells HXW.out (h2.block _ hwW),HBL.out.keeps (Keeps.of_below (h3.mono hB)),Nat.le_trans hB h3.size⟩
 obtain⟨hx,_,_⟩:=G0.out W (Below.refl _ _)
 have q0:=hx 0
 have q1:=hx 1
 have q2:=hx 2
 have q3:=hx 3
 clear hin ho hG hW hx
 go_enter Tryz.func47,Tryz.ntmps47
 go_upto_region 1 with fail
 rw[← HW0.out]
 clear HW0
 go_wp2_with (first
  | (go_at_call 44;go_must (refine(refWithout_all bs B pv av cv _ (-1) _ (G0.out _ (Below.refl _ _)).2.1 (G0.out _ (Below.refl _ _)).2.2 h0 hn5 HIN.out).mono ?_);rintro e w1 ⟨S0,gA,rfl,hS,hown,hb1⟩;have HS0:Hid (∀ x,x∈S0↔x∈o):=hideI (fun x=>(hS x).trans (HO.out.reach x).symm);have HOA:=hideI hown;have HB1:=hideI hb1;clear hS hown hb1 q0 q1 q2;(obtain⟨hx,_,_⟩:=G0.out _ HB1.out);clear q3;have q3:=hx 3;clear hx))
 obtain⟨W2,hW2⟩:∃ W2,W2=w1.alloc (.cells #[] 91):=⟨_,rfl⟩
 have hb12:Below w1.heap.size w1 W2:=by rw[hW2];exact(Below.refl _ _).alloc (Nat.le_refl _) _
 have HB12:=hideI hb12
 have HSQ0:Hid (Square W2 w1.heap.size bs.length 0 G (.slice (some ⟨w1.heap.size,0,none⟩) 0 0) []):=by
  refine hideI ⟨?_,fun a ha=>by omega⟩
  rw[hW2]
  exact World.ownsRow_made w1 #[] 0 (Nat.le_refl _) (by decide) rfl
 have hs12:w1.heap.size<W2.heap.size:=by rw[hW2];simp
 have hsW1:W.heap.size≤w1.heap.size:=HB1.out.size
 rw[← hW2]
 clear hW2 hb12 q3
 go_loopw [4,5] (fun u4 u5 wr=>∃ (a:Nat) (v:Value) (vs:List Value),a≤bs.length∧v=u4∧u5=.int .i64 a∧Hid (Square wr w1.heap.size bs.length a G v vs)∧Hid (Below w1.heap.size w1 wr)) (fun _ u5 _=>bs.length - (intOf u5).toNat)
 case atStart => exact⟨0,_,[],Nat.zero_le _,rfl,rfl,HSQ0,HB12⟩
 case round =>
  obtain⟨a,v,vs,ha,rfl,rfl,HSQ,HBr⟩:=hrel
  have hb1r:Below w1.heap.size w1 wr:=HBr.out
  have HB1r:=hideI hb1r
  have HBWr:Hid (Below W.heap.size W wr):=HB1.out.trans (hb1r.mono hsW1)
  obtain⟨hx,_,_⟩:=G0.out wr HBWr.out
  have q0:=hx 0
  have q1:=hx 1
  have q2:=hx 2
  have q3:=hx 3
  clear hx hb1r
  by_cases hlt:a<bs.length
  ·obtain⟨i0,hix,hz0,hz1,hz2⟩:=info_parts bool_info
   have hsr:w1.heap.size≤wr.heap.size:=HB1r.out.size
   go_wp2_with (first
    | (go_at_call 44;go_must (refine(refWithout_all bs B pv av cv _ a _ (G0.out _ HBWr.out).2.1 (G0.out _ HBWr.out).2.2 h0 hn5 HIN.out).mono ?_);rintro e w3 ⟨Sa,gB,rfl,hSa,hown,hb3⟩;have HSA:=hideI hSa;have HOB:=hideI hown;have HB3:=hideI (HB1r.out.trans (hb3.mono hsr));have HSQ3:=hideI (HSQ.out.kept hb3);clear hSa hown hb3 q0 q1 q2 q3;(obtain⟨hx,_,_⟩:=G0.out _ (HB1.out.trans (HB3.out.mono hsW1)));have q3:=hx 3;clear hx)
    | (at_make;go_must (refine wpList_make_full _ rfl _ _ 91 rfl w3.heap.size 4 i0 (.bool false) 1 Tryz.underlying91 hix hz0 hz1 .i64 .i64 _ _ bs.length rfl rfl rfl rfl (by rw[hz2];omega) (by unfold maxLen;omega) (Nat.le_refl _) ?_);intro w4 hown4 hg4;go_must (rw[marks_made,← rowTo_zero bs.length G a]at hown4;have HR0:=hideI hown4;have HG4:Hid (Below w3.heap.size w3 w4):=(Below.refl _ _).grown hg4 (Nat.le_refl _) (by simp);clear hown4 hg4 q3)))
   clear hix hz0 hz1 hz2
   have hs3:w1.heap.size≤w3.heap.size:=HB3.out.size
   have HSQ4:=hideI (HSQ3.out.kept HG4.out)
   have HOB4:=hideI (own_kept_below HOB.out HG4.out (fun k hk=>(HOB.out.lt k hk).2))
   have HB4:Hid (Below w1.heap.size w1 w4):=HB3.out.trans (HG4.out.mono hs3)
   have hgB:gB<w3.heap.size:=(HOB.out.lt gB rfl).2
   have hgA:gA<w1.heap.size:=(HOA.out.lt gA rfl).2
   have hvb:v.ownBlock≠some w3.heap.size:=fun e=>by have:=(HSQ3.out.row.lt _ e).2;omega
   have HVB:=hideI hvb
   clear hvb
   go_loopw [8] (fun u8 wr2=>∃ b:Nat,b≤bs.length∧u8=.int .i64 b∧Hid (wr2.ownsRow w3.heap.size 4 1 (.slice (some ⟨w3.heap.size,0,none⟩) bs.length bs.length) bs.length (rowTo bs.length G a b))∧Hid (w4.grownBy wr2 (some w3.heap.size))) (fun u8 _=>bs.length - (intOf u8).toNat)
   case atStart => exact⟨0,Nat.zero_le _,rfl,HR0,hideI (World.grownBy.refl _ _)⟩
   case round =>
    obtain⟨b,hb,rfl,HR,HGr⟩:=hrel
    have hb4:Below w3.heap.size w4 wr:=(Below.refl _ w4).grown HGr.out HG4.out.size (fun k hk=>by cases hk;exact Nat.le_refl _)
    have HB5:Hid (Below w1.heap.size w1 wr):=HB4.out.trans (hb4.mono hs3)
    obtain⟨hx,_,_⟩:=G0.out wr (HB1.out.trans (HB5.out.mono hsW1))
    have q3:=hx 3
    clear hx
    by_cases hltb:b<bs.length
    ·have hA:=own_kept_below HOA.out HB5.out (fun k hk=>(HOA.out.lt k hk).2)
     have hBk:=own_kept_below HOB4.out hb4 (fun k hk=>by cases hk;exact hgB)
     have c1:wr.cell? ⟨gA,a,none⟩=some (.bool (decide (a∈S0))):=by rw[World.ownsRow.cellAt hA a (by omega),marks_at hlt]
     have c2:wr.cell? ⟨gA,b,none⟩=some (.bool (decide (b∈S0))):=by rw[World.ownsRow.cellAt hA b (by omega),marks_at hltb]
     have c3:wr.cell? ⟨gB,b,none⟩=some (.bool (decide (b∈Sa))):=by rw[World.ownsRow.cellAt hBk b (by omega),marks_at hltb]
     have c4:wr.cell? ⟨w3.heap.size,b,none⟩=some (.bool (decide (b<b)&&G a b)):=by rw[World.ownsRow.cellAt HR.out b (by omega),rowTo_at hltb]
     have c5:wr.frozen? ⟨w3.heap.size,b,none⟩=false:=World.ownsRow.frozenAt HR.out b
     have hGab:G a b=(decide (a∈S0)&&(decide (b∈S0)&&!decide (b∈Sa))):=by
      rw[Bool.eq_iff_iff,HG.out a b]
      unfold OverP
      simp only[Bool.and_eq_true,Bool.not_eq_true',decide_eq_true_eq,decide_eq_false_iff_not]
      rw[HS0.out a,HS0.out b,HSA.out b]
     have hst:=World.ownsRow.stored HR.out b (.bool (G a b))
     rw[rowTo_set]at hst
     have HST:=hideI hst
     obtain⟨p,hp⟩:∃ p,p=decide (a∈S0):=⟨_,rfl⟩
     obtain⟨q,hq⟩:∃ q,q=decide (b∈S0):=⟨_,rfl⟩
     obtain⟨s,hs⟩:∃ s,s=decide (b∈Sa):=⟨_,rfl⟩
     rw[← hp,← hq,← hs]at hGab
     rw[← hp]at c1
     rw[← hq]at c2
     rw[← hs]at c3
     rw[hGab]at HST
     clear hp hq hs hA hBk hst hGab hb4
     cases p with
     | false =>
      go_wp2
      go_roundw
      case rel => exact⟨b+1,by omega,by go_num,hideI HST.out.1,hideI (HGr.out.trans HST.out.2)⟩
      case measure => simp[intOf];omega
     | true =>
      cases q with
      | false =>
       go_wp2
       go_roundw
       case rel => exact⟨b+1,by omega,by go_num,hideI HST.out.1,hideI (HGr.out.trans HST.out.2)⟩
       case measure => simp[intOf];omega
      | true =>
       cases s
       all_goals
        go_wp2
        go_roundw
        case rel => exact⟨b+1,by omega,by go_num,hideI HST.out.1,hideI (HGr.out.trans HST.out.2)⟩
        case measure => simp[intOf];omega
    ·obtain rfl:b=bs.length:=by omega
     have HSQ5:Hid (Square wr w1.heap.size bs.length a G v vs):=by
      refine hideI ⟨own_kept_below HSQ4.out.row hb4 (fun k hk=>?_),fun a' ha'=>?_⟩
      ·exact(HSQ3.out.row.lt k hk).2
      ·obtain⟨ga,h1,h2,h3⟩:=HSQ3.out.each a' ha'
       exact⟨ga,h1,own_kept_below (own_kept_below h2 HG4.out (fun k hk=>(h2.lt k hk).2)) hb4 (fun k hk=>(h2.lt k hk).2),h3⟩
     obtain⟨i1,hjx,hy0,hy1,hy2⟩:=info_parts bools_info
     have H63:Hid (a+1≤maxLen):=by show _≤_;simp only[maxLen];omega
     have HBY:Hid ((a+1)*24≤140737488355328):=by show _≤_;omega
     have HBS:Hid (w1.heap.size≤wr.heap.size):=HB5.out.size
     clear hb4
     go_wp2_with (at_builtin;go_must (refine wpList_append_lies _ rfl _ _ _ rfl w1.heap.size 91 i1 (.slice none 0 0) 1 24 Tryz.underlying95 hjx hy0 hy1 hy2 rfl (by decide) _ _ _ rfl (HSQ5.out.row.alloc _) ⟨wr.heap.size,0,none⟩ 1 1 [.slice (some ⟨w3.heap.size,0,none⟩) bs.length bs.length] rfl rfl (one_newB wr _) (by simp[Value.oneCell']) (by decide) H63.out HBY.out (by have:=HBS.out;simp;omega) _ rfl ?_);intro g1 cap1 w6 hown1 hgrow1 hor1 _;go_must (have HP:=hideI (HSQ5.out.push (World.ownsRow.mono HR.out hs3) HVB.out hown1 hgrow1 hor1);have HPB:Hid (Below w1.heap.size w1 w6):=(HB5.out.alloc HBS.out _).grown hgrow1 (by have:=HBS.out;simp;omega) (fun k hk=>(HSQ5.out.row.lt k hk).1);clear hown1 hgrow1 hor1))
     go_roundw
     case rel => exact⟨a+1,_,_,by omega,rfl,by go_num,HP,HPB⟩
     case measure => simp[intOf];omega
  ·obtain rfl:a=bs.length:=by omega
   go_wp2
   go_ret
   exact⟨v,rfl,HSQ.out.grid h0,HBW.out.trans (HBWr.out.mono HBW.out.size)⟩
end Go.Proofs.YtaehbgppfahdeaaGreat
