/- What CanonChecks rests on, part 21: RFirst, RefUses5, RefStrictM, RefDef. -/
import Derived.Test.YtaehbgppfahdeaaGreatPkCanonChecks20

namespace Go.Proofs.YtaehbgppfahdeaaGreat
open Go.RowKit Go.Maps
def FirstRes (bs:List BlockM) (ls:List LpM) (r:Int):Prop :=
 ((∀ x ∈ ls,plainB bs x=true) ∧ r=-1) ∨ ∃ (k:Nat) (x:LpM),ls[k]?=some x ∧ plainB bs x=false ∧ (∀ j y,j < k → ls[j]?=some y → plainB bs y=true) ∧ r=(x.head:Int)
set_option maxRecDepth 100000 in
set_option maxHeartbeats 8000000 in
theorem refFirst_any (bs:List BlockM) (o:List Nat) (plc:Nat → Nat) (par:Nat → Option Nat) (D L:Nat → Nat → Bool) (B pl pc n c:Nat) (P A:Option Addr) (fa fc:Int) (w:World) (K:LoopOk bs o plc par D L) (ho:OrderIs bs o) (h0:0 < bs.length) (hn5:n ≤ 512) (hn:n=bs.length) (hin:EndsIn bs) (hbv:BlocksR w B (.slice A n c) bs) (hB:B ≤ w.heap.size) :
  Calls Tryz.prog 19 #[.agg #[.slice P pl pc,.int .i64 fa,.int .i64 fc,.slice A n c]] w fun e w' => ∃ r,e=.returned (.int .i64 r) ∧ FirstRes bs (loopsM bs D L) r ∧ Below w.heap.size w w':=by
 obtain ⟨W,hW⟩:∃ W:World,W=w.alloc (.cells #[.slice P pl pc,.int .i64 fa,.int .i64 fc,.slice A n c] 25):=⟨_,rfl⟩
 have HB0:Hid (Below w.heap.size w W):=by show Below _ _ _;rw [hW];exact (Below.refl _ w).alloc (Nat.le_refl _) _
 have hx1:W.heap[w.heap.size]?=some (.cells #[.slice P pl pc,.int .i64 fa,.int .i64 fc,.slice A n c] 25 (0,0)):=by
  rw [hW]
  exact heap_alloc_new w _
 have HX1:=hideI hx1
 have HBW:=hideI (hbv.keeps (Keeps.of_below (HB0.out.mono hB)))
 have hBW:B ≤ W.heap.size:=Nat.le_trans hB HB0.out.size
 have HFO:=hideI (refForest_any bs o plc par D L B (.slice P pl pc) (.int .i64 fa) (.int .i64 fc) (.slice A n c) W K ho h0 hin HBW.out hBW ⟨_,rfl⟩)
 have HIN:=hideI hin
 have HN:=hideI hn
 have HW0:=hideI hW
 have HLL:Hid ((loopsM bs D L).length ≤ 512):=Nat.le_trans loops_len (by omega)
 have HGD:Hid (∀ x ∈ loopsM bs D L,LpGood bs.length x):=loops_good (by omega)
 have hwW:w.heap.size < W.heap.size:=lt_of_heap hx1
 have hqs:=row_cells hx1 rfl
 have q0:=hqs 0
 have q1:=hqs 1
 have q2:=hqs 2
 have q3:=hqs 3
 clear hqs hx1 hW K ho hin hbv h0 hn
 go_enter Tryz.func19,Tryz.ntmps19
 go_upto_region 1 with fail
 rw [← HW0.out]
 go_upto_region 3 with (first
  | (go_at_call 50;go_must (refine HFO.out.mono ?_);rintro e w1 ⟨uv,rfl,hlu,hb⟩;(obtain ⟨Av,cv,rfl⟩:∃ A c,uv=.slice A (loopsM bs D L).length c:=(by obtain ⟨cs,h1,_⟩:=hlu.ex;exact own_sl h1));have HLU:=hideI hlu;have HB1:=hideI hb;clear q0 q1 q2 q3;have hqs:=row_cells ((hb.block _ hwW).trans HX1.out) rfl;have q0:=hqs 0;have q1:=hqs 1;have q2:=hqs 2;have q3:=hqs 3;clear hqs hlu hb)
  | (go_at_call 45;go_must (refine (refPreds_any bs B _ _ _ _ w1 (HBW.out.keeps (Keeps.of_below (HB1.out.mono hBW))) (Nat.le_trans hBW HB1.out.size) (by have:=HN.out;omega) HIN.out).mono ?_);rintro e w2 ⟨gp,vs,rfl,hls,hb⟩;have HLS:=hideI hls;have HLP:=hideI (HLU.out.kept hb);have HB2:=hideI (HB1.out.trans (hb.mono HB1.out.size));clear hls hb q0 q1 q2 q3))
 rw [← HN.out]
 obtain ⟨m,hm⟩:∃ m,m=(loopsM bs D L).length:=⟨_,rfl⟩
 have HM:=hideI hm
 have hm5:m ≤ 512:=by rw [hm];exact HLL.out
 rw [← hm]
 clear hm
 go_wp2
 go_loopw [5] (fun u wr => ∃ k:Nat,k ≤ m ∧ u=.int .i64 k ∧ Hid (∀ j y,j < k → (loopsM bs D L)[j]?=some y → plainB bs y=true) ∧ Hid (Below w2.heap.size w2 wr)) (fun u _ => m - (intOf u).toNat)
 case atStart => exact ⟨0,Nat.zero_le _,rfl,hideI (fun j y h => by omega),hideI (Below.refl _ _)⟩
 case round =>
  obtain ⟨k,hk,rfl,HA,HBr⟩:=hrel
  have HBF:Hid (Below w.heap.size w wr):=(HB0.out.trans (HB2.out.mono HB0.out.size)).trans (HBr.out.mono (Nat.le_trans HB0.out.size HB2.out.size))
  by_cases hlt:k < m
  ·obtain ⟨x,hxk⟩:∃ x,(loopsM bs D L)[k]?=some x:=⟨_,List.getElem?_eq_getElem (by have:=HM.out;omega)⟩
   obtain ⟨g,cap0,b1,b2,b3,hv,hgb,hgl,k0,k1,k2,k3,k4,s1,s2,s3,_⟩:=HLP.out.cells hxk
   injection hv with e1 _ e3
   subst e1 e3
   have GD:=HGD.out x (List.mem_of_getElem? hxk)
   have i1:=((s1.ints (by have:=GD.blocks;omega)).keep HBr.out).more HBr.out.size
   have i3:=((s3.ints (by have:=GD.exits;omega)).keep HBr.out).more HBr.out.size
   obtain ⟨A1,c1,rfl⟩:=own_sl s1.1
   obtain ⟨A2,c2,rfl⟩:=own_sl s2.1
   obtain ⟨A3,c3,rfl⟩:=own_sl s3.1
   have HXK:=hideI hxk
   obtain ⟨hd,hhd⟩:∃ hd,hd=x.head:=⟨_,rfl⟩
   obtain ⟨pr,hpr⟩:∃ pr,pr=x.parent:=⟨_,rfl⟩
   obtain ⟨m1,hm1⟩:∃ m1,m1=x.blocks.length:=⟨_,rfl⟩
   obtain ⟨m2,hm2⟩:∃ m2,m2=x.latches.length:=⟨_,rfl⟩
   obtain ⟨m3,hm3⟩:∃ m3,m3=x.exits.length:=⟨_,rfl⟩
   rw [← hhd] at k0
   rw [← hpr] at k4
   rw [← hm1] at k1 i1
   rw [← hm2] at k2
   rw [← hm3] at k3 i3
   have HHD:=hideI hhd
   have hBr:B ≤ wr.heap.size:=Nat.le_trans hB HBF.out.size
   have i1d:Ints wr.drew wr.drew.heap.size (.slice A1 m1 c1) (x.blocks.map fun (x:Nat) => (x:Int)):=i1
   have i3d:Ints wr.drew wr.drew.heap.size (.slice A3 m3 c3) (x.exits.map fun (x:Nat) => (x:Int)):=i3
   have hb2:Below W.heap.size W wr:=HB2.out.trans (HBr.out.mono HB2.out.size)
   have hlsd:Lists wr.drew w1.heap.size gp bs.length vs (predsAt bs bs.length bs.length 0):=HLS.out.kept ⟨HBr.out.os,HBr.out.tape,HBr.out.output,HBr.out.size,HBr.out.block⟩
   have hbvd:BlocksR wr.drew B (.slice A n c) bs:=HBW.out.keeps (Keeps.of_below (Below.mono (⟨hb2.os,hb2.tape,hb2.output,hb2.size,hb2.block⟩:Below W.heap.size W wr.drew) hBW))
   have HC:=hideI (refPlain_any bs x w1.heap.size gp n hd m1 m2 m3 c c1 c2 c3 B A A1 A2 A3 vs (.slice P pl pc) (.int .i64 fa) (.int .i64 fc) (.int .i64 pr) wr.drew hlsd hbvd hBr i1d i3d hm1 hm2 hm3 (by rw [hm3];exact GD.exits) hn5 HN.out hhd (by rw [hhd,HN.out];exact GD.head) (by rw [HN.out];exact GD.exin))
   have HS:Hid (∀ W':World,Below wr.heap.size wr W' → W'.cell? ⟨w.heap.size,0,none⟩=some (.slice P pl pc) ∧ W'.cell? ⟨w.heap.size,1,none⟩=some (.int .i64 fa) ∧ W'.cell? ⟨w.heap.size,2,none⟩=some (.int .i64 fc) ∧ W'.cell? ⟨w.heap.size,3,none⟩=some (.slice A n c) ∧ W'.cell? ⟨g,k * 5,none⟩=some (.int .i64 (hd:Int)) ∧ W'.cell? ⟨g,k * 5 + 1,none⟩=some (.slice A1 m1 c1) ∧ W'.cell? ⟨g,k * 5 + 2,none⟩=some (.slice A2 m2 c2) ∧ W'.cell? ⟨g,k * 5 + 3,none⟩=some (.slice A3 m3 c3) ∧ W'.cell? ⟨g,k * 5 + 4,none⟩=some (.int .i64 pr)):=fun W' hW' => by
    have hb1:Below w2.heap.size w2 W':=HBr.out.trans (hW'.mono HBr.out.size)
    have hq:=row_cells (((hb2.trans (hW'.mono hb2.size)).block _ hwW).trans HX1.out) rfl
    exact ⟨hq 0,hq 1,hq 2,hq 3,(hb1.cell (p:=⟨g,k * 5,none⟩) hgl).trans k0,(hb1.cell (p:=⟨g,k * 5 + 1,none⟩) hgl).trans k1,(hb1.cell (p:=⟨g,k * 5 + 2,none⟩) hgl).trans k2,(hb1.cell (p:=⟨g,k * 5 + 3,none⟩) hgl).trans k3,(hb1.cell (p:=⟨g,k * 5 + 4,none⟩) hgl).trans k4⟩
   have hS0:=HS.out wr (Below.refl _ _)
   clear hxk k0 k1 k2 k3 k4 s1 s2 s3 GD i1 i3 i1d i3d hlsd hbvd hhd hpr hm1 hm2 hm3 hb2
   go_upto_region 6 with fail
   refine wp_region_late (by kernel_rfl) (fun W' => W'.cell? ⟨w.heap.size,0,none⟩=some (.slice P pl pc) ∧ W'.cell? ⟨w.heap.size,1,none⟩=some (.int .i64 fa) ∧ W'.cell? ⟨w.heap.size,2,none⟩=some (.int .i64 fc) ∧ W'.cell? ⟨w.heap.size,3,none⟩=some (.slice A n c) ∧ W'.cell? ⟨g,k * 5,none⟩=some (.int .i64 (hd:Int)) ∧ W'.cell? ⟨g,k * 5 + 1,none⟩=some (.slice A1 m1 c1) ∧ W'.cell? ⟨g,k * 5 + 2,none⟩=some (.slice A2 m2 c2) ∧ W'.cell? ⟨g,k * 5 + 3,none⟩=some (.slice A3 m3 c3) ∧ W'.cell? ⟨g,k * 5 + 4,none⟩=some (.int .i64 pr)) [] ?_
   refine wpAnyT_take [] (i:=0) (v:=?_) rfl (by kernel_rfl) (by kernel_rfl) (by kernel_rfl) (by kernel_rfl) (by kernel_rfl) (by kernel_rfl) (fun _ _ _ h => h) hS0 (Or.inl ⟨by rfl,?_⟩) ?_
   rotate_left
   ·(intro w hSw;go_split_ands;go_simp;try with_reducible rfl)
   try simp only [Act.put,List.setIfInBounds_toArray,List.set_cons_zero,List.set_cons_succ]
   refine wpAnyT_quiet (i:=1) (v:=?_) rfl (by kernel_rfl) (by kernel_rfl) (by kernel_rfl) (fun _ _ _ h => h) (Or.inl ⟨by rfl,?_⟩) ?_
   rotate_left
   ·(intro w;go_simp;try with_reducible rfl)
   try simp only [Act.put,List.setIfInBounds_toArray,List.set_cons_zero,List.set_cons_succ]
   refine wpAnyT_quiet (i:=2) (v:=?_) rfl (by kernel_rfl) (by kernel_rfl) (by kernel_rfl) (fun _ _ _ h => h) (Or.inl ⟨by rfl,?_⟩) ?_
   rotate_left
   ·(intro w;go_simp;try with_reducible rfl)
   try simp only [Act.put,List.setIfInBounds_toArray,List.set_cons_zero,List.set_cons_succ]
   refine wpAnyT_quiet (i:=3) (v:=?_) rfl (by kernel_rfl) (by kernel_rfl) (by kernel_rfl) (fun _ _ _ h => h) (Or.inl ⟨by rfl,?_⟩) ?_
   rotate_left
   ·(intro w;go_simp;try with_reducible rfl)
   try simp only [Act.put,List.setIfInBounds_toArray,List.set_cons_zero,List.set_cons_succ]
   refine wpAnyT_take [] (i:=4) (v:=?_) rfl (by kernel_rfl) (by kernel_rfl) (by kernel_rfl) (by kernel_rfl) (by kernel_rfl) (by kernel_rfl) (fun _ _ _ h => h) hS0 (Or.inl ⟨by rfl,?_⟩) ?_
   rotate_left
   ·(intro w hSw;go_split_ands;go_simp;try with_reducible rfl)
   try simp only [Act.put,List.setIfInBounds_toArray,List.set_cons_zero,List.set_cons_succ]
   refine wpAnyT_quiet (i:=5) (v:=?_) rfl (by kernel_rfl) (by kernel_rfl) (by kernel_rfl) (fun _ _ _ h => h) (Or.inl ⟨by rfl,?_⟩) ?_
   rotate_left
   ·(intro w;go_simp;try with_reducible rfl)
   try simp only [Act.put,List.setIfInBounds_toArray,List.set_cons_zero,List.set_cons_succ]
   refine wpAnyT_ready (rs:=[6]) (by kernel_rfl) (by simp) ?_
   refine AllReadyT.cons rfl (fun K hK => ?_) ?_
   ·-- 6 the call
    go_simp
    refine HC.out.mono ?_
    rintro e w3 ⟨rfl,hb3d⟩
    have HB3:Hid (Below wr.heap.size wr w3):=hideI ⟨hb3d.os,hb3d.tape,hb3d.output,hb3d.size,hb3d.block⟩
    clear hb3d
    refine hK.out _ _ (fun _ _ => HS.out _ HB3.out) ?_
    clear hK K
    try simp only [Act.put,List.setIfInBounds_toArray,List.set_cons_zero,List.set_cons_succ]
    refine wpAnyT_quiet (i:=7) (v:=?_) rfl (by kernel_rfl) (by kernel_rfl) (by kernel_rfl) (fun _ _ _ h => h) (Or.inl ⟨by rfl,?_⟩) ?_
    rotate_left
    ·(intro w;go_simp;try with_reducible rfl)
    try simp only [Act.put,List.setIfInBounds_toArray,List.set_cons_zero,List.set_cons_succ]
    refine wpAnyT_done (by kernel_rfl) ?_ _
    have HSR:Hid (Below w.heap.size w w3):=HBF.out.trans (HB3.out.mono HBF.out.size)
    have HB23:Hid (Below w2.heap.size w2 w3):=HBr.out.trans (HB3.out.mono HBr.out.size)
    obtain ⟨_,_,_,_,s4,s5,s6,s7,s8⟩:=HS.out w3 HB3.out
    clear hS0
    cases hq:plainB bs x with
    | true =>
     have HQ:=hideI hq
     clear hq
     go_wp2
     go_roundw
     case rel =>
      refine ⟨k + 1,by omega,by go_num,hideI (fun j y hj hy => ?_),HB23⟩
      by_cases e:j=k
      ·subst e
       have h1:=HXK.out
       rw [hy] at h1
       cases h1
       exact HQ.out
      ·exact HA.out j y (by omega) hy
     case measure => simp [intOf];omega
    | false =>
     have HQ:=hideI hq
     clear hq
     go_wp2
     go_ret
     exact ⟨_,rfl,.inr ⟨k,x,HXK.out,HQ.out,HA.out,by rw [← HHD.out]⟩,HSR.out⟩
   ·exact AllReadyT.nil
  ·have hkm:k=m:=by omega
   have HKM:=hideI hkm
   clear hkm
   go_wp2
   go_ret
   refine ⟨_,rfl,.inl ⟨fun x hx => ?_,rfl⟩,HBF.out⟩
   obtain ⟨j,hj⟩:=List.getElem?_of_mem hx
   exact HA.out j x (by have:=(List.getElem?_eq_some_iff.1 hj).1;have:=HM.out;have:=HKM.out;omega) hj
end Go.Proofs.YtaehbgppfahdeaaGreat

namespace Go.Proofs.YtaehbgppfahdeaaGreat
open Go.RowKit
def rowPhi (b:Nat) (t:Int) (d:Int × Int):List Int:=[d.1,t,(b:Int),-1,d.2]
def rowInstr (b i:Nat) (d:Int × Int):List Int:=[d.1,d.2,(b:Int),(i:Int),0]
def rowsPhi (b:Nat) (p:PhiM):List (List Int):=(p.vals.zip p.fr).map (rowPhi b p.typ)
def rowsInstr (b i:Nat) (x:InstrM):List (List Int):=(x.args.zip (takesS x.op)).map (rowInstr b i)
def rowsCode (b:Nat) (xs:List InstrM):Nat → List (List Int)
 | 0 => []
 | i + 1 => rowsCode b xs i ++ match xs[i]? with | some x => rowsInstr b i x | none => []
def rowsTerm (b:Nat) (q:BlockM):List (List Int) :=
 if q.term.op=2 then [[q.term.val,2,(b:Int),(q.code.length:Int),0]] else if q.term.op=3 then [[q.term.val,0,(b:Int),(q.code.length:Int),0]] else []
def rowsBlock (b:Nat) (q:BlockM):List (List Int):=q.phis.flatMap (rowsPhi b) ++ (rowsCode b q.code q.code.length ++ rowsTerm b q)
def rowsTo (bs:List BlockM):Nat → List (List Int)
 | 0 => []
 | b + 1 => rowsTo bs b ++ match bs[b]? with | some q => rowsBlock b q | none => []
def RU5 (w:World) (base:Nat) (v:Value) (us:List (Int × Int)) (rows:List (List Int)):Prop :=
 rows.map (fun r => (r.getD 0 0,r.getD 1 0))=us ∧ (∀ r ∈ rows,r.length=5) ∧ w.ownsRow base 39 5 v us.length (rows.flatten.map (Value.int .i64))
theorem RU5.push {w':World} {base:Nat} {v':Value} {us:List (Int × Int)} {rows:List (List Int)} (h1:rows.map (fun r => (r.getD 0 0,r.getD 1 0))=us) (h2:∀ r ∈ rows,r.length=5) {a b c d e:Int}
  (h:w'.ownsRow base 39 5 v' (us.length + 1) (rows.flatten.map (Value.int .i64) ++ [.int .i64 a,.int .i64 b,.int .i64 c,.int .i64 d,.int .i64 e])):RU5 w' base v' (us ++ [(a,b)]) (rows ++ [[a,b,c,d,e]]):=by
 refine ⟨by rw [List.map_append,h1];rfl,?_,?_⟩
 ·intro r hr
  rcases List.mem_append.1 hr with hr | hr
  ·exact h2 r hr
  ·simp at hr
   subst hr
   rfl
 ·simpa using h
theorem RU5.alloc {w:World} {base:Nat} {v:Value} {us:List (Int × Int)} {rows:List (List Int)} (h:RU5 w base v us rows) (o:Obj):RU5 (w.alloc o) base v us rows:=⟨h.1,h.2.1,h.2.2.alloc o⟩
theorem RU5.below {w w':World} {base:Nat} {v:Value} {us:List (Int × Int)} {rows:List (List Int)} (h:RU5 w base v us rows) (hb:Below w.heap.size w w'):RU5 w' base v us rows:=by
 obtain ⟨h1,h2,h3⟩:=h
 exact ⟨h1,h2,h3.kept (row:=none) ⟨hb.os,hb.tape,hb.output,hb.size,fun k hk _ => hb.block k hk⟩ (by
  cases hv:v.ownBlock with
  | none => exact .inl rfl
  | some k => exact .inr (by simp))⟩
set_option maxRecDepth 100000 in
set_option maxHeartbeats 8000000 in
theorem refUses5_any (bs:List BlockM) (B:Nat) (pv xv cv bv:Value) (w:World) (hbv:BlocksR w B bv bs) (hB:B ≤ w.heap.size) (hfew:Few bs) (hl5:bs.length ≤ 512)
  (hform:∀ b ∈ bs,∀ x ∈ b.code,x.args.length=(takesS x.op).length) (hphi:∀ b ∈ bs,∀ p ∈ b.phis,p.vals.length=p.fr.length) :
  Calls Tryz.prog 15 #[.agg #[pv,xv,cv,bv]] w fun e w' => ∃ v,e=.returned v ∧ RU5 w' w.heap.size v (bs.flatMap usesBlock) (rowsTo bs bs.length) ∧ Below w.heap.size w w':=by
 have HFEW:=hideI hfew
 have HFO:=hideI hform
 have HPH:=hideI hphi
 have HBB:=hideI hbv
 obtain ⟨i0,hi,hz0,hz1,hz2⟩:=info_parts use_info
 obtain ⟨A,c,rfl,hbm,hbx⟩:=hbv
 have HX:=hideI hbx
 clear hbx hfew hform hphi
 obtain ⟨W0,hW0⟩:∃ W0:World,W0=(w.alloc (.cells #[pv,xv,cv,.slice A bs.length c] 25)).alloc (.cells #[] 39):=⟨_,rfl⟩
 have hK0:Hid (Ka w.heap.size w W0):=by rw [hW0];exact ((Ka.refl _ w).alloc (Nat.le_refl _) _).alloc (by simp) _
 have hbox0:Hid (W0.heap[w.heap.size]?=some (.cells #[pv,xv,cv,.slice A bs.length c] 25 (0,0))):=by
  show _=_
  rw [hW0,Below.heap_alloc _ _ _ (by simp)]
  exact heap_alloc_new w _
 have hR0:Hid (RU5 W0 w.heap.size (.slice (some ⟨w.heap.size + 1,0,none⟩) 0 0) [] []):=by
  have:=World.ownsRow_made (base:=w.heap.size) (e:=39) (size:=5) (w.alloc (.cells #[pv,xv,cv,.slice A bs.length c] 25)) #[] 0 (by simp) (by decide) rfl
  show RU5 W0 _ _ _ _
  rw [hW0]
  exact ⟨rfl,(fun _ h => by cases h),by simpa using this⟩
 have HW0:=hideI hW0
 clear hW0
 go_enter Tryz.func15,Tryz.ntmps15
 go_wp2
 rw [← HW0.out]
 go_loopw [3,4] (fun o i wr => ∃ k:Nat,k ≤ bs.length ∧ i=.int .i64 k ∧ RU5 wr w.heap.size o ((bs.take k).flatMap usesBlock) (rowsTo bs k) ∧ Ka w.heap.size W0 wr) (fun _ i _ => bs.length - (intOf i).toNat)
 case atStart => exact ⟨0,Nat.zero_le _,rfl,by simpa [rowsTo] using hR0.out,Ka.refl _ _⟩
 case round =>
  obtain ⟨k,hk,rfl,hIk,hFk⟩:=hrel
  obtain ⟨u3,rfl⟩:∃ u3':Value,u3'=u3:=⟨_,rfl⟩
  have HIk:=hideI hIk
  have HFk:=hideI hFk
  have hx:=hFk.row hbox0.out (by decide)
  have hsz:w.heap.size < wr.heap.size:=by have h1:=hFk.size;have h2:=lt_of_heap hbox0.out;omega
  have HK:=hideI (Keeps.mono' (hK0.out.trans hFk).keeps hB)
  clear hIk hFk
  by_cases hlt:k < bs.length
  ·obtain ⟨q,hq⟩:∃ q,bs[k]?=some q:=⟨_,List.getElem?_eq_getElem hlt⟩
   obtain ⟨b,off,qpv,qcv,qtv,rfl,hb,e0,e1,e2,e3,e4,e5,hpv,hcv,htv,_⟩:=HX.out k q hq
   have c0:=(HK.out b (off + k * 6) hb).trans e0
   have c1:=(HK.out b (off + k * 6 + 1) hb).trans e1
   have c2:=(HK.out b (off + k * 6 + 2) hb).trans e2
   have c3:=(HK.out b (off + k * 6 + 3) hb).trans e3
   have c4:=(HK.out b (off + k * 6 + 4) hb).trans e4
   have c5:=(HK.out b (off + k * 6 + 5) hb).trans e5
   have HQ:=hideI hq
   obtain ⟨PA,pc,rfl,hpm,hpx⟩:=hpv
   obtain ⟨CA,cc,rfl,hcm,hcx⟩:=hcv
   obtain ⟨TA,tc,rfl,_⟩:=htv
   have HPX:=hideI hpx
   have HCX:=hideI hcx
   clear e0 e1 e2 e3 e4 e5 hq hpx hcx
   obtain ⟨wo,rfl⟩:∃ wo:World,wo=wr:=⟨_,rfl⟩
   obtain ⟨W1,hW1⟩:∃ W1:World,W1=wo.alloc (.cells #[.slice PA q.phis.length pc,.slice CA q.code.length cc,.int .i64 q.term.op,.int .i64 q.term.val,.slice TA q.term.to.length tc,.int .i64 q.term.n] 62):=⟨_,rfl⟩
   have HF1:Hid (Ka w.heap.size W0 W1):=by rw [hW1];exact HFk.out.alloc (by omega) _
   have HI1:Hid (RU5 W1 w.heap.size u3 ((bs.take k).flatMap usesBlock) (rowsTo bs k)):=by rw [hW1];exact HIk.out.alloc _
   have HB1:Hid (W1.heap[wo.heap.size]?=some (.cells #[.slice PA q.phis.length pc,.slice CA q.code.length cc,.int .i64 q.term.op,.int .i64 q.term.val,.slice TA q.term.to.length tc,.int .i64 q.term.n] 62 (0,0))):=by rw [hW1];exact heap_alloc_new wo _
   have HW1:=hideI hW1
   clear hW1
   obtain ⟨us1,hus1⟩:∃ us1,us1=(bs.take k).flatMap usesBlock:=⟨_,rfl⟩
   obtain ⟨rs1,hrs1⟩:∃ rs1,rs1=rowsTo bs k:=⟨_,rfl⟩
   rw [← hus1,← hrs1] at HI1
   have HU1:=hideI hus1
   have HRS1:=hideI hrs1
   clear hus1 hrs1
   go_wp2
   rw [← HW1.out]
   go_loopw [3,6] (fun o i wr => ∃ j:Nat,j ≤ q.phis.length ∧ i=.int .i64 j ∧ RU5 wr w.heap.size o (us1 ++ (q.phis.take j).flatMap usesPhi) (rs1 ++ (q.phis.take j).flatMap (rowsPhi k)) ∧ Ka w.heap.size W1 wr) (fun _ i _ => q.phis.length - (intOf i).toNat)
   case atStart => exact ⟨0,Nat.zero_le _,rfl,by simpa using HI1.out,Ka.refl _ _⟩
   case round =>
    obtain ⟨j,hj,rfl,hIj,hFj⟩:=hrel
    have HIj:=hideI hIj
    have HFj:=hideI hFj
    have hx1:=hFj.row HB1.out (by decide)
    have hsz1:wo.heap.size < wr.heap.size:=by have h1:=hFj.size;have h2:=lt_of_heap HB1.out;omega
    have HK1:=hideI (Keeps.mono' ((hK0.out.trans HF1.out).trans hFj).keeps hB)
    clear hIj hFj
    by_cases hlj:j < q.phis.length
    ·obtain ⟨p,hp⟩:∃ p,q.phis[j]?=some p:=⟨_,List.getElem?_eq_getElem hlj⟩
     obtain ⟨b2,off2,fv,vv,rfl,hb2,e0,e1,e2,e3,hf,hv,_⟩:=HPX.out j p hp
     have HQ2:=hideI hp
     have hpl:Hid (p.vals.length=p.fr.length):=HPH.out q (List.mem_of_getElem? HQ.out) p (List.mem_of_getElem? hp)
     obtain ⟨FA,fc,rfl,hfm,hfx⟩:=hf
     obtain ⟨VA,vc,rfl,hvm,hvx⟩:=hv
     have HVX:=hideI hvx
     have HFX:=hideI hfx
     have HE:=hideI (And.intro e1 (And.intro e2 e3))
     have d3:=(HK1.out b2 (off2 + j * 4 + 3) hb2).trans e3
     obtain ⟨wi,rfl⟩:∃ wi:World,wi=wr:=⟨_,rfl⟩
     obtain ⟨us2,hus2⟩:∃ us2,us2=us1 ++ (q.phis.take j).flatMap usesPhi:=⟨_,rfl⟩
     obtain ⟨rs2,hrs2⟩:∃ rs2,rs2=rs1 ++ (q.phis.take j).flatMap (rowsPhi k):=⟨_,rfl⟩
     rw [← hus2,← hrs2] at HIj
     have HU2:=hideI hus2
     have HRS2:=hideI hrs2
     clear e0 e1 e2 e3 hp hvx hfx hus2 hrs2
     go_wp2
     clear d3
     go_loopw [3,7] (fun o i wr => ∃ m:Nat,m ≤ p.vals.length ∧ i=.int .i64 m ∧ RU5 wr w.heap.size o (us2 ++ (p.vals.take m).map fun v => (v,p.typ)) (rs2 ++ ((p.vals.zip p.fr).take m).map (rowPhi k p.typ)) ∧ Ka w.heap.size wi wr) (fun _ i _ => p.vals.length - (intOf i).toNat)
     case atStart => exact ⟨0,Nat.zero_le _,rfl,by simpa using HIj.out,Ka.refl _ _⟩
     case round =>
      obtain ⟨m,hm,rfl,hIm,hFm⟩:=hrel
      have hx2:=(HFj.out.trans hFm).row HB1.out (by decide)
      have HK2:=hideI (Keeps.mono' (((hK0.out.trans HF1.out).trans HFj.out).trans hFm).keeps hB)
      have hsz2:w.heap.size ≤ wr.heap.size:=by have h1:=hFm.size;omega
      have d1:=(HK2.out b2 (off2 + j * 4 + 1) hb2).trans HE.out.1
      have d2:=(HK2.out b2 (off2 + j * 4 + 2) hb2).trans HE.out.2.1
      have d3:=(HK2.out b2 (off2 + j * 4 + 3) hb2).trans HE.out.2.2
      have HIm:=hideI hIm
      have HFm:=hideI hFm
      clear hIm hFm
      by_cases hlm:m < p.vals.length
      ·obtain ⟨b3,off3,rfl,hb3,e3⟩:=HVX.out m hlm
       obtain ⟨v,hv⟩:∃ v,p.vals[m]?=some v:=⟨_,List.getElem?_eq_getElem hlm⟩
       have hlf:m < p.fr.length:=by rw [← hpl.out];exact hlm
       obtain ⟨b4,off4,rfl,hb4,e4⟩:=HFX.out m hlf
       obtain ⟨fr,hfr⟩:∃ fr,p.fr[m]?=some fr:=⟨_,List.getElem?_eq_getElem hlf⟩
       rw [hv] at e3
       rw [hfr] at e4
       have f3:=(HK2.out b3 (off3 + m) hb3).trans e3
       have f4:=(HK2.out b4 (off4 + m) hb4).trans e4
       simp only [Option.getD_some] at f3 f4
       have HV:=hideI hv
       have HZ:Hid ((p.vals.zip p.fr)[m]?=some (v,fr)):=hideI (List.getElem?_zip_eq_some.2 ⟨hv,hfr⟩)
       have hfw:=few_phi HFEW.out HQ.out HQ2.out hlm us1 us2 HU1.out HU2.out
       obtain ⟨uu,huu⟩:∃ uu,uu=us2 ++ (p.vals.take m).map fun v => (v,p.typ):=⟨_,rfl⟩
       obtain ⟨rows,hrows⟩:∃ rows,rows=rs2 ++ ((p.vals.zip p.fr).take m).map (rowPhi k p.typ):=⟨_,rfl⟩
       rw [← huu] at hfw HIm
       rw [← hrows] at HIm
       have HUU:=hideI huu
       have HRW:=hideI hrows
       clear e3 e4 hv hfr huu hrows
       have g0:wr.cell? ⟨wo.heap.size,0,none⟩=some (.slice (some ⟨b2,off2,none⟩) q.phis.length pc):=hx2 0
       clear hx2
       obtain ⟨hrw1,hrw2,hown⟩:=HIm.out
       have HR1:=hideI hrw1
       have HR2:=hideI hrw2
       clear hrw1 hrw2
       have G0:Hid (∀ W,Ka w.heap.size wr W → W.cell? ⟨wo.heap.size,0,none⟩=some (.slice (some ⟨b2,off2,none⟩) q.phis.length pc) ∧ W.cell? ⟨b2,off2 + j * 4 + 1,none⟩=some (.int .i64 p.typ) ∧ W.cell? ⟨b2,off2 + j * 4 + 2,none⟩=some (.slice (some ⟨b4,off4,none⟩) p.fr.length fc) ∧ W.cell? ⟨b2,off2 + j * 4 + 3,none⟩=some (.slice (some ⟨b3,off3,none⟩) p.vals.length vc) ∧ W.cell? ⟨b3,off3 + m,none⟩=some (.int .i64 v) ∧ W.cell? ⟨b4,off4 + m,none⟩=some (.int .i64 fr)) :=
        fun W hW => ⟨((HFj.out.trans HFm.out).trans hW).row HB1.out (by decide) 0,(hW.keeps _ _ (by omega)).trans d1,(hW.keeps _ _ (by omega)).trans d2,(hW.keeps _ _ (by omega)).trans d3,(hW.keeps _ _ (by omega)).trans f3,(hW.keeps _ _ (by omega)).trans f4⟩
       go_wp2
       go_region_held3 (fun w' => w'.cell? ⟨wo.heap.size,0,none⟩=some (.slice (some ⟨b2,off2,none⟩) q.phis.length pc) ∧ w'.cell? ⟨b2,off2 + j * 4 + 1,none⟩=some (.int .i64 p.typ) ∧ w'.cell? ⟨b2,off2 + j * 4 + 2,none⟩=some (.slice (some ⟨b4,off4,none⟩) p.fr.length fc) ∧ w'.cell? ⟨b2,off2 + j * 4 + 3,none⟩=some (.slice (some ⟨b3,off3,none⟩) p.vals.length vc) ∧ w'.cell? ⟨b3,off3 + m,none⟩=some (.int .i64 v) ∧ w'.cell? ⟨b4,off4 + m,none⟩=some (.int .i64 fr)) (first | go_keep | exact G0.out _ ((((Ka.refl _ wr).alloc hsz2 _).drew).trans hka) | exact G0.out _ (((Ka.refl _ wr).alloc hsz2 _).trans hka))
        (first | (refine step_append_lies _ rfl (.tmp 44) (.tmp 71) _ rfl w.heap.size 39 i0 _ 5 40 Tryz.underlying36 hi hz0 hz1 hz2 rfl (by decide) _ _ _ rfl (hown.alloc _) ⟨wr.heap.size,0,none⟩ 1 1 [.int .i64 v,.int .i64 p.typ,.int .i64 k,.int .i64 (-1),.int .i64 fr] rfl rfl (five_new _ _ _) (by simp [Value.oneCell']) (by decide) (by unfold maxLen;omega) (by omega) (by simp;omega) _ rfl ?_;intro g1 cap1 w4 hown1 hgrow1 hor hgl1;have hka:=Ka.grown hgrow1 (hown.alloc _) (by simp;omega)))
       have HIN:Hid (RU5 w4 w.heap.size (.slice (some ⟨g1,0,none⟩) (uu.length + 1) cap1) (us2 ++ (p.vals.take (m + 1)).map fun v => (v,p.typ)) (rs2 ++ ((p.vals.zip p.fr).take (m + 1)).map (rowPhi k p.typ))):=by
        have:=RU5.push (b:=p.typ) HR1.out HR2.out hown1
        rw [map_take' (fun v => (v,p.typ)) p.vals m v HV.out,← List.append_assoc,← HUU.out,map_take' (rowPhi k p.typ) (p.vals.zip p.fr) m (v,fr) HZ.out,← List.append_assoc,← HRW.out]
        exact this
       have HFN:Hid (Ka w.heap.size wi w4):=(HFm.out.trans (((Ka.refl _ wr).alloc hsz2 _).drew)).trans hka
       clear hown1 hgrow1 hor hgl1 hka
       go_wp2
       go_roundw
       case rel => exact ⟨m + 1,by omega,by go_num,HIN.out,HFN.out⟩
       case measure => simp [intOf];omega
      ·have HIend:Hid (RU5 wr w.heap.size u3 (us2 ++ usesPhi p) (rs2 ++ rowsPhi k p)):=by have:=HIm.out;rw [List.take_of_length_le (l:=p.vals) (by omega),List.take_of_length_le (l:=p.vals.zip p.fr) (by rw [List.length_zip];omega)] at this;exact this
       go_wp2
       go_roundw
       case rel => exact ⟨j + 1,by omega,by go_num,by rw [flat_take' _ _ _ _ HQ2.out,flat_take' _ _ _ _ HQ2.out,← List.append_assoc,← List.append_assoc,← HU2.out,← HRS2.out];exact HIend.out,HFj.out.trans HFm.out⟩
       case measure => simp [intOf];omega
    ·have HIend:Hid (RU5 wr w.heap.size u3 (us1 ++ q.phis.flatMap usesPhi) (rs1 ++ q.phis.flatMap (rowsPhi k))):=by have:=HIj.out;rw [List.take_of_length_le (by omega)] at this;exact this
     go_wp2
     obtain ⟨wp,rfl⟩:∃ wp:World,wp=wr:=⟨_,rfl⟩
     clear hx1 hsz1 HK1 hlj
     obtain ⟨us3,hus3⟩:∃ us3,us3=us1 ++ q.phis.flatMap usesPhi:=⟨_,rfl⟩
     obtain ⟨rs3,hrs3⟩:∃ rs3,rs3=rs1 ++ q.phis.flatMap (rowsPhi k):=⟨_,rfl⟩
     rw [← hus3,← hrs3] at HIend
     have HU3:=hideI hus3
     have HRS3:=hideI hrs3
     clear hus3 hrs3
     go_loopw [3,8] (fun o i wr => ∃ j:Nat,j ≤ q.code.length ∧ i=.int .i64 j ∧ RU5 wr w.heap.size o (us3 ++ (q.code.take j).flatMap usesInstr) (rs3 ++ rowsCode k q.code j) ∧ Ka w.heap.size W1 wr) (fun _ i _ => q.code.length - (intOf i).toNat)
     case atStart => exact ⟨0,Nat.zero_le _,rfl,by simpa [rowsCode] using HIend.out,HFj.out⟩
     case round =>
      obtain ⟨j2,hj2,rfl,hIj2,hFj2⟩:=hrel
      have HIj2:=hideI hIj2
      have HFj2:=hideI hFj2
      have hx1:=hFj2.row HB1.out (by decide)
      have hsz1:wo.heap.size < wr.heap.size:=by have h1:=hFj2.size;have h2:=lt_of_heap HB1.out;omega
      have hsz0:w.heap.size ≤ wr.heap.size:=by omega
      have HK1:=hideI (Keeps.mono' ((hK0.out.trans HF1.out).trans hFj2).keeps hB)
      clear hIj2 hFj2
      by_cases hlj2:j2 < q.code.length
      ·obtain ⟨x,hp⟩:∃ x,q.code[j2]?=some x:=⟨_,List.getElem?_eq_getElem hlj2⟩
       have hxl:Hid (x.args.length=(takesS x.op).length):=HFO.out q (List.mem_of_getElem? HQ.out) x (List.mem_of_getElem? hp)
       obtain ⟨b2,off2,av,rfl,hb2,e0,e1,e2,e3,hf,_⟩:=HCX.out j2 x hp
       have d0:=(HK1.out b2 (off2 + j2 * 4) hb2).trans e0
       have HE2:=hideI e2
       have HQ2:=hideI hp
       obtain ⟨AA,ac,rfl,ham,hax⟩:=hf
       have HAX:=hideI hax
       clear e0 e1 e2 e3 hp hax
       obtain ⟨wi,rfl⟩:∃ wi:World,wi=wr:=⟨_,rfl⟩
       go_wp2_with (go_at_call 38;refine (refArgs_any _ _).mono ?_;rintro e w3 ⟨tv,rfl,htv,hbA⟩;obtain ⟨TK,tkc,rfl,htm,htx⟩:=htv;have HTX:=hideI htx;have HBA:=hideI hbA;clear htx hbA)
       have HF3:Hid (Ka w.heap.size W1 w3):=HFj2.out.trans (Ka.of_below HBA.out hsz0)
       have HI3:Hid (RU5 w3 w.heap.size u3 (us3 ++ (q.code.take j2).flatMap usesInstr) (rs3 ++ rowsCode k q.code j2)):=HIj2.out.below HBA.out
       obtain ⟨us4,hus4⟩:∃ us4,us4=us3 ++ (q.code.take j2).flatMap usesInstr:=⟨_,rfl⟩
       obtain ⟨rs4,hrs4⟩:∃ rs4,rs4=rs3 ++ rowsCode k q.code j2:=⟨_,rfl⟩
       rw [← hus4,← hrs4] at HI3
       have HU4:=hideI hus4
       have HRS4:Hid (rs3 ++ rowsCode k q.code (j2 + 1)=rs4 ++ rowsInstr k j2 x):=by show _=_;rw [rowsCode,HQ2.out,hrs4,List.append_assoc]
       clear hrs4
       have hsz3:wi.heap.size ≤ w3.heap.size:=HBA.out.size
       clear hus4 hx1 d0
       go_loopw [3,12] (fun o i wr => ∃ m:Nat,m ≤ (takesS x.op).length ∧ i=.int .i64 m ∧ RU5 wr w.heap.size o (us4 ++ (x.args.take m).zip ((takesS x.op).take m)) (rs4 ++ ((x.args.zip (takesS x.op)).take m).map (rowInstr k j2)) ∧ Ka w.heap.size w3 wr) (fun _ i _ => (takesS x.op).length - (intOf i).toNat)
       case atStart => exact ⟨0,Nat.zero_le _,rfl,by simpa using HI3.out,Ka.refl _ _⟩
       case round =>
        obtain ⟨m,hm,rfl,hIm,hFm⟩:=hrel
        have HIm:=hideI hIm
        have HFm:=hideI hFm
        have HK2:=hideI (Keeps.mono' ((hK0.out.trans HF1.out).trans (HF3.out.trans hFm)).keeps hB)
        have hsz2:w.heap.size ≤ wr.heap.size:=by have h1:=hFm.size;omega
        clear hIm hFm
        by_cases hlm:m < (takesS x.op).length
        ·have hla:m < x.args.length:=by rw [hxl.out];exact hlm
         obtain ⟨b3,off3,rfl,hb3,e3⟩:=HAX.out m hla
         obtain ⟨v,hv⟩:∃ v,x.args[m]?=some v:=⟨_,List.getElem?_eq_getElem hla⟩
         obtain ⟨t,ht⟩:∃ t,(takesS x.op)[m]?=some t:=⟨_,List.getElem?_eq_getElem hlm⟩
         obtain ⟨g,cs,rfl,hg,hgb,hgc⟩:=HTX.out (by omega)
         have hgx:=(HFm.out.row hgb (by decide) m).trans (hgc m hlm)
         rw [hv] at e3
         rw [ht] at hgx
         have f3:=(HK2.out b3 (off3 + m) hb3).trans e3
         have d2:=(HK2.out b2 (off2 + j2 * 4 + 2) hb2).trans HE2.out
         simp only [Option.getD_some] at f3 hgx
         have HV:=hideI hv
         have HT2:=hideI ht
         have HZ:Hid ((x.args.zip (takesS x.op))[m]?=some (v,t)):=hideI (List.getElem?_zip_eq_some.2 ⟨hv,ht⟩)
         have HGB:=hideI (And.intro hgb (hgc m hlm))
         have hfw:=few_instr HFEW.out HQ.out HQ2.out hla hxl.out us1 us3 us4 HU1.out HU3.out HU4.out
         obtain ⟨uu,huu⟩:∃ uu,uu=us4 ++ (x.args.take m).zip ((takesS x.op).take m):=⟨_,rfl⟩
         obtain ⟨rows,hrows⟩:∃ rows,rows=rs4 ++ ((x.args.zip (takesS x.op)).take m).map (rowInstr k j2):=⟨_,rfl⟩
         rw [← huu] at hfw HIm
         rw [← hrows] at HIm
         have HUU:=hideI huu
         have HRW:=hideI hrows
         clear hrows
         obtain ⟨hrw1,hrw2,hown⟩:=HIm.out
         have HR1:=hideI hrw1
         have HR2:=hideI hrw2
         have g0:wr.cell? ⟨wo.heap.size,1,none⟩=some (.slice (some ⟨b2,off2,none⟩) q.code.length cc):=((HF3.out.trans HFm.out).row HB1.out (by decide) 1)
         clear e3 hv ht hgb hgc huu hrw1 hrw2
         have G0:Hid (∀ W,Ka w.heap.size wr W → W.cell? ⟨wo.heap.size,1,none⟩=some (.slice (some ⟨b2,off2,none⟩) q.code.length cc) ∧ W.cell? ⟨b2,off2 + j2 * 4 + 2,none⟩=some (.slice (some ⟨b3,off3,none⟩) x.args.length ac) ∧ W.cell? ⟨b3,off3 + m,none⟩=some (.int .i64 v) ∧ W.cell? ⟨g,m,none⟩=some (.int .i64 t)) :=
          fun W hW => ⟨((HF3.out.trans HFm.out).trans hW).row HB1.out (by decide) 1,(hW.keeps _ _ (by omega)).trans d2,(hW.keeps _ _ (by omega)).trans f3,(by rw [((HFm.out.trans hW).row HGB.out.1 (by decide) m),← hgx,HFm.out.row HGB.out.1 (by decide) m])⟩
         go_wp2
         go_region_held3 (fun w' => w'.cell? ⟨wo.heap.size,1,none⟩=some (.slice (some ⟨b2,off2,none⟩) q.code.length cc) ∧ w'.cell? ⟨b2,off2 + j2 * 4 + 2,none⟩=some (.slice (some ⟨b3,off3,none⟩) x.args.length ac) ∧ w'.cell? ⟨b3,off3 + m,none⟩=some (.int .i64 v) ∧ w'.cell? ⟨g,m,none⟩=some (.int .i64 t)) (first | go_keep | exact G0.out _ ((((Ka.refl _ wr).alloc hsz2 _).drew).trans hka) | exact G0.out _ (((Ka.refl _ wr).alloc hsz2 _).trans hka))
          (first | (refine step_append_lies _ rfl (.tmp 97) (.tmp 114) _ rfl w.heap.size 39 i0 _ 5 40 Tryz.underlying36 hi hz0 hz1 hz2 rfl (by decide) _ _ _ rfl (hown.alloc _) ⟨wr.heap.size,0,none⟩ 1 1 [.int .i64 v,.int .i64 t,.int .i64 k,.int .i64 j2,.int .i64 0] rfl rfl (five_new _ _ _) (by simp [Value.oneCell']) (by decide) (by unfold maxLen;omega) (by omega) (by simp;omega) _ rfl ?_;intro g1 cap1 w4 hown1 hgrow1 hor hgl1;have hka:=Ka.grown hgrow1 (hown.alloc _) (by simp;omega)))
         have HIN:Hid (RU5 w4 w.heap.size (.slice (some ⟨g1,0,none⟩) (uu.length + 1) cap1) (us4 ++ (x.args.take (m + 1)).zip ((takesS x.op).take (m + 1))) (rs4 ++ ((x.args.zip (takesS x.op)).take (m + 1)).map (rowInstr k j2))):=by
          have:=RU5.push (b:=t) HR1.out HR2.out hown1
          rw [zip_take' _ _ _ _ _ HV.out HT2.out,← List.append_assoc,← HUU.out,map_take' (rowInstr k j2) (x.args.zip (takesS x.op)) m (v,t) HZ.out,← List.append_assoc,← HRW.out]
          exact this
         have HFN:Hid (Ka w.heap.size w3 w4):=(HFm.out.trans (((Ka.refl _ wr).alloc hsz2 _).drew)).trans hka
         clear hown1 hgrow1 hor hgl1 hka
         go_wp2
         go_roundw
         case rel => exact ⟨m + 1,by omega,by go_num,HIN.out,HFN.out⟩
         case measure => simp [intOf];omega
        ·have HIe:Hid (RU5 wr w.heap.size u3 (us4 ++ usesInstr x) (rs4 ++ rowsInstr k j2 x)):=by
          have:=HIm.out
          rw [List.take_of_length_le (l:=x.args) (by rw [hxl.out];omega),List.take_of_length_le (l:=takesS x.op) (by omega),List.take_of_length_le (l:=x.args.zip (takesS x.op)) (by rw [List.length_zip];omega)] at this
          exact this
         go_wp2
         go_roundw
         case rel => exact ⟨j2 + 1,by omega,by go_num,by rw [flat_take' _ _ _ _ HQ2.out,← List.append_assoc,← HU4.out,HRS4.out];exact HIe.out,HF3.out.trans HFm.out⟩
         case measure => simp [intOf];omega
      ·have HIe:Hid (RU5 wr w.heap.size u3 (us3 ++ q.code.flatMap usesInstr) (rs3 ++ rowsCode k q.code q.code.length)):=by have:=HIj2.out;rw [List.take_of_length_le (by omega),show j2=q.code.length by omega] at this;exact this
       have HUB:Hid ((bs.take (k + 1)).flatMap usesBlock=(us3 ++ q.code.flatMap usesInstr) ++ usesTerm q.term):=by
        show _=_
        rw [flat_take' _ _ _ _ HQ.out,HU3.out,HU1.out]
        simp only [usesBlock,List.append_assoc]
       have HRB:Hid (rowsTo bs (k + 1)=(rs3 ++ rowsCode k q.code q.code.length) ++ rowsTerm k q):=by
        show _=_
        rw [rowsTo,HQ.out,HRS3.out,HRS1.out]
        simp only [rowsBlock,List.append_assoc]
       cases h2:q.term.op == 2
       ·cases h3:q.term.op == 3
        ·have hu:usesTerm q.term=[]:=by
          unfold usesTerm
          rw [if_neg (by simpa using h2),if_neg (by simpa using h3)]
         have HU:=hideI hu
         have HRT:Hid (rowsTerm k q=[]):=by
          show _=_
          unfold rowsTerm
          rw [if_neg (by simpa using h2),if_neg (by simpa using h3)]
         clear hu
         go_wp2
         go_roundw
         case rel => exact ⟨k + 1,by omega,by go_num,by rw [HUB.out,HU.out,List.append_nil,HRB.out,HRT.out,List.append_nil];exact HIe.out,HF1.out.trans HFj2.out⟩
         case measure => simp [intOf];omega
        ·have hu:usesTerm q.term=[(q.term.val,0)]:=by
          unfold usesTerm
          rw [if_neg (by simpa using h2),if_pos (by simpa using h3)]
         have HU:=hideI hu
         have HRT:Hid (rowsTerm k q=[[q.term.val,0,(k:Int),(q.code.length:Int),0]]):=by
          show _=_
          unfold rowsTerm
          rw [if_neg (by simpa using h2),if_pos (by simpa using h3)]
         have hfw:=few_term HFEW.out HQ.out (by rw [hu];exact Nat.zero_lt_one) us1 us3 HU1.out HU3.out
         clear hu
         obtain ⟨uu,huu⟩:∃ uu,uu=us3 ++ q.code.flatMap usesInstr:=⟨_,rfl⟩
         obtain ⟨rows,hrows⟩:∃ rows,rows=rs3 ++ rowsCode k q.code q.code.length:=⟨_,rfl⟩
         rw [← huu] at hfw HIe HUB
         rw [← hrows] at HIe HRB
         clear huu hrows
         obtain ⟨hrw1,hrw2,hown⟩:=HIe.out
         have HR1:=hideI hrw1
         have HR2:=hideI hrw2
         clear hrw1 hrw2
         go_wp2_with (at_builtin;refine wpList_append_lies _ rfl _ _ _ rfl w.heap.size 39 i0 _ 5 40 Tryz.underlying36 hi hz0 hz1 hz2 rfl (by decide) _ _ _ rfl (hown.alloc _) ⟨wr.heap.size,0,none⟩ 1 1 [.int .i64 q.term.val,.int .i64 0,.int .i64 k,.int .i64 q.code.length,.int .i64 0] rfl rfl (five_new _ _ _) (by simp [Value.oneCell']) (by decide) (by unfold maxLen;omega) (by omega) (by simp;omega) _ rfl ?_;intro g1 cap1 w4 hown1 hgrow1 hor hgl1;have hka:=hideI (Ka.grown hgrow1 (hown.alloc _) (by simp;omega));have HO1:=hideI hown1;clear hown1 hgrow1 hor hgl1)
         go_roundw
         case rel => exact ⟨k + 1,by omega,by go_num,by rw [HUB.out,HU.out,HRB.out,HRT.out];exact RU5.push HR1.out HR2.out HO1.out,(HF1.out.trans (HFj2.out.alloc hsz0 _)).trans hka.out⟩
         case measure => simp [intOf];omega
       ·have hu:usesTerm q.term=[(q.term.val,2)]:=by
         unfold usesTerm
         rw [if_pos (by simpa using h2)]
        have HU:=hideI hu
        have HRT:Hid (rowsTerm k q=[[q.term.val,2,(k:Int),(q.code.length:Int),0]]):=by
         show _=_
         unfold rowsTerm
         rw [if_pos (by simpa using h2)]
        have hfw:=few_term HFEW.out HQ.out (by rw [hu];exact Nat.zero_lt_one) us1 us3 HU1.out HU3.out
        clear hu
        have h3:(q.term.op == 3)=false:=by
         have:q.term.op=2:=by simpa using h2
         rw [this];rfl
        obtain ⟨uu,huu⟩:∃ uu,uu=us3 ++ q.code.flatMap usesInstr:=⟨_,rfl⟩
        obtain ⟨rows,hrows⟩:∃ rows,rows=rs3 ++ rowsCode k q.code q.code.length:=⟨_,rfl⟩
        rw [← huu] at hfw HIe HUB
        rw [← hrows] at HIe HRB
        clear huu hrows
        obtain ⟨hrw1,hrw2,hown⟩:=HIe.out
        have HR1:=hideI hrw1
        have HR2:=hideI hrw2
        clear hrw1 hrw2
        go_wp2_with (at_builtin;refine wpList_append_lies _ rfl _ _ _ rfl w.heap.size 39 i0 _ 5 40 Tryz.underlying36 hi hz0 hz1 hz2 rfl (by decide) _ _ _ rfl (hown.alloc _) ⟨wr.heap.size,0,none⟩ 1 1 [.int .i64 q.term.val,.int .i64 2,.int .i64 k,.int .i64 q.code.length,.int .i64 0] rfl rfl (five_new _ _ _) (by simp [Value.oneCell']) (by decide) (by unfold maxLen;omega) (by omega) (by simp;omega) _ rfl ?_;intro g1 cap1 w4 hown1 hgrow1 hor hgl1;have hka:=hideI (Ka.grown hgrow1 (hown.alloc _) (by simp;omega));have HO1:=hideI hown1;have hx4:=((HFj2.out.alloc hsz0 _).trans hka.out).row HB1.out (by decide);clear hown1 hgrow1 hor hgl1)
        go_roundw
        case rel => exact ⟨k + 1,by omega,by go_num,by rw [HUB.out,HU.out,HRB.out,HRT.out];exact RU5.push HR1.out HR2.out HO1.out,(HF1.out.trans (HFj2.out.alloc hsz0 _)).trans hka.out⟩
        case measure => simp [intOf];omega
  ·go_wp2
   go_ret
   refine ⟨_,rfl,?_,(hK0.out.trans HFk.out).below⟩
   have:=HIk.out
   rw [List.take_of_length_le (by omega),show k=bs.length by omega] at this
   exact this
end Go.Proofs.YtaehbgppfahdeaaGreat

namespace Go.Proofs.YtaehbgppfahdeaaGreat
open Go.RowKit
def justR (fr ps:List Int):Bool:=fr.length == ps.length && ps.all fun b => decide (b ∈ fr)
theorem justR_eq {fr ps:List Int} (h1:fr.Nodup) (h2:ps.Nodup):justR fr ps=justB fr ps:=by
 unfold justR justB
 cases hl:fr.length == ps.length
 ·rfl
 ·have hl':fr.length=ps.length:=by simpa using hl
  rw [Bool.true_and,Bool.true_and,Bool.eq_iff_iff,List.all_eq_true,List.all_eq_true]
  have sub:∀ {a b:List Int},a.Nodup → a.length=b.length → b.Nodup → (∀ x ∈ a,x ∈ b) → ∀ x ∈ b,x ∈ a:=by
   intro a b ha hab hb hs x hx
   by_cases hxa:x ∈ a
   ·exact hxa
   ·have:=sub_len (x :: a) b (List.nodup_cons.2 ⟨hxa,ha⟩) (fun y hy => by rcases List.mem_cons.1 hy with rfl | hy;exact hx;exact hs y hy)
    rw [List.length_cons] at this
    omega
  constructor
  ·intro h x hx
   exact decide_eq_true (sub h2 hl'.symm h1 (fun y hy => of_decide_eq_true (h y hy)) x hx)
  ·intro h x hx
   exact decide_eq_true (sub h1 hl' h2 (fun y hy => of_decide_eq_true (h y hy)) x hx)
def phisFitR (bs:List BlockM) (b:Nat) (q:BlockM):Bool:=q.phis.all fun p => justR p.fr (predsI bs b)
theorem predsI_nodup (bs:List BlockM) (b:Nat):(predsI bs b).Nodup:=(predsI_rising bs b).imp (fun h => by omega)
theorem look_once {f:FuncM} (h:(lookM f).1=0) {q:BlockM} (hq:q ∈ f.blocks) {p:PhiM} (hp:p ∈ q.phis):p.fr.Nodup ∧ ∀ x ∈ p.fr,0 ≤ x ∧ x < f.blocks.length:=by
 have hon:=((formed_all (look_formed h)).1 q hq).1 p hp
 unfold phiB at hon
 simp only [Bool.and_eq_true] at hon
 have:=once_nodup _ _ hon.2.2
 exact ⟨this.1,fun x hx => by have:=this.2.1 x hx;omega⟩
theorem phisFitR_eq {f:FuncM} (h:(lookM f).1=0) {b:Nat} {q:BlockM} (hq:f.blocks[b]?=some q):phisFitR f.blocks b q=phisFitB f.blocks b q:=by
 have h1:∀ p ∈ q.phis,justR p.fr (predsI f.blocks b)=justB p.fr (predsI f.blocks b):=fun p hp => justR_eq (look_once h (List.mem_of_getElem? hq) hp).1 (predsI_nodup _ _)
 unfold phisFitR phisFitB
 rw [Bool.eq_iff_iff,List.all_eq_true,List.all_eq_true]
 exact ⟨fun h2 p hp => by rw [← h1 p hp];exact h2 p hp,fun h2 p hp => by rw [h1 p hp];exact h2 p hp⟩
def okRow (f:FuncM) (o:List Nat) (r:List Int):Prop:=∀ m,(placedM f).last (r.getD 0 0)=some m →
 if r.getD 3 0 < 0 then OverP f.blocks o m.1 (r.getD 4 0).toNat else if (m.1:Int)=r.getD 2 0 then m.2 < r.getD 3 0 else OverP f.blocks o m.1 (r.getD 2 0).toNat
theorem made_end {f:FuncM} {id:Int} {b:Nat} {a:Int} {q:BlockM} (h:MadeAt f id b a) (hq:f.blocks[b]?=some q):a < q.code.length:=by
 cases h with
 | param => omega
 | phi => omega
 | instr hq' hx =>
  rw [hq] at hq'
  cases hq'
  have:=(List.getElem?_eq_some_iff.1 hx).1
  omega
theorem okRow_phi {f:FuncM} {o:List Nat} (hall:∀ b,b < f.blocks.length → b ∈ o) {b fr:Nat} {t id:Int} {q':BlockM} (hq:f.blocks[fr]?=some q'):okRow f o (rowPhi b t (id,(fr:Int))) ↔ okP f o id fr q'.code.length:=by
 unfold okRow okP rowPhi
 refine forall_congr' fun m => forall_congr' fun hm => ?_
 have hfr:=(List.getElem?_eq_some_iff.1 hq).1
 simp only [List.getD_cons_zero,List.getD_cons_succ,Int.toNat_natCast]
 rw [if_pos (by omega)]
 unfold aheadP
 by_cases h:m.1=fr
 ·subst h
  exact ⟨fun _ => .inl ⟨rfl,made_end (last_made hm) hq⟩,fun _ => OverP.refl (hall _ hfr)⟩
 ·exact ⟨fun k => .inr ⟨h,k⟩,fun k => k.elim (fun k => absurd k.1 h) (fun k => k.2)⟩
theorem okRow_at {f:FuncM} {o:List Nat} {b i:Nat} {t id c:Int}:okRow f o [id,t,(b:Int),(i:Int),c] ↔ okP f o id b i:=by
 unfold okRow okP
 refine forall_congr' fun m => forall_congr' fun _ => ?_
 simp only [List.getD_cons_zero,List.getD_cons_succ,Int.toNat_natCast]
 rw [if_neg (by omega)]
 unfold aheadP
 by_cases h:m.1=b
 ·rw [if_pos (by omega)]
  exact ⟨fun k => .inl ⟨h,k⟩,fun k => k.elim (fun k => k.2) (fun k => absurd h k.1)⟩
 ·rw [if_neg (by omega)]
  exact ⟨fun k => .inr ⟨h,k⟩,fun k => k.elim (fun k => absurd k.1 h) (fun k => k.2)⟩
theorem rowsCode_mem {b:Nat} {xs:List InstrM} {r:List Int}:∀ n,n ≤ xs.length → (r ∈ rowsCode b xs n ↔ ∃ (i:Nat) (x:InstrM),i < n ∧ xs[i]?=some x ∧ r ∈ rowsInstr b i x):=by
 intro n
 induction n with
 | zero => intro _;exact ⟨fun h => (by cases h),fun ⟨i,_,h,_⟩ => (by omega)⟩
 | succ n ih =>
  intro hn
  have hx:xs[n]?=some xs[n]:=List.getElem?_eq_getElem (by omega)
  rw [rowsCode,hx,List.mem_append,ih (by omega)]
  constructor
  ·rintro (⟨i,x,h1,h2,h3⟩ | h)
   ·exact ⟨i,x,by omega,h2,h3⟩
   ·exact ⟨n,_,by omega,hx,h⟩
  ·rintro ⟨i,x,h1,h2,h3⟩
   rcases Nat.lt_or_ge i n with h | h
   ·exact .inl ⟨i,x,h,h2,h3⟩
   ·have:i=n:=by omega
    subst this
    rw [hx] at h2
    cases h2
    exact .inr h3
theorem rows_uses {f:FuncM} (h0:(lookM f).1=0) {o:List Nat} (hall:∀ b,b < f.blocks.length → b ∈ o) {b:Nat} {q:BlockM} (hq:f.blocks[b]?=some q):(∀ r ∈ rowsBlock b q,okRow f o r) ↔ UsesP f o b q:=by
 have hmq:=List.mem_of_getElem? hq
 constructor
 ·intro h
  refine ⟨fun p hp i id fr q' h1 h2 h3 => ?_,fun i x hx id hid => ?_,fun ht => ?_⟩
  ·refine (okRow_phi (b:=b) (t:=p.typ) hall h3).1 (h _ (List.mem_append.2 (.inl (List.mem_flatMap.2 ⟨p,hp,List.mem_map.2 ⟨(id,(fr:Int)),?_,rfl⟩⟩))))
   exact List.mem_of_getElem? (i:=i) (List.getElem?_zip_eq_some.2 ⟨h1,h2⟩)
  ·obtain ⟨m,hm⟩:=List.getElem?_of_mem hid
   have hl:=look_form h0 q hmq x (List.mem_of_getElem? hx)
   have hml:=(List.getElem?_eq_some_iff.1 hm).1
   obtain ⟨t,ht⟩:∃ t,(takesS x.op)[m]?=some t:=⟨_,List.getElem?_eq_getElem (by omega)⟩
   refine (okRow_at (t:=t) (c:=0)).1 (h _ (List.mem_append.2 (.inr (List.mem_append.2 (.inl ((rowsCode_mem _ (Nat.le_refl _)).2 ⟨i,x,(List.getElem?_eq_some_iff.1 hx).1,hx,List.mem_map.2 ⟨(id,t),?_,rfl⟩⟩))))))
   exact List.mem_of_getElem? (i:=m) (List.getElem?_zip_eq_some.2 ⟨hm,ht⟩)
  ·have hr:∃ t,rowsTerm b q=[[q.term.val,t,(b:Int),(q.code.length:Int),0]]:=by
    unfold rowsTerm
    rcases ht with ht | ht
    ·exact ⟨2,by rw [if_pos ht]⟩
    ·exact ⟨0,by rw [if_neg (by omega),if_pos ht]⟩
   obtain ⟨t,hr⟩:=hr
   exact (okRow_at (t:=t) (c:=0)).1 (h _ (List.mem_append.2 (.inr (List.mem_append.2 (.inr (by rw [hr];exact List.mem_singleton.2 rfl))))))
 ·rintro ⟨h1,h2,h3⟩ r hr
  rcases List.mem_append.1 hr with hr | hr
  ·obtain ⟨p,hp,hr⟩:=List.mem_flatMap.1 hr
   obtain ⟨d,hd,rfl⟩:=List.mem_map.1 hr
   obtain ⟨i,hi⟩:=List.getElem?_of_mem hd
   obtain ⟨ha,hb⟩:=List.getElem?_zip_eq_some.1 hi
   have hrg:=(look_once h0 hmq hp).2 d.2 (List.mem_of_getElem? hb)
   obtain ⟨x,y⟩:=d
   simp only at ha hb hrg
   obtain ⟨fr,rfl⟩:∃ fr:Nat,y=(fr:Int):=⟨y.toNat,by omega⟩
   have hq':f.blocks[fr]?=some (f.blocks[fr]'(by omega)):=List.getElem?_eq_getElem _
   exact (okRow_phi hall hq').2 (h1 p hp i x fr _ ha hb hq')
  ·rcases List.mem_append.1 hr with hr | hr
   ·obtain ⟨i,x,hi,hx,hr⟩:=(rowsCode_mem _ (Nat.le_refl _)).1 hr
    obtain ⟨d,hd,rfl⟩:=List.mem_map.1 hr
    obtain ⟨m,hm⟩:=List.getElem?_of_mem hd
    obtain ⟨ha,hb⟩:=List.getElem?_zip_eq_some.1 hm
    exact okRow_at.2 (h2 i x hx d.1 (List.mem_of_getElem? ha))
   ·unfold rowsTerm at hr
    split at hr
    ·rename_i ht
     rw [List.mem_singleton] at hr
     subst hr
     exact okRow_at.2 (h3 (.inl ht))
    ·split at hr
     ·rename_i ht
      rw [List.mem_singleton] at hr
      subst hr
      exact okRow_at.2 (h3 (.inr ht))
     ·cases hr
theorem rowsBlock_blk {b:Nat} {q:BlockM} {r:List Int} (h:r ∈ rowsBlock b q):r.getD 2 0=(b:Int):=by
 rcases List.mem_append.1 h with hr | hr
 ·obtain ⟨p,hp,hr⟩:=List.mem_flatMap.1 hr
  obtain ⟨d,hd,rfl⟩:=List.mem_map.1 hr
  rfl
 ·rcases List.mem_append.1 hr with hr | hr
  ·obtain ⟨i,x,hi,hx,hr⟩:=(rowsCode_mem _ (Nat.le_refl _)).1 hr
   obtain ⟨d,hd,rfl⟩:=List.mem_map.1 hr
   rfl
  ·unfold rowsTerm at hr
   split at hr
   ·rw [List.mem_singleton] at hr;subst hr;rfl
   ·split at hr
    ·rw [List.mem_singleton] at hr;subst hr;rfl
    ·cases hr
theorem rowsTo_at (bs:List BlockM) {r:List Int}:∀ (n i:Nat),n ≤ bs.length → (rowsTo bs n)[i]?=some r → ∃ (b:Nat) (q:BlockM),b < n ∧ bs[b]?=some q ∧ r ∈ rowsBlock b q ∧ (rowsTo bs b).length ≤ i:=by
 intro n
 induction n with
 | zero => intro i _ h;simp [rowsTo] at h
 | succ n ih =>
  intro i hn h
  have hq:bs[n]?=some bs[n]:=List.getElem?_eq_getElem (by omega)
  rw [rowsTo,hq] at h
  rcases Nat.lt_or_ge i (rowsTo bs n).length with hi | hi
  ·rw [List.getElem?_append_left hi] at h
   obtain ⟨b,q,h1,h2⟩:=ih i (by omega) h
   exact ⟨b,q,by omega,h2⟩
  ·rw [List.getElem?_append_right hi] at h
   exact ⟨n,_,by omega,hq,List.mem_of_getElem? h,hi⟩
theorem rowsTo_prefix (bs:List BlockM):∀ (n b:Nat),b ≤ n → ∃ t,rowsTo bs n=rowsTo bs b ++ t:=by
 intro n
 induction n with
 | zero => intro b hb;have:b=0:=by omega
           subst this;exact ⟨[],by simp⟩
 | succ n ih =>
  intro b hb
  rcases Nat.eq_or_lt_of_le hb with rfl | hb
  ·exact ⟨[],by simp⟩
  ·obtain ⟨t,ht⟩:=ih b (by omega)
   rw [rowsTo,ht]
   exact ⟨t ++ _,by rw [List.append_assoc]⟩
theorem rowsTo_has (bs:List BlockM) {b:Nat} {q:BlockM} (hq:bs[b]?=some q) {n:Nat} (hb:b < n) {r:List Int} (hr:r ∈ rowsBlock b q):r ∈ rowsTo bs n:=by
 obtain ⟨t,ht⟩:=rowsTo_prefix bs n (b + 1) hb
 rw [ht,rowsTo,hq]
 exact List.mem_append.2 (.inl (List.mem_append.2 (.inr hr)))
theorem rows_bad {f:FuncM} (h0:(lookM f).1=0) {o:List Nat} (hall:∀ b,b < f.blocks.length → b ∈ o) {i:Nat} {r:List Int} (hr:(rowsTo f.blocks f.blocks.length)[i]?=some r) (hlow:∀ (j:Nat) (s:List Int),j < i → (rowsTo f.blocks f.blocks.length)[j]?=some s → okRow f o s) (hbad:¬ okRow f o r) :
  ∃ b:Nat,FirstBad f.blocks.length (usesPR f o) b ∧ r.getD 2 0=(b:Int):=by
 obtain ⟨b,q,hb,hq,hrb,hle⟩:=rowsTo_at f.blocks _ i (Nat.le_refl _) hr
 refine ⟨b,⟨hb,fun hp => hbad ((rows_uses h0 hall hq).2 (hp q hq) r hrb),fun a ha q' hq' => (rows_uses h0 hall hq').1 fun s hs => ?_⟩,rowsBlock_blk hrb⟩
 obtain ⟨j,hj⟩:=List.getElem?_of_mem (rowsTo_has f.blocks hq' ha hs)
 have hjl:=(List.getElem?_eq_some_iff.1 hj).1
 obtain ⟨t,ht⟩:=rowsTo_prefix f.blocks f.blocks.length b (by omega)
 exact hlow j s (by omega) (by rw [ht,List.getElem?_append_left hjl];exact hj)
theorem rows_good {f:FuncM} (h0:(lookM f).1=0) {o:List Nat} (hall:∀ b,b < f.blocks.length → b ∈ o) (h:∀ r ∈ rowsTo f.blocks f.blocks.length,okRow f o r):∀ b,b < f.blocks.length → usesPR f o b :=
 fun _ hb _ hq => (rows_uses h0 hall hq).1 fun s hs => h s (rowsTo_has f.blocks hq hb hs)
structure RowIs (f:FuncM) (r:List Int):Prop where
 known:Known f (r.getD 0 0)
 blk:∃ b:Nat,r.getD 2 0=(b:Int) ∧ b < f.blocks.length
 frm:∃ b:Nat,r.getD 4 0=(b:Int) ∧ b < f.blocks.length
theorem row_is {f:FuncM} (h0:(lookM f).1=0) (hid:∀ u ∈ usesM f,I64 u.1) {r:List Int} (hr:r ∈ rowsTo f.blocks f.blocks.length):RowIs f r:=by
 obtain ⟨i,hi⟩:=List.getElem?_of_mem hr
 obtain ⟨b,q,hb,hq,hrb,_⟩:=rowsTo_at f.blocks _ i (Nat.le_refl _) hi
 have hn:=(look_some_block h0).1
 have hmq:=List.mem_of_getElem? hq
 have hK:=uses_known h0 hid
 refine ⟨?_,⟨b,rowsBlock_blk hrb,hb⟩,?_⟩
 all_goals
  rcases List.mem_append.1 hrb with hr | hr
  ·obtain ⟨p,hp,hr⟩:=List.mem_flatMap.1 hr
   obtain ⟨d,hd,rfl⟩:=List.mem_map.1 hr
   obtain ⟨j,hj⟩:=List.getElem?_of_mem hd
   obtain ⟨ha,hb'⟩:=List.getElem?_zip_eq_some.1 hj
   first
    | (obtain ⟨_,_,_,_,hk⟩:=hK.phi b q p j d.1 hq hp ha
       exact hk)
    | (have hrg:=(look_once h0 hmq hp).2 d.2 (List.mem_of_getElem? hb')
       exact ⟨d.2.toNat,by simp [rowPhi];omega,by omega⟩)
  ·rcases List.mem_append.1 hr with hr | hr
   ·obtain ⟨k,x,hk,hx,hr⟩:=(rowsCode_mem _ (Nat.le_refl _)).1 hr
    obtain ⟨d,hd,rfl⟩:=List.mem_map.1 hr
    obtain ⟨m,hm⟩:=List.getElem?_of_mem hd
    obtain ⟨ha,_⟩:=List.getElem?_zip_eq_some.1 hm
    first
     | exact hK.arg b q x d.1 hq (List.mem_of_getElem? hx) (List.mem_of_getElem? ha)
     | exact ⟨0,rfl,hn⟩
   ·unfold rowsTerm at hr
    split at hr
    ·rename_i ht
     rw [List.mem_singleton] at hr
     subst hr
     first
      | exact hK.term b q hq (.inl ht)
      | exact ⟨0,rfl,hn⟩
    ·split at hr
     ·rename_i ht
      rw [List.mem_singleton] at hr
      subst hr
      first
       | exact hK.term b q hq (.inr ht)
       | exact ⟨0,rfl,hn⟩
     ·cases hr
end Go.Proofs.YtaehbgppfahdeaaGreat

namespace Go.Proofs.YtaehbgppfahdeaaGreat
open Go.RowKit Go.Maps
theorem Placed.first_append (l r:Placed) (id:Int):Placed.first (l ++ r) id=(l.first id).or (r.first id):=by
 unfold Placed.first
 rw [List.find?_append]
 cases l.find? (fun d => d.1 == id) <;> simp
theorem Placed.first_one (a id:Int) (v:Nat × Int):Placed.first [(a,v)] id=if a=id then some v else none:=by
 unfold Placed.first
 by_cases h:a=id
 ·subst h;simp
 ·simp [h]
theorem Placed.first_none_snoc {l:Placed} {a id:Int} {v:Nat × Int} (h:l.first id=none) (hn:a ≠ id):Placed.first (l ++ [(a,v)]) id=none:=by
 rw [Placed.first_append,h,Placed.first_one,if_neg hn]
 rfl
theorem Placed.first_hit {l r:Placed} {id:Int} {v:Nat × Int} (h:l.first id=none):Placed.first (l ++ [(id,v)] ++ r) id=some v:=by
 rw [Placed.first_append,Placed.first_append,h,Placed.first_one,if_pos rfl]
 rfl
theorem placedBlocks_split (bs:List BlockM) {j:Nat} {q:BlockM} (hq:bs[j]?=some q):∀ n,j < n → ∃ r,placedBlocks bs n=placedBlocks bs j ++ placedBlock j q ++ r:=by
 intro n
 induction n with
 | zero => intro h;omega
 | succ n ih =>
  intro h
  rw [placedBlocks]
  rcases Nat.lt_or_ge j n with hj | hj
  ·obtain ⟨r,hr⟩:=ih hj
   exact ⟨r ++ _,by rw [hr,List.append_assoc]⟩
  ·have:j=n:=by omega
   subst this
   rw [hq]
   exact ⟨[],by simp⟩
theorem placedCode_split (b:Nat) (xs:List InstrM) {m:Nat} {x:InstrM} (hx:xs[m]?=some x):∀ n,m < n → ∃ r,placedCode b xs n=placedCode b xs m ++ placedInstr b m x ++ r:=by
 intro n
 induction n with
 | zero => intro h;omega
 | succ n ih =>
  intro h
  rw [placedCode]
  rcases Nat.lt_or_ge m n with hj | hj
  ·obtain ⟨r,hr⟩:=ih hj
   exact ⟨r ++ _,by rw [hr,List.append_assoc]⟩
  ·have:m=n:=by omega
   subst this
   rw [hx]
   exact ⟨[],by simp⟩
theorem placedPhis_split (b:Nat) (ps:List PhiM) {m:Nat} {p:PhiM} (hp:ps[m]?=some p):∃ r,placedPhis b ps=placedPhis b (ps.take m) ++ [(p.id,(b,-1))] ++ r:=by
 obtain ⟨hm,rfl⟩:=List.getElem?_eq_some_iff.1 hp
 refine ⟨placedPhis b (ps.drop (m + 1)),?_⟩
 have e:ps=ps.take m ++ [ps[m]] ++ ps.drop (m + 1):=by
  rw [List.append_assoc,List.singleton_append,← List.drop_eq_getElem_cons hm,List.take_append_drop]
 have e2:placedPhis b (ps.take m ++ [ps[m]] ++ ps.drop (m + 1))=placedPhis b (ps.take m) ++ [(ps[m].id,(b,-1))] ++ placedPhis b (ps.drop (m + 1)):=by
  unfold placedPhis
  rw [List.map_append,List.map_append]
  rfl
 rw [← e2,← e]
theorem first_phi {f:FuncM} {j m:Nat} {q:BlockM} {p:PhiM} (hq:f.blocks[j]?=some q) (hp:q.phis[m]?=some p) (h1:Placed.first (placedParams f.params.length ++ placedBlocks f.blocks j ++ placedPhis j (q.phis.take m)) p.id=none) :
  (placedM f).first p.id=some (j,-1):=by
 obtain ⟨r,hr⟩:=placedBlocks_split f.blocks hq f.blocks.length (List.getElem?_eq_some_iff.1 hq).1
 obtain ⟨r2,hr2⟩:=placedPhis_split j q.phis hp
 unfold placedM placedBlock at *
 rw [hr,hr2]
 have:=Placed.first_hit (r:=r2 ++ placedCode j q.code q.code.length ++ r) (v:=(j,-1)) h1
 rw [← this]
 simp only [List.append_assoc]
theorem first_code {f:FuncM} {j m:Nat} {q:BlockM} {x:InstrM} (hq:f.blocks[j]?=some q) (hx:q.code[m]?=some x) (h0:0 ≤ x.id) (h1:Placed.first (placedParams f.params.length ++ placedBlocks f.blocks j ++ (placedPhis j q.phis ++ placedCode j q.code m)) x.id=none) :
  (placedM f).first x.id=some (j,(m:Int)):=by
 obtain ⟨r,hr⟩:=placedBlocks_split f.blocks hq f.blocks.length (List.getElem?_eq_some_iff.1 hq).1
 obtain ⟨r2,hr2⟩:=placedCode_split j q.code hx q.code.length (List.getElem?_eq_some_iff.1 hx).1
 unfold placedInstr at hr2
 rw [if_pos h0] at hr2
 unfold placedM placedBlock at *
 rw [hr,hr2]
 have:=Placed.first_hit (r:=r2 ++ r) (v:=(j,(m:Int))) h1
 rw [← this]
 simp only [List.append_assoc]
theorem first_params (n:Nat) (id:Int):Placed.first (placedParams n) id=if 0 ≤ id ∧ id < n then some (0,-1) else none:=by
 induction n with
 | zero => rw [if_neg (by omega)];rfl
 | succ n ih =>
  unfold placedParams
  rw [Placed.first_append,ih,Placed.first_one]
  by_cases h1:0 ≤ id ∧ id < n
  ·rw [if_pos h1,if_pos (show 0 ≤ id ∧ id < ((n + 1:Nat):Int) by omega)];rfl
  ·rw [if_neg h1]
   by_cases h2:(n:Int)=id
   ·rw [if_pos h2,if_pos (show 0 ≤ id ∧ id < ((n + 1:Nat):Int) by omega)];rfl
   ·rw [if_neg h2,if_neg (show ¬ (0 ≤ id ∧ id < ((n + 1:Nat):Int)) by omega)];rfl
def DefPost (l:Placed) (id:Int) (w:World) (e:Ending) (w':World):Prop :=
 ((∃ v,l.first id=some v ∧ e=.returned (.tuple #[.int .i64 (v.1:Int),.int .i64 v.2,.bool true])) ∨ (l.first id=none ∧ e=.returned (.tuple #[.int .i64 0,.int .i64 0,.bool false]))) ∧ Below w.heap.size w w'
theorem defPost_some {l:Placed} {id:Int} {w w':World} {b:Nat} {a:Int} (h:l.first id=some (b,a)) (hb:Below w.heap.size w w'):DefPost l id w (.returned (.tuple #[.int .i64 (b:Int),.int .i64 a,.bool true])) w':=⟨.inl ⟨_,h,rfl⟩,hb⟩
theorem defPost_none {l:Placed} {id:Int} {w w':World} (h:l.first id=none) (hb:Below w.heap.size w w'):DefPost l id w (.returned (.tuple #[.int .i64 0,.int .i64 0,.bool false])) w':=⟨.inr ⟨h,rfl⟩,hb⟩
set_option maxRecDepth 100000 in
set_option maxHeartbeats 8000000 in
theorem refDef_any (f:FuncM) (B:Nat) (pv bv:Value) (id:Int) (w:World) (hpv:Ints w B pv f.params) (hbv:BlocksR w B bv f.blocks) (hB:B ≤ w.heap.size) (hfew:FewV f) (hl5:f.blocks.length ≤ 512) :
  Calls Tryz.prog 48 #[.agg #[pv,.int .i64 f.arrays,.int .i64 f.cells,bv],.int .i64 id] w (DefPost (placedM f) id w):=by
 obtain ⟨A,c,rfl,hbm,hbx⟩:=hbv
 obtain ⟨P,pc,rfl,hpm,_⟩:=hpv
 have HX:=hideI hbx
 have hp16:=hfew.1
 clear hbx hfew
 obtain ⟨np,hnp⟩:∃ np,np=f.params.length:=⟨_,rfl⟩
 have HNP:=hideI hnp
 rw [← hnp] at hp16 hpm ⊢
 obtain ⟨nb,hnb⟩:∃ nb,nb=f.blocks.length:=⟨_,rfl⟩
 have HNB:=hideI hnb
 rw [← hnb] at hl5 hbm ⊢
 have HB0:Hid (Below w.heap.size w (w.alloc (.cells #[.slice P np pc,.int .i64 f.arrays,.int .i64 f.cells,.slice A nb c] 25))):=(Below.refl _ w).alloc (Nat.le_refl _) _
 obtain ⟨W0,hW0⟩:∃ W0:World,W0=w.alloc (.cells #[.slice P np pc,.int .i64 f.arrays,.int .i64 f.cells,.slice A nb c] 25):=⟨_,rfl⟩
 have HW0:=hideI hW0
 have hk:Hid (Keeps B w W0):=by rw [hW0];exact hideI ((Keeps.refl w).alloc hB _)
 have hbox:Hid (∀ o,W0.cell? ⟨w.heap.size,o,none⟩=(#[.slice P np pc,.int .i64 f.arrays,.int .i64 f.cells,.slice A nb c]:Array Value)[o]?):=by rw [hW0];exact hideI (row_cells (heap_alloc_new w _) rfl)
 have hFP:Hid (Placed.first (placedParams f.params.length) id=if 0 ≤ id ∧ id < (np:Int) then some (0,-1) else none):=by show _=_;rw [first_params,← HNP.out]
 clear hnp hnb hW0
 by_cases h1:0 ≤ id
 ·by_cases h2:id < (np:Int)
  ·have HR:Hid ((placedM f).first id=some (0,-1)):=by
    show _=_
    unfold placedM
    rw [Placed.first_append,hFP.out,if_pos ⟨h1,h2⟩]
    rfl
   go_enter Tryz.func48,Tryz.ntmps48
   go_wp2
   go_ret3
   exact defPost_some (b:=0) HR.out HB0.out
  ·have HF0:Hid (Placed.first (placedParams f.params.length) id=none):=by show _=_;rw [hFP.out,if_neg (by omega)]
   clear hFP
   go_enter Tryz.func48,Tryz.ntmps48
   go_wp2
   rw [← HW0.out]
   go_loopw [7] (fun i wr => ∃ j:Nat,j ≤ nb ∧ i=.int .i64 j ∧ Hid (Placed.first (placedParams f.params.length ++ placedBlocks f.blocks j) id=none) ∧ wr=W0) (fun i _ => nb - (intOf i).toNat)
   case atStart => exact ⟨0,Nat.zero_le _,rfl,by rw [placedBlocks,List.append_nil];exact HF0,rfl⟩
   case round =>
    obtain ⟨j,hj,rfl,HN,hw⟩:=hrel;obtain rfl:=hw.symm
    have hx:=hbox.out
    by_cases hlt:j < nb
    ·obtain ⟨q,hq⟩:∃ q,f.blocks[j]?=some q:=⟨_,List.getElem?_eq_getElem (by rw [← HNB.out];exact hlt)⟩
     obtain ⟨b,off,qpv,qcv,qtv,rfl,hb,e0,e1,e2,e3,e4,e5,hpv,hcv,htv,_⟩:=HX.out j q hq
     have c0:=(hk.out b (off + j * 6) hb).trans e0
     have c1:=(hk.out b (off + j * 6 + 1) hb).trans e1
     have HQ:=hideI hq
     obtain ⟨PA,pc2,rfl,hpm2,hpx⟩:=hpv
     obtain ⟨CA,cc,rfl,hcm,hcx⟩:=hcv
     have HPX:=hideI hpx
     have HCX:=hideI hcx
     obtain ⟨nq,hnq⟩:∃ nq,nq=q.phis.length:=⟨_,rfl⟩
     obtain ⟨nc,hnc⟩:∃ nc,nc=q.code.length:=⟨_,rfl⟩
     have HNQ:=hideI hnq
     have HNC:=hideI hnc
     rw [← hnq] at c0 hpm2
     rw [← hnc] at c1 hcm
     clear e0 e1 e2 e3 e4 e5 hq hpx hcx hnq hnc
     go_wp2
     go_loopw [8] (fun i wr => ∃ m:Nat,m ≤ nq ∧ i=.int .i64 m ∧ Hid (Placed.first (placedParams f.params.length ++ placedBlocks f.blocks j ++ placedPhis j (q.phis.take m)) id=none) ∧ wr=W0) (fun i _ => nq - (intOf i).toNat)
     case atStart => exact ⟨0,Nat.zero_le _,rfl,by rw [List.take_zero,show placedPhis j []=[] from rfl,List.append_nil];exact HN,rfl⟩
     case round =>
      obtain ⟨m,hm,rfl,HNm,hw⟩:=hrel;obtain rfl:=hw.symm
      by_cases hlm:m < nq
      ·obtain ⟨p,hp⟩:∃ p,q.phis[m]?=some p:=⟨_,List.getElem?_eq_getElem (by rw [← HNQ.out];exact hlm)⟩
       obtain ⟨b2,off2,fv,vv,rfl,hb2,e0,_⟩:=HPX.out m p hp
       have d0:=(hk.out b2 (off2 + m * 4) hb2).trans e0
       have HP2:=hideI hp
       obtain ⟨pid,hpid⟩:∃ pid,pid=p.id:=⟨_,rfl⟩
       rw [← hpid] at d0
       have HPID:=hideI hpid
       clear e0 hp hpid
       by_cases hid:pid=id
       ·subst hid
        have HR:Hid ((placedM f).first pid=some (j,-1)):=by
         have:=HNm.out
         rw [HPID.out] at this ⊢
         exact hideI (first_phi HQ.out HP2.out this)
        go_wp2
        go_ret3
        exact defPost_some HR.out (by rw [HW0.out];exact HB0.out)
       ·have HD:Hid (pid ≠ id):=hid
        have hib:(pid == id)=false:=beq_eq_false_iff_ne.2 hid
        clear hid
        go_wp2
        go_roundw
        case rel =>
         refine ⟨m + 1,by omega,by go_num,?_,by first | rfl | trivial⟩
         have e:placedPhis j (q.phis.take (m + 1))=placedPhis j (q.phis.take m) ++ [(p.id,(j,-1))]:=by
          unfold placedPhis
          exact map_take' _ q.phis m p HP2.out
         rw [e,← List.append_assoc]
         exact hideI (Placed.first_none_snoc HNm.out (by rw [← HPID.out];exact HD.out))
        case measure => simp [intOf];omega
      ·have HNe:Hid (Placed.first (placedParams f.params.length ++ placedBlocks f.blocks j ++ placedPhis j q.phis) id=none):=by have:=HNm.out;rw [List.take_of_length_le (by rw [← HNQ.out];omega)] at this;exact hideI this
       go_wp2
       go_loopw [9] (fun i wr => ∃ m:Nat,m ≤ nc ∧ i=.int .i64 m ∧ Hid (Placed.first (placedParams f.params.length ++ placedBlocks f.blocks j ++ (placedPhis j q.phis ++ placedCode j q.code m)) id=none) ∧ wr=W0) (fun i _ => nc - (intOf i).toNat)
       case atStart => exact ⟨0,Nat.zero_le _,rfl,by rw [placedCode,List.append_nil];exact HNe,rfl⟩
       case round =>
        obtain ⟨m,hm,rfl,HNm,hw⟩:=hrel;obtain rfl:=hw.symm
        by_cases hlm:m < nc
        ·obtain ⟨x,hxx⟩:∃ x,q.code[m]?=some x:=⟨_,List.getElem?_eq_getElem (by rw [← HNC.out];exact hlm)⟩
         obtain ⟨b2,off2,av,rfl,hb2,_,e1,_⟩:=HCX.out m x hxx
         have d1:=(hk.out b2 (off2 + m * 4 + 1) hb2).trans e1
         have HP2:=hideI hxx
         have HSU:Hid (placedCode j q.code (m + 1)=placedCode j q.code m ++ placedInstr j m x):=by show _=_;rw [placedCode,hxx]
         obtain ⟨pid,hpid⟩:∃ pid,pid=x.id:=⟨_,rfl⟩
         rw [← hpid] at d1
         have HPID:=hideI hpid
         clear e1 hxx hpid
         have HNX:Hid (¬ (pid=id ∧ 0 ≤ id) → Placed.first (placedParams f.params.length ++ placedBlocks f.blocks j ++ (placedPhis j q.phis ++ placedCode j q.code (m + 1))) id=none):=by
          refine hideI (fun hno => ?_)
          rw [HSU.out,← List.append_assoc (placedPhis j q.phis),← List.append_assoc (placedParams f.params.length ++ placedBlocks f.blocks j)]
          unfold placedInstr
          rw [← HPID.out]
          by_cases h0:0 ≤ pid
          ·rw [if_pos h0]
           exact Placed.first_none_snoc HNm.out (fun e => hno ⟨e,by rw [← e];exact h0⟩)
          ·rw [if_neg h0,List.append_nil]
           exact HNm.out
         by_cases hid:pid=id
         ·by_cases h0:0 ≤ id
          ·subst hid
           have HR:Hid ((placedM f).first pid=some (j,(m:Int))):=by
            have:=HNm.out
            rw [HPID.out] at this h0 ⊢
            exact hideI (first_code HQ.out HP2.out h0 this)
           go_wp2
           go_ret3
           exact defPost_some HR.out (by rw [HW0.out];exact HB0.out)
          ·exact absurd h1 h0
         ·have HNN:=hideI (HNX.out (fun h => hid h.1))
          have hib:(pid == id)=false:=beq_eq_false_iff_ne.2 hid
          clear hid
          go_wp2
          go_roundw
          case rel => exact ⟨m + 1,by omega,by go_num,HNN,by first | rfl | trivial⟩
          case measure => simp [intOf];omega
        ·have HNE:Hid (Placed.first (placedParams f.params.length ++ placedBlocks f.blocks (j + 1)) id=none):=by
          have h1:=HNm.out
          have h2:m=q.code.length:=by have:=HNC.out;omega
          rw [h2] at h1
          show _=_
          rw [placedBlocks,HQ.out,← List.append_assoc]
          exact h1
         go_wp2
         go_roundw
         case rel => exact ⟨j + 1,by omega,by go_num,HNE,by first | rfl | trivial⟩
         case measure => simp [intOf];omega
    ·have HNE:Hid ((placedM f).first id=none):=by
      have h1:=HN.out
      have h2:j=f.blocks.length:=by have:=HNB.out;omega
      rw [h2] at h1
      exact h1
     go_wp2
     go_ret3
     exact defPost_none HNE.out (by rw [HW0.out];exact HB0.out)
 ·have HF0:Hid (Placed.first (placedParams f.params.length) id=none):=by show _=_;rw [hFP.out,if_neg (by omega)]
  clear hFP
  go_enter Tryz.func48,Tryz.ntmps48
  go_wp2
  rw [← HW0.out]
  go_loopw [7] (fun i wr => ∃ j:Nat,j ≤ nb ∧ i=.int .i64 j ∧ Hid (Placed.first (placedParams f.params.length ++ placedBlocks f.blocks j) id=none) ∧ wr=W0) (fun i _ => nb - (intOf i).toNat)
  case atStart => exact ⟨0,Nat.zero_le _,rfl,by rw [placedBlocks,List.append_nil];exact HF0,rfl⟩
  case round =>
   obtain ⟨j,hj,rfl,HN,hw⟩:=hrel;obtain rfl:=hw.symm
   have hx:=hbox.out
   by_cases hlt:j < nb
   ·obtain ⟨q,hq⟩:∃ q,f.blocks[j]?=some q:=⟨_,List.getElem?_eq_getElem (by rw [← HNB.out];exact hlt)⟩
    obtain ⟨b,off,qpv,qcv,qtv,rfl,hb,e0,e1,e2,e3,e4,e5,hpv,hcv,htv,_⟩:=HX.out j q hq
    have c0:=(hk.out b (off + j * 6) hb).trans e0
    have c1:=(hk.out b (off + j * 6 + 1) hb).trans e1
    have HQ:=hideI hq
    obtain ⟨PA,pc2,rfl,hpm2,hpx⟩:=hpv
    obtain ⟨CA,cc,rfl,hcm,hcx⟩:=hcv
    have HPX:=hideI hpx
    have HCX:=hideI hcx
    obtain ⟨nq,hnq⟩:∃ nq,nq=q.phis.length:=⟨_,rfl⟩
    obtain ⟨nc,hnc⟩:∃ nc,nc=q.code.length:=⟨_,rfl⟩
    have HNQ:=hideI hnq
    have HNC:=hideI hnc
    rw [← hnq] at c0 hpm2
    rw [← hnc] at c1 hcm
    clear e0 e1 e2 e3 e4 e5 hq hpx hcx hnq hnc
    go_wp2
    go_loopw [8] (fun i wr => ∃ m:Nat,m ≤ nq ∧ i=.int .i64 m ∧ Hid (Placed.first (placedParams f.params.length ++ placedBlocks f.blocks j ++ placedPhis j (q.phis.take m)) id=none) ∧ wr=W0) (fun i _ => nq - (intOf i).toNat)
    case atStart => exact ⟨0,Nat.zero_le _,rfl,by rw [List.take_zero,show placedPhis j []=[] from rfl,List.append_nil];exact HN,rfl⟩
    case round =>
     obtain ⟨m,hm,rfl,HNm,hw⟩:=hrel;obtain rfl:=hw.symm
     by_cases hlm:m < nq
     ·obtain ⟨p,hp⟩:∃ p,q.phis[m]?=some p:=⟨_,List.getElem?_eq_getElem (by rw [← HNQ.out];exact hlm)⟩
      obtain ⟨b2,off2,fv,vv,rfl,hb2,e0,_⟩:=HPX.out m p hp
      have d0:=(hk.out b2 (off2 + m * 4) hb2).trans e0
      have HP2:=hideI hp
      obtain ⟨pid,hpid⟩:∃ pid,pid=p.id:=⟨_,rfl⟩
      rw [← hpid] at d0
      have HPID:=hideI hpid
      clear e0 hp hpid
      by_cases hid:pid=id
      ·subst hid
       have HR:Hid ((placedM f).first pid=some (j,-1)):=by
        have:=HNm.out
        rw [HPID.out] at this ⊢
        exact hideI (first_phi HQ.out HP2.out this)
       go_wp2
       go_ret3
       exact defPost_some HR.out (by rw [HW0.out];exact HB0.out)
      ·have HD:Hid (pid ≠ id):=hid
       have hib:(pid == id)=false:=beq_eq_false_iff_ne.2 hid
       clear hid
       go_wp2
       go_roundw
       case rel =>
        refine ⟨m + 1,by omega,by go_num,?_,by first | rfl | trivial⟩
        have e:placedPhis j (q.phis.take (m + 1))=placedPhis j (q.phis.take m) ++ [(p.id,(j,-1))]:=by
         unfold placedPhis
         exact map_take' _ q.phis m p HP2.out
        rw [e,← List.append_assoc]
        exact hideI (Placed.first_none_snoc HNm.out (by rw [← HPID.out];exact HD.out))
       case measure => simp [intOf];omega
     ·have HNe:Hid (Placed.first (placedParams f.params.length ++ placedBlocks f.blocks j ++ placedPhis j q.phis) id=none):=by have:=HNm.out;rw [List.take_of_length_le (by rw [← HNQ.out];omega)] at this;exact hideI this
      go_wp2
      go_loopw [9] (fun i wr => ∃ m:Nat,m ≤ nc ∧ i=.int .i64 m ∧ Hid (Placed.first (placedParams f.params.length ++ placedBlocks f.blocks j ++ (placedPhis j q.phis ++ placedCode j q.code m)) id=none) ∧ wr=W0) (fun i _ => nc - (intOf i).toNat)
      case atStart => exact ⟨0,Nat.zero_le _,rfl,by rw [placedCode,List.append_nil];exact HNe,rfl⟩
      case round =>
       obtain ⟨m,hm,rfl,HNm,hw⟩:=hrel;obtain rfl:=hw.symm
       by_cases hlm:m < nc
       ·obtain ⟨x,hxx⟩:∃ x,q.code[m]?=some x:=⟨_,List.getElem?_eq_getElem (by rw [← HNC.out];exact hlm)⟩
        obtain ⟨b2,off2,av,rfl,hb2,_,e1,_⟩:=HCX.out m x hxx
        have d1:=(hk.out b2 (off2 + m * 4 + 1) hb2).trans e1
        have HP2:=hideI hxx
        have HSU:Hid (placedCode j q.code (m + 1)=placedCode j q.code m ++ placedInstr j m x):=by show _=_;rw [placedCode,hxx]
        obtain ⟨pid,hpid⟩:∃ pid,pid=x.id:=⟨_,rfl⟩
        rw [← hpid] at d1
        have HPID:=hideI hpid
        clear e1 hxx hpid
        have HNX:Hid (¬ (pid=id ∧ 0 ≤ id) → Placed.first (placedParams f.params.length ++ placedBlocks f.blocks j ++ (placedPhis j q.phis ++ placedCode j q.code (m + 1))) id=none):=by
         refine hideI (fun hno => ?_)
         rw [HSU.out,← List.append_assoc (placedPhis j q.phis),← List.append_assoc (placedParams f.params.length ++ placedBlocks f.blocks j)]
         unfold placedInstr
         rw [← HPID.out]
         by_cases h0:0 ≤ pid
         ·rw [if_pos h0]
          exact Placed.first_none_snoc HNm.out (fun e => hno ⟨e,by rw [← e];exact h0⟩)
         ·rw [if_neg h0,List.append_nil]
          exact HNm.out
        by_cases hid:pid=id
        ·by_cases h0:0 ≤ id
         ·exact absurd h1 (by omega)
         ·have HNN:=hideI (HNX.out (fun h => h0 h.2))
          subst hid
          go_wp2
          go_roundw
          case rel => exact ⟨m + 1,by omega,by go_num,HNN,by first | rfl | trivial⟩
          case measure => simp [intOf];omega
        ·have HNN:=hideI (HNX.out (fun h => hid h.1))
         have hib:(pid == id)=false:=beq_eq_false_iff_ne.2 hid
         clear hid
         go_wp2
         go_roundw
         case rel => exact ⟨m + 1,by omega,by go_num,HNN,by first | rfl | trivial⟩
         case measure => simp [intOf];omega
       ·have HNE:Hid (Placed.first (placedParams f.params.length ++ placedBlocks f.blocks (j + 1)) id=none):=by
         have h1:=HNm.out
         have h2:m=q.code.length:=by have:=HNC.out;omega
         rw [h2] at h1
         show _=_
         rw [placedBlocks,HQ.out,← List.append_assoc]
         exact h1
        go_wp2
        go_roundw
        case rel => exact ⟨j + 1,by omega,by go_num,HNE,by first | rfl | trivial⟩
        case measure => simp [intOf];omega
   ·have HNE:Hid ((placedM f).first id=none):=by
     have h1:=HN.out
     have h2:j=f.blocks.length:=by have:=HNB.out;omega
     rw [h2] at h1
     exact h1
    go_wp2
    go_ret3
    exact defPost_none HNE.out (by rw [HW0.out];exact HB0.out)
end Go.Proofs.YtaehbgppfahdeaaGreat
