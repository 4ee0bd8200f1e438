/- What CanonChecks rests on, part 13: LAround, SFit, SUses, DIdoms, SFunc. -/
import Derived.Test.YtikogmpibkefdaaGreatPkCanonChecks12

namespace Go.Proofs.YtikogmpibkefdaaGreat
open Go.RowKit Go.Maps
def noLp:LpM:=⟨0,[],[],[],0⟩
def lessB (ls:List LpM) (i:Nat) (a:Int) (k:Nat):Bool :=
 decide (k ≠ i) && (decide ((ls.getD i noLp).head ∈ (ls.getD k noLp).blocks) && (decide (a=-1) || decide ((ls.getD k noLp).blocks.length < (ls.getD a.toNat noLp).blocks.length)))
def arM (ls:List LpM) (i:Nat):Nat → Int
 | 0 => -1
 | k + 1 => if lessB ls i (arM ls i k) k=true then (k:Int) else arM ls i k
theorem arM_range (ls:List LpM) (i:Nat):∀ k,arM ls i k=-1 ∨ ∃ j:Nat,arM ls i k=(j:Int) ∧ j < k ∧ j ≠ i ∧ (ls.getD i noLp).head ∈ (ls.getD j noLp).blocks
 | 0 => .inl rfl
 | k + 1 => by
  unfold arM
  split
  ·rename_i h
   unfold lessB at h
   simp only [Bool.and_eq_true,decide_eq_true_eq] at h
   exact .inr ⟨k,rfl,Nat.lt_succ_self _,h.1,h.2.1⟩
  ·rcases arM_range ls i k with h | ⟨j,h1,h2,h3⟩
   ·exact .inl h
   ·exact .inr ⟨j,h1,by omega,h3⟩
theorem getD_some {ls:List LpM} {i:Nat} {x:LpM} (h:ls[i]?=some x):ls.getD i noLp=x:=by
 rw [List.getD_eq_getElem?_getD,h]
 rfl
def Rising (ls:List LpM):Prop:=∀ x ∈ ls,x.blocks.Pairwise (· < ·) ∧ x.blocks.length ≤ 512
theorem LoopsR.row_at {w:World} {base g cap n:Nat} {ls:List LpM} (h:LoopsR w base (.slice (some ⟨g,0,none⟩) n cap) ls) (hn:n=ls.length) {i:Nat} {lp:LpM} (hi:ls[i]?=some lp):∃ (b1 b2 b3:Value),g < w.heap.size ∧
  w.cell? ⟨g,i * 5,none⟩=some (.int .i64 (lp.head:Int)) ∧ w.cell? ⟨g,i * 5 + 1,none⟩=some b1 ∧ w.cell? ⟨g,i * 5 + 2,none⟩=some b2 ∧ w.cell? ⟨g,i * 5 + 3,none⟩=some b3 ∧ w.cell? ⟨g,i * 5 + 4,none⟩=some (.int .i64 lp.parent) ∧
  SubR w base (.slice (some ⟨g,0,none⟩) n cap) b1 lp.blocks ∧ SubR w base (.slice (some ⟨g,0,none⟩) n cap) b2 lp.latches ∧ SubR w base (.slice (some ⟨g,0,none⟩) n cap) b3 lp.exits ∧ ∀ o,w.frozen? ⟨g,o,none⟩=false:=by
 subst hn
 obtain ⟨g1,cap1,b1,b2,b3,e,_,k0,k⟩:=h.cells hi
 cases e
 exact ⟨b1,b2,b3,k0,k⟩
set_option maxRecDepth 100000 in
set_option maxHeartbeats 4000000 in
theorem lAround_any (ls:List LpM) (i base g cap:Nat) (p0 p1 p2 p3 p4 p5 p6:Value) (w:World) (hls:LoopsR w base (.slice (some ⟨g,0,none⟩) ls.length cap) ls) (hi:i < ls.length) (hr:Rising ls) (hlen:ls.length ≤ 512) :
  Calls Tryz.prog 213 #[.agg #[p0,p1,p2,p3,p4,p5,p6,.slice (some ⟨g,0,none⟩) ls.length cap],.int .i64 i] w fun e w' => e=.returned (.int .i64 (arM ls i ls.length)) ∧ Below w.heap.size w w':=by
 have HR:=hideI hr
 obtain ⟨W,hW⟩:∃ W:World,W=w.alloc (.cells #[p0,p1,p2,p3,p4,p5,p6,.slice (some ⟨g,0,none⟩) ls.length cap] 226):=⟨_,rfl⟩
 have HBW:Hid (Below w.heap.size w W):=by show Below _ _ _;rw [hW];exact (Below.refl _ _).alloc (Nat.le_refl _) _
 have HXW:Hid (W.heap[w.heap.size]?=some (.cells #[p0,p1,p2,p3,p4,p5,p6,.slice (some ⟨g,0,none⟩) ls.length cap] 226 (0,0))):=by show _=_;rw [hW];exact heap_alloc_new w _
 have hwW:w.heap.size < W.heap.size:=lt_of_heap HXW.out
 have HLW:=hideI (hls.kept HBW.out)
 have HW0:=hideI hW
 have hx:=row_cells HXW.out rfl
 have q7:=hx 7
 obtain ⟨y,hy⟩:∃ y,ls[i]?=some y:=⟨_,List.getElem?_eq_getElem hi⟩
 have HY:=hideI hy
 clear hls hW hx hr hy
 go_enter Tryz.func213,Tryz.ntmps213
 go_upto_region 1 with fail
 rw [← HW0.out]
 go_wp2
 clear q7
 go_loopw [5,13] (fun vo u wr => ∃ k:Nat,vo=.int .i64 (arM ls i k) ∧ k ≤ ls.length ∧ u=.int .i64 k ∧ Hid (Below W.heap.size W wr)) (fun _ u _ => ls.length - (intOf u).toNat)
 case atStart => exact ⟨0,rfl,Nat.zero_le _,rfl,hideI (Below.refl _ _)⟩
 case round =>
  obtain ⟨k,rfl,hk,rfl,HBr⟩:=hrel
  by_cases hlt:k < ls.length
  ·obtain ⟨x,hx⟩:∃ x,ls[k]?=some x:=⟨_,List.getElem?_eq_getElem hlt⟩
   have HX:=hideI hx
   have HLr:=hideI (HLW.out.kept HBr.out)
   obtain ⟨b1,b2,b3,hgl,r0,r1,r2,r3,r4,s1,s2,s3,hfz⟩:=HLr.out.row_at rfl hx
   have HRX:=hideI (HR.out x (List.mem_of_getElem? hx))
   obtain ⟨A1,c1,rfl⟩:=own_sl s1.1
   obtain ⟨A2,c2,rfl⟩:=own_sl s2.1
   obtain ⟨A3,c3,rfl⟩:=own_sl s3.1
   have HI1:=hideI (s1.ints (by have:=HRX.out.2;omega))
   obtain ⟨_,_,_,_,y0,_⟩:=HLr.out.row_at rfl HY.out
   clear s1 s2 s3 hx hfz
   obtain ⟨wa,hwa⟩:∃ wa:World,wa=wr.alloc (.cells #[.int .i64 (x.head:Int),.slice A1 x.blocks.length c1,.slice A2 x.latches.length c2,.slice A3 x.exits.length c3,.int .i64 x.parent] 112):=⟨_,rfl⟩
   have HBA:Hid (Below wr.heap.size wr wa):=by show Below _ _ _;rw [hwa];exact (Below.refl _ _).alloc (Nat.le_refl _) _
   have HBWA:Hid (Below W.heap.size W wa):=HBr.out.trans (HBA.out.mono HBr.out.size)
   have HWA:=hideI hwa
   have hca:=row_cells (by rw [hwa];exact heap_alloc_new wr _:wa.heap[wr.heap.size]?=some (.cells #[.int .i64 (x.head:Int),.slice A1 x.blocks.length c1,.slice A2 x.latches.length c2,.slice A3 x.exits.length c3,.int .i64 x.parent] 112 (0,0))) rfl
   have a1:=hca 1
   have hxr:=row_cells HXW.out (HBWA.out.block _ hwW)
   have g7:=hxr 7
   have ya:=(HBA.out.cell (p:=⟨g,i * 5,none⟩) hgl).trans y0
   clear hwa hca hxr y0
   go_upto_region 5 with fail
   rw [← HWA.out]
   obtain ⟨a,ha⟩:∃ a,a=arM ls i k:=⟨_,rfl⟩
   rw [← ha]
   have HA:=hideI ha
   have HRG:=hideI (arM_range ls i k)
   rw [← ha] at HRG
   have hS0:=And.intro a1 (And.intro g7 ya)
   have hdx:decide ((y.head:Int) ∈ x.blocks.map fun (x:Nat) => (x:Int))=decide (y.head ∈ x.blocks):=by simp only [mem_nat]
   obtain ⟨r,hr⟩:∃ r,r=decide (y.head ∈ x.blocks):=⟨_,rfl⟩
   rw [← hr] at hdx
   have hI:Ints wa.drew wa.drew.heap.size (.slice A1 x.blocks.length c1) (x.blocks.map fun (x:Nat) => (x:Int)):=((HI1.out.keep HBA.out).more HBA.out.size)
   have HBS:=hideI (bs_any (x.blocks.map fun (x:Nat) => (x:Int)) _ _ (y.head:Int) wa.drew hI (List.pairwise_map.2 (HRX.out.1.imp fun h => by omega)) (by rw [List.length_map];exact HRX.out.2))
   have HDX:=hideI hdx
   have HRR:=hideI hr
   have HLA:=hideI (HLW.out.kept HBWA.out)
   have HLB:Hid (∀ b:Bool,lessB ls i a k=b ↔ (decide (k ≠ i) && (r && (decide (a=-1) || decide (x.blocks.length < (ls.getD a.toNat noLp).blocks.length))))=b):=fun b => by
    unfold lessB
    rw [getD_some HX.out,getD_some HY.out,← HRR.out]
   clear ha hdx hr hI
   refine wp_region_late (by kernel_rfl) (fun W => W.cell? ⟨wr.heap.size,1,none⟩=some (.slice A1 x.blocks.length c1) ∧ W.cell? ⟨w.heap.size,7,none⟩=some (.slice (some ⟨g,0,none⟩) ls.length cap) ∧ W.cell? ⟨g,i * 5,none⟩=some (.int .i64 (y.head:Int))) [] ?_
   refine wpAnyT_quiet (i:=0) (v:=?_) rfl (by kernel_rfl) (by kernel_rfl) (by kernel_rfl) (fun _ _ _ h => h) (Or.inl ⟨by rfl,?_⟩) ?_
   rotate_left
   ·(intro w;go_simp;try with_reducible rfl)
   try simp only [Act.put,List.setIfInBounds_toArray,List.set_cons_zero,List.set_cons_succ]
   refine wpAnyT_take [] (i:=1) (v:=?_) rfl (by kernel_rfl) (by kernel_rfl) (by kernel_rfl) (by kernel_rfl) (by kernel_rfl) (by kernel_rfl) (fun _ _ _ h => h) hS0 (Or.inl ⟨by rfl,?_⟩) ?_
   rotate_left
   ·(intro w hSw;go_split_ands;go_simp;try with_reducible rfl)
   try simp only [Act.put,List.setIfInBounds_toArray,List.set_cons_zero,List.set_cons_succ]
   refine wpAnyT_quiet (i:=2) (v:=?_) rfl (by kernel_rfl) (by kernel_rfl) (by kernel_rfl) (fun _ _ _ h => h) (Or.inl ⟨by rfl,?_⟩) ?_
   rotate_left
   ·(intro w;go_simp;try with_reducible rfl)
   try simp only [Act.put,List.setIfInBounds_toArray,List.set_cons_zero,List.set_cons_succ]
   refine wpAnyT_take [] (i:=3) (v:=?_) rfl (by kernel_rfl) (by kernel_rfl) (by kernel_rfl) (by kernel_rfl) (by kernel_rfl) (by kernel_rfl) (fun _ _ _ h => h) hS0 (Or.inl ⟨by rfl,?_⟩) ?_
   rotate_left
   ·(intro w hSw;go_split_ands;go_simp;try with_reducible rfl)
   try simp only [Act.put,List.setIfInBounds_toArray,List.set_cons_zero,List.set_cons_succ]
   refine wpAnyT_quiet (i:=4) (v:=?_) rfl (by kernel_rfl) (by kernel_rfl) (by kernel_rfl) (fun _ _ _ h => h) (Or.inl ⟨by rfl,?_⟩) ?_
   rotate_left
   ·(intro w;go_simp;try with_reducible rfl)
   try simp only [Act.put,List.setIfInBounds_toArray,List.set_cons_zero,List.set_cons_succ]
   refine wpAnyT_quiet (i:=5) (v:=?_) rfl (by kernel_rfl) (by kernel_rfl) (by kernel_rfl) (fun _ _ _ h => h) (Or.inl ⟨by rfl,?_⟩) ?_
   rotate_left
   ·(intro w;go_simp;try with_reducible rfl)
   try simp only [Act.put,List.setIfInBounds_toArray,List.set_cons_zero,List.set_cons_succ]
   refine wpAnyT_quiet (i:=6) (v:=?_) rfl (by kernel_rfl) (by kernel_rfl) (by kernel_rfl) (fun _ _ _ h => h) (Or.inl ⟨by rfl,?_⟩) ?_
   rotate_left
   ·(intro w;go_simp;try with_reducible rfl)
   try simp only [Act.put,List.setIfInBounds_toArray,List.set_cons_zero,List.set_cons_succ]
   refine wpAnyT_take [] (i:=7) (v:=?_) rfl (by kernel_rfl) (by kernel_rfl) (by kernel_rfl) (by kernel_rfl) (by kernel_rfl) (by kernel_rfl) (fun _ _ _ h => h) hS0 (Or.inl ⟨by rfl,?_⟩) ?_
   rotate_left
   ·(intro w hSw;go_split_ands;go_simp;try with_reducible rfl)
   try simp only [Act.put,List.setIfInBounds_toArray,List.set_cons_zero,List.set_cons_succ]
   refine wpAnyT_ready (rs:=[8]) (by kernel_rfl) (by simp) ?_
   refine AllReadyT.cons rfl (fun K hK => ?_) ?_
   ·go_simp
    refine HBS.out.mono ?_
    rintro e w3 ⟨pp,rfl,rfl⟩
    rw [HDX.out]
    refine hK.out _ _ (fun _ h => h) ?_
    clear hK K
    try simp only [Act.put,List.setIfInBounds_toArray,List.set_cons_zero,List.set_cons_succ]
    refine wpAnyT_quiet (i:=9) (v:=?_) rfl (by kernel_rfl) (by kernel_rfl) (by kernel_rfl) (fun _ _ _ h => h) (Or.inl ⟨by rfl,?_⟩) ?_
    rotate_left
    ·(intro w;go_simp;try with_reducible rfl)
    try simp only [Act.put,List.setIfInBounds_toArray,List.set_cons_zero,List.set_cons_succ]
    refine wpAnyT_quiet (i:=10) (v:=?_) rfl (by kernel_rfl) (by kernel_rfl) (by kernel_rfl) (fun _ _ _ h => h) (Or.inl ⟨by rfl,?_⟩) ?_
    rotate_left
    ·(intro w;go_simp;try with_reducible rfl)
    try simp only [Act.put,List.setIfInBounds_toArray,List.set_cons_zero,List.set_cons_succ]
    refine wpAnyT_quiet (i:=11) (v:=?_) rfl (by kernel_rfl) (by kernel_rfl) (by kernel_rfl) (fun _ _ _ h => h) (Or.inl ⟨by rfl,?_⟩) ?_
    rotate_left
    ·(intro w;go_simp;try with_reducible rfl)
    try simp only [Act.put,List.setIfInBounds_toArray,List.set_cons_zero,List.set_cons_succ]
    refine wpAnyT_quiet (i:=12) (v:=?_) rfl (by kernel_rfl) (by kernel_rfl) (by kernel_rfl) (fun _ _ _ h => h) (Or.inl ⟨by rfl,?_⟩) ?_
    rotate_left
    ·(intro w;go_simp;try with_reducible rfl)
    try simp only [Act.put,List.setIfInBounds_toArray,List.set_cons_zero,List.set_cons_succ]
    refine wpAnyT_quiet (i:=13) (v:=?_) rfl (by kernel_rfl) (by kernel_rfl) (by kernel_rfl) (fun _ _ _ h => h) (Or.inl ⟨by rfl,?_⟩) ?_
    rotate_left
    ·(intro w;go_simp;try with_reducible rfl)
    try simp only [Act.put,List.setIfInBounds_toArray,List.set_cons_zero,List.set_cons_succ]
    refine wpAnyT_done (by kernel_rfl) ?_ _
    clear hS0
    by_cases hki:k=i
    ·have e1:((k:Int) != (i:Int))=false:=by rw [hki];simp
     have hlb:lessB ls i a k=false:=by rw [HLB.out];simp [hki]
     have HN:Hid (arM ls i (k + 1)=a):=by
      show (if lessB ls i (arM ls i k) k=true then (k:Int) else arM ls i k)=_
      rw [← HA.out,hlb]
      rfl
     clear hki hlb
     go_wp2_with fail
     go_quiet (fail)
     go_wp2
     go_roundw
     case rel => exact ⟨k + 1,by rw [HN.out],by omega,by go_num,hideI (drew_below HBWA.out _)⟩
     case measure => simp [intOf];omega
    ·have e1:((k:Int) != (i:Int))=true:=by rw [bne_iff_ne];omega
     cases r with
     | false =>
      have hlb:lessB ls i a k=false:=by rw [HLB.out];simp
      have HN:Hid (arM ls i (k + 1)=a):=by
       show (if lessB ls i (arM ls i k) k=true then (k:Int) else arM ls i k)=_
       rw [← HA.out,hlb]
       rfl
      clear hki hlb
      go_wp2_with fail
      go_quiet (fail)
      go_wp2
      go_roundw
      case rel => exact ⟨k + 1,by rw [HN.out],by omega,by go_num,hideI (drew_below HBWA.out _)⟩
      case measure => simp [intOf];omega
     | true =>
      by_cases ham:a=-1
      ·have e2:(a == -1)=true:=by rw [ham];rfl
       have hlb:lessB ls i a k=true:=by rw [HLB.out];simp [hki,ham]
       have HN:Hid (arM ls i (k + 1)=(k:Int)):=by
        show (if lessB ls i (arM ls i k) k=true then (k:Int) else arM ls i k)=_
        rw [← HA.out,hlb]
        rfl
       clear hki hlb ham
       go_wp2_with fail
       go_quiet (fail)
       go_wp2
       go_roundw
       case rel => exact ⟨k + 1,by rw [HN.out],by omega,by go_num,hideI (drew_below HBWA.out _)⟩
       case measure => simp [intOf];omega
      ·obtain ⟨j,rfl,hjk,hji,_⟩:=HRG.out.resolve_left ham
       have e2:((j:Int) == -1)=false:=by rw [beq_eq_false_iff_ne];omega
       have hjl:j < ls.length:=by omega
       obtain ⟨z,hz⟩:∃ z,ls[j]?=some z:=⟨_,List.getElem?_eq_getElem hjl⟩
       obtain ⟨d1,_,_,_,_,z1,_,_,_,t1,_⟩:=HLA.out.row_at rfl hz
       obtain ⟨AZ,cz,rfl⟩:=own_sl t1.1
       have HZ:=hideI (getD_some hz)
       obtain ⟨nz,hnz⟩:∃ nz,nz=z.blocks.length:=⟨_,rfl⟩
       obtain ⟨nx,hnx⟩:∃ nx,nx=x.blocks.length:=⟨_,rfl⟩
       rw [← hnz] at z1
       rw [← hnx] at a1 ⊢
       have hnn:nx ≤ 512 ∧ nz ≤ 512:=⟨by rw [hnx];exact HRX.out.2,by rw [hnz];exact (HR.out z (List.mem_of_getElem? hz)).2⟩
       have HNZ:=hideI hnz
       have HNX:=hideI hnx
       obtain ⟨hn1,hn2⟩:=hnn
       clear t1 hz ham hnz hnx
       by_cases hlz:nx < nz
       ·have hlb:lessB ls i (j:Int) k=true:=by rw [HLB.out,Int.toNat_natCast,HZ.out,← HNZ.out,← HNX.out];simp [hki,hlz]
        have HN:Hid (arM ls i (k + 1)=(k:Int)):=by
         show (if lessB ls i (arM ls i k) k=true then (k:Int) else arM ls i k)=_
         rw [← HA.out,hlb]
         rfl
        clear hki hlb
        go_wp2_with fail
        go_quiet (fail)
        go_wp2
        go_roundw
        case rel => exact ⟨k + 1,by rw [HN.out],by omega,by go_num,hideI (drew_below HBWA.out _)⟩
        case measure => simp [intOf];omega
       ·have hlb:lessB ls i (j:Int) k=false:=by rw [HLB.out,Int.toNat_natCast,HZ.out,← HNZ.out,← HNX.out];simp [hlz];try omega
        have HN:Hid (arM ls i (k + 1)=(j:Int)):=by
         show (if lessB ls i (arM ls i k) k=true then (k:Int) else arM ls i k)=_
         rw [← HA.out,hlb]
         rfl
        clear hki hlb
        go_wp2_with fail
        go_quiet (fail)
        go_wp2
        go_roundw
        case rel => exact ⟨k + 1,by rw [HN.out],by omega,by go_num,hideI (drew_below HBWA.out _)⟩
        case measure => simp [intOf];omega
   ·exact AllReadyT.nil
  ·have hkl:k=ls.length:=by omega
   subst hkl
   go_wp2
   go_ret
   exact ⟨rfl,HBW.out.trans (HBr.out.mono (Nat.le_of_lt hwW))⟩
end Go.Proofs.YtikogmpibkefdaaGreat

namespace Go.Proofs.YtikogmpibkefdaaGreat
open Go.RowKit Go.Maps
def predsI (bs:List BlockM) (b:Nat):List Int:=(predsTo bs bs.length b).map fun (x:Nat) => (x:Int)
theorem predsI_rising (bs:List BlockM) (b:Nat):(predsI bs b).Pairwise (· < ·):=by
 unfold predsI
 rw [List.pairwise_map]
 have:(predsTo bs bs.length b).Pairwise (· < ·):=by unfold predsTo;exact List.pairwise_lt_range.filter _
 exact this.imp (fun h => by omega)
theorem predsI_len (bs:List BlockM) (b:Nat):(predsI bs b).length ≤ bs.length:=by
 unfold predsI
 rw [List.length_map]
 exact predsTo_len bs bs.length b
def phisFitB (bs:List BlockM) (b:Nat) (q:BlockM):Bool:=q.phis.all fun p => justB p.fr (predsI bs b)
set_option maxRecDepth 100000 in
set_option maxHeartbeats 2000000 in
theorem phisFit_any (f:FuncM) (B:Nat) (pv bv:Value) (gF gL gp M:Nat) (F L:Nat → Int) (b:Nat) (q:BlockM) (w:World) (hS:SF w B f bv gF gL gp M F L) (hB:B ≤ w.heap.size) (hn5:f.blocks.length ≤ 512)
  (hq:f.blocks[b]?=some q) (P:Option Addr) (pl pc:Nat) (hpv:pv=.slice P pl pc) :
  Calls Tryz.prog 129 #[.agg #[pv,.int .i64 f.arrays,.int .i64 f.cells,bv,.slice (some ⟨gF,0,none⟩) f.blocks.length f.blocks.length,.slice (some ⟨gL,0,none⟩) f.blocks.length f.blocks.length,.slice (some ⟨gp,0,none⟩) f.blocks.length f.blocks.length,.map (some M)],.int .i64 b] w
   fun e w' => e=.returned (.bool (phisFitB f.blocks b q)) ∧ Below w.heap.size w w':=by
 subst hpv
 have hbn:=(List.getElem?_eq_some_iff.1 hq).1
 have HS:=hideI hS
 have HQ:=hideI hq
 obtain ⟨v,hv,hvi⟩:=hS.prd b hbn
 have HV:=hideI hvi
 have hgp:=hS.hp
 obtain ⟨VA,vc,rfl,hvm,_⟩:=hvi
 have hvl:=predsI_len f.blocks b
 obtain ⟨A,c,rfl,hbm,hbx⟩:=hS.blk
 obtain ⟨b1,off,qpv,qcv,qtv,rfl,hb1,e0,e1,e2,e3,e4,e5,hpv,hcv,htv,_⟩:=hbx b q hq
 obtain ⟨PA,pc2,rfl,hpm2,hpx⟩:=hpv
 have HPX:=hideI hpx
 obtain ⟨nq,hnq⟩:∃ nq,nq=q.phis.length:=⟨_,rfl⟩
 obtain ⟨n,hn⟩:∃ n,n=f.blocks.length:=⟨_,rfl⟩
 obtain ⟨lv,hlv⟩:∃ lv,lv=((predsTo f.blocks f.blocks.length b).map fun (x:Nat) => (x:Int)).length:=⟨_,rfl⟩
 have HNQ:=hideI hnq
 have HN:=hideI hn
 have HLV:=hideI hlv
 rw [← hnq] at e0 hpm2
 rw [← hlv] at hv hvm
 rw [← hn] at hn5 hbn hbm ⊢
 obtain ⟨W0,hW0⟩:∃ W0:World,W0=w.alloc (.cells #[.slice P pl pc,.int .i64 f.arrays,.int .i64 f.cells,.slice (some ⟨b1,off,none⟩) n c,.slice (some ⟨gF,0,none⟩) n n,.slice (some ⟨gL,0,none⟩) n n,.slice (some ⟨gp,0,none⟩) n n,.map (some M)] 132):=⟨_,rfl⟩
 have HB0:Hid (Below w.heap.size w W0):=by rw [hW0];exact hideI ((Below.refl _ _).alloc (Nat.le_refl _) _)
 have HX0:Hid (W0.heap[w.heap.size]?=some (.cells #[.slice P pl pc,.int .i64 f.arrays,.int .i64 f.cells,.slice (some ⟨b1,off,none⟩) n c,.slice (some ⟨gF,0,none⟩) n n,.slice (some ⟨gL,0,none⟩) n n,.slice (some ⟨gp,0,none⟩) n n,.map (some M)] 132 (0,0))):=by rw [hW0];exact hideI (heap_alloc_new w _)
 have HW0:=hideI hW0
 have hk0:=(HB0.out.cell (p:=⟨b1,off + b * 6,none⟩) (by simp;omega)).trans e0
 have HE0:=hideI hv
 clear hW0 hbx hpx hcv htv e0 e1 e2 e3 e4 e5 hq hnq hn hlv hS hv
 go_enter Tryz.func129,Tryz.ntmps129
 go_upto_region 1 with fail
 rw [← HW0.out]
 have hx0:=row_cells HX0.out rfl
 have r3:=hx0 3
 clear hx0
 go_wp2
 clear r3 hk0
 go_loopw [15] (fun i wr => ∃ k:Nat,k ≤ nq ∧ i=.int .i64 k ∧ Hid (∀ j p,j < k → q.phis[j]?=some p → justB p.fr (predsI f.blocks b)=true) ∧ Hid (Below w.heap.size w wr) ∧ Hid (Below W0.heap.size W0 wr)) (fun i _ => nq - (intOf i).toNat)
 case atStart => exact ⟨0,Nat.zero_le _,rfl,hideI (fun j y h => by omega),HB0,hideI (Below.refl _ _)⟩
 case round =>
  obtain ⟨k,hk,rfl,HA,HBr,HBo⟩:=hrel
  by_cases hlt:k < nq
  ·obtain ⟨p,hp⟩:∃ p,q.phis[k]?=some p:=⟨_,List.getElem?_eq_getElem (by have:=HNQ.out;omega)⟩
   obtain ⟨b2,off2,fv,vv,rfl,hb2,e0,e1,e2,e3,hfv,⟨VA2,vc2,rfl,_⟩,_⟩:=HPX.out k p hp
   have hks:=Keeps.of_below (HBr.out.mono hB)
   have d0:=(hks b2 (off2 + k * 4) hb2).trans e0
   have d1:=(hks b2 (off2 + k * 4 + 1) hb2).trans e1
   have d2:=(hks b2 (off2 + k * 4 + 2) hb2).trans e2
   have d3:=(hks b2 (off2 + k * 4 + 3) hb2).trans e3
   have HP:=hideI hp
   have HFV:=hideI hfv
   obtain ⟨FA,fc,rfl,hfm,_⟩:=hfv
   obtain ⟨nf,hnf⟩:∃ nf,nf=p.fr.length:=⟨_,rfl⟩
   have HNF:=hideI hnf
   rw [← hnf] at d2 hfm
   have hx0:=row_cells HX0.out (HBo.out.block _ (lt_of_heap HX0.out))
   have r6:=hx0 6
   have g0:=(hks gp b hgp).trans HE0.out
   have hlw:w.heap.size < wr.heap.size:=Nat.lt_of_lt_of_le (lt_of_heap HX0.out) HBo.out.size
   have hlg:gp < wr.heap.size:=by omega
   have HJ:Hid (∀ m,Calls Tryz.prog 191 #[.slice FA nf fc,.slice VA lv vc] ((wr.alloc (.cells #[.int .i64 p.id,.int .i64 p.typ,.slice FA nf fc,.slice VA2 p.vals.length vc2] 86)).drewN m) fun e w' => e=.returned (.bool (justB p.fr (predsI f.blocks b))) ∧ w'=((wr.alloc (.cells #[.int .i64 p.id,.int .i64 p.typ,.slice FA nf fc,.slice VA2 p.vals.length vc2] 86)).drewN m)):=by
    refine hideI (fun m => ?_)
    have hkw:Keeps B w ((wr.alloc (.cells #[.int .i64 p.id,.int .i64 p.typ,.slice FA nf fc,.slice VA2 p.vals.length vc2] 86)).drewN m):=Keeps.of_below (drew_below ((HBr.out.alloc HBr.out.size _).mono hB) m)
    have h1:=HFV.out.keeps hkw
    have h2:=HV.out.keeps hkw
    rw [← HNF.out] at h1
    rw [← HLV.out] at h2
    exact (areJust_any p.fr (predsI f.blocks b) B _ _ _ h1 h2 (predsI_rising _ _) (by have:=predsI_len f.blocks b;have:=HN.out;omega)).mono fun _ _ ⟨a,b⟩ => ⟨a,b.symm⟩
   clear hks e0 e1 e2 e3 hp hnf hx0
   cases hj:justB p.fr (predsI f.blocks b)
   ·rw [hj] at HJ
    have HR:Hid (phisFitB f.blocks b q=false):=by
     show _=_
     unfold phisFitB
     rw [List.all_eq_false]
     exact ⟨p,List.mem_of_getElem? HP.out,by rw [hj];simp⟩
    clear hj
    go_wp2
    go_quiet ((go_at_call 191;exact Calls.quiet_of_same (HJ.out _)))
    go_wp2
    go_ret
    exact ⟨by rw [HR.out];rfl,drew_below (HBr.out.alloc HBr.out.size _) _⟩
   ·rw [hj] at HJ
    have HA2:Hid (∀ j p,j < k + 1 → q.phis[j]?=some p → justB p.fr (predsI f.blocks b)=true):=by
     refine hideI (fun j z hj' hz => ?_)
     rcases Nat.lt_or_ge j k with h | h
     ·exact HA.out j z h hz
     ·have:j=k:=by omega
      subst this
      rw [HP.out] at hz
      cases hz
      exact hj
    clear hj
    go_wp2
    go_quiet ((go_at_call 191;exact Calls.quiet_of_same (HJ.out _)))
    go_wp2
    go_roundw
    case rel => exact ⟨k + 1,by omega,by go_num,HA2,hideI (drew_below (HBr.out.alloc HBr.out.size _) _),hideI (drew_below (HBo.out.alloc HBo.out.size _) _)⟩
    case measure => simp [intOf];omega
  ·have HR:Hid (phisFitB f.blocks b q=true):=by
    show _=_
    unfold phisFitB
    rw [List.all_eq_true]
    intro p hp
    obtain ⟨j,hj⟩:=List.getElem?_of_mem hp
    exact HA.out j p (by have h1:=(List.getElem?_eq_some_iff.1 hj).1;have:=HNQ.out;omega) hj
   go_wp2
   go_ret
   exact ⟨by rw [HR.out];rfl,HBr.out⟩
end Go.Proofs.YtikogmpibkefdaaGreat

namespace Go.Proofs.YtikogmpibkefdaaGreat
open Go.RowKit Go.Maps
def Known (f:FuncM) (id:Int):Prop:=I64 id ∧ ∃ (mb:Nat) (ma:Int),(placedM f).last id=some (mb,ma) ∧ mb < f.blocks.length
structure UsesKnown (f:FuncM):Prop where
 phi:∀ (b:Nat) (q:BlockM) (p:PhiM) (i:Nat) (id:Int),f.blocks[b]?=some q → p ∈ q.phis → p.vals[i]?=some id → ∃ (fr:Nat) (q':BlockM),p.fr[i]?=some (fr:Int) ∧ f.blocks[fr]?=some q' ∧ Known f id
 arg:∀ (b:Nat) (q:BlockM) (x:InstrM) (id:Int),f.blocks[b]?=some q → x ∈ q.code → id ∈ x.args → Known f id
 term:∀ (b:Nat) (q:BlockM),f.blocks[b]?=some q → q.term.op=2 ∨ q.term.op=3 → Known f q.term.val
def okAt (f:FuncM) (F L:Nat → Int) (id:Int) (ub:Nat) (ua:Int):Prop:=∀ m,(placedM f).last id=some m → aheadB F L m ub ua=true
structure UsesFit (f:FuncM) (F L:Nat → Int) (b:Nat) (q:BlockM):Prop where
 phi:∀ p ∈ q.phis,∀ (i:Nat) (id:Int) (fr:Nat) (q':BlockM),p.vals[i]?=some id → p.fr[i]?=some (fr:Int) → f.blocks[fr]?=some q' → okAt f F L id fr q'.code.length
 arg:∀ (i:Nat) (x:InstrM),q.code[i]?=some x → ∀ id ∈ x.args,okAt f F L id b i
 term:q.term.op=2 ∨ q.term.op=3 → okAt f F L q.term.val b q.code.length
def UsesPost (f:FuncM) (F L:Nat → Int) (b:Nat) (q:BlockM) (w:World) (e:Ending) (w':World):Prop :=
 ∃ r:Bool,e=.returned (.bool r) ∧ (r=true ↔ UsesFit f F L b q) ∧ Below w.heap.size w w'
theorem usesPost_no {f:FuncM} {F L:Nat → Int} {b:Nat} {q:BlockM} {w w':World} (h:¬ UsesFit f F L b q) (hb:Below w.heap.size w w'):UsesPost f F L b q w (.returned (.bool false)) w' :=
 ⟨false,rfl,⟨fun e => (Bool.noConfusion e),fun k => absurd k h⟩,hb⟩
set_option maxRecDepth 100000 in
set_option maxHeartbeats 8000000 in
theorem usesFit_any (f:FuncM) (B:Nat) (pv bv:Value) (gF gL gp M:Nat) (F L:Nat → Int) (b:Nat) (q:BlockM) (w:World) (hS:SF w B f bv gF gL gp M F L) (hB:B ≤ w.heap.size) (hn5:f.blocks.length ≤ 512) (hK:UsesKnown f)
  (hq:f.blocks[b]?=some q) (P:Option Addr) (pl pc:Nat) (hpv:pv=.slice P pl pc) :
  Calls Tryz.prog 130 #[.agg #[pv,.int .i64 f.arrays,.int .i64 f.cells,bv,.slice (some ⟨gF,0,none⟩) f.blocks.length f.blocks.length,.slice (some ⟨gL,0,none⟩) f.blocks.length f.blocks.length,.slice (some ⟨gp,0,none⟩) f.blocks.length f.blocks.length,.map (some M)],.int .i64 b] w
   (UsesPost f F L b q w):=by
 subst hpv
 have hbn:=(List.getElem?_eq_some_iff.1 hq).1
 have HS:=hideI hS
 have HQ:=hideI hq
 have HK:=hideI hK
 obtain ⟨A,c,rfl,hbm,hbx⟩:=hS.blk
 obtain ⟨b1,off,qpv,qcv,qtv,rfl,hb1,e0,e1,e2,e3,e4,e5,hpv,hcv,htv,_⟩:=hbx b q hq
 obtain ⟨PA,pc2,rfl,hpm2,hpx⟩:=hpv
 obtain ⟨CA,cc,rfl,hcm,hcx⟩:=hcv
 obtain ⟨TA,tc,rfl,_⟩:=htv
 have HPX:=hideI hpx
 have HCX:=hideI hcx
 obtain ⟨nq,hnq⟩:∃ nq,nq=q.phis.length:=⟨_,rfl⟩
 obtain ⟨nc,hnc⟩:∃ nc,nc=q.code.length:=⟨_,rfl⟩
 obtain ⟨n,hn⟩:∃ n,n=f.blocks.length:=⟨_,rfl⟩
 have HNQ:=hideI hnq
 have HNC:=hideI hnc
 have HN:=hideI hn
 rw [← hnq] at e0 hpm2
 rw [← hnc] at e1 hcm
 rw [← hn] at hn5 hbn hbm ⊢
 obtain ⟨W0,hW0⟩:∃ W0:World,W0=w.alloc (.cells #[.slice P pl pc,.int .i64 f.arrays,.int .i64 f.cells,.slice (some ⟨b1,off,none⟩) n c,.slice (some ⟨gF,0,none⟩) n n,.slice (some ⟨gL,0,none⟩) n n,.slice (some ⟨gp,0,none⟩) n n,.map (some M)] 132):=⟨_,rfl⟩
 have hB0:Below w.heap.size w W0:=by rw [hW0];exact (Below.refl _ _).alloc (Nat.le_refl _) _
 have hs0:W0.heap.size=w.heap.size + 1:=by rw [hW0];simp
 have hX0:W0.heap[w.heap.size]?=some (.cells #[.slice P pl pc,.int .i64 f.arrays,.int .i64 f.cells,.slice (some ⟨b1,off,none⟩) n c,.slice (some ⟨gF,0,none⟩) n n,.slice (some ⟨gL,0,none⟩) n n,.slice (some ⟨gp,0,none⟩) n n,.map (some M)] 132 (0,0)):=by rw [hW0];exact heap_alloc_new w _
 have hk0:∀ o u,w.cell? ⟨b1,o,none⟩=some u → W0.cell? ⟨b1,o,none⟩=some u:=fun o u h => (hB0.cell (p:=⟨b1,o,none⟩) (by simp;omega)).trans h
 have c0:=hk0 _ _ e0
 have c1:=hk0 _ _ e1
 have c2:=hk0 _ _ e2
 have c3:=hk0 _ _ e3
 have c4:=hk0 _ _ e4
 have c5:=hk0 _ _ e5
 obtain ⟨W1,hW1⟩:∃ W1:World,W1=W0.alloc (.cells #[.slice PA nq pc2,.slice CA nc cc,.int .i64 q.term.op,.int .i64 q.term.val,.slice TA q.term.to.length tc,.int .i64 q.term.n] 59):=⟨_,rfl⟩
 have hB1:Below w.heap.size w W1:=by rw [hW1];exact hB0.alloc (by omega) _
 have hs1:W1.heap.size=w.heap.size + 2:=by rw [hW1];simp;omega
 have HX0:Hid (W1.heap[w.heap.size]?=some (.cells #[.slice P pl pc,.int .i64 f.arrays,.int .i64 f.cells,.slice (some ⟨b1,off,none⟩) n c,.slice (some ⟨gF,0,none⟩) n n,.slice (some ⟨gL,0,none⟩) n n,.slice (some ⟨gp,0,none⟩) n n,.map (some M)] 132 (0,0))):=by
  rw [hW1,Below.heap_alloc _ _ _ (by omega)]
  exact hideI hX0
 have HX1:Hid (W1.heap[w.heap.size + 1]?=some (.cells #[.slice PA nq pc2,.slice CA nc cc,.int .i64 q.term.op,.int .i64 q.term.val,.slice TA q.term.to.length tc,.int .i64 q.term.n] 59 (0,0))):=by
  have:=heap_alloc_new W0 (.cells #[.slice PA nq pc2,.slice CA nc cc,.int .i64 q.term.op,.int .i64 q.term.val,.slice TA q.term.to.length tc,.int .i64 q.term.n] 59)
  rw [hs0] at this
  rw [hW1]
  exact hideI this
 have HW0:=hideI hW0
 have HW1:=hideI hW1
 have HB1:=hideI hB1
 have HS1:=hideI hs1
 have x3:=(row_cells hX0 rfl) 3
 have hsz0:=hs0
 have HSW:Hid (∀ W,Below W1.heap.size W1 W → SF W B f (.slice (some ⟨b1,off,none⟩) f.blocks.length c) gF gL gp M F L ∧ Below w.heap.size w W):=hideI (fun W hW => by
  have h1:Below w.heap.size w W:=HB1.out.trans (hW.mono (by rw [HS1.out];omega))
  exact ⟨HS.out.kept (h1.mono hB),h1⟩)
 clear hW0 hW1 hB0 hB1 hs0 hs1 hX0 hk0 hbx hpx hcx e0 e1 e2 e3 e4 e5 hq hnq hn hnc hS hK
 go_enter Tryz.func130,Tryz.ntmps130
 go_upto_region 1 with fail
 rw [← HW0.out]
 go_wp2
 rw [← HW1.out]
 clear c0 c1 c2 c3 c4 c5 x3 hsz0
 go_loopw [23] (fun i wr => ∃ k:Nat,k ≤ nq ∧ i=.int .i64 k ∧ Hid (∀ (j:Nat) (p:PhiM),j < k → q.phis[j]?=some p → ∀ (i:Nat) (id:Int) (fr:Nat) (q':BlockM),p.vals[i]?=some id → p.fr[i]?=some (fr:Int) → f.blocks[fr]?=some q' → okAt f F L id fr q'.code.length) ∧ Hid (Below W1.heap.size W1 wr)) (fun i _ => nq - (intOf i).toNat)
 case atStart => exact ⟨0,Nat.zero_le _,rfl,hideI (fun j p h => by omega),hideI (Below.refl _ _)⟩
 case round =>
  obtain ⟨k,hk,rfl,HA,HBr⟩:=hrel
  have hwl:W1.heap.size ≤ wr.heap.size:=HBr.out.size
  have hx1:=row_cells HX1.out (HBr.out.block _ (lt_of_heap HX1.out))
  by_cases hlt:k < nq
  ·obtain ⟨p,hp⟩:∃ p,q.phis[k]?=some p:=⟨_,List.getElem?_eq_getElem (by have:=HNQ.out;omega)⟩
   obtain ⟨b2,off2,fv,vv,rfl,hb2,e0,e1,e2,e3,hfv,hvv,_⟩:=HPX.out k p hp
   have hks:=Keeps.of_below ((HSW.out _ HBr.out).2.mono hB)
   have d0:=(hks b2 (off2 + k * 4) hb2).trans e0
   have d1:=(hks b2 (off2 + k * 4 + 1) hb2).trans e1
   have d2:=(hks b2 (off2 + k * 4 + 2) hb2).trans e2
   have d3:=(hks b2 (off2 + k * 4 + 3) hb2).trans e3
   have HP:=hideI hp
   have HFV:=hideI hfv
   have HVV:=hideI hvv
   obtain ⟨FA,fc,rfl,hfm,_⟩:=hfv
   obtain ⟨VA,vc,rfl,hvm,_⟩:=hvv
   obtain ⟨nf,hnf⟩:∃ nf,nf=p.fr.length:=⟨_,rfl⟩
   obtain ⟨nv,hnv⟩:∃ nv,nv=p.vals.length:=⟨_,rfl⟩
   have HNF:=hideI hnf
   have HNV:=hideI hnv
   rw [← hnf] at d2 hfm
   rw [← hnv] at d3 hvm
   obtain ⟨W2,hW2⟩:∃ W2:World,W2=wr.alloc (.cells #[.int .i64 p.id,.int .i64 p.typ,.slice FA nf fc,.slice VA nv vc] 86):=⟨_,rfl⟩
   have HB2:Hid (Below W1.heap.size W1 W2):=by rw [hW2];exact hideI (HBr.out.alloc HBr.out.size _)
   have HX2:Hid (W2.heap[wr.heap.size]?=some (.cells #[.int .i64 p.id,.int .i64 p.typ,.slice FA nf fc,.slice VA nv vc] 86 (0,0))):=by rw [hW2];exact hideI (heap_alloc_new wr _)
   have HW2:=hideI hW2
   clear hks e0 e1 e2 e3 hp hnf hnv hW2
   go_wp2
   rw [← HW2.out]
   obtain ⟨wo,rfl⟩:∃ wo:World,wo=wr:=⟨_,rfl⟩
   clear hx1 d0 d1 d2 d3
   go_loopw [30] (fun i wr => ∃ m:Nat,m ≤ nv ∧ i=.int .i64 m ∧ Hid (∀ (i:Nat) (id:Int) (fr:Nat) (q':BlockM),i < m → p.vals[i]?=some id → p.fr[i]?=some (fr:Int) → f.blocks[fr]?=some q' → okAt f F L id fr q'.code.length) ∧ Hid (Below W2.heap.size W2 wr)) (fun i _ => nv - (intOf i).toNat)
   case atStart => exact ⟨0,Nat.zero_le _,rfl,hideI (fun i id fr q' h => by omega),hideI (Below.refl _ _)⟩
   case round =>
    obtain ⟨m,hm,rfl,HAm,HBm⟩:=hrel
    have hall:=HB2.out.trans (HBm.out.mono HB2.out.size)
    have HALL:=hideI hall
    by_cases hlm:m < nv
    ·obtain ⟨id,hid⟩:∃ id,p.vals[m]?=some id:=⟨_,List.getElem?_eq_getElem (by have:=HNV.out;omega)⟩
     obtain ⟨fr,q',hfr,hq',hi64,mb,ma,hlast,hmb⟩:=HK.out.phi b q p m id HQ.out (List.mem_of_getElem? HP.out) hid
     have hfrn:=(List.getElem?_eq_some_iff.1 hfr).1
     have hfrb:=(List.getElem?_eq_some_iff.1 hq').1
     obtain ⟨_,_,ev,_,hvx⟩:=HVV.out.keeps (Keeps.of_below ((HSW.out _ hall).2.mono hB))
     cases ev
     obtain ⟨vb,voff,rfl,hvb,v0⟩:=hvx m (by rw [← HNV.out];exact hlm)
     rw [hid] at v0
     simp only [Option.getD_some] at v0
     obtain ⟨_,_,ef,_,hfx⟩:=HFV.out.keeps (Keeps.of_below ((HSW.out _ hall).2.mono hB))
     cases ef
     obtain ⟨fb,foff,rfl,hfb,f0⟩:=hfx m hfrn
     rw [hfr] at f0
     simp only [Option.getD_some] at f0
     have hmf:m < nf:=by rw [HNF.out];exact hfrn
     have G0:Hid (∀ W,Below wr.heap.size wr W → (∀ o,W.cell? ⟨w.heap.size,o,none⟩=(#[.slice P pl pc,.int .i64 f.arrays,.int .i64 f.cells,.slice (some ⟨b1,off,none⟩) n c,.slice (some ⟨gF,0,none⟩) n n,.slice (some ⟨gL,0,none⟩) n n,.slice (some ⟨gp,0,none⟩) n n,.map (some M)]:Array Value)[o]?) ∧ (∀ o,W.cell? ⟨wo.heap.size,o,none⟩=(#[.int .i64 p.id,.int .i64 p.typ,.slice (some ⟨fb,foff,none⟩) nf fc,.slice (some ⟨vb,voff,none⟩) nv vc]:Array Value)[o]?) ∧ W.cell? ⟨fb,foff + m,none⟩=some (.int .i64 (fr:Int))):=by
      refine hideI (fun W hW => ?_)
      have h1:=hall.trans (hW.mono hall.size)
      have h2:=HBm.out.trans (hW.mono HBm.out.size)
      exact ⟨row_cells HX0.out (h1.block _ (lt_of_heap HX0.out)),row_cells HX2.out (h2.block _ (lt_of_heap HX2.out)),(hW.cell (p:=⟨fb,foff + m,none⟩) (by have:=(HSW.out _ hall).2.size;simp;omega)).trans f0⟩
     obtain ⟨g1,g2,g3⟩:=G0.out wr (Below.refl _ _)
     have HSR:=hideI (HSW.out _ hall)
     have HBN:Hid (B ≤ wr.heap.size):=by have:=(HSW.out _ hall).2.size;exact hideI (by omega)
     have HID:=hideI hid
     have HFR:=hideI hfr
     have HQ':=hideI hq'
     have HI64:=hideI hi64
     have HLAST:=hideI hlast
     have HE:Hid (∀ W,Below wr.heap.size wr W → Calls Tryz.prog 193 #[.agg #[.slice P pl pc,.int .i64 f.arrays,.int .i64 f.cells,.slice (some ⟨b1,off,none⟩) n c],.int .i64 fr] W fun e w' => e=.returned (.agg #[.int .i64 fr,.int .i64 (q'.code.length:Int)]) ∧ Below W.heap.size W w'):=hideI (fun W hW => by
      have:=endOf_any f B (.slice P pl pc) _ fr q' W (HSR.out.1.kept (hW.mono HBN.out)).blk (Nat.le_trans HBN.out hW.size) HQ'.out (by rw [← HN.out];exact hn5) P pl pc rfl
      rw [← HN.out] at this
      exact this)
     have HC:Hid (∀ W,Below wr.heap.size wr W → Calls Tryz.prog 192 #[.agg #[.slice P pl pc,.int .i64 f.arrays,.int .i64 f.cells,.slice (some ⟨b1,off,none⟩) n c,.slice (some ⟨gF,0,none⟩) n n,.slice (some ⟨gL,0,none⟩) n n,.slice (some ⟨gp,0,none⟩) n n,.map (some M)],.int .i64 id,.agg #[.int .i64 fr,.int .i64 (q'.code.length:Int)]] W fun e w' => e=.returned (.bool (aheadB F L (mb,ma) fr q'.code.length)) ∧ Below W.heap.size W w'):=hideI (fun W hW => by
      have:=comesAhead_any f B (.slice P pl pc) _ gF gL gp M F L id mb fr ma q'.code.length W (HSR.out.1.kept (hW.mono HBN.out)) (Nat.le_trans HBN.out hW.size) (by rw [← HN.out];exact hn5) HI64.out HLAST.out hmb hfrb P pl pc rfl
      rw [← HN.out] at this
      exact this)
     clear hvx hfx f0 hid hfr hq' hi64 hlast hall hfrn
     cases hr:aheadB F L (mb,ma) fr q'.code.length
     ·have HNO:Hid (¬ UsesFit f F L b q):=by
       refine hideI (fun hu => ?_)
       have:=hu.phi p (List.mem_of_getElem? HP.out) m id fr q' HID.out HFR.out HQ'.out (mb,ma) HLAST.out
       rw [hr] at this
       cases this
      rw [hr] at HC
      clear hr
      go_wp2
      go_region_held3 (fun W => (∀ o,W.cell? ⟨w.heap.size,o,none⟩=(#[.slice P pl pc,.int .i64 f.arrays,.int .i64 f.cells,.slice (some ⟨b1,off,none⟩) n c,.slice (some ⟨gF,0,none⟩) n n,.slice (some ⟨gL,0,none⟩) n n,.slice (some ⟨gp,0,none⟩) n n,.map (some M)]:Array Value)[o]?) ∧ (∀ o,W.cell? ⟨wo.heap.size,o,none⟩=(#[.int .i64 p.id,.int .i64 p.typ,.slice (some ⟨fb,foff,none⟩) nf fc,.slice (some ⟨vb,voff,none⟩) nv vc]:Array Value)[o]?) ∧ W.cell? ⟨fb,foff + m,none⟩=some (.int .i64 (fr:Int))) (first | (with_reducible exact G0.out _ hfb4) | (with_reducible exact G0.out _ hfb3) | go_keep)
       (first
        | (go_at_call 193;(with_reducible refine (HE.out _ (drew1_below (Below.refl _ _))).mono ?_);rintro e w3 ⟨rfl,hb3⟩;have hfb3:=(drew1_below (Below.refl wr.heap.size wr)).trans hb3)
        | (go_at_call 192;(with_reducible refine (HC.out _ hfb3).mono ?_);rintro e w4 ⟨rfl,hb4⟩;have hfb4:=hfb3.trans (hb4.mono hfb3.size)))
      go_wp2
      go_ret
      exact usesPost_no HNO.out (HSR.out.2.trans (hfb4.mono HSR.out.2.size))
     ·have HA2:Hid (∀ (i:Nat) (id:Int) (fr:Nat) (q':BlockM),i < m + 1 → p.vals[i]?=some id → p.fr[i]?=some (fr:Int) → f.blocks[fr]?=some q' → okAt f F L id fr q'.code.length):=by
       refine hideI (fun i2 id2 fr2 q2 hi2 h1 h2 h3 => ?_)
       rcases Nat.lt_or_ge i2 m with h | h
       ·exact HAm.out i2 id2 fr2 q2 h h1 h2 h3
       ·have:i2=m:=by omega
        subst this
        rw [HID.out] at h1
        cases h1
        rw [HFR.out] at h2
        have e2:fr2=fr:=by have:=Option.some.inj h2;omega
        subst e2
        rw [HQ'.out] at h3
        cases h3
        intro m2 hm2
        rw [HLAST.out] at hm2
        cases hm2
        exact hr
      rw [hr] at HC
      clear hr
      go_wp2
      go_region_held3 (fun W => (∀ o,W.cell? ⟨w.heap.size,o,none⟩=(#[.slice P pl pc,.int .i64 f.arrays,.int .i64 f.cells,.slice (some ⟨b1,off,none⟩) n c,.slice (some ⟨gF,0,none⟩) n n,.slice (some ⟨gL,0,none⟩) n n,.slice (some ⟨gp,0,none⟩) n n,.map (some M)]:Array Value)[o]?) ∧ (∀ o,W.cell? ⟨wo.heap.size,o,none⟩=(#[.int .i64 p.id,.int .i64 p.typ,.slice (some ⟨fb,foff,none⟩) nf fc,.slice (some ⟨vb,voff,none⟩) nv vc]:Array Value)[o]?) ∧ W.cell? ⟨fb,foff + m,none⟩=some (.int .i64 (fr:Int))) (first | (with_reducible exact G0.out _ hfb4) | (with_reducible exact G0.out _ hfb3) | go_keep)
       (first
        | (go_at_call 193;(with_reducible refine (HE.out _ (drew1_below (Below.refl _ _))).mono ?_);rintro e w3 ⟨rfl,hb3⟩;have hfb3:=(drew1_below (Below.refl wr.heap.size wr)).trans hb3)
        | (go_at_call 192;(with_reducible refine (HC.out _ hfb3).mono ?_);rintro e w4 ⟨rfl,hb4⟩;have hfb4:=hfb3.trans (hb4.mono hfb3.size)))
      go_wp2
      go_roundw
      case rel => exact ⟨m + 1,by omega,by go_num,HA2,hideI (HBm.out.trans (hfb4.mono HBm.out.size))⟩
      case measure => simp [intOf];omega
    ·have HA2:Hid (∀ (j:Nat) (p:PhiM),j < k + 1 → q.phis[j]?=some p → ∀ (i:Nat) (id:Int) (fr:Nat) (q':BlockM),p.vals[i]?=some id → p.fr[i]?=some (fr:Int) → f.blocks[fr]?=some q' → okAt f F L id fr q'.code.length):=by
      refine hideI (fun j p2 hj hp2 i2 id2 fr2 q2 h1 h2 h3 => ?_)
      rcases Nat.lt_or_ge j k with h | h
      ·exact HA.out j p2 h hp2 i2 id2 fr2 q2 h1 h2 h3
      ·have:j=k:=by omega
       subst this
       rw [HP.out] at hp2
       cases hp2
       exact HAm.out i2 id2 fr2 q2 (by have:=(List.getElem?_eq_some_iff.1 h1).1;have:=HNV.out;omega) h1 h2 h3
     go_wp2
     go_roundw
     case rel => exact ⟨k + 1,by omega,by go_num,HA2,HALL⟩
     case measure => simp [intOf];omega
  ·have HPA:Hid (∀ p ∈ q.phis,∀ (i:Nat) (id:Int) (fr:Nat) (q':BlockM),p.vals[i]?=some id → p.fr[i]?=some (fr:Int) → f.blocks[fr]?=some q' → okAt f F L id fr q'.code.length):=by
    refine hideI (fun p hp => ?_)
    obtain ⟨j,hj⟩:=List.getElem?_of_mem hp
    exact HA.out j p (by have:=(List.getElem?_eq_some_iff.1 hj).1;have:=HNQ.out;omega) hj
   go_wp2
   obtain ⟨wp,rfl⟩:∃ wp:World,wp=wr:=⟨_,rfl⟩
   clear hx1 hlt HA
   go_loopw [52] (fun i wr => ∃ k:Nat,k ≤ nc ∧ i=.int .i64 k ∧ Hid (∀ (i:Nat) (x:InstrM),i < k → q.code[i]?=some x → ∀ id ∈ x.args,okAt f F L id b i) ∧ Hid (Below W1.heap.size W1 wr)) (fun i _ => nc - (intOf i).toNat)
   case atStart => exact ⟨0,Nat.zero_le _,rfl,hideI (fun i x h => by omega),HBr⟩
   case round =>
    obtain ⟨k,hk,rfl,HA,HBr⟩:=hrel
    have hwl:W1.heap.size ≤ wr.heap.size:=HBr.out.size
    have hx1:=row_cells HX1.out (HBr.out.block _ (lt_of_heap HX1.out))
    by_cases hlt:k < nc
    ·obtain ⟨x,hx⟩:∃ x,q.code[k]?=some x:=⟨_,List.getElem?_eq_getElem (by have:=HNC.out;omega)⟩
     obtain ⟨b2,off2,av,rfl,hb2,e0,e1,e2,e3,hav,_⟩:=HCX.out k x hx
     have hks:=Keeps.of_below ((HSW.out _ HBr.out).2.mono hB)
     have d0:=(hks b2 (off2 + k * 4) hb2).trans e0
     have d1:=(hks b2 (off2 + k * 4 + 1) hb2).trans e1
     have d2:=(hks b2 (off2 + k * 4 + 2) hb2).trans e2
     have d3:=(hks b2 (off2 + k * 4 + 3) hb2).trans e3
     have HP:=hideI hx
     have HVV:=hideI hav
     obtain ⟨VA,vc,rfl,hvm,_⟩:=hav
     obtain ⟨nv,hnv⟩:∃ nv,nv=x.args.length:=⟨_,rfl⟩
     have HNV:=hideI hnv
     rw [← hnv] at d2 hvm
     obtain ⟨W2,hW2⟩:∃ W2:World,W2=wr.alloc (.cells #[.int .i64 x.op,.int .i64 x.id,.slice VA nv vc,.int .i64 x.n] 68):=⟨_,rfl⟩
     have HB2:Hid (Below W1.heap.size W1 W2):=by rw [hW2];exact hideI (HBr.out.alloc HBr.out.size _)
     have HW2:=hideI hW2
     clear hks e0 e1 e2 e3 hx hnv hW2
     go_wp2
     rw [← HW2.out]
     obtain ⟨wo,rfl⟩:∃ wo:World,wo=wr:=⟨_,rfl⟩
     clear hx1 d0 d1 d2 d3
     go_loopw [60] (fun i wr => ∃ m:Nat,m ≤ nv ∧ i=.int .i64 m ∧ Hid (∀ (i:Nat) (id:Int),i < m → x.args[i]?=some id → okAt f F L id b k) ∧ Hid (Below W2.heap.size W2 wr)) (fun i _ => nv - (intOf i).toNat)
     case atStart => exact ⟨0,Nat.zero_le _,rfl,hideI (fun i id h => by omega),hideI (Below.refl _ _)⟩
     case round =>
      obtain ⟨m,hm,rfl,HAm,HBm⟩:=hrel
      have hall:=HB2.out.trans (HBm.out.mono HB2.out.size)
      have HALL:=hideI hall
      by_cases hlm:m < nv
      ·obtain ⟨id,hid⟩:∃ id,x.args[m]?=some id:=⟨_,List.getElem?_eq_getElem (by have:=HNV.out;omega)⟩
       obtain ⟨hi64,mb,ma,hlast,hmb⟩:=HK.out.arg b q x id HQ.out (List.mem_of_getElem? HP.out) (List.mem_of_getElem? hid)
       obtain ⟨_,_,ev,_,hvx⟩:=HVV.out.keeps (Keeps.of_below ((HSW.out _ hall).2.mono hB))
       cases ev
       obtain ⟨vb,voff,rfl,hvb,v0⟩:=hvx m (by rw [← HNV.out];exact hlm)
       rw [hid] at v0
       simp only [Option.getD_some] at v0
       have g1:=row_cells HX0.out (hall.block _ (lt_of_heap HX0.out))
       have HSR:=hideI (HSW.out _ hall)
       have HBN:Hid (B ≤ wr.heap.size):=by have:=(HSW.out _ hall).2.size;exact hideI (by omega)
       have HID:=hideI hid
       have HLAST:=hideI hlast
       have HC:Hid (Calls Tryz.prog 192 #[.agg #[.slice P pl pc,.int .i64 f.arrays,.int .i64 f.cells,.slice (some ⟨b1,off,none⟩) n c,.slice (some ⟨gF,0,none⟩) n n,.slice (some ⟨gL,0,none⟩) n n,.slice (some ⟨gp,0,none⟩) n n,.map (some M)],.int .i64 id,.agg #[.int .i64 b,.int .i64 k]] wr fun e w' => e=.returned (.bool (aheadB F L (mb,ma) b k)) ∧ Below wr.heap.size wr w'):=by
        have:=comesAhead_any f B (.slice P pl pc) _ gF gL gp M F L id mb b ma k wr HSR.out.1 HBN.out (by rw [← HN.out];exact hn5) hi64 hlast hmb (by rw [← HN.out];exact hbn) P pl pc rfl
        rw [← HN.out] at this
        exact hideI this
       clear hvx hid hi64 hlast hall
       cases hr:aheadB F L (mb,ma) b k
       ·have HNO:Hid (¬ UsesFit f F L b q):=by
         refine hideI (fun hu => ?_)
         have:=hu.arg k x HP.out id (List.mem_of_getElem? HID.out) (mb,ma) HLAST.out
         rw [hr] at this
         cases this
        rw [hr] at HC
        clear hr
        go_wp2_with (go_at_call 192;go_must (refine HC.out.mono ?_);rintro e w4 ⟨rfl,hb4⟩;have HB4:=hideI hb4;clear hb4)
        go_ret
        exact usesPost_no HNO.out (HSR.out.2.trans (HB4.out.mono HSR.out.2.size))
       ·have HA2:Hid (∀ (i:Nat) (id:Int),i < m + 1 → x.args[i]?=some id → okAt f F L id b k):=by
         refine hideI (fun i2 id2 hi2 h1 => ?_)
         rcases Nat.lt_or_ge i2 m with h | h
         ·exact HAm.out i2 id2 h h1
         ·have:i2=m:=by omega
          subst this
          rw [HID.out] at h1
          cases h1
          intro m2 hm2
          rw [HLAST.out] at hm2
          cases hm2
          exact hr
        rw [hr] at HC
        clear hr
        go_wp2_with (go_at_call 192;go_must (refine HC.out.mono ?_);rintro e w4 ⟨rfl,hb4⟩;have HB4:=hideI hb4;clear hb4)
        go_roundw
        case rel => exact ⟨m + 1,by omega,by go_num,HA2,hideI (HBm.out.trans (HB4.out.mono HBm.out.size))⟩
        case measure => simp [intOf];omega
      ·have HA2:Hid (∀ (i:Nat) (x:InstrM),i < k + 1 → q.code[i]?=some x → ∀ id ∈ x.args,okAt f F L id b i):=by
        refine hideI (fun j p2 hj hp2 id2 h1 => ?_)
        rcases Nat.lt_or_ge j k with h | h
        ·exact HA.out j p2 h hp2 id2 h1
        ·have:j=k:=by omega
         subst this
         rw [HP.out] at hp2
         cases hp2
         obtain ⟨i2,hi2⟩:=List.getElem?_of_mem h1
         exact HAm.out i2 id2 (by have:=(List.getElem?_eq_some_iff.1 hi2).1;have:=HNV.out;omega) hi2
       go_wp2
       go_roundw
       case rel => exact ⟨k + 1,by omega,by go_num,HA2,HALL⟩
       case measure => simp [intOf];omega
    ·have HCA:Hid (∀ (i:Nat) (x:InstrM),q.code[i]?=some x → ∀ id ∈ x.args,okAt f F L id b i):=by
      refine hideI (fun i x hi => ?_)
      exact HA.out i x (by have:=(List.getElem?_eq_some_iff.1 hi).1;have:=HNC.out;omega) hi
     clear HA hx1
     have HALL:=HBr
     have G0:Hid (∀ W,Below wr.heap.size wr W → (∀ o,W.cell? ⟨w.heap.size,o,none⟩=(#[.slice P pl pc,.int .i64 f.arrays,.int .i64 f.cells,.slice (some ⟨b1,off,none⟩) n c,.slice (some ⟨gF,0,none⟩) n n,.slice (some ⟨gL,0,none⟩) n n,.slice (some ⟨gp,0,none⟩) n n,.map (some M)]:Array Value)[o]?) ∧ (∀ o,W.cell? ⟨w.heap.size + 1,o,none⟩=(#[.slice PA nq pc2,.slice CA nc cc,.int .i64 q.term.op,.int .i64 q.term.val,.slice TA q.term.to.length tc,.int .i64 q.term.n]:Array Value)[o]?)):=by
      refine hideI (fun W hW => ?_)
      have h1:=HALL.out.trans (hW.mono HALL.out.size)
      exact ⟨row_cells HX0.out (h1.block _ (lt_of_heap HX0.out)),row_cells HX1.out (h1.block _ (lt_of_heap HX1.out))⟩
     obtain ⟨g1,g2⟩:=G0.out wr (Below.refl _ _)
     have HSR:=hideI (HSW.out _ HALL.out)
     have HBN:Hid (B ≤ wr.heap.size):=by have:=(HSW.out _ HALL.out).2.size;exact hideI (by omega)
     cases hu:(q.term.op == 2) || (q.term.op == 3)
     ·have HR:Hid (UsesFit f F L b q):=by
       refine hideI ⟨HPA.out,HCA.out,fun h => ?_⟩
       exfalso
       rcases h with h | h <;> simp [h] at hu
      have HU:Hid (∀ W,Calls Tryz.prog 194 #[.agg #[.int .i64 q.term.op,.int .i64 q.term.val,.slice TA q.term.to.length tc,.int .i64 q.term.n]] W fun e w' => e=.returned (.bool false) ∧ Below W.heap.size W w'):=hideI (fun W => by
       have:=usesValue_any q.term.op q.term.val q.term.n _ W TA q.term.to.length tc rfl
       rw [hu] at this
       exact this)
      clear hu
      go_wp2
      refine wp_region_late (by kernel_rfl) (fun _ => True) [] ?_
      refine wpAnyT_quiet (i:=0) (v:=?_) rfl (by kernel_rfl) (by kernel_rfl) (by kernel_rfl) (fun _ _ _ h => h) (Or.inl ⟨by rfl,?_⟩) ?_
      rotate_left
      ·(intro w;go_simp;try with_reducible rfl)
      try simp only [Act.put,List.setIfInBounds_toArray,List.set_cons_zero,List.set_cons_succ]
      refine wpAnyT_ready (rs:=[1]) (by kernel_rfl) (by simp) ?_
      refine AllReadyT.cons rfl (fun K hK => ?_) AllReadyT.nil
      go_simp
      refine hK.out _ _ (fun _ _ => trivial) ?_
      clear hK K
      try simp only [Act.put,List.setIfInBounds_toArray,List.set_cons_zero,List.set_cons_succ]
      refine wpAnyT_ready (rs:=[2]) (by kernel_rfl) (by simp) ?_
      refine AllReadyT.cons rfl (fun K hK => ?_) AllReadyT.nil
      go_simp
      go_at_call 194
      refine (HU.out _).mono ?_
      rintro e w3 ⟨rfl,hb3⟩
      have hfb3:=(drew1_below (Below.refl wr.heap.size wr)).trans hb3
      refine hK.out _ _ (fun _ _ => trivial) ?_
      clear hK K
      try simp only [Act.put,List.setIfInBounds_toArray,List.set_cons_zero,List.set_cons_succ]
      refine wpAnyT_quiet (i:=3) (v:=?_) rfl (by kernel_rfl) (by kernel_rfl) (by kernel_rfl) (fun _ _ _ h => h) (Or.inl ⟨by rfl,?_⟩) ?_
      rotate_left
      ·(intro w;go_simp;try with_reducible rfl)
      try simp only [Act.put,List.setIfInBounds_toArray,List.set_cons_zero,List.set_cons_succ]
      refine wpAnyT_quiet (i:=4) (v:=?_) rfl (by kernel_rfl) (by kernel_rfl) (by kernel_rfl) (fun _ _ _ h => h) (Or.inl ⟨by rfl,?_⟩) ?_
      rotate_left
      ·(intro w;go_simp;try with_reducible rfl)
      try simp only [Act.put,List.setIfInBounds_toArray,List.set_cons_zero,List.set_cons_succ]
      refine wpAnyT_quiet (i:=5) (v:=undef) rfl (by kernel_rfl) (by kernel_rfl) (by kernel_rfl) (fun _ _ _ h => h) (Or.inr ⟨by rfl,rfl⟩) ?_
      try simp only [Act.put,List.setIfInBounds_toArray,List.set_cons_zero,List.set_cons_succ]
      refine wpAnyT_quiet (i:=6) (v:=undef) rfl (by kernel_rfl) (by kernel_rfl) (by kernel_rfl) (fun _ _ _ h => h) (Or.inr ⟨by rfl,rfl⟩) ?_
      try simp only [Act.put,List.setIfInBounds_toArray,List.set_cons_zero,List.set_cons_succ]
      refine wpAnyT_quiet (i:=7) (v:=undef) rfl (by kernel_rfl) (by kernel_rfl) (by kernel_rfl) (fun _ _ _ h => h) (Or.inr ⟨by rfl,rfl⟩) ?_
      try simp only [Act.put,List.setIfInBounds_toArray,List.set_cons_zero,List.set_cons_succ]
      refine wpAnyT_quiet (i:=8) (v:=undef) rfl (by kernel_rfl) (by kernel_rfl) (by kernel_rfl) (fun _ _ _ h => h) (Or.inr ⟨by rfl,rfl⟩) ?_
      try simp only [Act.put,List.setIfInBounds_toArray,List.set_cons_zero,List.set_cons_succ]
      refine wpAnyT_quiet (i:=9) (v:=undef) rfl (by kernel_rfl) (by kernel_rfl) (by kernel_rfl) (fun _ _ _ h => h) (Or.inr ⟨by rfl,rfl⟩) ?_
      try simp only [Act.put,List.setIfInBounds_toArray,List.set_cons_zero,List.set_cons_succ]
      refine wpAnyT_quiet (i:=10) (v:=undef) rfl (by kernel_rfl) (by kernel_rfl) (by kernel_rfl) (fun _ _ _ h => h) (Or.inr ⟨by rfl,rfl⟩) ?_
      try simp only [Act.put,List.setIfInBounds_toArray,List.set_cons_zero,List.set_cons_succ]
      refine wpAnyT_quiet (i:=11) (v:=undef) rfl (by kernel_rfl) (by kernel_rfl) (by kernel_rfl) (fun _ _ _ h => h) (Or.inr ⟨by rfl,rfl⟩) ?_
      try simp only [Act.put,List.setIfInBounds_toArray,List.set_cons_zero,List.set_cons_succ]
      refine wpAnyT_quiet (i:=12) (v:=undef) rfl (by kernel_rfl) (by kernel_rfl) (by kernel_rfl) (fun _ _ _ h => h) (Or.inr ⟨by rfl,rfl⟩) ?_
      try simp only [Act.put,List.setIfInBounds_toArray,List.set_cons_zero,List.set_cons_succ]
      refine wpAnyT_quiet (i:=13) (v:=undef) rfl (by kernel_rfl) (by kernel_rfl) (by kernel_rfl) (fun _ _ _ h => h) (Or.inr ⟨by rfl,rfl⟩) ?_
      try simp only [Act.put,List.setIfInBounds_toArray,List.set_cons_zero,List.set_cons_succ]
      refine wpAnyT_quiet (i:=14) (v:=?_) rfl (by kernel_rfl) (by kernel_rfl) (by kernel_rfl) (fun _ _ _ h => h) (Or.inl ⟨by rfl,?_⟩) ?_
      rotate_left
      ·(intro w;go_simp;try with_reducible rfl)
      try simp only [Act.put,List.setIfInBounds_toArray,List.set_cons_zero,List.set_cons_succ]
      refine wpAnyT_quiet (i:=15) (v:=?_) rfl (by kernel_rfl) (by kernel_rfl) (by kernel_rfl) (fun _ _ _ h => h) (Or.inl ⟨by rfl,?_⟩) ?_
      rotate_left
      ·(intro w;go_simp;try with_reducible rfl)
      try simp only [Act.put,List.setIfInBounds_toArray,List.set_cons_zero,List.set_cons_succ]
      refine wpAnyT_done (by kernel_rfl) ?_ _
      go_wp2
      go_ret
      exact ⟨true,rfl,⟨fun _ => HR.out,fun _ => rfl⟩,HSR.out.2.trans (hfb3.mono HSR.out.2.size)⟩
     ·have hu':q.term.op=2 ∨ q.term.op=3:=by simpa using hu
      obtain ⟨hi64,mb,ma,hlast,hmb⟩:=HK.out.term b q HQ.out hu'
      have HU:Hid (∀ W,Calls Tryz.prog 194 #[.agg #[.int .i64 q.term.op,.int .i64 q.term.val,.slice TA q.term.to.length tc,.int .i64 q.term.n]] W fun e w' => e=.returned (.bool true) ∧ Below W.heap.size W w'):=hideI (fun W => by
       have:=usesValue_any q.term.op q.term.val q.term.n _ W TA q.term.to.length tc rfl
       rw [hu] at this
       exact this)
      have HI64:=hideI hi64
      have HLAST:=hideI hlast
      have HUU:=hideI hu'
      have HE:Hid (∀ W,Below wr.heap.size wr W → Calls Tryz.prog 193 #[.agg #[.slice P pl pc,.int .i64 f.arrays,.int .i64 f.cells,.slice (some ⟨b1,off,none⟩) n c],.int .i64 b] W fun e w' => e=.returned (.agg #[.int .i64 b,.int .i64 (nc:Int)]) ∧ Below W.heap.size W w'):=hideI (fun W hW => by
       have:=endOf_any f B (.slice P pl pc) _ b q W (HSR.out.1.kept (hW.mono HBN.out)).blk (Nat.le_trans HBN.out hW.size) HQ.out (by rw [← HN.out];exact hn5) P pl pc rfl
       rw [← HN.out,← HNC.out] at this
       exact this)
      have HC:Hid (∀ W,Below wr.heap.size wr W → Calls Tryz.prog 192 #[.agg #[.slice P pl pc,.int .i64 f.arrays,.int .i64 f.cells,.slice (some ⟨b1,off,none⟩) n c,.slice (some ⟨gF,0,none⟩) n n,.slice (some ⟨gL,0,none⟩) n n,.slice (some ⟨gp,0,none⟩) n n,.map (some M)],.int .i64 q.term.val,.agg #[.int .i64 b,.int .i64 (nc:Int)]] W fun e w' => e=.returned (.bool (aheadB F L (mb,ma) b nc)) ∧ Below W.heap.size W w'):=hideI (fun W hW => by
       have:=comesAhead_any f B (.slice P pl pc) _ gF gL gp M F L q.term.val mb b ma nc W (HSR.out.1.kept (hW.mono HBN.out)) (Nat.le_trans HBN.out hW.size) (by rw [← HN.out];exact hn5) HI64.out HLAST.out hmb (by rw [← HN.out];exact hbn) P pl pc rfl
       rw [← HN.out] at this
       exact this)
      obtain ⟨r,hr⟩:∃ r,r=aheadB F L (mb,ma) b nc:=⟨_,rfl⟩
      rw [← hr] at HC
      have HR:Hid (r=true ↔ UsesFit f F L b q):=by
       refine hideI ⟨fun e => ⟨HPA.out,HCA.out,fun _ m2 hm2 => ?_⟩,fun h => ?_⟩
       ·rw [HLAST.out] at hm2
        cases hm2
        rw [← HNC.out,← hr]
        exact e
       ·have:=h.term HUU.out (mb,ma) HLAST.out
        rw [← HNC.out,← hr] at this
        exact this
      clear hu hu' hi64 hlast hr
      go_wp2
      go_region_held3 (fun W => (∀ o,W.cell? ⟨w.heap.size,o,none⟩=(#[.slice P pl pc,.int .i64 f.arrays,.int .i64 f.cells,.slice (some ⟨b1,off,none⟩) n c,.slice (some ⟨gF,0,none⟩) n n,.slice (some ⟨gL,0,none⟩) n n,.slice (some ⟨gp,0,none⟩) n n,.map (some M)]:Array Value)[o]?) ∧ (∀ o,W.cell? ⟨w.heap.size + 1,o,none⟩=(#[.slice PA nq pc2,.slice CA nc cc,.int .i64 q.term.op,.int .i64 q.term.val,.slice TA q.term.to.length tc,.int .i64 q.term.n]:Array Value)[o]?)) (first | (with_reducible exact G0.out _ hfb5) | (with_reducible exact G0.out _ hfb4) | (with_reducible exact G0.out _ hfb3) | go_keep)
       (first
        | (go_at_call 194;(with_reducible refine (HU.out _).mono ?_);rintro e w3 ⟨rfl,hb3⟩;have hfb3:=(drew1_below (Below.refl wr.heap.size wr)).trans hb3)
        | (go_at_call 193;(with_reducible refine (HE.out _ hfb3).mono ?_);rintro e w4 ⟨rfl,hb4⟩;have hfb4:=hfb3.trans (hb4.mono hfb3.size))
        | (go_at_call 192;(with_reducible refine (HC.out _ hfb4).mono ?_);rintro e w5 ⟨rfl,hb5⟩;have hfb5:=hfb4.trans (hb5.mono hfb4.size)))
      go_wp2
      go_ret
      exact ⟨r,rfl,HR.out,HSR.out.2.trans (hfb5.mono HSR.out.2.size)⟩
end Go.Proofs.YtikogmpibkefdaaGreat

namespace Go.Proofs.YtikogmpibkefdaaGreat
open Go.RowKit Go.Maps
def IdomsPost (f:FuncM) (w:World) (e:Ending) (w':World):Prop :=
 ((lookM f).1 ≠ 0 ∧ e=.returned (.tuple #[.slice none 0 0,.int .i64 (lookM f).1]) ∧ Below w.heap.size w w') ∨
 ((lookM f).1=0 ∧ ∃ (o:List Nat) (pl:Nat → Nat) (par:Nat → Option Nat) (capo gi:Nat),e=.returned (.tuple #[.slice (some ⟨gi,0,none⟩) f.blocks.length f.blocks.length,.int .i64 0]) ∧ Flows f o pl capo ∧ Done (succM f.blocks) o pl par ∧ w'.ownsRow w.heap.size 3 1 (.slice (some ⟨gi,0,none⟩) f.blocks.length f.blocks.length) f.blocks.length (tops f.blocks.length par) ∧ Below w.heap.size w w')
set_option maxRecDepth 100000 in
set_option maxHeartbeats 1000000 in
theorem idoms_any (f:FuncM) (B:Nat) (pv bv:Value) (w:World) (hpv:Ints w B pv f.params) (hbv:BlocksR w B bv f.blocks) (hB:B ≤ w.heap.size) (hid:∀ u ∈ usesM f,I64 u.1) :
  Calls Tryz.prog 125 #[.agg #[pv,.int .i64 f.arrays,.int .i64 f.cells,bv]] w (IdomsPost f w):=by
 have HP:=hideI hpv
 have HBL:=hideI hbv
 have HID:=hideI hid
 obtain ⟨P,pc,rfl,_⟩:=hpv
 obtain ⟨A,c,rfl,hbm,_⟩:=hbv
 have HB0:Hid (Below w.heap.size w (w.alloc (.cells #[.slice P f.params.length pc,.int .i64 f.arrays,.int .i64 f.cells,.slice A f.blocks.length c] 25))):=(Below.refl _ w).alloc (Nat.le_refl _) _
 have HT:=hideI (treeOf_any f B _ _ (w.alloc (.cells #[.slice P f.params.length pc,.int .i64 f.arrays,.int .i64 f.cells,.slice A f.blocks.length c] 25)) (HP.out.keeps (Keeps.of_below (HB0.out.mono hB))) (HBL.out.keeps (Keeps.of_below (HB0.out.mono hB))) (by simp;omega) HID.out)
 clear hid
 by_cases h0:(lookM f).1=0
 ·have H0:=hideI h0
  clear h0
  go_enter Tryz.func125,Tryz.ntmps125
  go_wp2_with (go_at_call 189;go_must (refine HT.out.mono ?_);rintro e w1 (⟨hbad,_⟩ | ⟨_,o,pl,par,B1,gp,vs,go,capo,gl,gi,rfl,hfs,hdone,htree,hlow,hb1⟩);(exact absurd H0.out hbad);have HFS:=hideI hfs;have HDONE:=hideI hdone;have HTREE:=hideI htree;have HB1:=hideI (HB0.out.trans (hb1.mono (by simp)));have hl1:w.heap.size ≤ B1:=(by simp at hlow;omega);clear hfs hdone htree hb1 hlow)
  go_ret2
  exact .inr ⟨H0.out,o,pl,par,capo,gi,rfl,HFS.out,HDONE.out,World.ownsRow.mono ((World.ownsRow.alloc HTREE.out.idoms _)) hl1,HB1.out.alloc HB1.out.size _⟩
 ·have H0:=hideI h0
  have hb:((lookM f).1 != 0)=true:=by simpa using h0
  clear h0
  go_enter Tryz.func125,Tryz.ntmps125
  go_wp2_with (go_at_call 189;go_must (refine HT.out.mono ?_);rintro e w1 (⟨_,rfl,hb1⟩ | ⟨hbad,_⟩);rotate_left;(exact absurd hbad H0.out);have HB1:=hideI (HB0.out.trans (hb1.mono (by simp)));clear hb1)
  go_ret2
  exact .inl ⟨H0.out,rfl,HB1.out.alloc HB1.out.size _⟩
end Go.Proofs.YtikogmpibkefdaaGreat

namespace Go.Proofs.YtikogmpibkefdaaGreat
open Go.RowKit Go.Maps
def SfPost (f:FuncM) (pv bv:Value) (w:World) (e:Ending) (w':World):Prop :=
 ((lookM f).1 ≠ 0 ∧ e=.returned (.tuple #[.agg #[.slice none 0 0,.int .i64 0,.int .i64 0,.slice none 0 0,.slice none 0 0,.slice none 0 0,.slice none 0 0,.map none],.int .i64 (lookM f).1]) ∧ Below w.heap.size w w') ∨
 ((lookM f).1=0 ∧ ∃ (o:List Nat) (pl:Nat → Nat) (par:Nat → Option Nat) (capo gF gL gp M:Nat) (F L:Nat → Int),
  e=.returned (.tuple #[.agg #[pv,.int .i64 f.arrays,.int .i64 f.cells,bv,.slice (some ⟨gF,0,none⟩) f.blocks.length f.blocks.length,.slice (some ⟨gL,0,none⟩) f.blocks.length f.blocks.length,.slice (some ⟨gp,0,none⟩) f.blocks.length f.blocks.length,.map (some M)],.int .i64 0]) ∧
  Flows f o pl capo ∧ Done (succM f.blocks) o pl par ∧ Numbered o par F L ∧ SF w' w'.heap.size f bv gF gL gp M F L ∧ Below w.heap.size w w')
theorem grown_set (w:World) (X o:Nat) (u:Value):w.grownBy (w.setCell ⟨X,o,none⟩ u) (some X):=by
 have h:Below 0 w (w.setCell ⟨X,o,none⟩ u):=(Below.refl 0 w).setCell (Nat.zero_le _) _
 exact ⟨h.os,h.tape,h.output,h.size,fun i _ hne => heap_setCell_other w ⟨X,o,none⟩ i _ (fun e => hne (by rw [e]))⟩
theorem sf_make {f:FuncM} {bv:Value} {w w':World} {B X g gF gL gp M:Nat} {F L:Nat → Int} {vs:List Value} (hg:w.grownBy w' (some X)) (hbl:BlocksR w B bv f.blocks) (hBX:B ≤ X) (hX:X < w.heap.size) (hn5:f.blocks.length ≤ 512)
  (hoF:w.ownsRow (X + 1) 3 1 (.slice (some ⟨gF,0,none⟩) f.blocks.length f.blocks.length) f.blocks.length (numsL f.blocks.length F)) (hoL:w.ownsRow (X + 1) 3 1 (.slice (some ⟨gL,0,none⟩) f.blocks.length f.blocks.length) f.blocks.length (numsL f.blocks.length L))
  (hls:Lists w g gp f.blocks.length vs (predsAt f.blocks f.blocks.length f.blocks.length 0)) (hgX:X < g) (hM:X < M) (hpl:PlacesAt w M (placedM f)):SF w' w'.heap.size f bv gF gL gp M F L:=by
 have hF':=hoF.kept hg (.inr (by have:=(hoF.lt gF rfl).1;simp [Value.ownBlock];omega))
 have hL':=hoL.kept hg (.inr (by have:=(hoL.lt gL rfl).1;simp [Value.ownBlock];omega))
 have hgp:=hls.lt
 have hR':=hls.row.kept hg (.inr (by simp [Value.ownBlock];omega))
 have hs:=hg.size
 refine ⟨((hbl.keeps (Keeps.of_grown hg hBX (by omega))).more' (by omega)),(hF'.lt gF rfl).2,(hL'.lt gL rfl).2,(hR'.lt gp rfl).2,?_,fun b hb => ?_,fun b hb => ?_,fun b hb => ?_,?_⟩
 ·have:=hpl.lt
  omega
 ·rw [World.ownsRow.cellAt hF' b (by omega),numsL_at hb]
 ·rw [World.ownsRow.cellAt hL' b (by omega),numsL_at hb]
 ·obtain ⟨v,hv⟩:∃ v,vs[b]?=some v:=⟨_,List.getElem?_eq_getElem (by rw [hls.vl];exact hb)⟩
  have hl:(predsAt f.blocks f.blocks.length f.blocks.length 0)[b]?=some (predsTo f.blocks f.blocks.length b):=by rw [predsAt_at hb];simp
  have ho:=(hls.own b v _ hv hl).kept hg (by
   cases e:v.ownBlock with
   | none => exact .inl rfl
   | some k => exact .inr (by have:=((hls.own b v _ hv hl).lt k e).1;simp;omega))
  exact ⟨v,by rw [World.ownsRow.cellAt hR' b (by omega)];exact hv,nat_ints ho (by have:=predsTo_len f.blocks f.blocks.length b;omega)⟩
 ·obtain ⟨D,h1,h2⟩:=hpl
  exact ⟨D,h1.kept hg (by simp;omega),h2⟩
theorem look_fewv {f:FuncM} (h:(lookM f).1=0):FewV f:=by
 have hf:=look_formed h
 unfold formedM at hf
 split at hf
 ·rename_i hl
  simp only [Bool.and_eq_true] at hl
  have:=limits_bd hl.1.1
  exact ⟨this.1,this.2.2.2.2.2.2.2⟩
 ·cases hf
set_option maxRecDepth 100000 in
set_option maxHeartbeats 4000000 in
theorem functionOf_any (f:FuncM) (B:Nat) (pv bv:Value) (w:World) (hpv:Ints w B pv f.params) (hbv:BlocksR w B bv f.blocks) (hB:B ≤ w.heap.size) (hid:∀ u ∈ usesM f,I64 u.1) :
  Calls Tryz.prog 80 #[.agg #[pv,.int .i64 f.arrays,.int .i64 f.cells,bv]] w (SfPost f pv bv w):=by
 have HP:=hideI hpv
 have HBL:=hideI hbv
 have HID:=hideI hid
 obtain ⟨P,pc,rfl,_⟩:=hpv
 obtain ⟨A,c,rfl,hbm,_⟩:=hbv
 obtain ⟨W0,hW0⟩:∃ W0:World,W0=(w.alloc (.cells #[.slice P f.params.length pc,.int .i64 f.arrays,.int .i64 f.cells,.slice A f.blocks.length c] 25)).alloc (.cells #[.slice none 0 0,.int .i64 0,.int .i64 0,.slice none 0 0,.slice none 0 0,.slice none 0 0,.slice none 0 0,.map none] 132):=⟨_,rfl⟩
 have hB0:Below w.heap.size w W0:=by rw [hW0];exact ((Below.refl _ w).alloc (Nat.le_refl _) _).alloc (by simp) _
 have hs0:W0.heap.size=w.heap.size + 2:=by rw [hW0];simp
 have hX0:W0.heap[w.heap.size]?=some (.cells #[.slice P f.params.length pc,.int .i64 f.arrays,.int .i64 f.cells,.slice A f.blocks.length c] 25 (0,0)):=by
  rw [hW0,Below.heap_alloc _ _ _ (by simp)]
  exact heap_alloc_new w _
 have hX1:W0.heap[w.heap.size + 1]?=some (.cells #[.slice none 0 0,.int .i64 0,.int .i64 0,.slice none 0 0,.slice none 0 0,.slice none 0 0,.slice none 0 0,.map none] 132 (0,0)):=by
  rw [hW0]
  have:=heap_alloc_new (w.alloc (.cells #[.slice P f.params.length pc,.int .i64 f.arrays,.int .i64 f.cells,.slice A f.blocks.length c] 25)) (.cells #[.slice none 0 0,.int .i64 0,.int .i64 0,.slice none 0 0,.slice none 0 0,.slice none 0 0,.slice none 0 0,.map none] 132)
  simpa using this
 have HW0:=hideI hW0
 have HB0:=hideI hB0
 have HS0:=hideI hs0
 have HX0:=hideI hX0
 have HX1:=hideI hX1
 have HPW:Hid (∀ W,Below W0.heap.size W0 W → Ints W B (.slice P f.params.length pc) f.params ∧ BlocksR W B (.slice A f.blocks.length c) f.blocks ∧ Below w.heap.size w W ∧ B ≤ W.heap.size):=hideI (fun W hW => by
  have h1:Below w.heap.size w W:=HB0.out.trans (hW.mono (by rw [HS0.out];omega))
  exact ⟨HP.out.keeps (Keeps.of_below (h1.mono hB)),HBL.out.keeps (Keeps.of_below (h1.mono hB)),h1,Nat.le_trans hB h1.size⟩)
 clear hW0 hB0 hs0 hX0 hX1 hid
 by_cases h0:(lookM f).1=0
 ·have H0:=hideI h0
  have HI:=hideI (idoms_any f B _ _ W0 (HPW.out _ (Below.refl _ _)).1 (HPW.out _ (Below.refl _ _)).2.1 (HPW.out _ (Below.refl _ _)).2.2.2 HID.out)
  have hx0:=row_cells HX0.out rfl
  have r0:=hx0 0
  have r1:=hx0 1
  have r2:=hx0 2
  have r3:=hx0 3
  clear h0 hx0
  go_enter Tryz.func80,Tryz.ntmps80
  go_upto_region 1 with fail
  rw [← HW0.out]
  go_wp2_with (first
   | (go_at_call 125;go_must (refine HI.out.mono ?_);rintro e w1 (⟨hbad,_⟩ | ⟨_,o,pl,par,capo,gi,rfl,hfs,hdone,hown,hb1⟩);(exact absurd H0.out hbad);have HFS:=hideI hfs;have HDONE:=hideI hdone;have HOWN:=hideI hown;have HB1:=hideI hb1;clear hfs hdone hown hb1 r0 r1 r2 r3;have hx0:=row_cells HX0.out (HB1.out.block _ (lt_of_heap HX0.out));have r0:=hx0 0;have r1:=hx0 1;have r2:=hx0 2;have r3:=hx0 3;clear hx0)
   | (go_at_call 111;go_must (refine (gPreds_any f B _ _ _ (HPW.out _ HB1.out).1 (HPW.out _ HB1.out).2.1 (HPW.out _ HB1.out).2.2.2 HID.out).mono ?_);rintro e w2 (⟨hbad,_⟩ | ⟨_,gp,vs,rfl,hls,hb2⟩);(exact absurd H0.out hbad);have HLS:=hideI hls;have HB2:=hideI (HB1.out.trans (hb2.mono HB1.out.size));have HOWN2:=hideI (own_kept_below HOWN.out hb2 (fun k hk => (HOWN.out.lt k hk).2));clear hls hb2 r0 r1 r2 r3))
  have hn0:=HFS.out.n0
  have hn5:=HFS.out.n5
  have HFEW:=hideI (look_fewv H0.out)
  have HTR:Hid (∀ W,Below w2.heap.size w2 W → Calls Tryz.prog 126 #[.slice (some ⟨gi,0,none⟩) f.blocks.length f.blocks.length] W fun e w' => ∃ (gF gL:Nat) (F L:Nat → Int),e=.returned (.agg #[.slice (some ⟨gF,0,none⟩) f.blocks.length f.blocks.length,.slice (some ⟨gL,0,none⟩) f.blocks.length f.blocks.length]) ∧ Numbered o par F L ∧
   w'.ownsRow w2.heap.size 3 1 (.slice (some ⟨gF,0,none⟩) f.blocks.length f.blocks.length) f.blocks.length (numsL f.blocks.length F) ∧ w'.ownsRow w2.heap.size 3 1 (.slice (some ⟨gL,0,none⟩) f.blocks.length f.blocks.length) f.blocks.length (numsL f.blocks.length L) ∧ Below W.heap.size W w'):=hideI (fun W hW => by
   refine (sTree_any HFS.out.ord HDONE.out.tree HDONE.out.grown f.blocks.length hn0 hn5 HFS.out.range _ gi W (own_kept_below HOWN2.out hW (fun k hk => (HOWN2.out.lt k hk).2))).mono ?_
   rintro e w' ⟨gF,gL,F,L,rfl,h1,h2,h3,h4⟩
   exact ⟨gF,gL,F,L,rfl,h1,World.ownsRow.mono h2 hW.size,World.ownsRow.mono h3 hW.size,h4⟩)
  have HPL:Hid (∀ W,Below w2.heap.size w2 W → Calls Tryz.prog 127 #[.agg #[.slice P f.params.length pc,.int .i64 f.arrays,.int .i64 f.cells,.slice A f.blocks.length c]] W fun e w' => ∃ M,e=.returned (.map (some M)) ∧ w2.heap.size ≤ M ∧ PlacesAt w' M (placedM f) ∧ Below W.heap.size W w'):=hideI (fun W hW => by
   have h1:=HPW.out W (HB2.out.trans (hW.mono HB2.out.size))
   exact (places_any f B _ _ W h1.1 h1.2.1 h1.2.2.2 HFEW.out hn5).mono fun _ _ ⟨M,a,b,c,d⟩ => ⟨M,a,Nat.le_trans hW.size b,c,d⟩)
  have hlx:=lt_of_heap HX1.out
  have hs2:w.heap.size + 1 < w2.heap.size:=Nat.lt_of_lt_of_le hlx HB2.out.size
  have G0:Hid (∀ W,Below (w.heap.size + 1) w2 W → ∀ o,W.cell? ⟨w.heap.size,o,none⟩=(#[.slice P f.params.length pc,.int .i64 f.arrays,.int .i64 f.cells,.slice A f.blocks.length c]:Array Value)[o]?):=hideI (fun W hW => row_cells HX0.out ((hW.block _ (Nat.lt_succ_self _)).trans (HB2.out.block _ (lt_of_heap HX0.out))))
  have G1:Hid (∀ W,Below w2.heap.size w2 W → (∀ o,W.cell? ⟨w.heap.size + 1,o,none⟩=(#[.slice none 0 0,.int .i64 0,.int .i64 0,.slice none 0 0,.slice none 0 0,.slice none 0 0,.slice none 0 0,.map none]:Array Value)[o]?) ∧ (∀ o,W.frozen? ⟨w.heap.size + 1,o,none⟩=false)):=hideI (fun W hW => ⟨row_cells HX1.out ((HB2.out.trans (hW.mono HB2.out.size)).block _ (lt_of_heap HX1.out)),free_rowN HX1.out ((HB2.out.trans (hW.mono HB2.out.size)).block _ (lt_of_heap HX1.out))⟩)
  have g0:=G0.out w2 (Below.refl _ _)
  go_wp2
  go_region_held3 (fun W => ∀ o,W.cell? ⟨w.heap.size,o,none⟩=(#[.slice P f.params.length pc,.int .i64 f.arrays,.int .i64 f.cells,.slice A f.blocks.length c]:Array Value)[o]?)
   (first | (with_reducible exact G0.out _ (hfb.mono (Nat.le_of_lt hs2))) | (with_reducible exact G0.out _ (hfa.mono (Nat.le_of_lt hs2))) | (with_reducible exact G0.out _ (((((((((hfb.mono (Nat.le_of_lt hs2)).setCell (by simp) _).setCell (by simp) _).setCell (by simp) _).setCell (by simp) _).setCell (by simp) _).setCell (by simp) _).setCell (by simp) _).setCell (by simp) _)) | go_keep)
   (first
    | (go_at_call 126;(with_reducible refine (HTR.out _ (drew1_below (Below.refl _ _))).mono ?_);rintro e w3 ⟨gF,gL,F,L,rfl,hnum,hoF,hoL,hb3⟩;have hfa:=(drew1_below (Below.refl w2.heap.size w2)).trans hb3)
    | (go_at_call 127;(with_reducible refine (HPL.out _ (drew1_below (Below.refl _ _))).mono ?_);rintro e w3 ⟨M,rfl,hML,hpl,hb3⟩;have hfa:=(drew1_below (Below.refl w2.heap.size w2)).trans hb3)
    | (go_at_call 127;(with_reducible refine (HPL.out _ hfa).mono ?_);rintro e w4 ⟨M,rfl,hML,hpl,hb4⟩;have hfb:=hfa.trans (hb4.mono hfa.size);replace hoF:=own_kept_below hoF hb4 (fun k hk => (hoF.lt k hk).2);replace hoL:=own_kept_below hoL hb4 (fun k hk => (hoL.lt k hk).2);have hg1:=G1.out _ hfb;have s:=hg1.1;have z:=hg1.2;have s0:=s 0;have s1:=s 1;have s2:=s 2;have s3:=s 3;have s4:=s 4;have s5:=s 5;have s6:=s 6;have s7:=s 7;have z0:=z 0;have z1:=z 1;have z2:=z 2;have z3:=z 3;have z4:=z 4;have z5:=z 5;have z6:=z 6;have z7:=z 7;clear hg1 s z)
    | (go_at_call 126;(with_reducible refine (HTR.out _ hfa).mono ?_);rintro e w4 ⟨gF,gL,F,L,rfl,hnum,hoF,hoL,hb4⟩;have hfb:=hfa.trans (hb4.mono hfa.size);replace hpl:=hpl.below hb4 hpl.lt;have hg1:=G1.out _ hfb;have s:=hg1.1;have z:=hg1.2;have s0:=s 0;have s1:=s 1;have s2:=s 2;have s3:=s 3;have s4:=s 4;have s5:=s 5;have s6:=s 6;have s7:=s 7;have z0:=z 0;have z1:=z 1;have z2:=z 2;have z3:=z 3;have z4:=z 4;have z5:=z 5;have z6:=z 6;have z7:=z 7;clear hg1 s z))
  all_goals
   go_wp2
   refine bodyPost_ret (v:=.tuple #[.agg #[.slice P f.params.length pc,.int .i64 f.arrays,.int .i64 f.cells,.slice A f.blocks.length c,.slice (some ⟨gF,0,none⟩) f.blocks.length f.blocks.length,.slice (some ⟨gL,0,none⟩) f.blocks.length f.blocks.length,.slice (some ⟨gp,0,none⟩) f.blocks.length f.blocks.length,.map (some M)],.int .i64 0]) (by simp [results,Tryz.results80,go_sem,s0,s1,s2,s3,s4,s5,s6,s7]) rfl ?_
   refine .inr ⟨H0.out,o,pl,par,capo,gF,gL,gp,M,F,L,rfl,HFS.out,HDONE.out,hnum,?_,?_⟩
   ·exact sf_make (X:=w.heap.size + 1) ((((((((grown_set _ _ _ _).trans_grown (grown_set _ _ _ _)).trans_grown (grown_set _ _ _ _)).trans_grown (grown_set _ _ _ _)).trans_grown (grown_set _ _ _ _)).trans_grown (grown_set _ _ _ _)).trans_grown (grown_set _ _ _ _)).trans_grown (grown_set _ _ _ _)) (HPW.out _ (HB2.out.trans (hfb.mono HB2.out.size))).2.1 (by omega) (Nat.lt_of_lt_of_le hs2 hfb.size) hn5 (World.ownsRow.mono hoF hs2) (World.ownsRow.mono hoL hs2) (HLS.out.kept hfb) (Nat.lt_of_lt_of_le hlx HB1.out.size) (by omega) hpl
   ·have hbb:=(HPW.out _ (HB2.out.trans (hfb.mono HB2.out.size))).2.2.1
    exact (((((((hbb.setCell (by simp) _).setCell (by simp) _).setCell (by simp) _).setCell (by simp) _).setCell (by simp) _).setCell (by simp) _).setCell (by simp) _).setCell (by simp) _
 ·have H0:=hideI h0
  have hb:((lookM f).1 != 0)=true:=by simpa using h0
  have HI:=hideI (idoms_any f B _ _ W0 (HPW.out _ (Below.refl _ _)).1 (HPW.out _ (Below.refl _ _)).2.1 (HPW.out _ (Below.refl _ _)).2.2.2 HID.out)
  clear h0
  have hx0:=row_cells HX0.out rfl
  have r0:=hx0 0
  have r1:=hx0 1
  have r2:=hx0 2
  have r3:=hx0 3
  clear hx0
  go_enter Tryz.func80,Tryz.ntmps80
  go_upto_region 1 with fail
  rw [← HW0.out]
  go_wp2_with (go_at_call 125;go_must (refine HI.out.mono ?_);rintro e w1 (⟨_,rfl,hb1⟩ | ⟨hbad,_⟩);rotate_left;(exact absurd hbad H0.out);have HB1:=hideI hb1;have hl:=lt_of_heap HX1.out;have hx1:=row_cells HX1.out (hb1.block _ hl);have hz1:=free_rowN HX1.out (hb1.block _ hl);clear hb1;have s0:=hx1 0;have s1:=hx1 1;have s2:=hx1 2;have s3:=hx1 3;have s4:=hx1 4;have s5:=hx1 5;have s6:=hx1 6;have s7:=hx1 7;have z0:=hz1 0;have z1:=hz1 1;have z2:=hz1 2;have z3:=hz1 3;have z4:=hz1 4;have z5:=hz1 5;have z6:=hz1 6;have z7:=hz1 7;clear hx1 hz1)
  refine bodyPost_ret (v:=.tuple #[.agg #[.slice none 0 0,.int .i64 0,.int .i64 0,.slice none 0 0,.slice none 0 0,.slice none 0 0,.slice none 0 0,.map none],.int .i64 (lookM f).1]) (by simp [results,Tryz.results80,go_sem,s0,s1,s2,s3,s4,s5,s6,s7]) rfl (.inl ⟨H0.out,rfl,?_⟩)
  have hbb:=HB0.out.trans (HB1.out.mono (by rw [HS0.out];omega))
  exact (((((((hbb.setCell (by simp) _).setCell (by simp) _).setCell (by simp) _).setCell (by simp) _).setCell (by simp) _).setCell (by simp) _).setCell (by simp) _).setCell (by simp) _
end Go.Proofs.YtikogmpibkefdaaGreat
