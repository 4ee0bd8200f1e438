/- What CanonChecks rests on, part 15: LAround, StrictIs, LFunc, LNest, LForest, LLps, LFacts, CanonM, CShared. -/
import Derived.Test.YtaehbgppfahdeaaGreatPkCanonChecks14
import Derived.BigQuiet
import Derived.Deep.QuietTactic

namespace Go.Proofs.YtaehbgppfahdeaaGreat
open Go.RowKit Go.Maps
def noLp:LpM:=⟨0,[],[],[],0⟩
def lessB (ls:List LpM) (i:Nat) (a:Int) (k:Nat):Bool :=
 decide (k ≠ i) && (decide ((ls.getD i noLp).head ∈ (ls.getD k noLp).blocks) && (decide (a=-1) || decide ((ls.getD k noLp).blocks.length < (ls.getD a.toNat noLp).blocks.length)))
def arM (ls:List LpM) (i:Nat):Nat → Int
 | 0 => -1
 | k + 1 => if lessB ls i (arM ls i k) k=true then (k:Int) else arM ls i k
theorem arM_range (ls:List LpM) (i:Nat):∀ k,arM ls i k=-1 ∨ ∃ j:Nat,arM ls i k=(j:Int) ∧ j < k ∧ j ≠ i ∧ (ls.getD i noLp).head ∈ (ls.getD j noLp).blocks
 | 0 => .inl rfl
 | k + 1 => by
  unfold arM
  split
  ·rename_i h
   unfold lessB at h
   simp only [Bool.and_eq_true,decide_eq_true_eq] at h
   exact .inr ⟨k,rfl,Nat.lt_succ_self _,h.1,h.2.1⟩
  ·rcases arM_range ls i k with h | ⟨j,h1,h2,h3⟩
   ·exact .inl h
   ·exact .inr ⟨j,h1,by omega,h3⟩
theorem getD_some {ls:List LpM} {i:Nat} {x:LpM} (h:ls[i]?=some x):ls.getD i noLp=x:=by
 rw [List.getD_eq_getElem?_getD,h]
 rfl
def Rising (ls:List LpM):Prop:=∀ x ∈ ls,x.blocks.Pairwise (· < ·) ∧ x.blocks.length ≤ 512
theorem LoopsR.row_at {w:World} {base g cap n:Nat} {ls:List LpM} (h:LoopsR w base (.slice (some ⟨g,0,none⟩) n cap) ls) (hn:n=ls.length) {i:Nat} {lp:LpM} (hi:ls[i]?=some lp):∃ (b1 b2 b3:Value),g < w.heap.size ∧
  w.cell? ⟨g,i * 5,none⟩=some (.int .i64 (lp.head:Int)) ∧ w.cell? ⟨g,i * 5 + 1,none⟩=some b1 ∧ w.cell? ⟨g,i * 5 + 2,none⟩=some b2 ∧ w.cell? ⟨g,i * 5 + 3,none⟩=some b3 ∧ w.cell? ⟨g,i * 5 + 4,none⟩=some (.int .i64 lp.parent) ∧
  SubR w base (.slice (some ⟨g,0,none⟩) n cap) b1 lp.blocks ∧ SubR w base (.slice (some ⟨g,0,none⟩) n cap) b2 lp.latches ∧ SubR w base (.slice (some ⟨g,0,none⟩) n cap) b3 lp.exits ∧ ∀ o,w.frozen? ⟨g,o,none⟩=false:=by
 subst hn
 obtain ⟨g1,cap1,b1,b2,b3,e,_,k0,k⟩:=h.cells hi
 cases e
 exact ⟨b1,b2,b3,k0,k⟩
set_option maxRecDepth 100000 in
set_option maxHeartbeats 4000000 in
theorem lAround_any (ls:List LpM) (i base g cap:Nat) (p0 p1 p2 p3 p4 p5 p6:Value) (w:World) (hls:LoopsR w base (.slice (some ⟨g,0,none⟩) ls.length cap) ls) (hi:i < ls.length) (hr:Rising ls) (hlen:ls.length ≤ 512) :
  Calls Tryz.prog 212 #[.agg #[p0,p1,p2,p3,p4,p5,p6,.slice (some ⟨g,0,none⟩) ls.length cap],.int .i64 i] w fun e w' => e=.returned (.int .i64 (arM ls i ls.length)) ∧ Below w.heap.size w w':=by
 have HR:=hideI hr
 obtain ⟨W,hW⟩:∃ W:World,W=w.alloc (.cells #[p0,p1,p2,p3,p4,p5,p6,.slice (some ⟨g,0,none⟩) ls.length cap] 248):=⟨_,rfl⟩
 have HBW:Hid (Below w.heap.size w W):=by show Below _ _ _;rw [hW];exact (Below.refl _ _).alloc (Nat.le_refl _) _
 have HXW:Hid (W.heap[w.heap.size]?=some (.cells #[p0,p1,p2,p3,p4,p5,p6,.slice (some ⟨g,0,none⟩) ls.length cap] 248 (0,0))):=by show _=_;rw [hW];exact heap_alloc_new w _
 have hwW:w.heap.size < W.heap.size:=lt_of_heap HXW.out
 have HLW:=hideI (hls.kept HBW.out)
 have HW0:=hideI hW
 have hx:=row_cells HXW.out rfl
 have q7:=hx 7
 obtain ⟨y,hy⟩:∃ y,ls[i]?=some y:=⟨_,List.getElem?_eq_getElem hi⟩
 have HY:=hideI hy
 clear hls hW hx hr hy
 go_enter Tryz.func212,Tryz.ntmps212
 go_upto_region 1 with fail
 rw [← HW0.out]
 go_wp2
 clear q7
 go_loopw [5,13] (fun vo u wr => ∃ k:Nat,vo=.int .i64 (arM ls i k) ∧ k ≤ ls.length ∧ u=.int .i64 k ∧ Hid (Below W.heap.size W wr)) (fun _ u _ => ls.length - (intOf u).toNat)
 case atStart => exact ⟨0,rfl,Nat.zero_le _,rfl,hideI (Below.refl _ _)⟩
 case round =>
  obtain ⟨k,rfl,hk,rfl,HBr⟩:=hrel
  by_cases hlt:k < ls.length
  ·obtain ⟨x,hx⟩:∃ x,ls[k]?=some x:=⟨_,List.getElem?_eq_getElem hlt⟩
   have HX:=hideI hx
   have HLr:=hideI (HLW.out.kept HBr.out)
   obtain ⟨b1,b2,b3,hgl,r0,r1,r2,r3,r4,s1,s2,s3,hfz⟩:=HLr.out.row_at rfl hx
   have HRX:=hideI (HR.out x (List.mem_of_getElem? hx))
   obtain ⟨A1,c1,rfl⟩:=own_sl s1.1
   obtain ⟨A2,c2,rfl⟩:=own_sl s2.1
   obtain ⟨A3,c3,rfl⟩:=own_sl s3.1
   have HI1:=hideI (s1.ints (by have:=HRX.out.2;omega))
   obtain ⟨_,_,_,_,y0,_⟩:=HLr.out.row_at rfl HY.out
   clear s1 s2 s3 hx hfz
   obtain ⟨wa,hwa⟩:∃ wa:World,wa=wr.alloc (.cells #[.int .i64 (x.head:Int),.slice A1 x.blocks.length c1,.slice A2 x.latches.length c2,.slice A3 x.exits.length c3,.int .i64 x.parent] 88):=⟨_,rfl⟩
   have HBA:Hid (Below wr.heap.size wr wa):=by show Below _ _ _;rw [hwa];exact (Below.refl _ _).alloc (Nat.le_refl _) _
   have HBWA:Hid (Below W.heap.size W wa):=HBr.out.trans (HBA.out.mono HBr.out.size)
   have HWA:=hideI hwa
   have hca:=row_cells (by rw [hwa];exact heap_alloc_new wr _:wa.heap[wr.heap.size]?=some (.cells #[.int .i64 (x.head:Int),.slice A1 x.blocks.length c1,.slice A2 x.latches.length c2,.slice A3 x.exits.length c3,.int .i64 x.parent] 88 (0,0))) rfl
   have a1:=hca 1
   have hxr:=row_cells HXW.out (HBWA.out.block _ hwW)
   have g7:=hxr 7
   have ya:=(HBA.out.cell (p:=⟨g,i * 5,none⟩) hgl).trans y0
   clear hwa hca hxr y0
   go_upto_region 5 with fail
   rw [← HWA.out]
   obtain ⟨a,ha⟩:∃ a,a=arM ls i k:=⟨_,rfl⟩
   rw [← ha]
   have HA:=hideI ha
   have HRG:=hideI (arM_range ls i k)
   rw [← ha] at HRG
   have hS0:=And.intro a1 (And.intro g7 ya)
   have hdx:decide ((y.head:Int) ∈ x.blocks.map fun (x:Nat) => (x:Int))=decide (y.head ∈ x.blocks):=by simp only [mem_nat]
   obtain ⟨r,hr⟩:∃ r,r=decide (y.head ∈ x.blocks):=⟨_,rfl⟩
   rw [← hr] at hdx
   have hI:Ints wa.drew wa.drew.heap.size (.slice A1 x.blocks.length c1) (x.blocks.map fun (x:Nat) => (x:Int)):=((HI1.out.keep HBA.out).more HBA.out.size)
   have HBS:=hideI (bs_any (x.blocks.map fun (x:Nat) => (x:Int)) _ _ (y.head:Int) wa.drew hI (List.pairwise_map.2 (HRX.out.1.imp fun h => by omega)) (by rw [List.length_map];exact HRX.out.2))
   have HDX:=hideI hdx
   have HRR:=hideI hr
   have HLA:=hideI (HLW.out.kept HBWA.out)
   have HLB:Hid (∀ b:Bool,lessB ls i a k=b ↔ (decide (k ≠ i) && (r && (decide (a=-1) || decide (x.blocks.length < (ls.getD a.toNat noLp).blocks.length))))=b):=fun b => by
    unfold lessB
    rw [getD_some HX.out,getD_some HY.out,← HRR.out]
   clear ha hdx hr hI
   refine wp_region_late (by kernel_rfl) (fun W => W.cell? ⟨wr.heap.size,1,none⟩=some (.slice A1 x.blocks.length c1) ∧ W.cell? ⟨w.heap.size,7,none⟩=some (.slice (some ⟨g,0,none⟩) ls.length cap) ∧ W.cell? ⟨g,i * 5,none⟩=some (.int .i64 (y.head:Int))) [] ?_
   refine wpAnyT_quiet (i:=0) (v:=?_) rfl (by kernel_rfl) (by kernel_rfl) (by kernel_rfl) (fun _ _ _ h => h) (Or.inl ⟨by rfl,?_⟩) ?_
   rotate_left
   ·(intro w;go_simp;try with_reducible rfl)
   try simp only [Act.put,List.setIfInBounds_toArray,List.set_cons_zero,List.set_cons_succ]
   refine wpAnyT_take [] (i:=1) (v:=?_) rfl (by kernel_rfl) (by kernel_rfl) (by kernel_rfl) (by kernel_rfl) (by kernel_rfl) (by kernel_rfl) (fun _ _ _ h => h) hS0 (Or.inl ⟨by rfl,?_⟩) ?_
   rotate_left
   ·(intro w hSw;go_split_ands;go_simp;try with_reducible rfl)
   try simp only [Act.put,List.setIfInBounds_toArray,List.set_cons_zero,List.set_cons_succ]
   refine wpAnyT_quiet (i:=2) (v:=?_) rfl (by kernel_rfl) (by kernel_rfl) (by kernel_rfl) (fun _ _ _ h => h) (Or.inl ⟨by rfl,?_⟩) ?_
   rotate_left
   ·(intro w;go_simp;try with_reducible rfl)
   try simp only [Act.put,List.setIfInBounds_toArray,List.set_cons_zero,List.set_cons_succ]
   refine wpAnyT_take [] (i:=3) (v:=?_) rfl (by kernel_rfl) (by kernel_rfl) (by kernel_rfl) (by kernel_rfl) (by kernel_rfl) (by kernel_rfl) (fun _ _ _ h => h) hS0 (Or.inl ⟨by rfl,?_⟩) ?_
   rotate_left
   ·(intro w hSw;go_split_ands;go_simp;try with_reducible rfl)
   try simp only [Act.put,List.setIfInBounds_toArray,List.set_cons_zero,List.set_cons_succ]
   refine wpAnyT_quiet (i:=4) (v:=?_) rfl (by kernel_rfl) (by kernel_rfl) (by kernel_rfl) (fun _ _ _ h => h) (Or.inl ⟨by rfl,?_⟩) ?_
   rotate_left
   ·(intro w;go_simp;try with_reducible rfl)
   try simp only [Act.put,List.setIfInBounds_toArray,List.set_cons_zero,List.set_cons_succ]
   refine wpAnyT_quiet (i:=5) (v:=?_) rfl (by kernel_rfl) (by kernel_rfl) (by kernel_rfl) (fun _ _ _ h => h) (Or.inl ⟨by rfl,?_⟩) ?_
   rotate_left
   ·(intro w;go_simp;try with_reducible rfl)
   try simp only [Act.put,List.setIfInBounds_toArray,List.set_cons_zero,List.set_cons_succ]
   refine wpAnyT_quiet (i:=6) (v:=?_) rfl (by kernel_rfl) (by kernel_rfl) (by kernel_rfl) (fun _ _ _ h => h) (Or.inl ⟨by rfl,?_⟩) ?_
   rotate_left
   ·(intro w;go_simp;try with_reducible rfl)
   try simp only [Act.put,List.setIfInBounds_toArray,List.set_cons_zero,List.set_cons_succ]
   refine wpAnyT_take [] (i:=7) (v:=?_) rfl (by kernel_rfl) (by kernel_rfl) (by kernel_rfl) (by kernel_rfl) (by kernel_rfl) (by kernel_rfl) (fun _ _ _ h => h) hS0 (Or.inl ⟨by rfl,?_⟩) ?_
   rotate_left
   ·(intro w hSw;go_split_ands;go_simp;try with_reducible rfl)
   try simp only [Act.put,List.setIfInBounds_toArray,List.set_cons_zero,List.set_cons_succ]
   refine wpAnyT_ready (rs:=[8]) (by kernel_rfl) (by simp) ?_
   refine AllReadyT.cons rfl (fun K hK => ?_) ?_
   ·go_simp
    refine HBS.out.mono ?_
    rintro e w3 ⟨pp,rfl,rfl⟩
    rw [HDX.out]
    refine hK.out _ _ (fun _ h => h) ?_
    clear hK K
    try simp only [Act.put,List.setIfInBounds_toArray,List.set_cons_zero,List.set_cons_succ]
    refine wpAnyT_quiet (i:=9) (v:=?_) rfl (by kernel_rfl) (by kernel_rfl) (by kernel_rfl) (fun _ _ _ h => h) (Or.inl ⟨by rfl,?_⟩) ?_
    rotate_left
    ·(intro w;go_simp;try with_reducible rfl)
    try simp only [Act.put,List.setIfInBounds_toArray,List.set_cons_zero,List.set_cons_succ]
    refine wpAnyT_quiet (i:=10) (v:=?_) rfl (by kernel_rfl) (by kernel_rfl) (by kernel_rfl) (fun _ _ _ h => h) (Or.inl ⟨by rfl,?_⟩) ?_
    rotate_left
    ·(intro w;go_simp;try with_reducible rfl)
    try simp only [Act.put,List.setIfInBounds_toArray,List.set_cons_zero,List.set_cons_succ]
    refine wpAnyT_quiet (i:=11) (v:=?_) rfl (by kernel_rfl) (by kernel_rfl) (by kernel_rfl) (fun _ _ _ h => h) (Or.inl ⟨by rfl,?_⟩) ?_
    rotate_left
    ·(intro w;go_simp;try with_reducible rfl)
    try simp only [Act.put,List.setIfInBounds_toArray,List.set_cons_zero,List.set_cons_succ]
    refine wpAnyT_quiet (i:=12) (v:=?_) rfl (by kernel_rfl) (by kernel_rfl) (by kernel_rfl) (fun _ _ _ h => h) (Or.inl ⟨by rfl,?_⟩) ?_
    rotate_left
    ·(intro w;go_simp;try with_reducible rfl)
    try simp only [Act.put,List.setIfInBounds_toArray,List.set_cons_zero,List.set_cons_succ]
    refine wpAnyT_quiet (i:=13) (v:=?_) rfl (by kernel_rfl) (by kernel_rfl) (by kernel_rfl) (fun _ _ _ h => h) (Or.inl ⟨by rfl,?_⟩) ?_
    rotate_left
    ·(intro w;go_simp;try with_reducible rfl)
    try simp only [Act.put,List.setIfInBounds_toArray,List.set_cons_zero,List.set_cons_succ]
    refine wpAnyT_done (by kernel_rfl) ?_ _
    clear hS0
    by_cases hki:k=i
    ·have e1:((k:Int) != (i:Int))=false:=by rw [hki];simp
     have hlb:lessB ls i a k=false:=by rw [HLB.out];simp [hki]
     have HN:Hid (arM ls i (k + 1)=a):=by
      show (if lessB ls i (arM ls i k) k=true then (k:Int) else arM ls i k)=_
      rw [← HA.out,hlb]
      rfl
     clear hki hlb
     go_wp2_with fail
     go_quiet (fail)
     go_wp2
     go_roundw
     case rel => exact ⟨k + 1,by rw [HN.out],by omega,by go_num,hideI (drew_below HBWA.out _)⟩
     case measure => simp [intOf];omega
    ·have e1:((k:Int) != (i:Int))=true:=by rw [bne_iff_ne];omega
     cases r with
     | false =>
      have hlb:lessB ls i a k=false:=by rw [HLB.out];simp
      have HN:Hid (arM ls i (k + 1)=a):=by
       show (if lessB ls i (arM ls i k) k=true then (k:Int) else arM ls i k)=_
       rw [← HA.out,hlb]
       rfl
      clear hki hlb
      go_wp2_with fail
      go_quiet (fail)
      go_wp2
      go_roundw
      case rel => exact ⟨k + 1,by rw [HN.out],by omega,by go_num,hideI (drew_below HBWA.out _)⟩
      case measure => simp [intOf];omega
     | true =>
      by_cases ham:a=-1
      ·have e2:(a == -1)=true:=by rw [ham];rfl
       have hlb:lessB ls i a k=true:=by rw [HLB.out];simp [hki,ham]
       have HN:Hid (arM ls i (k + 1)=(k:Int)):=by
        show (if lessB ls i (arM ls i k) k=true then (k:Int) else arM ls i k)=_
        rw [← HA.out,hlb]
        rfl
       clear hki hlb ham
       go_wp2_with fail
       go_quiet (fail)
       go_wp2
       go_roundw
       case rel => exact ⟨k + 1,by rw [HN.out],by omega,by go_num,hideI (drew_below HBWA.out _)⟩
       case measure => simp [intOf];omega
      ·obtain ⟨j,rfl,hjk,hji,_⟩:=HRG.out.resolve_left ham
       have e2:((j:Int) == -1)=false:=by rw [beq_eq_false_iff_ne];omega
       have hjl:j < ls.length:=by omega
       obtain ⟨z,hz⟩:∃ z,ls[j]?=some z:=⟨_,List.getElem?_eq_getElem hjl⟩
       obtain ⟨d1,_,_,_,_,z1,_,_,_,t1,_⟩:=HLA.out.row_at rfl hz
       obtain ⟨AZ,cz,rfl⟩:=own_sl t1.1
       have HZ:=hideI (getD_some hz)
       obtain ⟨nz,hnz⟩:∃ nz,nz=z.blocks.length:=⟨_,rfl⟩
       obtain ⟨nx,hnx⟩:∃ nx,nx=x.blocks.length:=⟨_,rfl⟩
       rw [← hnz] at z1
       rw [← hnx] at a1 ⊢
       have hnn:nx ≤ 512 ∧ nz ≤ 512:=⟨by rw [hnx];exact HRX.out.2,by rw [hnz];exact (HR.out z (List.mem_of_getElem? hz)).2⟩
       have HNZ:=hideI hnz
       have HNX:=hideI hnx
       obtain ⟨hn1,hn2⟩:=hnn
       clear t1 hz ham hnz hnx
       by_cases hlz:nx < nz
       ·have hlb:lessB ls i (j:Int) k=true:=by rw [HLB.out,Int.toNat_natCast,HZ.out,← HNZ.out,← HNX.out];simp [hki,hlz]
        have HN:Hid (arM ls i (k + 1)=(k:Int)):=by
         show (if lessB ls i (arM ls i k) k=true then (k:Int) else arM ls i k)=_
         rw [← HA.out,hlb]
         rfl
        clear hki hlb
        go_wp2_with fail
        go_quiet (fail)
        go_wp2
        go_roundw
        case rel => exact ⟨k + 1,by rw [HN.out],by omega,by go_num,hideI (drew_below HBWA.out _)⟩
        case measure => simp [intOf];omega
       ·have hlb:lessB ls i (j:Int) k=false:=by rw [HLB.out,Int.toNat_natCast,HZ.out,← HNZ.out,← HNX.out];simp [hlz];try omega
        have HN:Hid (arM ls i (k + 1)=(j:Int)):=by
         show (if lessB ls i (arM ls i k) k=true then (k:Int) else arM ls i k)=_
         rw [← HA.out,hlb]
         rfl
        clear hki hlb
        go_wp2_with fail
        go_quiet (fail)
        go_wp2
        go_roundw
        case rel => exact ⟨k + 1,by rw [HN.out],by omega,by go_num,hideI (drew_below HBWA.out _)⟩
        case measure => simp [intOf];omega
   ·exact AllReadyT.nil
  ·have hkl:k=ls.length:=by omega
   subst hkl
   go_wp2
   go_ret
   exact ⟨rfl,HBW.out.trans (HBr.out.mono (Nat.le_of_lt hwW))⟩
end Go.Proofs.YtaehbgppfahdeaaGreat

namespace Go.Proofs.YtaehbgppfahdeaaGreat
open Go.RowKit
structure StrictM (f:FuncM) (o:List Nat):Prop where
 look:(lookM f).1=0
 order:OrderIs f.blocks o
 come:∀ b,b < f.blocks.length → b ∈ o
 phis:∀ b,b < f.blocks.length → phisR f b
 uses:∀ b,b < f.blocks.length → usesPR f o b
theorem strict_of {f:FuncM} {x:Int} (h:CheckIs f (x,0)):x=0 ∧ ∃ o,StrictM f o:=by
 rcases h with ⟨h1,h2⟩ | ⟨h0,o,ho,hf⟩
 ·have:=(Prod.mk.inj h2).2
  exact absurd this.symm h1
 ·rcases hf with ⟨b,_,e⟩ | ⟨_,b,_,e⟩ | ⟨_,_,b,_,e⟩ | ⟨a0,a1,a2,e⟩
  ·exact absurd (Prod.mk.inj e).2 (by decide)
  ·exact absurd (Prod.mk.inj e).2 (by decide)
  ·exact absurd (Prod.mk.inj e).2 (by decide)
  ·exact ⟨(Prod.mk.inj e).1,o,h0,ho,a0,a1,a2⟩
theorem StrictM.check {f:FuncM} {o:List Nat} {r:Int × Int} (h:StrictM f o) (k:CheckIs f r):r=(0,0) :=
 k.one (.inr ⟨h.look,o,h.order,.inr (.inr (.inr ⟨h.come,h.phis,h.uses,rfl⟩))⟩)
end Go.Proofs.YtaehbgppfahdeaaGreat

namespace Go.Proofs.YtaehbgppfahdeaaGreat
open Go.RowKit Go.Maps
structure LoopsOf (f:FuncM) (o:List Nat) (pl:Nat → Nat) (par:Nat → Option Nat) (D L:Nat → Nat → Bool):Prop where
 strict:StrictM f o
 ok:LoopOk f.blocks o pl par D L
theorem lorder_len {bs:List BlockM} {o:List Nat} (ho:OrderIs bs o) (hr:∀ x ∈ o,x < bs.length) (hA:AllIn bs o):o.length=bs.length:=by
 have h1:=below_len _ _ ho.facts.2.1 hr
 have h2:=sub_len ((List.range bs.length).map fun (x:Nat) => (x:Int)) (o.map fun (x:Nat) => (x:Int)) (List.pairwise_map.2 (List.nodup_range.imp fun h e => h (by omega))) (fun x hx => by
  obtain ⟨y,hy,rfl⟩:=List.mem_map.1 hx
  exact List.mem_map.2 ⟨y,hA y (by simpa using hy),rfl⟩)
 rw [List.length_map,List.length_map,List.length_range] at h2
 omega
def LfPost (f:FuncM) (pv bv:Value) (w:World) (e:Ending) (w':World):Prop :=
 (∃ x y:Int,CheckIs f (x,y) ∧ y ≠ 0 ∧ e=.returned (.tuple #[.agg #[.slice none 0 0,.int .i64 0,.int .i64 0,.slice none 0 0,.slice none 0 0,.slice none 0 0,.slice none 0 0],.int .i64 y]) ∧ Below w.heap.size w w') ∨
 (∃ (o:List Nat) (pl:Nat → Nat) (par:Nat → Option Nat) (D L:Nat → Nat → Bool) (gp:Nat) (vs:List Value) (gi gl:Nat),LoopsOf f o pl par D L ∧ e=.returned (.tuple #[.agg #[pv,.int .i64 f.arrays,.int .i64 f.cells,bv,.slice (some ⟨gp,0,none⟩) f.blocks.length f.blocks.length,.slice (some ⟨gi,0,none⟩) f.blocks.length f.blocks.length,.slice (some ⟨gl,0,none⟩) f.blocks.length f.blocks.length],.int .i64 0]) ∧ LfAt w' (w.heap.size + 2) f.blocks o pl par gp vs gi gl ∧ Below w.heap.size w w')
set_option maxRecDepth 100000 in
set_option maxHeartbeats 4000000 in
theorem lFunc_any (f:FuncM) (B:Nat) (pv bv:Value) (w:World) (hpv:Ints w B pv f.params) (hbv:BlocksR w B bv f.blocks) (hB:B ≤ w.heap.size) (hid:∀ u ∈ usesM f,I64 u.1) :
  Calls Tryz.prog 209 #[.agg #[pv,.int .i64 f.arrays,.int .i64 f.cells,bv]] w (LfPost f pv bv w):=by
 have HP:=hideI hpv
 have HBL:=hideI hbv
 have HID:=hideI hid
 obtain ⟨P,pc,rfl,_⟩:=hpv
 obtain ⟨A,c,rfl,hbm,_⟩:=hbv
 obtain ⟨W0,hW0⟩:∃ W0,W0=(w.alloc (.cells #[.slice P f.params.length pc,.int .i64 f.arrays,.int .i64 f.cells,.slice A f.blocks.length c] 25)).alloc (.cells #[.slice none 0 0,.int .i64 0,.int .i64 0,.slice none 0 0,.slice none 0 0,.slice none 0 0,.slice none 0 0] 246):=⟨_,rfl⟩
 have hB0:Below w.heap.size w W0:=by rw [hW0];exact ((Below.refl _ w).alloc (Nat.le_refl _) _).alloc (by simp) _
 have hs0:W0.heap.size=w.heap.size + 2:=by rw [hW0];simp
 have hbox:W0.heap[w.heap.size]?=some (.cells #[.slice P f.params.length pc,.int .i64 f.arrays,.int .i64 f.cells,.slice A f.blocks.length c] 25 (0,0)):=by
  rw [hW0,Below.heap_alloc _ _ _ (by simp)]
  exact heap_alloc_new w _
 have hres:W0.heap[w.heap.size + 1]?=some (.cells #[.slice none 0 0,.int .i64 0,.int .i64 0,.slice none 0 0,.slice none 0 0,.slice none 0 0,.slice none 0 0] 246 (0,0)):=by
  rw [hW0]
  have:=heap_alloc_new (w.alloc (.cells #[.slice P f.params.length pc,.int .i64 f.arrays,.int .i64 f.cells,.slice A f.blocks.length c] 25)) (.cells #[.slice none 0 0,.int .i64 0,.int .i64 0,.slice none 0 0,.slice none 0 0,.slice none 0 0,.slice none 0 0] 246)
  simpa using this
 have HW0:=hideI hW0
 have HB0:=hideI hB0
 have HS0:=hideI hs0
 have G0:Hid (∀ W,Below W0.heap.size W0 W → (∀ o,W.cell? ⟨w.heap.size,o,none⟩=(#[.slice P f.params.length pc,.int .i64 f.arrays,.int .i64 f.cells,.slice A f.blocks.length c]:Array Value)[o]?) ∧ (∀ o,W.cell? ⟨w.heap.size + 1,o,none⟩=(#[.slice none 0 0,.int .i64 0,.int .i64 0,.slice none 0 0,.slice none 0 0,.slice none 0 0,.slice none 0 0]:Array Value)[o]?) ∧ (∀ o,W.frozen? ⟨w.heap.size + 1,o,none⟩=false)):=fun W hW => by
  have h1:=hW.block w.heap.size (by omega)
  have h2:=hW.block (w.heap.size + 1) (by omega)
  exact ⟨row_cells hbox h1,row_cells hres h2,fun o => free_rowN hres h2 o⟩
 have HPW:Hid (∀ W,Below W0.heap.size W0 W → Ints W B (.slice P f.params.length pc) f.params ∧ BlocksR W B (.slice A f.blocks.length c) f.blocks ∧ Below w.heap.size w W):=fun W hW => by
  have h1:Below w.heap.size w W:=HB0.out.trans (hW.mono (by omega))
  exact ⟨HP.out.keeps (Keeps.of_below (h1.mono hB)),HBL.out.keeps (Keeps.of_below (h1.mono hB)),h1⟩
 obtain ⟨q1,q2,q3⟩:=G0.out W0 (Below.refl _ _)
 have b0:=q1 0
 have b1:=q1 1
 have b2:=q1 2
 have b3:=q1 3
 have hBW0:B ≤ W0.heap.size:=by omega
 have HCK:=hideI (sCheck_any f B _ _ W0 (HPW.out _ (Below.refl _ _)).1 (HPW.out _ (Below.refl _ _)).2.1 hBW0 HID.out)
 clear hid hW0 hB0 hs0 hbox hres q1 q2 q3
 by_cases hst:∃ o,StrictM f o
 ·obtain ⟨o,hst⟩:=hst
  have HS:=hideI hst
  have hnb:=look_some_block hst.look
  have hn0:=hnb.1
  have hn5:=hnb.2
  have HR:=hideI (hst.order.range (look_ends hst.look) hn0)
  have hol:=lorder_len hst.order HR.out hst.come
  obtain ⟨i0,hix,hz0,hz1,hz2⟩:=info_parts int_info
  clear hst hnb
  go_enter Tryz.func209,Tryz.ntmps209
  go_upto_region 1 with fail
  rw [← HW0.out]
  go_wp2_with (first
   | (go_at_call 27;go_must (refine HCK.out.mono ?_);rintro e w1 ⟨x1,y1,rfl,hci,hb1⟩;(obtain ⟨rfl,rfl⟩:=Prod.mk.inj (HS.out.check hci));have HB1:=hideI hb1;obtain ⟨q1,q2,q3⟩:=G0.out _ hb1;clear b0 b1 b2 b3;have b0:=q1 0;have b1:=q1 1;have b2:=q1 2;have b3:=q1 3;clear q1 q2 q3 hb1 hci)
   | (go_at_call 74;go_must (refine (gPreds_yes f B _ _ _ (HPW.out _ HB1.out).1 (HPW.out _ HB1.out).2.1 (Nat.le_trans hBW0 HB1.out.size) HID.out HS.out.look).mono ?_);rintro e w2 ⟨gp,vs,rfl,hls,hb2⟩;have HLS:=hideI (hls.mono HB1.out.size);have HB2:=hideI (HB1.out.trans (hb2.mono HB1.out.size));obtain ⟨q1,q2,q3⟩:=G0.out _ HB2.out;clear b0 b1 b2 b3;have b0:=q1 0;have b1:=q1 1;have b2:=q1 2;have b3:=q1 3;clear q1 q2 q3 hb2 hls)
   | (go_at_call 86;go_must (refine (idoms_any f B _ _ _ (HPW.out _ HB2.out).1 (HPW.out _ HB2.out).2.1 (Nat.le_trans hBW0 HB2.out.size) HID.out).mono ?_);rintro e w3 (⟨hbad,_⟩ | ⟨_,o3,pl,par,capo3,gi,rfl,hfs,hdone,hown,hb3⟩);(exact absurd HS.out.look hbad);(obtain rfl:=HS.out.order.one hfs.order);have HFS:=hideI hfs;have HDONE:=hideI hdone;have HOI:=hideI (World.ownsRow.mono hown HB2.out.size);replace HLS:=hideI (HLS.out.kept hb3);have HB3:=hideI (HB2.out.trans (hb3.mono HB2.out.size));obtain ⟨q1,q2,q3⟩:=G0.out _ HB3.out;clear b0 b1 b2 b3;have b0:=q1 0;have b1:=q1 1;have b2:=q1 2;have b3:=q1 3;clear q1 q2 q3 hfs hdone hown hb3)
   | (go_at_call 69;go_must (refine (gOrder_yes f B _ _ _ (HPW.out _ HB3.out).1 (HPW.out _ HB3.out).2.1 (Nat.le_trans hBW0 HB3.out.size) HID.out HS.out.look).mono ?_);rintro e w4 ⟨o4,go,capo,rfl,ho,ho0,ho1,hown,hb4⟩;(obtain rfl:=HS.out.order.one ho);have HOO:=hideI (World.ownsRow.mono hown HB3.out.size);replace HLS:=hideI (HLS.out.kept hb4);replace HOI:=hideI (own_kept_below HOI.out hb4 (fun k hk => (HOI.out.lt k hk).2));have HB4:=hideI (HB3.out.trans (hb4.mono HB3.out.size));clear b0 b1 b2 b3 ho hown hb4;rw [hol])
   | (at_make;go_must (refine wpList_make_full _ rfl _ _ 22 rfl W0.heap.size 3 i0 (.int .i64 0) 1 Tryz.underlying22 hix hz0 hz1 .i64 .i64 _ _ f.blocks.length rfl rfl rfl rfl (by rw [hz2];omega) (by unfold maxLen;omega) (HB4.out.size) ?_);intro w5 hown5 hg5;go_must (have HB5:Hid (Below w4.heap.size w4 w5):=hideI ((Below.refl _ _).grown hg5 (Nat.le_refl _) (by simp));have HO5:=hideI hown5;clear hown5 hg5)))
  have hpl0:w5.ownsRow W0.heap.size 3 1 (.slice (some ⟨w4.heap.size,0,none⟩) f.blocks.length f.blocks.length) f.blocks.length (plcs f.blocks.length (o.take 0) pl):=by
   have h1:=HO5.out
   rw [show (Value.int IntKind.i64 0).cells=#[Value.int .i64 0] from rfl,toList_madeCells_one,Nat.mul_one] at h1
   rw [List.take_zero,plcs_none]
   exact h1
  have HPL:=hideI hpl0
  clear hpl0 hix hz0 hz1 hz2 HO5
  go_loopw [44] (fun u wr => ∃ i:Nat,i ≤ f.blocks.length ∧ u=.int .i64 i ∧ Hid (wr.ownsRow W0.heap.size 3 1 (.slice (some ⟨w4.heap.size,0,none⟩) f.blocks.length f.blocks.length) f.blocks.length (plcs f.blocks.length (o.take i) pl)) ∧ Hid (Below w4.heap.size w4 wr)) (fun u _ => f.blocks.length - (intOf u).toNat)
  case atStart => exact ⟨0,Nat.zero_le _,rfl,HPL,HB5⟩
  case round =>
   obtain ⟨i,hi,rfl,HPr,HBr⟩:=hrel
   by_cases hlt:i < f.blocks.length
   ·obtain ⟨x,hx⟩:∃ x,o[i]?=some x:=⟨_,List.getElem?_eq_getElem (by omega)⟩
    have hxl:=HR.out x (List.mem_of_getElem? hx)
    have c1:=nat_cell (own_kept_below HOO.out HBr.out (fun k hk => (HOO.out.lt k hk).2)) hx
    have c2:wr.cell? ⟨w4.heap.size,x,none⟩=some (.int .i64 (if x ∈ o.take i then ((pl x:Nat):Int) else 0)):=by rw [World.ownsRow.cellAt HPr.out x (by omega)];exact plcs_any hxl
    obtain ⟨old,hold⟩:∃ old:Int,old=(if x ∈ o.take i then ((pl x:Nat):Int) else 0):=⟨_,rfl⟩
    rw [← hold] at c2
    have c3:wr.frozen? ⟨w4.heap.size,x,none⟩=false:=World.ownsRow.frozenAt HPr.out x
    have hst:=World.ownsRow.stored HPr.out x (.int .i64 (i:Int))
    rw [plcs_set hx (HFS.out.ord.place i x hx)] at hst
    have HST:=hideI hst.1
    have HSB:Hid (Below w4.heap.size w4 (wr.setCell ⟨w4.heap.size,x,none⟩ (.int .i64 (i:Int)))):=HBr.out.setCell (Nat.le_refl _) _
    clear hx hst hold
    go_wp2
    go_roundw
    case rel => exact ⟨i + 1,by omega,by go_num,HST,HSB⟩
    case measure => simp [intOf];omega
   ·have hil:i=o.length:=by omega
    have HP2:Hid (wr.ownsRow W0.heap.size 3 1 (.slice (some ⟨w4.heap.size,0,none⟩) f.blocks.length f.blocks.length) f.blocks.length (plcs f.blocks.length o pl)):=by
     have h1:=HPr.out
     rw [hil,List.take_of_length_le (Nat.le_refl _)] at h1
     exact h1
    have HBF:Hid (Below W0.heap.size W0 wr):=HB4.out.trans (HBr.out.mono HB4.out.size)
    obtain ⟨q1,q2,q3⟩:=G0.out _ HBF.out
    have b0:=q1 0
    have b1:=q1 1
    have b2:=q1 2
    have b3:=q1 3
    have s0:=q2 0
    have s1:=q2 1
    have s2:=q2 2
    have s3:=q2 3
    have s4:=q2 4
    have s5:=q2 5
    have s6:=q2 6
    have g0:=q3 0
    have g1:=q3 1
    have g2:=q3 2
    have g3:=q3 3
    have g4:=q3 4
    have g5:=q3 5
    have g6:=q3 6
    have hs0:=HS0.out
    have hsr:W0.heap.size ≤ wr.heap.size:=HBF.out.size
    have HLF:Hid (LfAt wr W0.heap.size f.blocks o pl par gp vs gi w4.heap.size):=⟨HLS.out.kept HBr.out,own_kept_below HOI.out HBr.out (fun k hk => (HOI.out.lt k hk).2),HP2.out⟩
    clear q1 q2 q3 hil HPr
    go_wp2
    obtain ⟨D,L,hDL⟩:=loopF_exists f.blocks o
    refine bodyPost_ret (v:=.tuple #[.agg #[.slice P f.params.length pc,.int .i64 f.arrays,.int .i64 f.cells,.slice A f.blocks.length c,.slice (some ⟨gp,0,none⟩) f.blocks.length f.blocks.length,.slice (some ⟨gi,0,none⟩) f.blocks.length f.blocks.length,.slice (some ⟨w4.heap.size,0,none⟩) f.blocks.length f.blocks.length],.int .i64 0]) (by simp [results,Tryz.results209,go_sem,s0,s1,s2,s3,s4,s5,s6]) rfl (.inr ⟨o,pl,par,D,L,gp,vs,gi,w4.heap.size,⟨HS.out,HFS.out.ord,HDONE.out,HS.out.come,HR.out,hn5,hDL⟩,rfl,?_,?_⟩)
    ·rw [← HS0.out]
     have hl:w.heap.size + 1 < W0.heap.size:=by omega
     exact ((((((HLF.out.other hl _).other hl _).other hl _).other hl _).other hl _).other hl _).other hl _
    ·exact (((((((HPW.out _ HBF.out).2.2.setCell (by simp) _).setCell (by simp) _).setCell (by simp) _).setCell (by simp) _).setCell (by simp) _).setCell (by simp) _).setCell (by simp) _
 ·have hno:∀ x:Int,¬ CheckIs f (x,0):=fun x hx => hst (strict_of hx).2
  have HNO:=hideI hno
  clear hst hno
  go_enter Tryz.func209,Tryz.ntmps209
  go_upto_region 1 with fail
  rw [← HW0.out]
  go_wp2_with (first
   | (go_at_call 27;go_must (refine HCK.out.mono ?_);rintro e w1 ⟨x1,y1,rfl,hci,hb1⟩;have hy:(y1 != 0)=true:=(by rw [bne_iff_ne];rintro rfl;exact HNO.out _ hci);have HCI:=hideI hci;have HY:=hideI hy;have HB1:=hideI hb1;obtain ⟨q1,q2,q3⟩:=G0.out _ hb1;clear b0 b1 b2 b3;have s0:=q2 0;have s1:=q2 1;have s2:=q2 2;have s3:=q2 3;have s4:=q2 4;have s5:=q2 5;have s6:=q2 6;have g0:=q3 0;have g1:=q3 1;have g2:=q3 2;have g3:=q3 3;have g4:=q3 4;have g5:=q3 5;have g6:=q3 6;clear q1 q2 q3 hb1 hci))
  refine bodyPost_ret (v:=.tuple #[.agg #[.slice none 0 0,.int .i64 0,.int .i64 0,.slice none 0 0,.slice none 0 0,.slice none 0 0,.slice none 0 0],.int .i64 y1]) (by simp [results,Tryz.results209,go_sem,s0,s1,s2,s3,s4,s5,s6]) rfl (.inl ⟨x1,y1,HCI.out,by simpa using HY.out,rfl,?_⟩)
  exact (((((((HPW.out _ HB1.out).2.2.setCell (by simp) _).setCell (by simp) _).setCell (by simp) _).setCell (by simp) _).setCell (by simp) _).setCell (by simp) _).setCell (by simp) _
end Go.Proofs.YtaehbgppfahdeaaGreat

namespace Go.Proofs.YtaehbgppfahdeaaGreat
open Go.RowKit Go.Maps
def lp0M (bs:List BlockM) (D L:Nat → Nat → Bool) (k:Nat):List LpM:=(headsM bs D k).map (lpOf bs D L)
theorem heads_succ (bs:List BlockM) (D:Nat → Nat → Bool) (k:Nat):headsM bs D (k + 1)=headsM bs D k ++ if (latchesM bs D k).length=0 then [] else [k]:=by
 unfold headsM
 rw [List.range_succ,List.filter_append]
 cases h:latchesM bs D k <;> simp [h]
theorem lp0_skip {bs:List BlockM} {D L:Nat → Nat → Bool} {k:Nat} (h:(latchesM bs D k).length=0):lp0M bs D L (k + 1)=lp0M bs D L k:=by
 unfold lp0M
 rw [heads_succ,if_pos h,List.append_nil]
theorem lp0_more {bs:List BlockM} {D L:Nat → Nat → Bool} {k:Nat} (h:(latchesM bs D k).length ≠ 0):lp0M bs D L (k + 1)=lp0M bs D L k ++ [lpOf bs D L k]:=by
 unfold lp0M
 rw [heads_succ,if_neg h,List.map_append]
 rfl
theorem heads_len (bs:List BlockM) (D:Nat → Nat → Bool) (k:Nat):(headsM bs D k).length ≤ k:=by
 unfold headsM
 have:=List.length_filter_le (fun h => !(latchesM bs D h).isEmpty) (List.range k)
 rwa [List.length_range] at this
theorem lp0_len (bs:List BlockM) (D L:Nat → Nat → Bool) (k:Nat):(lp0M bs D L k).length ≤ k:=by
 unfold lp0M
 rw [List.length_map]
 exact heads_len bs D k
theorem lp0_rising (bs:List BlockM) (D L:Nat → Nat → Bool) (k:Nat) (hn:bs.length ≤ 512):Rising (lp0M bs D L k):=by
 intro x hx
 unfold lp0M at hx
 rw [List.mem_map] at hx
 obtain ⟨h,_,rfl⟩:=hx
 show (blocksM bs.length L h).Pairwise (· < ·) ∧ (blocksM bs.length L h).length ≤ 512
 unfold blocksM
 refine ⟨List.Pairwise.filter _ List.pairwise_lt_range,?_⟩
 have:=List.length_filter_le (L h) (List.range bs.length)
 rw [List.length_range] at this
 omega
def parsTo (ls:List LpM) (j:Nat):List LpM:=(List.range ls.length).map fun i => if i < j then { ls.getD i noLp with parent:=arM ls i ls.length } else ls.getD i noLp
theorem parsTo_len (ls:List LpM) (j:Nat):(parsTo ls j).length=ls.length:=by simp [parsTo]
theorem parsTo_at {ls:List LpM} {j i:Nat} (h:i < ls.length):(parsTo ls j)[i]?=some (if i < j then { ls.getD i noLp with parent:=arM ls i ls.length } else ls.getD i noLp):=by
 unfold parsTo
 rw [List.getElem?_map,List.getElem?_eq_getElem (by simpa using h)]
 simp
theorem parsTo_zero (ls:List LpM):parsTo ls 0=ls:=by
 apply List.ext_getElem?
 intro i
 by_cases h:i < ls.length
 ·rw [parsTo_at h,if_neg (by omega),List.getD_eq_getElem?_getD,List.getElem?_eq_getElem h]
  rfl
 ·rw [List.getElem?_eq_none (by rw [parsTo_len];omega),List.getElem?_eq_none (by omega)]
theorem parsTo_getD {ls:List LpM} {j i:Nat}:((parsTo ls j).getD i noLp).head=(ls.getD i noLp).head ∧ ((parsTo ls j).getD i noLp).blocks=(ls.getD i noLp).blocks:=by
 rw [List.getD_eq_getElem?_getD (l:=parsTo ls j)]
 by_cases h:i < ls.length
 ·rw [parsTo_at h]
  simp only [Option.getD_some]
  split <;> exact ⟨rfl,rfl⟩
 ·rw [List.getElem?_eq_none (by rw [parsTo_len];omega),List.getD_eq_getElem?_getD,List.getElem?_eq_none (by omega)]
  exact ⟨rfl,rfl⟩
theorem parsTo_arM {ls:List LpM} {j i:Nat}:∀ k,arM (parsTo ls j) i k=arM ls i k
 | 0 => rfl
 | k + 1 => by
  show (if lessB (parsTo ls j) i (arM (parsTo ls j) i k) k=true then (k:Int) else arM (parsTo ls j) i k)=if lessB ls i (arM ls i k) k=true then (k:Int) else arM ls i k
  rw [parsTo_arM k]
  have:lessB (parsTo ls j) i (arM ls i k) k=lessB ls i (arM ls i k) k:=by
   unfold lessB
   rw [(parsTo_getD (ls:=ls) (j:=j) (i:=i)).1,(parsTo_getD (ls:=ls) (j:=j) (i:=k)).2,(parsTo_getD (ls:=ls) (j:=j) (i:=(arM ls i k).toNat)).2]
  rw [this]
theorem parsTo_set {ls:List LpM} {j:Nat} {x:LpM} (h:j < ls.length) (hx:(parsTo ls j)[j]?=some x):(parsTo ls j).set j { x with parent:=arM ls j ls.length }=parsTo ls (j + 1):=by
 rw [parsTo_at h,if_neg (by omega)] at hx
 cases hx
 apply List.ext_getElem?
 intro i
 by_cases hi:i < ls.length
 ·by_cases e:j=i
  ·subst e
   rw [List.getElem?_set_self (by rw [parsTo_len];exact h),parsTo_at hi,if_pos (by omega)]
  ·rw [List.getElem?_set_ne e,parsTo_at hi,parsTo_at hi]
   by_cases hij:i < j
   ·rw [if_pos hij,if_pos (by omega)]
   ·rw [if_neg hij,if_neg (by omega)]
 ·rw [List.getElem?_eq_none (by rw [List.length_set,parsTo_len];omega),List.getElem?_eq_none (by rw [parsTo_len];omega)]
theorem parsTo_rising {ls:List LpM} {j:Nat} (h:Rising ls):Rising (parsTo ls j):=by
 intro x hx
 obtain ⟨i,hi⟩:=List.getElem?_of_mem hx
 have hl:=(List.getElem?_eq_some_iff.1 hi).1
 rw [parsTo_len] at hl
 rw [parsTo_at hl] at hi
 have hb:x.blocks=(ls.getD i noLp).blocks:=by
  split at hi <;> cases hi <;> rfl
 rw [hb,List.getD_eq_getElem?_getD,List.getElem?_eq_getElem hl]
 exact h _ (List.getElem_mem hl)
def loopsM (bs:List BlockM) (D L:Nat → Nat → Bool):List LpM:=parsTo (lp0M bs D L bs.length) (lp0M bs D L bs.length).length
def NestPost (f:FuncM) (pv bv:Value) (w:World) (e:Ending) (w':World):Prop :=
 (∃ x y:Int,CheckIs f (x,y) ∧ y ≠ 0 ∧ e=.returned (.tuple #[.agg #[.slice none 0 0,.int .i64 0,.int .i64 0,.slice none 0 0,.slice none 0 0,.slice none 0 0,.slice none 0 0,.slice none 0 0],.int .i64 y]) ∧ Below w.heap.size w w') ∨
 (∃ (o:List Nat) (pl:Nat → Nat) (par:Nat → Option Nat) (D L:Nat → Nat → Bool) (gp:Nat) (vs:List Value) (gi gl:Nat) (lv:Value),LoopsOf f o pl par D L ∧ e=.returned (.tuple #[.agg #[pv,.int .i64 f.arrays,.int .i64 f.cells,bv,.slice (some ⟨gp,0,none⟩) f.blocks.length f.blocks.length,.slice (some ⟨gi,0,none⟩) f.blocks.length f.blocks.length,.slice (some ⟨gl,0,none⟩) f.blocks.length f.blocks.length,lv],.int .i64 0]) ∧ LfAt w' (w.heap.size + 2) f.blocks o pl par gp vs gi gl ∧ LoopsR w' (w.heap.size + 2) lv (loopsM f.blocks D L) ∧ Below w.heap.size w w')
set_option maxRecDepth 100000 in
set_option maxHeartbeats 8000000 in
theorem lNest_any (f:FuncM) (B:Nat) (pv bv:Value) (w:World) (hpv:Ints w B pv f.params) (hbv:BlocksR w B bv f.blocks) (hB:B ≤ w.heap.size) (hid:∀ u ∈ usesM f,I64 u.1) :
  Calls Tryz.prog 179 #[.agg #[pv,.int .i64 f.arrays,.int .i64 f.cells,bv]] w (NestPost f pv bv w):=by
 have HP:=hideI hpv
 have HBL:=hideI hbv
 have HID:=hideI hid
 obtain ⟨P,pc,rfl,_⟩:=hpv
 obtain ⟨A,c,rfl,hbm,_⟩:=hbv
 obtain ⟨W0,hW0⟩:∃ W0,W0=(w.alloc (.cells #[.slice P f.params.length pc,.int .i64 f.arrays,.int .i64 f.cells,.slice A f.blocks.length c] 25)).alloc (.cells #[.slice none 0 0,.int .i64 0,.int .i64 0,.slice none 0 0,.slice none 0 0,.slice none 0 0,.slice none 0 0,.slice none 0 0] 248):=⟨_,rfl⟩
 have hB0:Below w.heap.size w W0:=by rw [hW0];exact ((Below.refl _ w).alloc (Nat.le_refl _) _).alloc (by simp) _
 have hs0:W0.heap.size=w.heap.size + 2:=by rw [hW0];simp
 have hbox:W0.heap[w.heap.size]?=some (.cells #[.slice P f.params.length pc,.int .i64 f.arrays,.int .i64 f.cells,.slice A f.blocks.length c] 25 (0,0)):=by
  rw [hW0,Below.heap_alloc _ _ _ (by simp)]
  exact heap_alloc_new w _
 have hres:W0.heap[w.heap.size + 1]?=some (.cells #[.slice none 0 0,.int .i64 0,.int .i64 0,.slice none 0 0,.slice none 0 0,.slice none 0 0,.slice none 0 0,.slice none 0 0] 248 (0,0)):=by
  rw [hW0]
  have:=heap_alloc_new (w.alloc (.cells #[.slice P f.params.length pc,.int .i64 f.arrays,.int .i64 f.cells,.slice A f.blocks.length c] 25)) (.cells #[.slice none 0 0,.int .i64 0,.int .i64 0,.slice none 0 0,.slice none 0 0,.slice none 0 0,.slice none 0 0,.slice none 0 0] 248)
  simpa using this
 have HW0:=hideI hW0
 have HB0:=hideI hB0
 have HS0:=hideI hs0
 have G0:Hid (∀ W,Below W0.heap.size W0 W → (∀ o,W.cell? ⟨w.heap.size,o,none⟩=(#[.slice P f.params.length pc,.int .i64 f.arrays,.int .i64 f.cells,.slice A f.blocks.length c]:Array Value)[o]?) ∧ (∀ o,W.cell? ⟨w.heap.size + 1,o,none⟩=(#[.slice none 0 0,.int .i64 0,.int .i64 0,.slice none 0 0,.slice none 0 0,.slice none 0 0,.slice none 0 0,.slice none 0 0]:Array Value)[o]?) ∧ (∀ o,W.frozen? ⟨w.heap.size + 1,o,none⟩=false)):=fun W hW => by
  have h1:=hW.block w.heap.size (by omega)
  have h2:=hW.block (w.heap.size + 1) (by omega)
  exact ⟨row_cells hbox h1,row_cells hres h2,fun o => free_rowN hres h2 o⟩
 have HPW:Hid (∀ W,Below W0.heap.size W0 W → Ints W B (.slice P f.params.length pc) f.params ∧ BlocksR W B (.slice A f.blocks.length c) f.blocks ∧ Below w.heap.size w W):=fun W hW => by
  have h1:Below w.heap.size w W:=HB0.out.trans (hW.mono (by omega))
  exact ⟨HP.out.keeps (Keeps.of_below (h1.mono hB)),HBL.out.keeps (Keeps.of_below (h1.mono hB)),h1⟩
 obtain ⟨q1,q2,q3⟩:=G0.out W0 (Below.refl _ _)
 have b0:=q1 0
 have b1:=q1 1
 have b2:=q1 2
 have b3:=q1 3
 have hBW0:B ≤ W0.heap.size:=by omega
 have HLF:=hideI (lFunc_any f B _ _ W0 (HPW.out _ (Below.refl _ _)).1 (HPW.out _ (Below.refl _ _)).2.1 hBW0 HID.out)
 clear hid hW0 hB0 hs0 hbox hres q1 q2 q3
 by_cases hst:∃ o,StrictM f o
 ·obtain ⟨o0,hst⟩:=hst
  have HST:=hideI hst
  have hnb:=look_some_block hst.look
  have hn5:=hnb.2
  have HIN:=hideI (look_ends hst.look)
  clear hst hnb
  go_enter Tryz.func179,Tryz.ntmps179
  go_upto_region 1 with fail
  rw [← HW0.out]
  go_wp2_with (first
   | (go_at_call 209;go_must (refine HLF.out.mono ?_);rintro e w1 (⟨x,y,hci,hy,_⟩ | ⟨o,pl,par,D,L,gp,vs,gi,gl,hk,rfl,hlf,hb1⟩);(exact absurd (Prod.mk.inj (HST.out.check hci)).2 hy);have HK:=hideI hk;have HLF1:=hideI hlf;have HB1:=hideI hb1;clear hk hlf hb1 b0 b1 b2 b3))
  obtain ⟨Wn,hWn⟩:∃ Wn,Wn=w1.alloc (.cells #[.slice P f.params.length pc,.int .i64 f.arrays,.int .i64 f.cells,.slice A f.blocks.length c,.slice (some ⟨gp,0,none⟩) f.blocks.length f.blocks.length,.slice (some ⟨gi,0,none⟩) f.blocks.length f.blocks.length,.slice (some ⟨gl,0,none⟩) f.blocks.length f.blocks.length] 246):=⟨_,rfl⟩
  obtain ⟨W1,hW1⟩:∃ W1,W1=Wn.alloc (.cells #[.slice P f.params.length pc,.int .i64 f.arrays,.int .i64 f.cells,.slice A f.blocks.length c,.slice (some ⟨gp,0,none⟩) f.blocks.length f.blocks.length,.slice (some ⟨gi,0,none⟩) f.blocks.length f.blocks.length,.slice (some ⟨gl,0,none⟩) f.blocks.length f.blocks.length,.slice none 0 0] 248):=⟨_,rfl⟩
  obtain ⟨gn,hgn⟩:∃ gn,gn=w1.heap.size + 1:=⟨_,rfl⟩
  have hsn:Wn.heap.size=gn:=by rw [hWn,hgn];simp
  have HXN:Hid (W1.heap[gn]?=some (.cells #[.slice P f.params.length pc,.int .i64 f.arrays,.int .i64 f.cells,.slice A f.blocks.length c,.slice (some ⟨gp,0,none⟩) f.blocks.length f.blocks.length,.slice (some ⟨gi,0,none⟩) f.blocks.length f.blocks.length,.slice (some ⟨gl,0,none⟩) f.blocks.length f.blocks.length,.slice none 0 0] 248 (0,0))):=by show _=_;rw [hW1,← hsn];exact heap_alloc_new Wn _
  have HLN:Hid (LfAt Wn (W0.heap.size + 2) f.blocks o pl par gp vs gi gl):=by show LfAt _ _ _ _ _ _ _ _ _ _;rw [hWn];exact HLF1.out.kept ((Below.refl _ _).alloc (Nat.le_refl _) _)
  have HBN:Hid (Below W0.heap.size W0 Wn):=by show Below _ _ _;rw [hWn];exact HB1.out.alloc HB1.out.size _
  have HBN1:Hid (Below gn Wn W1):=by show Below _ _ _;rw [hW1,← hsn];exact (Below.refl _ _).alloc (Nat.le_refl _) _
  have HSN:=hideI hsn
  have hgn0:W0.heap.size < gn:=by have:=HB1.out.size;omega
  have hBgn:B ≤ gn:=by omega
  rw [← hWn,← hW1,← hgn]
  clear hWn hW1 hgn hsn
  go_loopw [26] (fun u wr => ∃ (k:Nat) (lv:Value),k ≤ f.blocks.length ∧ u=.int .i64 k ∧ Hid (wr.heap[gn]?=some (.cells #[.slice P f.params.length pc,.int .i64 f.arrays,.int .i64 f.cells,.slice A f.blocks.length c,.slice (some ⟨gp,0,none⟩) f.blocks.length f.blocks.length,.slice (some ⟨gi,0,none⟩) f.blocks.length f.blocks.length,.slice (some ⟨gl,0,none⟩) f.blocks.length f.blocks.length,lv] 248 (0,0))) ∧ Hid (LoopsR wr (gn + 1) lv (lp0M f.blocks D L k)) ∧ Hid (Below gn Wn wr)) (fun u _ => f.blocks.length - (intOf u).toNat)
  case atStart => exact ⟨0,_,Nat.zero_le _,rfl,HXN,hideI (LoopsR.nil _ _),HBN1⟩
  case round =>
   obtain ⟨k,lv,hk,rfl,HX,HLP,HBr⟩:=hrel
   have hgr:=lt_of_heap HX.out
   have HLr:Hid (LfAt wr (W0.heap.size + 2) f.blocks o pl par gp vs gi gl):=HLN.out.kept (by rw [HSN.out];exact HBr.out)
   have hx:=row_cells HX.out rfl
   have q0:=hx 0
   have q1:=hx 1
   have q2:=hx 2
   have q3:=hx 3
   have q4:=hx 4
   have q5:=hx 5
   have q6:=hx 6
   have q7:=hx 7
   clear hx
   by_cases hlt:k < f.blocks.length
   ·have HLT:=hideI (lLatch_any f.blocks o pl par D L (W0.heap.size + 2) gp gi gl k vs (.slice P f.params.length pc) (.int .i64 f.arrays) (.int .i64 f.cells) (.slice A f.blocks.length c) wr HK.out.ok HLr.out hlt)
    obtain ⟨m,hm⟩:∃ m,m=(latchesM f.blocks D k).length:=⟨_,rfl⟩
    have HM:=hideI hm
    by_cases hm0:m=0
    ·subst hm0
     have HSK:=hideI (lp0_skip (L:=L) hm.symm)
     clear hm
     go_wp2_with (go_at_call 210;go_must (refine HLT.out.mono ?_);rintro e w2 ⟨v2,rfl,hown2,hb2⟩;(obtain ⟨A2,c2,rfl⟩:=own_sl hown2);rw [← HM.out];have HX2:=hideI ((hb2.block gn hgr).trans HX.out);have HL2:=hideI (HLP.out.kept hb2);have HB2:=hideI (HBr.out.trans (hb2.mono (Nat.le_of_lt hgr)));clear hown2 hb2 q0 q1 q2 q3 q4 q5 q6 q7)
     go_roundw
     case rel => exact ⟨k + 1,lv,by omega,by go_num,HX2,by rw [HSK.out];exact HL2,HB2⟩
     case measure => simp [intOf];omega
    ·have hmp:0 < m:=by omega
     have HMR:=hideI (lp0_more (L:=L) (by rw [← hm];exact hm0))
     have hlpl:=lp0_len f.blocks D L k
     clear hm hm0
     go_wp2_with (first
      | (go_at_call 210;go_must (refine HLT.out.mono ?_);rintro e w2 ⟨v2,rfl,hown2,hb2⟩;(obtain ⟨A2,c2,rfl⟩:=own_sl hown2);have HO2:=hideI hown2;have HX2:=hideI ((hb2.block gn hgr).trans HX.out);have HL2:=hideI (HLP.out.kept hb2);have HF2:=hideI (HLr.out.kept hb2);have HB2:=hideI (HBr.out.trans (hb2.mono (Nat.le_of_lt hgr)));have hs2:wr.heap.size ≤ w2.heap.size:=hb2.size;have HSB:Hid (SubR w2 (gn + 1) lv (.slice A2 (latchesM f.blocks D k).length c2) (latchesM f.blocks D k)):=⟨World.ownsRow.mono hown2 hgr,fun j hj e => (by obtain ⟨cs,hr1,_⟩:=HLP.out.ex;have h1:=(hown2.lt j hj).1;have h2:=(hr1.lt j e).2;omega)⟩;clear hown2 hb2 q0 q1 q2 q3 q4 q5 q6 q7;rw [← HM.out] at HSB ⊢)
      | (go_at_call 211;go_must (refine (lAddL_any f.blocks o pl par D L (W0.heap.size + 2) gp gi gl k c B gn (gn + 1) vs (.slice P f.params.length pc) (.int .i64 f.arrays) (.int .i64 f.cells) lv _ A (lp0M f.blocks D L k) w2 HK.out.ok HF2.out hlt HIN.out (HBL.out.keeps (Keeps.of_below ((HPW.out _ (HBN.out.trans (HB2.out.mono (Nat.le_of_lt hgn0)))).2.2.mono hB))) hBgn HX2.out (Nat.lt_succ_self _) (by omega) HL2.out (by omega) HSB.out).mono ?_);rintro e w3 ⟨g3,cap3,rfl,hx3,hl3,hb3⟩;have HX3:=hideI hx3;have HL3:=hideI hl3;have HB3:=hideI (HB2.out.trans hb3);clear hx3 hl3 hb3))
     go_roundw
     case rel => exact ⟨k + 1,_,by omega,by go_num,HX3,by rw [HMR.out];exact HL3,HB3⟩
     case measure => simp [intOf];omega
   ·have hkn:k=f.blocks.length:=by omega
    subst hkn
    obtain ⟨ls,hls⟩:∃ ls,ls=lp0M f.blocks D L f.blocks.length:=⟨_,rfl⟩
    have HLS:=hideI hls
    have HRS:Hid (Rising ls):=by show Rising ls;rw [hls];exact lp0_rising _ _ _ _ hn5
    have hll:ls.length ≤ 512:=by rw [hls];exact Nat.le_trans (lp0_len _ _ _ _) hn5
    rw [← hls] at HLP
    have HPT:Hid (loopsM f.blocks D L=parsTo ls ls.length):=by show _=_;rw [hls];rfl
    obtain ⟨Av,cv,rfl⟩:∃ A c,lv=.slice A ls.length c:=by obtain ⟨cs,h1,_⟩:=HLP.out.ex;exact own_sl h1
    have HL0:Hid (LoopsR wr (gn + 1) (.slice Av ls.length cv) (parsTo ls 0)):=by show LoopsR _ _ _ _;rw [parsTo_zero];exact HLP.out
    clear hls HLP
    go_wp2
    clear q0 q1 q2 q3 q4 q5 q6 q7
    obtain ⟨wo,rfl⟩:∃ wo:World,wo=wr:=⟨_,rfl⟩
    go_loopw [43] (fun u wr => ∃ j:Nat,j ≤ ls.length ∧ u=.int .i64 j ∧ Hid (wr.heap[gn]?=some (.cells #[.slice P f.params.length pc,.int .i64 f.arrays,.int .i64 f.cells,.slice A f.blocks.length c,.slice (some ⟨gp,0,none⟩) f.blocks.length f.blocks.length,.slice (some ⟨gi,0,none⟩) f.blocks.length f.blocks.length,.slice (some ⟨gl,0,none⟩) f.blocks.length f.blocks.length,.slice Av ls.length cv] 248 (0,0))) ∧ Hid (LoopsR wr (gn + 1) (.slice Av ls.length cv) (parsTo ls j)) ∧ Hid (Below gn Wn wr)) (fun u _ => ls.length - (intOf u).toNat)
    case atStart => exact ⟨0,Nat.zero_le _,rfl,HX,HL0,HBr⟩
    case round =>
     clear HX HL0 HBr HLr hgr
     obtain ⟨j,hj,rfl,HX,HLP,HBr⟩:=hrel
     have hgr:=lt_of_heap HX.out
     have HLr:Hid (LfAt wr (W0.heap.size + 2) f.blocks o pl par gp vs gi gl):=HLN.out.kept (by rw [HSN.out];exact HBr.out)
     have hx:=row_cells HX.out rfl
     have q0:=hx 0
     have q1:=hx 1
     have q2:=hx 2
     have q3:=hx 3
     have q4:=hx 4
     have q5:=hx 5
     have q6:=hx 6
     have q7:=hx 7
     clear hx
     by_cases hlj:j < ls.length
     ·obtain ⟨x,hxj⟩:∃ x,(parsTo ls j)[j]?=some x:=⟨_,parsTo_at hlj⟩
      obtain ⟨g,cap0,b1,b2,b3,hv,hgb,hgl2,k0,k1,k2,k3,k4,_,_,_,hfz⟩:=HLP.out.cells hxj
      rw [parsTo_len] at hv
      cases hv
      have HPS:=hideI (parsTo_set hlj hxj)
      have HXJ:=hideI hxj
      have z4:=hfz (j * 5 + 4)
      have HAR:=hideI (lAround_any (parsTo ls j) j (gn + 1) g cv (.slice P f.params.length pc) (.int .i64 f.arrays) (.int .i64 f.cells) (.slice A f.blocks.length c) (.slice (some ⟨gp,0,none⟩) f.blocks.length f.blocks.length) (.slice (some ⟨gi,0,none⟩) f.blocks.length f.blocks.length) (.slice (some ⟨gl,0,none⟩) f.blocks.length f.blocks.length) wr.drew (by rw [parsTo_len];exact HLP.out.kept (Below.refl _ _).drew) (by rw [parsTo_len];exact hlj) (parsTo_rising HRS.out) (by rw [parsTo_len];exact hll))
      rw [parsTo_len,parsTo_arM] at HAR
      obtain ⟨pa,hpa⟩:∃ pa,pa=arM ls j ls.length:=⟨_,rfl⟩
      rw [← hpa] at HAR
      have HPA:=hideI hpa
      have HS:Hid (∀ W,Below wr.heap.size wr W → W.cell? ⟨gn,0,none⟩=some (.slice P f.params.length pc) ∧ W.cell? ⟨gn,1,none⟩=some (.int .i64 f.arrays) ∧ W.cell? ⟨gn,2,none⟩=some (.int .i64 f.cells) ∧ W.cell? ⟨gn,3,none⟩=some (.slice A f.blocks.length c) ∧ W.cell? ⟨gn,4,none⟩=some (.slice (some ⟨gp,0,none⟩) f.blocks.length f.blocks.length) ∧ W.cell? ⟨gn,5,none⟩=some (.slice (some ⟨gi,0,none⟩) f.blocks.length f.blocks.length) ∧ W.cell? ⟨gn,6,none⟩=some (.slice (some ⟨gl,0,none⟩) f.blocks.length f.blocks.length) ∧ W.cell? ⟨gn,7,none⟩=some (.slice (some ⟨g,0,none⟩) ls.length cv)):=fun W hW => by
       have hx:=row_cells HX.out (hW.block gn hgr)
       exact ⟨hx 0,hx 1,hx 2,hx 3,hx 4,hx 5,hx 6,hx 7⟩
      have hS0:=HS.out wr (Below.refl _ _)
      clear hxj hfz k0 k1 k2 k3 hpa
      go_upto_region 15 with fail
      refine wp_region_late (by kernel_rfl) (fun W => W.cell? ⟨gn,0,none⟩=some (.slice P f.params.length pc) ∧ W.cell? ⟨gn,1,none⟩=some (.int .i64 f.arrays) ∧ W.cell? ⟨gn,2,none⟩=some (.int .i64 f.cells) ∧ W.cell? ⟨gn,3,none⟩=some (.slice A f.blocks.length c) ∧ W.cell? ⟨gn,4,none⟩=some (.slice (some ⟨gp,0,none⟩) f.blocks.length f.blocks.length) ∧ W.cell? ⟨gn,5,none⟩=some (.slice (some ⟨gi,0,none⟩) f.blocks.length f.blocks.length) ∧ W.cell? ⟨gn,6,none⟩=some (.slice (some ⟨gl,0,none⟩) f.blocks.length f.blocks.length) ∧ W.cell? ⟨gn,7,none⟩=some (.slice (some ⟨g,0,none⟩) ls.length cv)) [8] ?_
      refine wpAnyT_quiet (i:=0) (v:=?_) rfl (by kernel_rfl) (by kernel_rfl) (by kernel_rfl) (fun _ _ _ h => h) (Or.inl ⟨by rfl,?_⟩) ?_
      rotate_left
      ·(intro w;go_simp;try with_reducible rfl)
      try simp only [Act.put,List.setIfInBounds_toArray,List.set_cons_zero,List.set_cons_succ]
      refine wpAnyT_take [8] (i:=1) (v:=?_) rfl (by kernel_rfl) (by kernel_rfl) (by kernel_rfl) (by kernel_rfl) (by kernel_rfl) (by kernel_rfl) (fun _ _ _ h => h) hS0 (Or.inl ⟨by rfl,?_⟩) ?_
      rotate_left
      ·(intro w hSw;go_split_ands;go_simp;try with_reducible rfl)
      try simp only [Act.put,List.setIfInBounds_toArray,List.set_cons_zero,List.set_cons_succ]
      refine wpAnyT_quiet (i:=2) (v:=?_) rfl (by kernel_rfl) (by kernel_rfl) (by kernel_rfl) (fun _ _ _ h => h) (Or.inl ⟨by rfl,?_⟩) ?_
      rotate_left
      ·(intro w;go_simp;try with_reducible rfl)
      try simp only [Act.put,List.setIfInBounds_toArray,List.set_cons_zero,List.set_cons_succ]
      refine wpAnyT_take [8] (i:=3) (v:=?_) rfl (by kernel_rfl) (by kernel_rfl) (by kernel_rfl) (by kernel_rfl) (by kernel_rfl) (by kernel_rfl) (fun _ _ _ h => h) hS0 (Or.inl ⟨by rfl,?_⟩) ?_
      rotate_left
      ·(intro w hSw;go_split_ands;go_simp;try with_reducible rfl)
      try simp only [Act.put,List.setIfInBounds_toArray,List.set_cons_zero,List.set_cons_succ]
      refine wpAnyT_quiet (i:=4) (v:=?_) rfl (by kernel_rfl) (by kernel_rfl) (by kernel_rfl) (fun _ _ _ h => h) (Or.inl ⟨by rfl,?_⟩) ?_
      rotate_left
      ·(intro w;go_simp;try with_reducible rfl)
      try simp only [Act.put,List.setIfInBounds_toArray,List.set_cons_zero,List.set_cons_succ]
      refine wpAnyT_ready (rs:=[5]) (by kernel_rfl) (by simp) ?_
      refine AllReadyT.cons rfl (fun K hK => ?_) ?_
      ·go_simp
       refine HAR.out.mono ?_
       rintro e w3 ⟨rfl,hb3d⟩
       have hb3:Below wr.heap.size wr w3:=⟨hb3d.os,hb3d.tape,hb3d.output,hb3d.size,hb3d.block⟩
       have HB3:=hideI hb3
       refine hK.out _ _ (fun _ _ => HS.out _ HB3.out) ?_
       clear hK K hb3d hb3
       try simp only [Act.put,List.setIfInBounds_toArray,List.set_cons_zero,List.set_cons_succ]
       have k43:=(HB3.out.cell (p:=⟨g,j * 5 + 4,none⟩) hgl2).trans k4
       have z43:w3.frozen? ⟨g,j * 5 + 4,none⟩=false:=(HLP.out.kept HB3.out).free _
       have HL3:=hideI ((HLP.out.kept HB3.out))
       have HX3:=hideI ((HB3.out.block gn hgr).trans HX.out)
       refine wpAnyT_quiet (i:=6) (v:=?_) rfl (by kernel_rfl) (by kernel_rfl) (by kernel_rfl) (fun _ _ _ h => h) (Or.inl ⟨by rfl,?_⟩) ?_
       rotate_left
       ·(intro w;go_simp;try with_reducible rfl)
       try simp only [Act.put,List.setIfInBounds_toArray,List.set_cons_zero,List.set_cons_succ]
       refine wpAnyT_quiet (i:=7) (v:=?_) rfl (by kernel_rfl) (by kernel_rfl) (by kernel_rfl) (fun _ _ _ h => h) (Or.inl ⟨by rfl,?_⟩) ?_
       rotate_left
       ·(intro w;go_simp;try with_reducible rfl)
       try simp only [Act.put,List.setIfInBounds_toArray,List.set_cons_zero,List.set_cons_succ]
       refine wpAnyT_ready (rs:=[8]) (by kernel_rfl) (by simp) ?_
       refine AllReadyT.cons rfl (fun K hK => ?_) ?_
       ·go_simp
        refine hK.out _ _ (fun h => absurd (by simp) h) ?_
        clear hK K
        try simp only [Act.put,List.setIfInBounds_toArray,List.set_cons_zero,List.set_cons_succ]
        refine wpAnyT_done (by kernel_rfl) ?_ _
        clear hS0
        go_wp2_with fail
        have hgg:g ≠ gn:=by omega
        have HX4:Hid ((w3.setCell ⟨g,j * 5 + 4,none⟩ (.int .i64 pa)).heap[gn]?=some (.cells #[.slice P f.params.length pc,.int .i64 f.arrays,.int .i64 f.cells,.slice A f.blocks.length c,.slice (some ⟨gp,0,none⟩) f.blocks.length f.blocks.length,.slice (some ⟨gi,0,none⟩) f.blocks.length f.blocks.length,.slice (some ⟨gl,0,none⟩) f.blocks.length f.blocks.length,.slice (some ⟨g,0,none⟩) ls.length cv] 248 (0,0))):=by
         show _=_
         rw [heap_setCell_other w3 ⟨g,j * 5 + 4,none⟩ gn _ (fun e => hgg e.symm)]
         exact HX3.out
        have HL4:Hid (LoopsR (w3.setCell ⟨g,j * 5 + 4,none⟩ (.int .i64 pa)) (gn + 1) (.slice (some ⟨g,0,none⟩) ls.length cv) (parsTo ls (j + 1))):=by
         show LoopsR _ _ _ _
         have h1:LoopsR w3 (gn + 1) (.slice (some ⟨g,0,none⟩) (parsTo ls j).length cv) (parsTo ls j):=by rw [parsTo_len];exact HL3.out
         have h2:=h1.parent (p:=pa) HXJ.out
         rw [parsTo_len,HPA.out,HPS.out] at h2
         rw [HPA.out]
         exact h2
        have HB4:Hid (Below gn Wn (w3.setCell ⟨g,j * 5 + 4,none⟩ (.int .i64 pa))):=(HBr.out.trans (HB3.out.mono (Nat.le_of_lt hgr))).setCell (by show gn ≤ g;omega) _
        go_roundw
        case rel => exact ⟨j + 1,by omega,by go_num,HX4,HL4,HB4⟩
        case measure => simp [intOf];omega
       ·exact AllReadyT.nil
      ·exact AllReadyT.nil
     ·have hjl:j=ls.length:=by omega
      subst hjl
      have HBF:Hid (Below W0.heap.size W0 wr):=HBN.out.trans (HBr.out.mono (Nat.le_of_lt hgn0))
      obtain ⟨y1,y2,y3⟩:=G0.out _ HBF.out
      have s0:=y2 0
      have s1:=y2 1
      have s2:=y2 2
      have s3:=y2 3
      have s4:=y2 4
      have s5:=y2 5
      have s6:=y2 6
      have s7:=y2 7
      have g0:=y3 0
      have g1:=y3 1
      have g2:=y3 2
      have g3:=y3 3
      have g4:=y3 4
      have g5:=y3 5
      have g6:=y3 6
      have g7:=y3 7
      have hs0:=HS0.out
      have hwn:w.heap.size + 1 ≠ gn:=by omega
      have hwl:w.heap.size + 1 < W0.heap.size:=by omega
      clear y1 y2 y3
      go_wp2
      refine bodyPost_ret (v:=.tuple #[.agg #[.slice P f.params.length pc,.int .i64 f.arrays,.int .i64 f.cells,.slice A f.blocks.length c,.slice (some ⟨gp,0,none⟩) f.blocks.length f.blocks.length,.slice (some ⟨gi,0,none⟩) f.blocks.length f.blocks.length,.slice (some ⟨gl,0,none⟩) f.blocks.length f.blocks.length,.slice Av ls.length cv],.int .i64 0]) (by simp [results,Tryz.results179,go_sem,s0,s1,s2,s3,s4,s5,s6,s7]) rfl (.inr ⟨o,pl,par,D,L,gp,vs,gi,gl,.slice Av ls.length cv,HK.out,rfl,?_,?_,?_⟩)
      ·have hl:w.heap.size + 1 < W0.heap.size + 2:=by omega
       refine LfAt.mono (lo:=W0.heap.size + 2) ?_ (by omega)
       exact (((((((HLr.out.other hl _).other hl _).other hl _).other hl _).other hl _).other hl _).other hl _).other hl _
      ·rw [HPT.out]
       have hl:w.heap.size + 1 < gn + 1:=by omega
       refine LoopsR.mono (base:=gn + 1) ?_ (by omega)
       exact (((((((HLP.out.other hl _).other hl _).other hl _).other hl _).other hl _).other hl _).other hl _).other hl _
      ·exact ((((((((HPW.out _ HBF.out).2.2.setCell (by simp) _).setCell (by simp) _).setCell (by simp) _).setCell (by simp) _).setCell (by simp) _).setCell (by simp) _).setCell (by simp) _).setCell (by simp) _
 ·have hno:∀ x:Int,¬ CheckIs f (x,0):=fun x hx => hst (strict_of hx).2
  have HNG:Hid (∀ o,StrictM f o → False):=fun o h => hst ⟨o,h⟩
  have HNO:=hideI hno
  clear hst hno
  go_enter Tryz.func179,Tryz.ntmps179
  go_upto_region 1 with fail
  rw [← HW0.out]
  go_wp2_with (first
   | (go_at_call 209;go_loud (refine HLF.out.mono ?_;rintro e w1 (⟨x1,y1,hci,hy1,rfl,hb1⟩ | ⟨o,pl,par,D,L,gp,vs,gi,gl,hk,_⟩);rotate_left;(exact (HNG.out o hk.strict).elim);have hy:(y1 != 0)=true:=(by rw [bne_iff_ne];exact hy1);have HCI:=hideI hci;have HY:=hideI hy1;have HB1:=hideI hb1;have HBX:Hid (Below W0.heap.size W0 (w1.alloc (.cells #[.slice none 0 0,.int .i64 0,.int .i64 0,.slice none 0 0,.slice none 0 0,.slice none 0 0,.slice none 0 0] 246))):=hb1.alloc hb1.size _;obtain ⟨q1,q2,q3⟩:=G0.out _ HBX.out;clear b0 b1 b2 b3;have s0:=q2 0;have s1:=q2 1;have s2:=q2 2;have s3:=q2 3;have s4:=q2 4;have s5:=q2 5;have s6:=q2 6;have s7:=q2 7;have g0:=q3 0;have g1:=q3 1;have g2:=q3 2;have g3:=q3 3;have g4:=q3 4;have g5:=q3 5;have g6:=q3 6;have g7:=q3 7;clear q1 q2 q3 hb1 hci hy1)))
  refine bodyPost_ret (v:=.tuple #[.agg #[.slice none 0 0,.int .i64 0,.int .i64 0,.slice none 0 0,.slice none 0 0,.slice none 0 0,.slice none 0 0,.slice none 0 0],.int .i64 y1]) (by simp [results,Tryz.results179,go_sem,s0,s1,s2,s3,s4,s5,s6,s7]) rfl (.inl ⟨x1,y1,HCI.out,HY.out,rfl,?_⟩)
  exact ((((((((HPW.out _ HBX.out).2.2.setCell (by simp) _).setCell (by simp) _).setCell (by simp) _).setCell (by simp) _).setCell (by simp) _).setCell (by simp) _).setCell (by simp) _).setCell (by simp) _
end Go.Proofs.YtaehbgppfahdeaaGreat

namespace Go.Proofs.YtaehbgppfahdeaaGreat
open Go.RowKit Go.Maps
def ForestPost (f:FuncM) (w:World) (e:Ending) (w':World):Prop :=
 (∃ x y:Int,CheckIs f (x,y) ∧ y ≠ 0 ∧ e=.returned (.tuple #[.slice none 0 0,.int .i64 y]) ∧ Below w.heap.size w w') ∨
 (∃ (o:List Nat) (pl:Nat → Nat) (par:Nat → Option Nat) (D L:Nat → Nat → Bool) (lv:Value),LoopsOf f o pl par D L ∧ e=.returned (.tuple #[lv,.int .i64 0]) ∧ LoopsR w' w.heap.size lv (loopsM f.blocks D L) ∧ Below w.heap.size w w')
set_option maxRecDepth 100000 in
set_option maxHeartbeats 2000000 in
theorem lForest_any (f:FuncM) (B:Nat) (pv bv:Value) (w:World) (hpv:Ints w B pv f.params) (hbv:BlocksR w B bv f.blocks) (hB:B ≤ w.heap.size) (hid:∀ u ∈ usesM f,I64 u.1) :
  Calls Tryz.prog 122 #[.agg #[pv,.int .i64 f.arrays,.int .i64 f.cells,bv]] w (ForestPost f w):=by
 have HP:=hideI hpv
 have HBL:=hideI hbv
 have HID:=hideI hid
 obtain ⟨P,pc,rfl,_⟩:=hpv
 obtain ⟨A,c,rfl,hbm,_⟩:=hbv
 have HB0:Hid (Below w.heap.size w (w.alloc (.cells #[.slice P f.params.length pc,.int .i64 f.arrays,.int .i64 f.cells,.slice A f.blocks.length c] 25))):=(Below.refl _ w).alloc (Nat.le_refl _) _
 have HT:=hideI (lNest_any f B _ _ (w.alloc (.cells #[.slice P f.params.length pc,.int .i64 f.arrays,.int .i64 f.cells,.slice A f.blocks.length c] 25)) (HP.out.keeps (Keeps.of_below (HB0.out.mono hB))) (HBL.out.keeps (Keeps.of_below (HB0.out.mono hB))) (by simp;omega) HID.out)
 clear hid
 by_cases hst:∃ o,StrictM f o
 ·obtain ⟨o0,hst⟩:=hst
  have HST:=hideI hst
  clear hst
  go_enter Tryz.func122,Tryz.ntmps122
  go_wp2_with (go_at_call 179;go_must (refine HT.out.mono ?_);rintro e w1 (⟨x,y,hci,hy,_⟩ | ⟨o,pl,par,D,L,gp,vs,gi,gl,lv,hk,rfl,hlf,hlp,hb1⟩);(exact absurd (Prod.mk.inj (HST.out.check hci)).2 hy);(obtain ⟨Av,cv,rfl⟩:∃ A c,lv=.slice A (loopsM f.blocks D L).length c:=(by obtain ⟨cs,h1,_⟩:=hlp.ex;exact own_sl h1));have HK:=hideI hk;have HLP:=hideI hlp;have HB1:=hideI (HB0.out.trans (hb1.mono (by simp)));clear hk hlf hlp hb1)
  go_ret2
  exact .inr ⟨o,pl,par,D,L,_,HK.out,rfl,LoopsR.mono (HLP.out.kept ((Below.refl _ _).alloc (Nat.le_refl _) _)) (by simp;omega),HB1.out.alloc HB1.out.size _⟩
 ·have HNG:Hid (∀ o,StrictM f o → False):=fun o h => hst ⟨o,h⟩
  have HNO:Hid (∀ x:Int,¬ CheckIs f (x,0)):=fun x hx => hst (strict_of hx).2
  clear hst
  go_enter Tryz.func122,Tryz.ntmps122
  go_wp2_with (go_at_call 179;go_must (refine HT.out.mono ?_);rintro e w1 (⟨x1,y1,hci,hy1,rfl,hb1⟩ | ⟨o,pl,par,D,L,gp,vs,gi,gl,lv,hk,_⟩);rotate_left;(exact (HNG.out o hk.strict).elim);have hy:(y1 != 0)=true:=(by rw [bne_iff_ne];exact hy1);have HCI:=hideI hci;have HY:=hideI hy1;have HB1:=hideI (HB0.out.trans (hb1.mono (by simp)));clear hb1 hci hy1)
  go_ret2
  exact .inl ⟨x1,y1,HCI.out,HY.out,rfl,HB1.out.alloc HB1.out.size _⟩
end Go.Proofs.YtaehbgppfahdeaaGreat

namespace Go.Proofs.YtaehbgppfahdeaaGreat
open Go.RowKit Go.Maps
theorem loops_blocks {bs:List BlockM} {D L:Nat → Nat → Bool}:∀ x ∈ loopsM bs D L,∀ b ∈ x.blocks,b < bs.length:=by
 intro x hx b hb
 obtain ⟨i,hi⟩:=List.getElem?_of_mem hx
 have hl:=(List.getElem?_eq_some_iff.1 hi).1
 unfold loopsM at hi hl
 rw [parsTo_len] at hl
 rw [parsTo_at hl] at hi
 have he:x.blocks=((lp0M bs D L bs.length).getD i noLp).blocks:=by split at hi <;> cases hi <;> rfl
 rw [he,List.getD_eq_getElem?_getD,List.getElem?_eq_getElem hl] at hb
 have hm:=List.getElem_mem hl
 obtain ⟨y,hy⟩:∃ y,y=(lp0M bs D L bs.length)[i]:=⟨_,rfl⟩
 rw [← hy] at hm hb
 unfold lp0M at hm
 rw [List.mem_map] at hm
 obtain ⟨h,_,rfl⟩:=hm
 have hb':b ∈ blocksM bs.length L h:=hb
 unfold blocksM at hb'
 simpa using (List.mem_filter.1 hb').1
theorem loops_rising {bs:List BlockM} {D L:Nat → Nat → Bool} (hn:bs.length ≤ 512):Rising (loopsM bs D L):=parsTo_rising (lp0_rising _ _ _ _ hn)
theorem loops_len {bs:List BlockM} {D L:Nat → Nat → Bool}:(loopsM bs D L).length ≤ bs.length:=by
 unfold loopsM
 rw [parsTo_len]
 exact lp0_len _ _ _ _
theorem awake_loops {D L:Nat → Nat → Bool}:loopsM awakeF.blocks D L=[]:=by
 have h:lp0M awakeF.blocks D L awakeF.blocks.length=[]:=by
  unfold lp0M headsM latchesM
  rw [show awakeF.blocks.length=1 from rfl]
  rw [show List.range 1=[0] from rfl]
  have:predsTo awakeF.blocks 1 0=[]:=by decide
  simp [this]
 unfold loopsM
 rw [h]
 rfl
theorem awake_strict:∃ o,StrictM awakeF o:=(strict_of awake_checkIs).2
theorem awake_check9 {r:Int × Int} (h:CheckIs awakeF r):r=(0,0):=by
 obtain ⟨o,ho⟩:=awake_strict
 exact ho.check h
end Go.Proofs.YtaehbgppfahdeaaGreat

namespace Go.Proofs.YtaehbgppfahdeaaGreat
open Go.RowKit Go.Maps
structure LpIs (bs:List BlockM) (D L:Nat → Nat → Bool) (i:Nat) (x:LpM):Prop where
 at_:(headsM bs D bs.length)[i]?=some x.head
 blocks:x.blocks=blocksM bs.length L x.head
 latches:x.latches=latchesM bs D x.head
 exits:x.exits=exitsM bs L x.head
 parent:x.parent=arM (lp0M bs D L bs.length) i (lp0M bs D L bs.length).length
section
variable {bs:List BlockM} {o:List Nat} {pl:Nat → Nat} {par:Nat → Option Nat} {D L:Nat → Nat → Bool} {i:Nat} {x:LpM}
theorem lp0_at {x:LpM} (h:(lp0M bs D L bs.length)[i]?=some x):(headsM bs D bs.length)[i]?=some x.head ∧ x=lpOf bs D L x.head:=by
 unfold lp0M at h
 rw [List.getElem?_map] at h
 cases e:(headsM bs D bs.length)[i]? with
 | none => rw [e] at h;cases h
 | some y =>
  rw [e] at h
  cases h
  exact ⟨rfl,rfl⟩
theorem loops_at (h:(loopsM bs D L)[i]?=some x):LpIs bs D L i x:=by
 have hl:=(List.getElem?_eq_some_iff.1 h).1
 unfold loopsM at h hl
 rw [parsTo_len] at hl
 rw [parsTo_at hl,if_pos hl] at h
 obtain ⟨y,hy⟩:∃ y,(lp0M bs D L bs.length)[i]?=some y:=⟨_,List.getElem?_eq_getElem hl⟩
 rw [getD_some hy] at h
 cases h
 obtain ⟨h1,h2⟩:=lp0_at hy
 obtain ⟨hd,hhd⟩:∃ hd,hd=y.head:=⟨_,rfl⟩
 rw [← hhd] at h2 h1
 subst h2
 exact ⟨h1,rfl,rfl,rfl,rfl⟩
theorem LpIs.head_lt (X:LpIs bs D L i x):x.head < bs.length:=(mem_heads.1 (List.mem_of_getElem? X.at_)).1
theorem heads_rise (bs:List BlockM) (D:Nat → Nat → Bool) (n:Nat):(headsM bs D n).Pairwise (· < ·):=by
 unfold headsM
 exact List.Pairwise.filter _ List.pairwise_lt_range
end
end Go.Proofs.YtaehbgppfahdeaaGreat

namespace Go.Proofs.YtaehbgppfahdeaaGreat
open Go.RowKit Go.Maps
def entriesM (bs:List BlockM) (x:LpM):List Nat:=(predsTo bs bs.length x.head).filter fun p => !decide (p ∈ x.blocks)
def jumpB (bs:List BlockM) (p:Nat):Bool:=match bs[p]? with
 | some q => q.term.op == 1
 | none => false
def sharedB (bs:List BlockM) (x:LpM) (e:Nat):Bool:=(predsTo bs bs.length e).any fun p => !decide (p ∈ x.blocks)
def plainB (bs:List BlockM) (x:LpM):Bool :=
 (match entriesM bs x with | [p] => jumpB bs p | _ => false) && x.latches.length == 1 && !(x.exits.any (sharedB bs x))
def firstM (bs:List BlockM) (ls:List LpM) (r:Int):Prop :=
 (r=-1 ∧ ∀ x ∈ ls,plainB bs x=true) ∨ ∃ (k:Nat) (x:LpM),r=k ∧ ls[k]?=some x ∧ plainB bs x=false ∧ ∀ j y,j < k → ls[j]?=some y → plainB bs y=true
theorem plain_no {bs:List BlockM} {x:LpM} (h:(entriesM bs x).length ≠ 1):plainB bs x=false:=by
 unfold plainB
 split
 ·rename_i p e;rw [e] at h;exact absurd rfl h
 ·simp
theorem plain_one {bs:List BlockM} {x:LpM} {p:Nat} (h:entriesM bs x=[p]):plainB bs x=(jumpB bs p && x.latches.length == 1 && !(x.exits.any (sharedB bs x))):=by
 unfold plainB
 rw [h]
end Go.Proofs.YtaehbgppfahdeaaGreat

namespace Go.Proofs.YtaehbgppfahdeaaGreat
open Go.RowKit Go.Maps
structure NestBox (w:World) (lo q gp:Nat) (vs:List Value) (bs:List BlockM):Prop where
 ex:∃ p0 p1 p2 bv lv lm,w.heap[q]?=some (.cells #[p0,p1,p2,bv,lv,lm,.slice (some ⟨gp,0,none⟩) bs.length bs.length] 83 (0,0))
 preds:Lists w lo gp bs.length vs (predsAt bs bs.length bs.length 0)
theorem preds_list {w:World} {lo gp b:Nat} {vs:List Value} {bs:List BlockM} (h:Lists w lo gp bs.length vs (predsAt bs bs.length bs.length 0)) (hb:b < bs.length) (hn5:bs.length ≤ 512) :
  ∃ v,w.cell? ⟨gp,b,none⟩=some v ∧ gp < w.heap.size ∧ Ints w w.heap.size v ((predsTo bs bs.length b).map fun (x:Nat) => (x:Int)):=by
 obtain ⟨v,hv⟩:∃ v,vs[b]?=some v:=⟨_,List.getElem?_eq_getElem (by rw [h.vl];exact hb)⟩
 have hl:(predsAt bs bs.length bs.length 0)[b]?=some (predsTo bs bs.length b):=by rw [predsAt_at hb];simp
 refine ⟨v,?_,h.lt.2,nat_ints (h.own b v _ hv hl) (by have:=predsTo_len bs bs.length b;omega)⟩
 rw [World.ownsRow.cellAt h.row b (by omega),hv]
set_option maxRecDepth 100000 in
set_option maxHeartbeats 4000000 in
theorem cShared_any (bs:List BlockM) (x:LpM) (lo q r ql gp b:Nat) (vs:List Value) (w:World) (hN:NestBox w lo q gp vs bs) (hL:LpBox w ql x) (hr:x.blocks.Pairwise (· < ·)) (hl:x.blocks.length ≤ 512) (hn5:bs.length ≤ 512) (hbn:b < bs.length)
  (hR:w.heap[r]?=some (.cells #[.func (.func 76) #[] #[.pointer (some ⟨ql,0,none⟩)]] 148 (0,0))) :
  Calls Tryz.prog 78 #[.int .i64 (b:Int),.pointer (some ⟨q,0,none⟩),.pointer (some ⟨r,0,none⟩)] w fun e w' => e=.returned (.bool (sharedB bs x b)) ∧ Below w.heap.size w w':=by
 obtain ⟨v,hv1,hgp,hv2⟩:=preds_list hN.preds hbn hn5
 obtain ⟨p0,p1,p2,bv,lv,lm,hq⟩:=hN.ex
 have hLd:LpBox w.drew ql x:=⟨hL.ex⟩
 have hv2d:Ints w.drew w.drew.heap.size v ((predsTo bs bs.length b).map fun (x:Nat) => (x:Int)):=hv2
 have h0:=hasOut_any (predsTo bs bs.length b) w.drew.heap.size ql v _ w.drew hv2d (Nat.le_refl _) (givesOut _ hLd hr hl (Nat.le_refl _))
 have HC:Hid (Calls Tryz.prog 79 #[v,.func (.func 76) #[] #[.pointer (some ⟨ql,0,none⟩)]] w.drew fun e w' => e=.returned (.bool (sharedB bs x b)) ∧ Below w.drew.heap.size w.drew w'):=h0
 have hql:=lt_of_heap hq
 have hrl:=lt_of_heap hR
 have HS:Hid (∀ W,Below w.heap.size w W → W.cell? ⟨q,6,none⟩=some (.slice (some ⟨gp,0,none⟩) bs.length bs.length) ∧ W.cell? ⟨gp,b,none⟩=some v ∧ W.cell? ⟨r,0,none⟩=some (.func (.func 76) #[] #[.pointer (some ⟨ql,0,none⟩)])):=fun W hW => by
  have hx1:=row_cells hq (hW.block q hql)
  have hx2:=row_cells hR (hW.block r hrl)
  exact ⟨hx1 6,(hW.cell (p:=⟨gp,b,none⟩) hgp).trans hv1,hx2 0⟩
 have hS0:=HS.out w (Below.refl _ _)
 clear hN hL hR hq hv1 hv2 hv2d hLd h0 hr hl
 go_enter Tryz.func78,Tryz.ntmps78
 go_upto_region 1 with fail
 refine wp_region_late (by kernel_rfl) (fun W => W.cell? ⟨q,6,none⟩=some (.slice (some ⟨gp,0,none⟩) bs.length bs.length) ∧ W.cell? ⟨gp,b,none⟩=some v ∧ W.cell? ⟨r,0,none⟩=some (.func (.func 76) #[] #[.pointer (some ⟨ql,0,none⟩)])) [] ?_
 refine wpAnyT_quiet (i:=0) (v:=?_) rfl (by kernel_rfl) (by kernel_rfl) (by kernel_rfl) (fun _ _ _ h => h) (Or.inl ⟨by rfl,?_⟩) ?_
 rotate_left
 ·(intro w;go_simp;try with_reducible rfl)
 try simp only [Act.put,List.setIfInBounds_toArray,List.set_cons_zero,List.set_cons_succ]
 refine wpAnyT_take [] (i:=1) (v:=?_) rfl (by kernel_rfl) (by kernel_rfl) (by kernel_rfl) (by kernel_rfl) (by kernel_rfl) (by kernel_rfl) (fun _ _ _ h => h) hS0 (Or.inl ⟨by rfl,?_⟩) ?_
 rotate_left
 ·(intro w hSw;go_split_ands;go_simp;try with_reducible rfl)
 try simp only [Act.put,List.setIfInBounds_toArray,List.set_cons_zero,List.set_cons_succ]
 refine wpAnyT_quiet (i:=2) (v:=?_) rfl (by kernel_rfl) (by kernel_rfl) (by kernel_rfl) (fun _ _ _ h => h) (Or.inl ⟨by rfl,?_⟩) ?_
 rotate_left
 ·(intro w;go_simp;try with_reducible rfl)
 try simp only [Act.put,List.setIfInBounds_toArray,List.set_cons_zero,List.set_cons_succ]
 refine wpAnyT_quiet (i:=3) (v:=?_) rfl (by kernel_rfl) (by kernel_rfl) (by kernel_rfl) (fun _ _ _ h => h) (Or.inl ⟨by rfl,?_⟩) ?_
 rotate_left
 ·(intro w;go_simp;try with_reducible rfl)
 try simp only [Act.put,List.setIfInBounds_toArray,List.set_cons_zero,List.set_cons_succ]
 refine wpAnyT_take [] (i:=4) (v:=?_) rfl (by kernel_rfl) (by kernel_rfl) (by kernel_rfl) (by kernel_rfl) (by kernel_rfl) (by kernel_rfl) (fun _ _ _ h => h) hS0 (Or.inl ⟨by rfl,?_⟩) ?_
 rotate_left
 ·(intro w hSw;go_split_ands;go_simp;try with_reducible rfl)
 try simp only [Act.put,List.setIfInBounds_toArray,List.set_cons_zero,List.set_cons_succ]
 refine wpAnyT_take [] (i:=5) (v:=?_) rfl (by kernel_rfl) (by kernel_rfl) (by kernel_rfl) (by kernel_rfl) (by kernel_rfl) (by kernel_rfl) (fun _ _ _ h => h) hS0 (Or.inl ⟨by rfl,?_⟩) ?_
 rotate_left
 ·(intro w hSw;go_split_ands;go_simp;try with_reducible rfl)
 try simp only [Act.put,List.setIfInBounds_toArray,List.set_cons_zero,List.set_cons_succ]
 refine wpAnyT_ready (rs:=[6]) (by kernel_rfl) (by simp) ?_
 refine AllReadyT.cons rfl (fun K hK => ?_) ?_
 ·-- 6 the call
  go_simp
  refine HC.out.mono ?_
  rintro e w3 ⟨rfl,hb3d⟩
  have HB3:Hid (Below w.heap.size w w3):=hideI ⟨hb3d.os,hb3d.tape,hb3d.output,hb3d.size,hb3d.block⟩
  clear hb3d
  refine hK.out _ _ (fun _ _ => HS.out _ HB3.out) ?_
  clear hK K
  try simp only [Act.put,List.setIfInBounds_toArray,List.set_cons_zero,List.set_cons_succ]
  refine wpAnyT_quiet (i:=7) (v:=?_) rfl (by kernel_rfl) (by kernel_rfl) (by kernel_rfl) (fun _ _ _ h => h) (Or.inl ⟨by rfl,?_⟩) ?_
  rotate_left
  ·(intro w;go_simp;try with_reducible rfl)
  try simp only [Act.put,List.setIfInBounds_toArray,List.set_cons_zero,List.set_cons_succ]
  refine wpAnyT_done (by kernel_rfl) ?_ _
  go_wp2_with fail
  go_ret
  exact ⟨rfl,HB3.out⟩
 ·exact AllReadyT.nil
end Go.Proofs.YtaehbgppfahdeaaGreat
