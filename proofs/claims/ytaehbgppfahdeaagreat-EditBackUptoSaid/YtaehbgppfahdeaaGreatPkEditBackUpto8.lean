/- What EditBackUpto rests on, part 8: SJust, SFit, SUses, DIdoms, SFunc. -/
import Derived.Test.YtaehbgppfahdeaaGreatPkEditBackUpto7

namespace Go.Proofs.YtaehbgppfahdeaaGreat
open Go.RowKit Go.Maps
set_option maxHeartbeats 400000 in
theorem cmpNaN_any (x:Int) (w:World):Calls Tryz.prog 214 #[.int .i64 x] w fun e w' => e=.returned (.bool false) ∧ w=w':=by
 have hx:(x != x)=false:=by simp
 go_enter Tryz.func214,Tryz.ntmps214
 go_wp2
 go_ret
 exact ⟨by simp,rfl⟩
set_option maxHeartbeats 400000 in
theorem slNaN_any (x:Int) (w:World):Calls Tryz.prog 182 #[.int .i64 x] w fun e w' => e=.returned (.bool false) ∧ w=w':=by
 have hx:(x != x)=false:=by simp
 go_enter Tryz.func182,Tryz.ntmps182
 go_wp2
 go_ret
 exact ⟨by simp,rfl⟩
set_option maxHeartbeats 400000 in
theorem less_any (x y:Int) (w:World):Calls Tryz.prog 181 #[.int .i64 x,.int .i64 y] w fun e w' => e=.returned (.bool (decide (x < y))) ∧ w=w':=by
 go_enter Tryz.func181,Tryz.ntmps181
 go_wp2_with (go_at_call 214;refine (cmpNaN_any _ _).mono ?_;rintro e w' ⟨rfl,rfl⟩)
 go_ret
 exact ⟨rfl,rfl⟩
def BsPost (xs:List Int) (x:Int) (w:World) (e:Ending) (w':World):Prop:=∃ p:Int,e=.returned (.tuple #[.int .i64 p,.bool (decide (x ∈ xs))]) ∧ w=w'
set_option maxRecDepth 100000 in
set_option maxHeartbeats 2000000 in
theorem bs_any (xs:List Int) (B:Nat) (v:Value) (x:Int) (w:World) (hx:Ints w B v xs) (hs:xs.Pairwise (· < ·)) (hn:xs.length ≤ 512) :
  Calls Tryz.prog 128 #[v,.int .i64 x] w (BsPost xs x w):=by
 obtain ⟨A,c,rfl,hm,hx⟩:=hx
 obtain ⟨n,hnn⟩:∃ n,n=xs.length:=⟨_,rfl⟩
 have HN:=hideI hnn
 have HS:=hideI hs
 have HX:=hideI hx
 rw [← hnn] at hn hm ⊢
 clear hnn hs hx
 go_enter Tryz.func128,Tryz.ntmps128
 go_wp2
 go_loopw [7,8] (fun u v wr => ∃ i j:Nat,i ≤ j ∧ j ≤ n ∧ u=.int .i64 i ∧ v=.int .i64 j ∧ Hid (∀ k y,k < i → xs[k]?=some y → y < x) ∧ Hid (∀ k y,j ≤ k → xs[k]?=some y → x ≤ y) ∧ wr=w) (fun u v _ => (intOf v).toNat - (intOf u).toNat)
 case atStart => exact ⟨0,n,Nat.zero_le _,Nat.le_refl _,rfl,rfl,hideI (fun k y h => by omega),hideI (fun k y hk hy => by have:=(List.getElem?_eq_some_iff.1 hy).1;have:=HN.out;omega),rfl⟩
 case round =>
  obtain ⟨i,j,hij,hjn,rfl,rfl,HI,HJ,hw⟩:=hrel
  obtain rfl:=hw.symm
  by_cases hlt:i < j
  ·obtain ⟨h,hh⟩:∃ h,h=(i + j) / 2:=⟨_,rfl⟩
   have hi1:i ≤ h:=by omega
   have hj1:h < j:=by omega
   have hhn:h < n:=by omega
   have ht:(((i:Int) + j) / 2).toNat=h:=by omega
   have hc0:0 ≤ ((i:Int) + j) / 2:=by omega
   have hc1:((i:Int) + j) / 2 < n:=by omega
   have hz:((i:Int) + j) / 2=(h:Int):=by omega
   obtain ⟨y,hy⟩:∃ y,xs[h]?=some y:=⟨_,List.getElem?_eq_getElem (by have:=HN.out;omega)⟩
   obtain ⟨b,off,rfl,hb,hcell⟩:=HX.out h (by have:=HN.out;omega)
   rw [hy] at hcell
   simp only [Option.getD_some] at hcell
   have HY:=hideI hy
   have HZ:=hideI hz
   clear hh hy hz
   by_cases hyx:y < x
   ·have hyd:decide (y < x)=true:=decide_eq_true hyx
    have HYX:=hideI hyx
    clear hyx
    go_wp2_with (go_at_call 181;refine (less_any _ _ _).mono ?_;rintro e w' ⟨rfl,rfl⟩)
    have HI2:Hid (∀ k z,k < h + 1 → xs[k]?=some z → z < x):=by
     refine hideI (fun k z hk hkz => ?_)
     rcases Nat.lt_or_ge k h with hkh | hkh
     ·have h1:=List.getElem?_eq_some_iff.1 hkz
      have h2:=List.getElem?_eq_some_iff.1 HY.out
      have h3:=List.pairwise_iff_getElem.1 HS.out k h h1.1 h2.1 hkh
      rw [h1.2,h2.2] at h3
      have:=HYX.out
      omega
     ·have:k=h:=by omega
      subst this
      rw [HY.out] at hkz
      cases hkz
      exact HYX.out
    go_roundw
    case rel => exact ⟨h + 1,j,by omega,hjn,by rw [HZ.out];go_num,rfl,HI2,HJ,by first | rfl | trivial⟩
    case measure => rw [HZ.out];simp [intOf];omega
   ·have hyd:decide (y < x)=false:=decide_eq_false hyx
    have HYX:Hid (x ≤ y):=hideI (by omega)
    clear hyx
    go_wp2_with (go_at_call 181;refine (less_any _ _ _).mono ?_;rintro e w' ⟨rfl,rfl⟩)
    have HJ2:Hid (∀ k z,h ≤ k → xs[k]?=some z → x ≤ z):=by
     refine hideI (fun k z hk hkz => ?_)
     rcases Nat.eq_or_lt_of_le hk with hkh | hkh
     ·subst hkh
      rw [HY.out] at hkz
      cases hkz
      exact HYX.out
     ·have h1:=List.getElem?_eq_some_iff.1 hkz
      have h2:=List.getElem?_eq_some_iff.1 HY.out
      have h3:=List.pairwise_iff_getElem.1 HS.out h k h2.1 h1.1 hkh
      rw [h1.2,h2.2] at h3
      have:=HYX.out
      omega
    go_roundw
    case rel => exact ⟨i,h,by omega,by omega,rfl,by rw [HZ.out],HI,HJ2,by first | rfl | trivial⟩
    case measure => rw [HZ.out];simp [intOf];omega
  ·have hij':i=j:=by omega
   have HE:=hideI hij'
   clear hij'
   by_cases hin:i < n
   ·obtain ⟨y,hy⟩:∃ y,xs[i]?=some y:=⟨_,List.getElem?_eq_getElem (by have:=HN.out;omega)⟩
    obtain ⟨b,off,rfl,hb,hcell⟩:=HX.out i (by have:=HN.out;omega)
    rw [hy] at hcell
    simp only [Option.getD_some] at hcell
    have HY:=hideI hy
    clear hy
    have hmem:x ∈ xs ↔ y=x:=by
     constructor
     ·intro hm
      obtain ⟨k,hk⟩:=List.getElem?_of_mem hm
      rcases Nat.lt_trichotomy k i with h | h | h
      ·have:=HI.out k x h hk;omega
      ·subst h;rw [HY.out] at hk;exact Option.some.inj hk
      ·have h1:=List.getElem?_eq_some_iff.1 hk
       have h2:=List.getElem?_eq_some_iff.1 HY.out
       have h3:=List.pairwise_iff_getElem.1 HS.out i k h2.1 h1.1 h
       rw [h1.2,h2.2] at h3
       have:=HJ.out i y (by rw [← HE.out];exact Nat.le_refl _) HY.out
       omega
     ·rintro rfl;exact List.mem_of_getElem? HY.out
    have HMM:=hideI hmem
    clear hmem
    by_cases hyx:y=x
    ·have hyb:(y == x)=true:=beq_iff_eq.2 hyx
     have HR:Hid (decide (x ∈ xs)=true):=hideI (decide_eq_true (HMM.out.2 hyx))
     clear hyx
     go_wp2_with (go_at_call 182;refine (slNaN_any _ _).mono ?_;rintro e w' ⟨rfl,rfl⟩)
     go_ret2
     exact ⟨_,by rw [HR.out];rfl,rfl⟩
    ·have hyb:(y == x)=false:=beq_eq_false_iff_ne.2 hyx
     have HR:Hid (decide (x ∈ xs)=false):=hideI (decide_eq_false (fun h => hyx (HMM.out.1 h)))
     clear hyx
     go_wp2_with (go_at_call 182;refine (slNaN_any _ _).mono ?_;rintro e w' ⟨rfl,rfl⟩)
     go_ret2
     exact ⟨_,by rw [HR.out];rfl,rfl⟩
   ·have HR:Hid (decide (x ∈ xs)=false):=by
     refine hideI (decide_eq_false (fun hm => ?_))
     obtain ⟨k,hk⟩:=List.getElem?_of_mem hm
     have h1:=List.getElem?_eq_some_iff.1 hk
     have:=HI.out k x (by have:=HN.out;have:=h1.1;omega) hk
     omega
    go_wp2_with (go_at_call 182;refine (slNaN_any _ _).mono ?_;rintro e w' ⟨rfl,rfl⟩)
    go_ret2
    exact ⟨_,by rw [HR.out];rfl,rfl⟩
def justB (fr:List Int) (ps:List Int):Bool:=fr.length == ps.length && fr.all fun b => decide (b ∈ ps)
set_option maxRecDepth 100000 in
set_option maxHeartbeats 2000000 in
theorem areJust_any (xs ys:List Int) (B:Nat) (v u:Value) (w:World) (hx:Ints w B v xs) (hy:Ints w B u ys) (hs:ys.Pairwise (· < ·)) (hn:ys.length ≤ 512) :
  Calls Tryz.prog 154 #[v,u] w fun e w' => e=.returned (.bool (justB xs ys)) ∧ w=w':=by
 have HY:=hideI hy
 have HS:=hideI hs
 obtain ⟨A,c,rfl,hm,hx⟩:=hx
 obtain ⟨A',c',rfl,hm',_⟩:=hy
 have HX:=hideI hx
 obtain ⟨n,hnn⟩:∃ n,n=xs.length:=⟨_,rfl⟩
 obtain ⟨m,hmm⟩:∃ m,m=ys.length:=⟨_,rfl⟩
 have HN:=hideI hnn
 have HM:=hideI hmm
 rw [← hnn] at hm ⊢
 rw [← hmm] at hm' hn ⊢
 rw [← hmm] at HY
 clear hnn hmm hs hx
 by_cases hl:n=m
 ·have hlb:((n:Int) != m)=false:=by rw [hl];simp
  have HL:=hideI hl
  have hn5:n ≤ 512:=by omega
  clear hl
  go_enter Tryz.func154,Tryz.ntmps154
  go_wp2
  go_loopw [16] (fun i wr => ∃ k:Nat,k ≤ n ∧ i=.int .i64 k ∧ Hid (∀ j y,j < k → xs[j]?=some y → y ∈ ys) ∧ wr=w) (fun i _ => n - (intOf i).toNat)
  case atStart => exact ⟨0,Nat.zero_le _,rfl,hideI (fun j y h => by omega),rfl⟩
  case round =>
   obtain ⟨k,hk,rfl,HA,hw⟩:=hrel
   obtain rfl:=hw.symm
   by_cases hlt:k < n
   ·obtain ⟨b,off,rfl,hb,hcell⟩:=HX.out k (by have:=HN.out;omega)
    obtain ⟨y,hy⟩:∃ y,xs[k]?=some y:=⟨_,List.getElem?_eq_getElem (by have:=HN.out;omega)⟩
    rw [hy] at hcell
    simp only [Option.getD_some] at hcell
    have HYK:=hideI hy
    clear hy
    have HC:=hideI (bs_any ys B _ y w (by have:=HY.out;rw [HM.out] at this;exact this) HS.out (by have:=HM.out;omega))
    rw [← HM.out] at HC
    cases hd:decide (y ∈ ys)
    ·have HR:Hid (justB xs ys=false):=by
      show _=_
      unfold justB
      have:(xs.all fun b => decide (b ∈ ys))=false:=by
       rw [List.all_eq_false]
       exact ⟨y,List.mem_of_getElem? HYK.out,by rw [hd];simp⟩
      rw [this,Bool.and_false]
     have HD:=hideI hd
     clear hd
     go_wp2_with (go_at_call 128;go_must (refine HC.out.mono ?_);rintro e w' ⟨p,rfl,rfl⟩;rw [HD.out])
     go_ret
     exact ⟨by rw [HR.out];rfl,rfl⟩
    ·have HA2:Hid (∀ j z,j < k + 1 → xs[j]?=some z → z ∈ ys):=by
      refine hideI (fun j z hj hz => ?_)
      rcases Nat.lt_or_ge j k with h | h
      ·exact HA.out j z h hz
      ·have:j=k:=by omega
       subst this
       rw [HYK.out] at hz
       cases hz
       exact of_decide_eq_true hd
     have HD:=hideI hd
     clear hd
     go_wp2_with (go_at_call 128;go_must (refine HC.out.mono ?_);rintro e w' ⟨p,rfl,rfl⟩;rw [HD.out])
     go_roundw
     case rel => exact ⟨k + 1,by omega,by go_num,HA2,by first | rfl | trivial⟩
     case measure => simp [intOf];omega
   ·have HR:Hid (justB xs ys=true):=by
     show _=_
     unfold justB
     rw [Bool.and_eq_true,beq_iff_eq,List.all_eq_true]
     refine ⟨by rw [← HN.out,← HM.out];exact HL.out,fun y hy => ?_⟩
     obtain ⟨j,hj⟩:=List.getElem?_of_mem hy
     exact decide_eq_true (HA.out j y (by have h1:=(List.getElem?_eq_some_iff.1 hj).1;have:=HN.out;omega) hj)
    go_wp2
    go_ret
    exact ⟨by rw [HR.out];rfl,rfl⟩
 ·have hlb:((n:Int) != m)=true:=by simp;omega
  have HR:Hid (justB xs ys=false):=by
   show _=_
   unfold justB
   rw [← HN.out,← HM.out,beq_eq_false_iff_ne.2 hl,Bool.false_and]
  clear hl
  go_enter Tryz.func154,Tryz.ntmps154
  go_wp2
  go_ret
  exact ⟨by rw [HR.out];rfl,rfl⟩
end Go.Proofs.YtaehbgppfahdeaaGreat

namespace Go.Proofs.YtaehbgppfahdeaaGreat
open Go.RowKit Go.Maps
def predsI (bs:List BlockM) (b:Nat):List Int:=(predsTo bs bs.length b).map fun (x:Nat) => (x:Int)
theorem predsI_rising (bs:List BlockM) (b:Nat):(predsI bs b).Pairwise (· < ·):=by
 unfold predsI
 rw [List.pairwise_map]
 have:(predsTo bs bs.length b).Pairwise (· < ·):=by unfold predsTo;exact List.pairwise_lt_range.filter _
 exact this.imp (fun h => by omega)
theorem predsI_len (bs:List BlockM) (b:Nat):(predsI bs b).length ≤ bs.length:=by
 unfold predsI
 rw [List.length_map]
 exact predsTo_len bs bs.length b
def phisFitB (bs:List BlockM) (b:Nat) (q:BlockM):Bool:=q.phis.all fun p => justB p.fr (predsI bs b)
set_option maxRecDepth 100000 in
set_option maxHeartbeats 2000000 in
theorem phisFit_any (f:FuncM) (B:Nat) (pv bv:Value) (gF gL gp M:Nat) (F L:Nat → Int) (b:Nat) (q:BlockM) (w:World) (hS:SF w B f bv gF gL gp M F L) (hB:B ≤ w.heap.size) (hn5:f.blocks.length ≤ 512)
  (hq:f.blocks[b]?=some q) (P:Option Addr) (pl pc:Nat) (hpv:pv=.slice P pl pc) :
  Calls Tryz.prog 107 #[.agg #[pv,.int .i64 f.arrays,.int .i64 f.cells,bv,.slice (some ⟨gF,0,none⟩) f.blocks.length f.blocks.length,.slice (some ⟨gL,0,none⟩) f.blocks.length f.blocks.length,.slice (some ⟨gp,0,none⟩) f.blocks.length f.blocks.length,.map (some M)],.int .i64 b] w
   fun e w' => e=.returned (.bool (phisFitB f.blocks b q)) ∧ Below w.heap.size w w':=by
 subst hpv
 have hbn:=(List.getElem?_eq_some_iff.1 hq).1
 have HS:=hideI hS
 have HQ:=hideI hq
 obtain ⟨v,hv,hvi⟩:=hS.prd b hbn
 have HV:=hideI hvi
 have hgp:=hS.hp
 obtain ⟨VA,vc,rfl,hvm,_⟩:=hvi
 have hvl:=predsI_len f.blocks b
 obtain ⟨A,c,rfl,hbm,hbx⟩:=hS.blk
 obtain ⟨b1,off,qpv,qcv,qtv,rfl,hb1,e0,e1,e2,e3,e4,e5,hpv,hcv,htv,_⟩:=hbx b q hq
 obtain ⟨PA,pc2,rfl,hpm2,hpx⟩:=hpv
 have HPX:=hideI hpx
 obtain ⟨nq,hnq⟩:∃ nq,nq=q.phis.length:=⟨_,rfl⟩
 obtain ⟨n,hn⟩:∃ n,n=f.blocks.length:=⟨_,rfl⟩
 obtain ⟨lv,hlv⟩:∃ lv,lv=((predsTo f.blocks f.blocks.length b).map fun (x:Nat) => (x:Int)).length:=⟨_,rfl⟩
 have HNQ:=hideI hnq
 have HN:=hideI hn
 have HLV:=hideI hlv
 rw [← hnq] at e0 hpm2
 rw [← hlv] at hv hvm
 rw [← hn] at hn5 hbn hbm ⊢
 obtain ⟨W0,hW0⟩:∃ W0:World,W0=w.alloc (.cells #[.slice P pl pc,.int .i64 f.arrays,.int .i64 f.cells,.slice (some ⟨b1,off,none⟩) n c,.slice (some ⟨gF,0,none⟩) n n,.slice (some ⟨gL,0,none⟩) n n,.slice (some ⟨gp,0,none⟩) n n,.map (some M)] 123):=⟨_,rfl⟩
 have HB0:Hid (Below w.heap.size w W0):=by rw [hW0];exact hideI ((Below.refl _ _).alloc (Nat.le_refl _) _)
 have HX0:Hid (W0.heap[w.heap.size]?=some (.cells #[.slice P pl pc,.int .i64 f.arrays,.int .i64 f.cells,.slice (some ⟨b1,off,none⟩) n c,.slice (some ⟨gF,0,none⟩) n n,.slice (some ⟨gL,0,none⟩) n n,.slice (some ⟨gp,0,none⟩) n n,.map (some M)] 123 (0,0))):=by rw [hW0];exact hideI (heap_alloc_new w _)
 have HW0:=hideI hW0
 have hk0:=(HB0.out.cell (p:=⟨b1,off + b * 6,none⟩) (by simp;omega)).trans e0
 have HE0:=hideI hv
 clear hW0 hbx hpx hcv htv e0 e1 e2 e3 e4 e5 hq hnq hn hlv hS hv
 go_enter Tryz.func107,Tryz.ntmps107
 go_upto_region 1 with fail
 rw [← HW0.out]
 have hx0:=row_cells HX0.out rfl
 have r3:=hx0 3
 clear hx0
 go_wp2
 clear r3 hk0
 go_loopw [15] (fun i wr => ∃ k:Nat,k ≤ nq ∧ i=.int .i64 k ∧ Hid (∀ j p,j < k → q.phis[j]?=some p → justB p.fr (predsI f.blocks b)=true) ∧ Hid (Below w.heap.size w wr) ∧ Hid (Below W0.heap.size W0 wr)) (fun i _ => nq - (intOf i).toNat)
 case atStart => exact ⟨0,Nat.zero_le _,rfl,hideI (fun j y h => by omega),HB0,hideI (Below.refl _ _)⟩
 case round =>
  obtain ⟨k,hk,rfl,HA,HBr,HBo⟩:=hrel
  by_cases hlt:k < nq
  ·obtain ⟨p,hp⟩:∃ p,q.phis[k]?=some p:=⟨_,List.getElem?_eq_getElem (by have:=HNQ.out;omega)⟩
   obtain ⟨b2,off2,fv,vv,rfl,hb2,e0,e1,e2,e3,hfv,⟨VA2,vc2,rfl,_⟩,_⟩:=HPX.out k p hp
   have hks:=Keeps.of_below (HBr.out.mono hB)
   have d0:=(hks b2 (off2 + k * 4) hb2).trans e0
   have d1:=(hks b2 (off2 + k * 4 + 1) hb2).trans e1
   have d2:=(hks b2 (off2 + k * 4 + 2) hb2).trans e2
   have d3:=(hks b2 (off2 + k * 4 + 3) hb2).trans e3
   have HP:=hideI hp
   have HFV:=hideI hfv
   obtain ⟨FA,fc,rfl,hfm,_⟩:=hfv
   obtain ⟨nf,hnf⟩:∃ nf,nf=p.fr.length:=⟨_,rfl⟩
   have HNF:=hideI hnf
   rw [← hnf] at d2 hfm
   have hx0:=row_cells HX0.out (HBo.out.block _ (lt_of_heap HX0.out))
   have r6:=hx0 6
   have g0:=(hks gp b hgp).trans HE0.out
   have hlw:w.heap.size < wr.heap.size:=Nat.lt_of_lt_of_le (lt_of_heap HX0.out) HBo.out.size
   have hlg:gp < wr.heap.size:=by omega
   have HJ:Hid (∀ m,Calls Tryz.prog 154 #[.slice FA nf fc,.slice VA lv vc] ((wr.alloc (.cells #[.int .i64 p.id,.int .i64 p.typ,.slice FA nf fc,.slice VA2 p.vals.length vc2] 76)).drewN m) fun e w' => e=.returned (.bool (justB p.fr (predsI f.blocks b))) ∧ w'=((wr.alloc (.cells #[.int .i64 p.id,.int .i64 p.typ,.slice FA nf fc,.slice VA2 p.vals.length vc2] 76)).drewN m)):=by
    refine hideI (fun m => ?_)
    have hkw:Keeps B w ((wr.alloc (.cells #[.int .i64 p.id,.int .i64 p.typ,.slice FA nf fc,.slice VA2 p.vals.length vc2] 76)).drewN m):=Keeps.of_below (drew_below ((HBr.out.alloc HBr.out.size _).mono hB) m)
    have h1:=HFV.out.keeps hkw
    have h2:=HV.out.keeps hkw
    rw [← HNF.out] at h1
    rw [← HLV.out] at h2
    exact (areJust_any p.fr (predsI f.blocks b) B _ _ _ h1 h2 (predsI_rising _ _) (by have:=predsI_len f.blocks b;have:=HN.out;omega)).mono fun _ _ ⟨a,b⟩ => ⟨a,b.symm⟩
   clear hks e0 e1 e2 e3 hp hnf hx0
   cases hj:justB p.fr (predsI f.blocks b)
   ·rw [hj] at HJ
    have HR:Hid (phisFitB f.blocks b q=false):=by
     show _=_
     unfold phisFitB
     rw [List.all_eq_false]
     exact ⟨p,List.mem_of_getElem? HP.out,by rw [hj];simp⟩
    clear hj
    go_wp2
    go_quiet ((go_at_call 154;exact Calls.quiet_of_same (HJ.out _)))
    go_wp2
    go_ret
    exact ⟨by rw [HR.out];rfl,drew_below (HBr.out.alloc HBr.out.size _) _⟩
   ·rw [hj] at HJ
    have HA2:Hid (∀ j p,j < k + 1 → q.phis[j]?=some p → justB p.fr (predsI f.blocks b)=true):=by
     refine hideI (fun j z hj' hz => ?_)
     rcases Nat.lt_or_ge j k with h | h
     ·exact HA.out j z h hz
     ·have:j=k:=by omega
      subst this
      rw [HP.out] at hz
      cases hz
      exact hj
    clear hj
    go_wp2
    go_quiet ((go_at_call 154;exact Calls.quiet_of_same (HJ.out _)))
    go_wp2
    go_roundw
    case rel => exact ⟨k + 1,by omega,by go_num,HA2,hideI (drew_below (HBr.out.alloc HBr.out.size _) _),hideI (drew_below (HBo.out.alloc HBo.out.size _) _)⟩
    case measure => simp [intOf];omega
  ·have HR:Hid (phisFitB f.blocks b q=true):=by
    show _=_
    unfold phisFitB
    rw [List.all_eq_true]
    intro p hp
    obtain ⟨j,hj⟩:=List.getElem?_of_mem hp
    exact HA.out j p (by have h1:=(List.getElem?_eq_some_iff.1 hj).1;have:=HNQ.out;omega) hj
   go_wp2
   go_ret
   exact ⟨by rw [HR.out];rfl,HBr.out⟩
end Go.Proofs.YtaehbgppfahdeaaGreat

namespace Go.Proofs.YtaehbgppfahdeaaGreat
open Go.RowKit Go.Maps
def Known (f:FuncM) (id:Int):Prop:=I64 id ∧ ∃ (mb:Nat) (ma:Int),(placedM f).last id=some (mb,ma) ∧ mb < f.blocks.length
structure UsesKnown (f:FuncM):Prop where
 phi:∀ (b:Nat) (q:BlockM) (p:PhiM) (i:Nat) (id:Int),f.blocks[b]?=some q → p ∈ q.phis → p.vals[i]?=some id → ∃ (fr:Nat) (q':BlockM),p.fr[i]?=some (fr:Int) ∧ f.blocks[fr]?=some q' ∧ Known f id
 arg:∀ (b:Nat) (q:BlockM) (x:InstrM) (id:Int),f.blocks[b]?=some q → x ∈ q.code → id ∈ x.args → Known f id
 term:∀ (b:Nat) (q:BlockM),f.blocks[b]?=some q → q.term.op=2 ∨ q.term.op=3 → Known f q.term.val
def okAt (f:FuncM) (F L:Nat → Int) (id:Int) (ub:Nat) (ua:Int):Prop:=∀ m,(placedM f).last id=some m → aheadB F L m ub ua=true
structure UsesFit (f:FuncM) (F L:Nat → Int) (b:Nat) (q:BlockM):Prop where
 phi:∀ p ∈ q.phis,∀ (i:Nat) (id:Int) (fr:Nat) (q':BlockM),p.vals[i]?=some id → p.fr[i]?=some (fr:Int) → f.blocks[fr]?=some q' → okAt f F L id fr q'.code.length
 arg:∀ (i:Nat) (x:InstrM),q.code[i]?=some x → ∀ id ∈ x.args,okAt f F L id b i
 term:q.term.op=2 ∨ q.term.op=3 → okAt f F L q.term.val b q.code.length
def UsesPost (f:FuncM) (F L:Nat → Int) (b:Nat) (q:BlockM) (w:World) (e:Ending) (w':World):Prop :=
 ∃ r:Bool,e=.returned (.bool r) ∧ (r=true ↔ UsesFit f F L b q) ∧ Below w.heap.size w w'
theorem usesPost_no {f:FuncM} {F L:Nat → Int} {b:Nat} {q:BlockM} {w w':World} (h:¬ UsesFit f F L b q) (hb:Below w.heap.size w w'):UsesPost f F L b q w (.returned (.bool false)) w' :=
 ⟨false,rfl,⟨fun e => (Bool.noConfusion e),fun k => absurd k h⟩,hb⟩
set_option maxRecDepth 100000 in
set_option maxHeartbeats 8000000 in
theorem usesFit_any (f:FuncM) (B:Nat) (pv bv:Value) (gF gL gp M:Nat) (F L:Nat → Int) (b:Nat) (q:BlockM) (w:World) (hS:SF w B f bv gF gL gp M F L) (hB:B ≤ w.heap.size) (hn5:f.blocks.length ≤ 512) (hK:UsesKnown f)
  (hq:f.blocks[b]?=some q) (P:Option Addr) (pl pc:Nat) (hpv:pv=.slice P pl pc) :
  Calls Tryz.prog 108 #[.agg #[pv,.int .i64 f.arrays,.int .i64 f.cells,bv,.slice (some ⟨gF,0,none⟩) f.blocks.length f.blocks.length,.slice (some ⟨gL,0,none⟩) f.blocks.length f.blocks.length,.slice (some ⟨gp,0,none⟩) f.blocks.length f.blocks.length,.map (some M)],.int .i64 b] w
   (UsesPost f F L b q w):=by
 subst hpv
 have hbn:=(List.getElem?_eq_some_iff.1 hq).1
 have HS:=hideI hS
 have HQ:=hideI hq
 have HK:=hideI hK
 obtain ⟨A,c,rfl,hbm,hbx⟩:=hS.blk
 obtain ⟨b1,off,qpv,qcv,qtv,rfl,hb1,e0,e1,e2,e3,e4,e5,hpv,hcv,htv,_⟩:=hbx b q hq
 obtain ⟨PA,pc2,rfl,hpm2,hpx⟩:=hpv
 obtain ⟨CA,cc,rfl,hcm,hcx⟩:=hcv
 obtain ⟨TA,tc,rfl,_⟩:=htv
 have HPX:=hideI hpx
 have HCX:=hideI hcx
 obtain ⟨nq,hnq⟩:∃ nq,nq=q.phis.length:=⟨_,rfl⟩
 obtain ⟨nc,hnc⟩:∃ nc,nc=q.code.length:=⟨_,rfl⟩
 obtain ⟨n,hn⟩:∃ n,n=f.blocks.length:=⟨_,rfl⟩
 have HNQ:=hideI hnq
 have HNC:=hideI hnc
 have HN:=hideI hn
 rw [← hnq] at e0 hpm2
 rw [← hnc] at e1 hcm
 rw [← hn] at hn5 hbn hbm ⊢
 obtain ⟨W0,hW0⟩:∃ W0:World,W0=w.alloc (.cells #[.slice P pl pc,.int .i64 f.arrays,.int .i64 f.cells,.slice (some ⟨b1,off,none⟩) n c,.slice (some ⟨gF,0,none⟩) n n,.slice (some ⟨gL,0,none⟩) n n,.slice (some ⟨gp,0,none⟩) n n,.map (some M)] 123):=⟨_,rfl⟩
 have hB0:Below w.heap.size w W0:=by rw [hW0];exact (Below.refl _ _).alloc (Nat.le_refl _) _
 have hs0:W0.heap.size=w.heap.size + 1:=by rw [hW0];simp
 have hX0:W0.heap[w.heap.size]?=some (.cells #[.slice P pl pc,.int .i64 f.arrays,.int .i64 f.cells,.slice (some ⟨b1,off,none⟩) n c,.slice (some ⟨gF,0,none⟩) n n,.slice (some ⟨gL,0,none⟩) n n,.slice (some ⟨gp,0,none⟩) n n,.map (some M)] 123 (0,0)):=by rw [hW0];exact heap_alloc_new w _
 have hk0:∀ o u,w.cell? ⟨b1,o,none⟩=some u → W0.cell? ⟨b1,o,none⟩=some u:=fun o u h => (hB0.cell (p:=⟨b1,o,none⟩) (by simp;omega)).trans h
 have c0:=hk0 _ _ e0
 have c1:=hk0 _ _ e1
 have c2:=hk0 _ _ e2
 have c3:=hk0 _ _ e3
 have c4:=hk0 _ _ e4
 have c5:=hk0 _ _ e5
 obtain ⟨W1,hW1⟩:∃ W1:World,W1=W0.alloc (.cells #[.slice PA nq pc2,.slice CA nc cc,.int .i64 q.term.op,.int .i64 q.term.val,.slice TA q.term.to.length tc,.int .i64 q.term.n] 62):=⟨_,rfl⟩
 have hB1:Below w.heap.size w W1:=by rw [hW1];exact hB0.alloc (by omega) _
 have hs1:W1.heap.size=w.heap.size + 2:=by rw [hW1];simp;omega
 have HX0:Hid (W1.heap[w.heap.size]?=some (.cells #[.slice P pl pc,.int .i64 f.arrays,.int .i64 f.cells,.slice (some ⟨b1,off,none⟩) n c,.slice (some ⟨gF,0,none⟩) n n,.slice (some ⟨gL,0,none⟩) n n,.slice (some ⟨gp,0,none⟩) n n,.map (some M)] 123 (0,0))):=by
  rw [hW1,Below.heap_alloc _ _ _ (by omega)]
  exact hideI hX0
 have HX1:Hid (W1.heap[w.heap.size + 1]?=some (.cells #[.slice PA nq pc2,.slice CA nc cc,.int .i64 q.term.op,.int .i64 q.term.val,.slice TA q.term.to.length tc,.int .i64 q.term.n] 62 (0,0))):=by
  have:=heap_alloc_new W0 (.cells #[.slice PA nq pc2,.slice CA nc cc,.int .i64 q.term.op,.int .i64 q.term.val,.slice TA q.term.to.length tc,.int .i64 q.term.n] 62)
  rw [hs0] at this
  rw [hW1]
  exact hideI this
 have HW0:=hideI hW0
 have HW1:=hideI hW1
 have HB1:=hideI hB1
 have HS1:=hideI hs1
 have x3:=(row_cells hX0 rfl) 3
 have hsz0:=hs0
 have HSW:Hid (∀ W,Below W1.heap.size W1 W → SF W B f (.slice (some ⟨b1,off,none⟩) f.blocks.length c) gF gL gp M F L ∧ Below w.heap.size w W):=hideI (fun W hW => by
  have h1:Below w.heap.size w W:=HB1.out.trans (hW.mono (by rw [HS1.out];omega))
  exact ⟨HS.out.kept (h1.mono hB),h1⟩)
 clear hW0 hW1 hB0 hB1 hs0 hs1 hX0 hk0 hbx hpx hcx e0 e1 e2 e3 e4 e5 hq hnq hn hnc hS hK
 go_enter Tryz.func108,Tryz.ntmps108
 go_upto_region 1 with fail
 rw [← HW0.out]
 go_wp2
 rw [← HW1.out]
 clear c0 c1 c2 c3 c4 c5 x3 hsz0
 go_loopw [23] (fun i wr => ∃ k:Nat,k ≤ nq ∧ i=.int .i64 k ∧ Hid (∀ (j:Nat) (p:PhiM),j < k → q.phis[j]?=some p → ∀ (i:Nat) (id:Int) (fr:Nat) (q':BlockM),p.vals[i]?=some id → p.fr[i]?=some (fr:Int) → f.blocks[fr]?=some q' → okAt f F L id fr q'.code.length) ∧ Hid (Below W1.heap.size W1 wr)) (fun i _ => nq - (intOf i).toNat)
 case atStart => exact ⟨0,Nat.zero_le _,rfl,hideI (fun j p h => by omega),hideI (Below.refl _ _)⟩
 case round =>
  obtain ⟨k,hk,rfl,HA,HBr⟩:=hrel
  have hwl:W1.heap.size ≤ wr.heap.size:=HBr.out.size
  have hx1:=row_cells HX1.out (HBr.out.block _ (lt_of_heap HX1.out))
  by_cases hlt:k < nq
  ·obtain ⟨p,hp⟩:∃ p,q.phis[k]?=some p:=⟨_,List.getElem?_eq_getElem (by have:=HNQ.out;omega)⟩
   obtain ⟨b2,off2,fv,vv,rfl,hb2,e0,e1,e2,e3,hfv,hvv,_⟩:=HPX.out k p hp
   have hks:=Keeps.of_below ((HSW.out _ HBr.out).2.mono hB)
   have d0:=(hks b2 (off2 + k * 4) hb2).trans e0
   have d1:=(hks b2 (off2 + k * 4 + 1) hb2).trans e1
   have d2:=(hks b2 (off2 + k * 4 + 2) hb2).trans e2
   have d3:=(hks b2 (off2 + k * 4 + 3) hb2).trans e3
   have HP:=hideI hp
   have HFV:=hideI hfv
   have HVV:=hideI hvv
   obtain ⟨FA,fc,rfl,hfm,_⟩:=hfv
   obtain ⟨VA,vc,rfl,hvm,_⟩:=hvv
   obtain ⟨nf,hnf⟩:∃ nf,nf=p.fr.length:=⟨_,rfl⟩
   obtain ⟨nv,hnv⟩:∃ nv,nv=p.vals.length:=⟨_,rfl⟩
   have HNF:=hideI hnf
   have HNV:=hideI hnv
   rw [← hnf] at d2 hfm
   rw [← hnv] at d3 hvm
   obtain ⟨W2,hW2⟩:∃ W2:World,W2=wr.alloc (.cells #[.int .i64 p.id,.int .i64 p.typ,.slice FA nf fc,.slice VA nv vc] 76):=⟨_,rfl⟩
   have HB2:Hid (Below W1.heap.size W1 W2):=by rw [hW2];exact hideI (HBr.out.alloc HBr.out.size _)
   have HX2:Hid (W2.heap[wr.heap.size]?=some (.cells #[.int .i64 p.id,.int .i64 p.typ,.slice FA nf fc,.slice VA nv vc] 76 (0,0))):=by rw [hW2];exact hideI (heap_alloc_new wr _)
   have HW2:=hideI hW2
   clear hks e0 e1 e2 e3 hp hnf hnv hW2
   go_wp2
   rw [← HW2.out]
   obtain ⟨wo,rfl⟩:∃ wo:World,wo=wr:=⟨_,rfl⟩
   clear hx1 d0 d1 d2 d3
   go_loopw [30] (fun i wr => ∃ m:Nat,m ≤ nv ∧ i=.int .i64 m ∧ Hid (∀ (i:Nat) (id:Int) (fr:Nat) (q':BlockM),i < m → p.vals[i]?=some id → p.fr[i]?=some (fr:Int) → f.blocks[fr]?=some q' → okAt f F L id fr q'.code.length) ∧ Hid (Below W2.heap.size W2 wr)) (fun i _ => nv - (intOf i).toNat)
   case atStart => exact ⟨0,Nat.zero_le _,rfl,hideI (fun i id fr q' h => by omega),hideI (Below.refl _ _)⟩
   case round =>
    obtain ⟨m,hm,rfl,HAm,HBm⟩:=hrel
    have hall:=HB2.out.trans (HBm.out.mono HB2.out.size)
    have HALL:=hideI hall
    by_cases hlm:m < nv
    ·obtain ⟨id,hid⟩:∃ id,p.vals[m]?=some id:=⟨_,List.getElem?_eq_getElem (by have:=HNV.out;omega)⟩
     obtain ⟨fr,q',hfr,hq',hi64,mb,ma,hlast,hmb⟩:=HK.out.phi b q p m id HQ.out (List.mem_of_getElem? HP.out) hid
     have hfrn:=(List.getElem?_eq_some_iff.1 hfr).1
     have hfrb:=(List.getElem?_eq_some_iff.1 hq').1
     obtain ⟨_,_,ev,_,hvx⟩:=HVV.out.keeps (Keeps.of_below ((HSW.out _ hall).2.mono hB))
     cases ev
     obtain ⟨vb,voff,rfl,hvb,v0⟩:=hvx m (by rw [← HNV.out];exact hlm)
     rw [hid] at v0
     simp only [Option.getD_some] at v0
     obtain ⟨_,_,ef,_,hfx⟩:=HFV.out.keeps (Keeps.of_below ((HSW.out _ hall).2.mono hB))
     cases ef
     obtain ⟨fb,foff,rfl,hfb,f0⟩:=hfx m hfrn
     rw [hfr] at f0
     simp only [Option.getD_some] at f0
     have hmf:m < nf:=by rw [HNF.out];exact hfrn
     have G0:Hid (∀ W,Below wr.heap.size wr W → (∀ o,W.cell? ⟨w.heap.size,o,none⟩=(#[.slice P pl pc,.int .i64 f.arrays,.int .i64 f.cells,.slice (some ⟨b1,off,none⟩) n c,.slice (some ⟨gF,0,none⟩) n n,.slice (some ⟨gL,0,none⟩) n n,.slice (some ⟨gp,0,none⟩) n n,.map (some M)]:Array Value)[o]?) ∧ (∀ o,W.cell? ⟨wo.heap.size,o,none⟩=(#[.int .i64 p.id,.int .i64 p.typ,.slice (some ⟨fb,foff,none⟩) nf fc,.slice (some ⟨vb,voff,none⟩) nv vc]:Array Value)[o]?) ∧ W.cell? ⟨fb,foff + m,none⟩=some (.int .i64 (fr:Int))):=by
      refine hideI (fun W hW => ?_)
      have h1:=hall.trans (hW.mono hall.size)
      have h2:=HBm.out.trans (hW.mono HBm.out.size)
      exact ⟨row_cells HX0.out (h1.block _ (lt_of_heap HX0.out)),row_cells HX2.out (h2.block _ (lt_of_heap HX2.out)),(hW.cell (p:=⟨fb,foff + m,none⟩) (by have:=(HSW.out _ hall).2.size;simp;omega)).trans f0⟩
     obtain ⟨g1,g2,g3⟩:=G0.out wr (Below.refl _ _)
     have HSR:=hideI (HSW.out _ hall)
     have HBN:Hid (B ≤ wr.heap.size):=by have:=(HSW.out _ hall).2.size;exact hideI (by omega)
     have HID:=hideI hid
     have HFR:=hideI hfr
     have HQ':=hideI hq'
     have HI64:=hideI hi64
     have HLAST:=hideI hlast
     have HE:Hid (∀ W,Below wr.heap.size wr W → Calls Tryz.prog 156 #[.agg #[.slice P pl pc,.int .i64 f.arrays,.int .i64 f.cells,.slice (some ⟨b1,off,none⟩) n c],.int .i64 fr] W fun e w' => e=.returned (.agg #[.int .i64 fr,.int .i64 (q'.code.length:Int)]) ∧ Below W.heap.size W w'):=hideI (fun W hW => by
      have:=endOf_any f B (.slice P pl pc) _ fr q' W (HSR.out.1.kept (hW.mono HBN.out)).blk (Nat.le_trans HBN.out hW.size) HQ'.out (by rw [← HN.out];exact hn5) P pl pc rfl
      rw [← HN.out] at this
      exact this)
     have HC:Hid (∀ W,Below wr.heap.size wr W → Calls Tryz.prog 155 #[.agg #[.slice P pl pc,.int .i64 f.arrays,.int .i64 f.cells,.slice (some ⟨b1,off,none⟩) n c,.slice (some ⟨gF,0,none⟩) n n,.slice (some ⟨gL,0,none⟩) n n,.slice (some ⟨gp,0,none⟩) n n,.map (some M)],.int .i64 id,.agg #[.int .i64 fr,.int .i64 (q'.code.length:Int)]] W fun e w' => e=.returned (.bool (aheadB F L (mb,ma) fr q'.code.length)) ∧ Below W.heap.size W w'):=hideI (fun W hW => by
      have:=comesAhead_any f B (.slice P pl pc) _ gF gL gp M F L id mb fr ma q'.code.length W (HSR.out.1.kept (hW.mono HBN.out)) (Nat.le_trans HBN.out hW.size) (by rw [← HN.out];exact hn5) HI64.out HLAST.out hmb hfrb P pl pc rfl
      rw [← HN.out] at this
      exact this)
     clear hvx hfx f0 hid hfr hq' hi64 hlast hall hfrn
     cases hr:aheadB F L (mb,ma) fr q'.code.length
     ·have HNO:Hid (¬ UsesFit f F L b q):=by
       refine hideI (fun hu => ?_)
       have:=hu.phi p (List.mem_of_getElem? HP.out) m id fr q' HID.out HFR.out HQ'.out (mb,ma) HLAST.out
       rw [hr] at this
       cases this
      rw [hr] at HC
      clear hr
      go_wp2
      go_region_held3 (fun W => (∀ o,W.cell? ⟨w.heap.size,o,none⟩=(#[.slice P pl pc,.int .i64 f.arrays,.int .i64 f.cells,.slice (some ⟨b1,off,none⟩) n c,.slice (some ⟨gF,0,none⟩) n n,.slice (some ⟨gL,0,none⟩) n n,.slice (some ⟨gp,0,none⟩) n n,.map (some M)]:Array Value)[o]?) ∧ (∀ o,W.cell? ⟨wo.heap.size,o,none⟩=(#[.int .i64 p.id,.int .i64 p.typ,.slice (some ⟨fb,foff,none⟩) nf fc,.slice (some ⟨vb,voff,none⟩) nv vc]:Array Value)[o]?) ∧ W.cell? ⟨fb,foff + m,none⟩=some (.int .i64 (fr:Int))) (first | (with_reducible exact G0.out _ hfb4) | (with_reducible exact G0.out _ hfb3) | go_keep)
       (first
        | (go_at_call 156;(with_reducible refine (HE.out _ (drew1_below (Below.refl _ _))).mono ?_);rintro e w3 ⟨rfl,hb3⟩;have hfb3:=(drew1_below (Below.refl wr.heap.size wr)).trans hb3)
        | (go_at_call 155;(with_reducible refine (HC.out _ hfb3).mono ?_);rintro e w4 ⟨rfl,hb4⟩;have hfb4:=hfb3.trans (hb4.mono hfb3.size)))
      go_wp2
      go_ret
      exact usesPost_no HNO.out (HSR.out.2.trans (hfb4.mono HSR.out.2.size))
     ·have HA2:Hid (∀ (i:Nat) (id:Int) (fr:Nat) (q':BlockM),i < m + 1 → p.vals[i]?=some id → p.fr[i]?=some (fr:Int) → f.blocks[fr]?=some q' → okAt f F L id fr q'.code.length):=by
       refine hideI (fun i2 id2 fr2 q2 hi2 h1 h2 h3 => ?_)
       rcases Nat.lt_or_ge i2 m with h | h
       ·exact HAm.out i2 id2 fr2 q2 h h1 h2 h3
       ·have:i2=m:=by omega
        subst this
        rw [HID.out] at h1
        cases h1
        rw [HFR.out] at h2
        have e2:fr2=fr:=by have:=Option.some.inj h2;omega
        subst e2
        rw [HQ'.out] at h3
        cases h3
        intro m2 hm2
        rw [HLAST.out] at hm2
        cases hm2
        exact hr
      rw [hr] at HC
      clear hr
      go_wp2
      go_region_held3 (fun W => (∀ o,W.cell? ⟨w.heap.size,o,none⟩=(#[.slice P pl pc,.int .i64 f.arrays,.int .i64 f.cells,.slice (some ⟨b1,off,none⟩) n c,.slice (some ⟨gF,0,none⟩) n n,.slice (some ⟨gL,0,none⟩) n n,.slice (some ⟨gp,0,none⟩) n n,.map (some M)]:Array Value)[o]?) ∧ (∀ o,W.cell? ⟨wo.heap.size,o,none⟩=(#[.int .i64 p.id,.int .i64 p.typ,.slice (some ⟨fb,foff,none⟩) nf fc,.slice (some ⟨vb,voff,none⟩) nv vc]:Array Value)[o]?) ∧ W.cell? ⟨fb,foff + m,none⟩=some (.int .i64 (fr:Int))) (first | (with_reducible exact G0.out _ hfb4) | (with_reducible exact G0.out _ hfb3) | go_keep)
       (first
        | (go_at_call 156;(with_reducible refine (HE.out _ (drew1_below (Below.refl _ _))).mono ?_);rintro e w3 ⟨rfl,hb3⟩;have hfb3:=(drew1_below (Below.refl wr.heap.size wr)).trans hb3)
        | (go_at_call 155;(with_reducible refine (HC.out _ hfb3).mono ?_);rintro e w4 ⟨rfl,hb4⟩;have hfb4:=hfb3.trans (hb4.mono hfb3.size)))
      go_wp2
      go_roundw
      case rel => exact ⟨m + 1,by omega,by go_num,HA2,hideI (HBm.out.trans (hfb4.mono HBm.out.size))⟩
      case measure => simp [intOf];omega
    ·have HA2:Hid (∀ (j:Nat) (p:PhiM),j < k + 1 → q.phis[j]?=some p → ∀ (i:Nat) (id:Int) (fr:Nat) (q':BlockM),p.vals[i]?=some id → p.fr[i]?=some (fr:Int) → f.blocks[fr]?=some q' → okAt f F L id fr q'.code.length):=by
      refine hideI (fun j p2 hj hp2 i2 id2 fr2 q2 h1 h2 h3 => ?_)
      rcases Nat.lt_or_ge j k with h | h
      ·exact HA.out j p2 h hp2 i2 id2 fr2 q2 h1 h2 h3
      ·have:j=k:=by omega
       subst this
       rw [HP.out] at hp2
       cases hp2
       exact HAm.out i2 id2 fr2 q2 (by have:=(List.getElem?_eq_some_iff.1 h1).1;have:=HNV.out;omega) h1 h2 h3
     go_wp2
     go_roundw
     case rel => exact ⟨k + 1,by omega,by go_num,HA2,HALL⟩
     case measure => simp [intOf];omega
  ·have HPA:Hid (∀ p ∈ q.phis,∀ (i:Nat) (id:Int) (fr:Nat) (q':BlockM),p.vals[i]?=some id → p.fr[i]?=some (fr:Int) → f.blocks[fr]?=some q' → okAt f F L id fr q'.code.length):=by
    refine hideI (fun p hp => ?_)
    obtain ⟨j,hj⟩:=List.getElem?_of_mem hp
    exact HA.out j p (by have:=(List.getElem?_eq_some_iff.1 hj).1;have:=HNQ.out;omega) hj
   go_wp2
   obtain ⟨wp,rfl⟩:∃ wp:World,wp=wr:=⟨_,rfl⟩
   clear hx1 hlt HA
   go_loopw [52] (fun i wr => ∃ k:Nat,k ≤ nc ∧ i=.int .i64 k ∧ Hid (∀ (i:Nat) (x:InstrM),i < k → q.code[i]?=some x → ∀ id ∈ x.args,okAt f F L id b i) ∧ Hid (Below W1.heap.size W1 wr)) (fun i _ => nc - (intOf i).toNat)
   case atStart => exact ⟨0,Nat.zero_le _,rfl,hideI (fun i x h => by omega),HBr⟩
   case round =>
    obtain ⟨k,hk,rfl,HA,HBr⟩:=hrel
    have hwl:W1.heap.size ≤ wr.heap.size:=HBr.out.size
    have hx1:=row_cells HX1.out (HBr.out.block _ (lt_of_heap HX1.out))
    by_cases hlt:k < nc
    ·obtain ⟨x,hx⟩:∃ x,q.code[k]?=some x:=⟨_,List.getElem?_eq_getElem (by have:=HNC.out;omega)⟩
     obtain ⟨b2,off2,av,rfl,hb2,e0,e1,e2,e3,hav,_⟩:=HCX.out k x hx
     have hks:=Keeps.of_below ((HSW.out _ HBr.out).2.mono hB)
     have d0:=(hks b2 (off2 + k * 4) hb2).trans e0
     have d1:=(hks b2 (off2 + k * 4 + 1) hb2).trans e1
     have d2:=(hks b2 (off2 + k * 4 + 2) hb2).trans e2
     have d3:=(hks b2 (off2 + k * 4 + 3) hb2).trans e3
     have HP:=hideI hx
     have HVV:=hideI hav
     obtain ⟨VA,vc,rfl,hvm,_⟩:=hav
     obtain ⟨nv,hnv⟩:∃ nv,nv=x.args.length:=⟨_,rfl⟩
     have HNV:=hideI hnv
     rw [← hnv] at d2 hvm
     obtain ⟨W2,hW2⟩:∃ W2:World,W2=wr.alloc (.cells #[.int .i64 x.op,.int .i64 x.id,.slice VA nv vc,.int .i64 x.n] 68):=⟨_,rfl⟩
     have HB2:Hid (Below W1.heap.size W1 W2):=by rw [hW2];exact hideI (HBr.out.alloc HBr.out.size _)
     have HW2:=hideI hW2
     clear hks e0 e1 e2 e3 hx hnv hW2
     go_wp2
     rw [← HW2.out]
     obtain ⟨wo,rfl⟩:∃ wo:World,wo=wr:=⟨_,rfl⟩
     clear hx1 d0 d1 d2 d3
     go_loopw [60] (fun i wr => ∃ m:Nat,m ≤ nv ∧ i=.int .i64 m ∧ Hid (∀ (i:Nat) (id:Int),i < m → x.args[i]?=some id → okAt f F L id b k) ∧ Hid (Below W2.heap.size W2 wr)) (fun i _ => nv - (intOf i).toNat)
     case atStart => exact ⟨0,Nat.zero_le _,rfl,hideI (fun i id h => by omega),hideI (Below.refl _ _)⟩
     case round =>
      obtain ⟨m,hm,rfl,HAm,HBm⟩:=hrel
      have hall:=HB2.out.trans (HBm.out.mono HB2.out.size)
      have HALL:=hideI hall
      by_cases hlm:m < nv
      ·obtain ⟨id,hid⟩:∃ id,x.args[m]?=some id:=⟨_,List.getElem?_eq_getElem (by have:=HNV.out;omega)⟩
       obtain ⟨hi64,mb,ma,hlast,hmb⟩:=HK.out.arg b q x id HQ.out (List.mem_of_getElem? HP.out) (List.mem_of_getElem? hid)
       obtain ⟨_,_,ev,_,hvx⟩:=HVV.out.keeps (Keeps.of_below ((HSW.out _ hall).2.mono hB))
       cases ev
       obtain ⟨vb,voff,rfl,hvb,v0⟩:=hvx m (by rw [← HNV.out];exact hlm)
       rw [hid] at v0
       simp only [Option.getD_some] at v0
       have g1:=row_cells HX0.out (hall.block _ (lt_of_heap HX0.out))
       have HSR:=hideI (HSW.out _ hall)
       have HBN:Hid (B ≤ wr.heap.size):=by have:=(HSW.out _ hall).2.size;exact hideI (by omega)
       have HID:=hideI hid
       have HLAST:=hideI hlast
       have HC:Hid (Calls Tryz.prog 155 #[.agg #[.slice P pl pc,.int .i64 f.arrays,.int .i64 f.cells,.slice (some ⟨b1,off,none⟩) n c,.slice (some ⟨gF,0,none⟩) n n,.slice (some ⟨gL,0,none⟩) n n,.slice (some ⟨gp,0,none⟩) n n,.map (some M)],.int .i64 id,.agg #[.int .i64 b,.int .i64 k]] wr fun e w' => e=.returned (.bool (aheadB F L (mb,ma) b k)) ∧ Below wr.heap.size wr w'):=by
        have:=comesAhead_any f B (.slice P pl pc) _ gF gL gp M F L id mb b ma k wr HSR.out.1 HBN.out (by rw [← HN.out];exact hn5) hi64 hlast hmb (by rw [← HN.out];exact hbn) P pl pc rfl
        rw [← HN.out] at this
        exact hideI this
       clear hvx hid hi64 hlast hall
       cases hr:aheadB F L (mb,ma) b k
       ·have HNO:Hid (¬ UsesFit f F L b q):=by
         refine hideI (fun hu => ?_)
         have:=hu.arg k x HP.out id (List.mem_of_getElem? HID.out) (mb,ma) HLAST.out
         rw [hr] at this
         cases this
        rw [hr] at HC
        clear hr
        go_wp2_with (go_at_call 155;go_must (refine HC.out.mono ?_);rintro e w4 ⟨rfl,hb4⟩;have HB4:=hideI hb4;clear hb4)
        go_ret
        exact usesPost_no HNO.out (HSR.out.2.trans (HB4.out.mono HSR.out.2.size))
       ·have HA2:Hid (∀ (i:Nat) (id:Int),i < m + 1 → x.args[i]?=some id → okAt f F L id b k):=by
         refine hideI (fun i2 id2 hi2 h1 => ?_)
         rcases Nat.lt_or_ge i2 m with h | h
         ·exact HAm.out i2 id2 h h1
         ·have:i2=m:=by omega
          subst this
          rw [HID.out] at h1
          cases h1
          intro m2 hm2
          rw [HLAST.out] at hm2
          cases hm2
          exact hr
        rw [hr] at HC
        clear hr
        go_wp2_with (go_at_call 155;go_must (refine HC.out.mono ?_);rintro e w4 ⟨rfl,hb4⟩;have HB4:=hideI hb4;clear hb4)
        go_roundw
        case rel => exact ⟨m + 1,by omega,by go_num,HA2,hideI (HBm.out.trans (HB4.out.mono HBm.out.size))⟩
        case measure => simp [intOf];omega
      ·have HA2:Hid (∀ (i:Nat) (x:InstrM),i < k + 1 → q.code[i]?=some x → ∀ id ∈ x.args,okAt f F L id b i):=by
        refine hideI (fun j p2 hj hp2 id2 h1 => ?_)
        rcases Nat.lt_or_ge j k with h | h
        ·exact HA.out j p2 h hp2 id2 h1
        ·have:j=k:=by omega
         subst this
         rw [HP.out] at hp2
         cases hp2
         obtain ⟨i2,hi2⟩:=List.getElem?_of_mem h1
         exact HAm.out i2 id2 (by have:=(List.getElem?_eq_some_iff.1 hi2).1;have:=HNV.out;omega) hi2
       go_wp2
       go_roundw
       case rel => exact ⟨k + 1,by omega,by go_num,HA2,HALL⟩
       case measure => simp [intOf];omega
    ·have HCA:Hid (∀ (i:Nat) (x:InstrM),q.code[i]?=some x → ∀ id ∈ x.args,okAt f F L id b i):=by
      refine hideI (fun i x hi => ?_)
      exact HA.out i x (by have:=(List.getElem?_eq_some_iff.1 hi).1;have:=HNC.out;omega) hi
     clear HA hx1
     have HALL:=HBr
     have G0:Hid (∀ W,Below wr.heap.size wr W → (∀ o,W.cell? ⟨w.heap.size,o,none⟩=(#[.slice P pl pc,.int .i64 f.arrays,.int .i64 f.cells,.slice (some ⟨b1,off,none⟩) n c,.slice (some ⟨gF,0,none⟩) n n,.slice (some ⟨gL,0,none⟩) n n,.slice (some ⟨gp,0,none⟩) n n,.map (some M)]:Array Value)[o]?) ∧ (∀ o,W.cell? ⟨w.heap.size + 1,o,none⟩=(#[.slice PA nq pc2,.slice CA nc cc,.int .i64 q.term.op,.int .i64 q.term.val,.slice TA q.term.to.length tc,.int .i64 q.term.n]:Array Value)[o]?)):=by
      refine hideI (fun W hW => ?_)
      have h1:=HALL.out.trans (hW.mono HALL.out.size)
      exact ⟨row_cells HX0.out (h1.block _ (lt_of_heap HX0.out)),row_cells HX1.out (h1.block _ (lt_of_heap HX1.out))⟩
     obtain ⟨g1,g2⟩:=G0.out wr (Below.refl _ _)
     have HSR:=hideI (HSW.out _ HALL.out)
     have HBN:Hid (B ≤ wr.heap.size):=by have:=(HSW.out _ HALL.out).2.size;exact hideI (by omega)
     cases hu:(q.term.op == 2) || (q.term.op == 3)
     ·have HR:Hid (UsesFit f F L b q):=by
       refine hideI ⟨HPA.out,HCA.out,fun h => ?_⟩
       exfalso
       rcases h with h | h <;> simp [h] at hu
      have HU:Hid (∀ W,Calls Tryz.prog 157 #[.agg #[.int .i64 q.term.op,.int .i64 q.term.val,.slice TA q.term.to.length tc,.int .i64 q.term.n]] W fun e w' => e=.returned (.bool false) ∧ Below W.heap.size W w'):=hideI (fun W => by
       have:=usesValue_any q.term.op q.term.val q.term.n _ W TA q.term.to.length tc rfl
       rw [hu] at this
       exact this)
      clear hu
      go_wp2
      refine wp_region_late (by kernel_rfl) (fun _ => True) [] ?_
      refine wpAnyT_quiet (i:=0) (v:=?_) rfl (by kernel_rfl) (by kernel_rfl) (by kernel_rfl) (fun _ _ _ h => h) (Or.inl ⟨by rfl,?_⟩) ?_
      rotate_left
      ·(intro w;go_simp;try with_reducible rfl)
      try simp only [Act.put,List.setIfInBounds_toArray,List.set_cons_zero,List.set_cons_succ]
      refine wpAnyT_ready (rs:=[1]) (by kernel_rfl) (by simp) ?_
      refine AllReadyT.cons rfl (fun K hK => ?_) AllReadyT.nil
      go_simp
      refine hK.out _ _ (fun _ _ => trivial) ?_
      clear hK K
      try simp only [Act.put,List.setIfInBounds_toArray,List.set_cons_zero,List.set_cons_succ]
      refine wpAnyT_ready (rs:=[2]) (by kernel_rfl) (by simp) ?_
      refine AllReadyT.cons rfl (fun K hK => ?_) AllReadyT.nil
      go_simp
      go_at_call 157
      refine (HU.out _).mono ?_
      rintro e w3 ⟨rfl,hb3⟩
      have hfb3:=(drew1_below (Below.refl wr.heap.size wr)).trans hb3
      refine hK.out _ _ (fun _ _ => trivial) ?_
      clear hK K
      try simp only [Act.put,List.setIfInBounds_toArray,List.set_cons_zero,List.set_cons_succ]
      refine wpAnyT_quiet (i:=3) (v:=?_) rfl (by kernel_rfl) (by kernel_rfl) (by kernel_rfl) (fun _ _ _ h => h) (Or.inl ⟨by rfl,?_⟩) ?_
      rotate_left
      ·(intro w;go_simp;try with_reducible rfl)
      try simp only [Act.put,List.setIfInBounds_toArray,List.set_cons_zero,List.set_cons_succ]
      refine wpAnyT_quiet (i:=4) (v:=?_) rfl (by kernel_rfl) (by kernel_rfl) (by kernel_rfl) (fun _ _ _ h => h) (Or.inl ⟨by rfl,?_⟩) ?_
      rotate_left
      ·(intro w;go_simp;try with_reducible rfl)
      try simp only [Act.put,List.setIfInBounds_toArray,List.set_cons_zero,List.set_cons_succ]
      refine wpAnyT_quiet (i:=5) (v:=undef) rfl (by kernel_rfl) (by kernel_rfl) (by kernel_rfl) (fun _ _ _ h => h) (Or.inr ⟨by rfl,rfl⟩) ?_
      try simp only [Act.put,List.setIfInBounds_toArray,List.set_cons_zero,List.set_cons_succ]
      refine wpAnyT_quiet (i:=6) (v:=undef) rfl (by kernel_rfl) (by kernel_rfl) (by kernel_rfl) (fun _ _ _ h => h) (Or.inr ⟨by rfl,rfl⟩) ?_
      try simp only [Act.put,List.setIfInBounds_toArray,List.set_cons_zero,List.set_cons_succ]
      refine wpAnyT_quiet (i:=7) (v:=undef) rfl (by kernel_rfl) (by kernel_rfl) (by kernel_rfl) (fun _ _ _ h => h) (Or.inr ⟨by rfl,rfl⟩) ?_
      try simp only [Act.put,List.setIfInBounds_toArray,List.set_cons_zero,List.set_cons_succ]
      refine wpAnyT_quiet (i:=8) (v:=undef) rfl (by kernel_rfl) (by kernel_rfl) (by kernel_rfl) (fun _ _ _ h => h) (Or.inr ⟨by rfl,rfl⟩) ?_
      try simp only [Act.put,List.setIfInBounds_toArray,List.set_cons_zero,List.set_cons_succ]
      refine wpAnyT_quiet (i:=9) (v:=undef) rfl (by kernel_rfl) (by kernel_rfl) (by kernel_rfl) (fun _ _ _ h => h) (Or.inr ⟨by rfl,rfl⟩) ?_
      try simp only [Act.put,List.setIfInBounds_toArray,List.set_cons_zero,List.set_cons_succ]
      refine wpAnyT_quiet (i:=10) (v:=undef) rfl (by kernel_rfl) (by kernel_rfl) (by kernel_rfl) (fun _ _ _ h => h) (Or.inr ⟨by rfl,rfl⟩) ?_
      try simp only [Act.put,List.setIfInBounds_toArray,List.set_cons_zero,List.set_cons_succ]
      refine wpAnyT_quiet (i:=11) (v:=undef) rfl (by kernel_rfl) (by kernel_rfl) (by kernel_rfl) (fun _ _ _ h => h) (Or.inr ⟨by rfl,rfl⟩) ?_
      try simp only [Act.put,List.setIfInBounds_toArray,List.set_cons_zero,List.set_cons_succ]
      refine wpAnyT_quiet (i:=12) (v:=undef) rfl (by kernel_rfl) (by kernel_rfl) (by kernel_rfl) (fun _ _ _ h => h) (Or.inr ⟨by rfl,rfl⟩) ?_
      try simp only [Act.put,List.setIfInBounds_toArray,List.set_cons_zero,List.set_cons_succ]
      refine wpAnyT_quiet (i:=13) (v:=undef) rfl (by kernel_rfl) (by kernel_rfl) (by kernel_rfl) (fun _ _ _ h => h) (Or.inr ⟨by rfl,rfl⟩) ?_
      try simp only [Act.put,List.setIfInBounds_toArray,List.set_cons_zero,List.set_cons_succ]
      refine wpAnyT_quiet (i:=14) (v:=?_) rfl (by kernel_rfl) (by kernel_rfl) (by kernel_rfl) (fun _ _ _ h => h) (Or.inl ⟨by rfl,?_⟩) ?_
      rotate_left
      ·(intro w;go_simp;try with_reducible rfl)
      try simp only [Act.put,List.setIfInBounds_toArray,List.set_cons_zero,List.set_cons_succ]
      refine wpAnyT_quiet (i:=15) (v:=?_) rfl (by kernel_rfl) (by kernel_rfl) (by kernel_rfl) (fun _ _ _ h => h) (Or.inl ⟨by rfl,?_⟩) ?_
      rotate_left
      ·(intro w;go_simp;try with_reducible rfl)
      try simp only [Act.put,List.setIfInBounds_toArray,List.set_cons_zero,List.set_cons_succ]
      refine wpAnyT_done (by kernel_rfl) ?_ _
      go_wp2
      go_ret
      exact ⟨true,rfl,⟨fun _ => HR.out,fun _ => rfl⟩,HSR.out.2.trans (hfb3.mono HSR.out.2.size)⟩
     ·have hu':q.term.op=2 ∨ q.term.op=3:=by simpa using hu
      obtain ⟨hi64,mb,ma,hlast,hmb⟩:=HK.out.term b q HQ.out hu'
      have HU:Hid (∀ W,Calls Tryz.prog 157 #[.agg #[.int .i64 q.term.op,.int .i64 q.term.val,.slice TA q.term.to.length tc,.int .i64 q.term.n]] W fun e w' => e=.returned (.bool true) ∧ Below W.heap.size W w'):=hideI (fun W => by
       have:=usesValue_any q.term.op q.term.val q.term.n _ W TA q.term.to.length tc rfl
       rw [hu] at this
       exact this)
      have HI64:=hideI hi64
      have HLAST:=hideI hlast
      have HUU:=hideI hu'
      have HE:Hid (∀ W,Below wr.heap.size wr W → Calls Tryz.prog 156 #[.agg #[.slice P pl pc,.int .i64 f.arrays,.int .i64 f.cells,.slice (some ⟨b1,off,none⟩) n c],.int .i64 b] W fun e w' => e=.returned (.agg #[.int .i64 b,.int .i64 (nc:Int)]) ∧ Below W.heap.size W w'):=hideI (fun W hW => by
       have:=endOf_any f B (.slice P pl pc) _ b q W (HSR.out.1.kept (hW.mono HBN.out)).blk (Nat.le_trans HBN.out hW.size) HQ.out (by rw [← HN.out];exact hn5) P pl pc rfl
       rw [← HN.out,← HNC.out] at this
       exact this)
      have HC:Hid (∀ W,Below wr.heap.size wr W → Calls Tryz.prog 155 #[.agg #[.slice P pl pc,.int .i64 f.arrays,.int .i64 f.cells,.slice (some ⟨b1,off,none⟩) n c,.slice (some ⟨gF,0,none⟩) n n,.slice (some ⟨gL,0,none⟩) n n,.slice (some ⟨gp,0,none⟩) n n,.map (some M)],.int .i64 q.term.val,.agg #[.int .i64 b,.int .i64 (nc:Int)]] W fun e w' => e=.returned (.bool (aheadB F L (mb,ma) b nc)) ∧ Below W.heap.size W w'):=hideI (fun W hW => by
       have:=comesAhead_any f B (.slice P pl pc) _ gF gL gp M F L q.term.val mb b ma nc W (HSR.out.1.kept (hW.mono HBN.out)) (Nat.le_trans HBN.out hW.size) (by rw [← HN.out];exact hn5) HI64.out HLAST.out hmb (by rw [← HN.out];exact hbn) P pl pc rfl
       rw [← HN.out] at this
       exact this)
      obtain ⟨r,hr⟩:∃ r,r=aheadB F L (mb,ma) b nc:=⟨_,rfl⟩
      rw [← hr] at HC
      have HR:Hid (r=true ↔ UsesFit f F L b q):=by
       refine hideI ⟨fun e => ⟨HPA.out,HCA.out,fun _ m2 hm2 => ?_⟩,fun h => ?_⟩
       ·rw [HLAST.out] at hm2
        cases hm2
        rw [← HNC.out,← hr]
        exact e
       ·have:=h.term HUU.out (mb,ma) HLAST.out
        rw [← HNC.out,← hr] at this
        exact this
      clear hu hu' hi64 hlast hr
      go_wp2
      go_region_held3 (fun W => (∀ o,W.cell? ⟨w.heap.size,o,none⟩=(#[.slice P pl pc,.int .i64 f.arrays,.int .i64 f.cells,.slice (some ⟨b1,off,none⟩) n c,.slice (some ⟨gF,0,none⟩) n n,.slice (some ⟨gL,0,none⟩) n n,.slice (some ⟨gp,0,none⟩) n n,.map (some M)]:Array Value)[o]?) ∧ (∀ o,W.cell? ⟨w.heap.size + 1,o,none⟩=(#[.slice PA nq pc2,.slice CA nc cc,.int .i64 q.term.op,.int .i64 q.term.val,.slice TA q.term.to.length tc,.int .i64 q.term.n]:Array Value)[o]?)) (first | (with_reducible exact G0.out _ hfb5) | (with_reducible exact G0.out _ hfb4) | (with_reducible exact G0.out _ hfb3) | go_keep)
       (first
        | (go_at_call 157;(with_reducible refine (HU.out _).mono ?_);rintro e w3 ⟨rfl,hb3⟩;have hfb3:=(drew1_below (Below.refl wr.heap.size wr)).trans hb3)
        | (go_at_call 156;(with_reducible refine (HE.out _ hfb3).mono ?_);rintro e w4 ⟨rfl,hb4⟩;have hfb4:=hfb3.trans (hb4.mono hfb3.size))
        | (go_at_call 155;(with_reducible refine (HC.out _ hfb4).mono ?_);rintro e w5 ⟨rfl,hb5⟩;have hfb5:=hfb4.trans (hb5.mono hfb4.size)))
      go_wp2
      go_ret
      exact ⟨r,rfl,HR.out,HSR.out.2.trans (hfb5.mono HSR.out.2.size)⟩
end Go.Proofs.YtaehbgppfahdeaaGreat

namespace Go.Proofs.YtaehbgppfahdeaaGreat
open Go.RowKit Go.Maps
def IdomsPost (f:FuncM) (w:World) (e:Ending) (w':World):Prop :=
 ((lookM f).1 ≠ 0 ∧ e=.returned (.tuple #[.slice none 0 0,.int .i64 (lookM f).1]) ∧ Below w.heap.size w w') ∨
 ((lookM f).1=0 ∧ ∃ (o:List Nat) (pl:Nat → Nat) (par:Nat → Option Nat) (capo gi:Nat),e=.returned (.tuple #[.slice (some ⟨gi,0,none⟩) f.blocks.length f.blocks.length,.int .i64 0]) ∧ Flows f o pl capo ∧ Done (succM f.blocks) o pl par ∧ w'.ownsRow w.heap.size 3 1 (.slice (some ⟨gi,0,none⟩) f.blocks.length f.blocks.length) f.blocks.length (tops f.blocks.length par) ∧ Below w.heap.size w w')
set_option maxRecDepth 100000 in
set_option maxHeartbeats 1000000 in
theorem idoms_any (f:FuncM) (B:Nat) (pv bv:Value) (w:World) (hpv:Ints w B pv f.params) (hbv:BlocksR w B bv f.blocks) (hB:B ≤ w.heap.size) (hid:∀ u ∈ usesM f,I64 u.1) :
  Calls Tryz.prog 86 #[.agg #[pv,.int .i64 f.arrays,.int .i64 f.cells,bv]] w (IdomsPost f w):=by
 have HP:=hideI hpv
 have HBL:=hideI hbv
 have HID:=hideI hid
 obtain ⟨P,pc,rfl,_⟩:=hpv
 obtain ⟨A,c,rfl,hbm,_⟩:=hbv
 have HB0:Hid (Below w.heap.size w (w.alloc (.cells #[.slice P f.params.length pc,.int .i64 f.arrays,.int .i64 f.cells,.slice A f.blocks.length c] 25))):=(Below.refl _ w).alloc (Nat.le_refl _) _
 have HT:=hideI (treeOf_any f B _ _ (w.alloc (.cells #[.slice P f.params.length pc,.int .i64 f.arrays,.int .i64 f.cells,.slice A f.blocks.length c] 25)) (HP.out.keeps (Keeps.of_below (HB0.out.mono hB))) (HBL.out.keeps (Keeps.of_below (HB0.out.mono hB))) (by simp;omega) HID.out)
 clear hid
 by_cases h0:(lookM f).1=0
 ·have H0:=hideI h0
  clear h0
  go_enter Tryz.func86,Tryz.ntmps86
  go_wp2_with (go_at_call 139;go_must (refine HT.out.mono ?_);rintro e w1 (⟨hbad,_⟩ | ⟨_,o,pl,par,B1,gp,vs,go,capo,gl,gi,rfl,hfs,hdone,htree,hlow,hb1⟩);(exact absurd H0.out hbad);have HFS:=hideI hfs;have HDONE:=hideI hdone;have HTREE:=hideI htree;have HB1:=hideI (HB0.out.trans (hb1.mono (by simp)));have hl1:w.heap.size ≤ B1:=(by simp at hlow;omega);clear hfs hdone htree hb1 hlow)
  go_ret2
  exact .inr ⟨H0.out,o,pl,par,capo,gi,rfl,HFS.out,HDONE.out,World.ownsRow.mono ((World.ownsRow.alloc HTREE.out.idoms _)) hl1,HB1.out.alloc HB1.out.size _⟩
 ·have H0:=hideI h0
  have hb:((lookM f).1 != 0)=true:=by simpa using h0
  clear h0
  go_enter Tryz.func86,Tryz.ntmps86
  go_wp2_with (go_at_call 139;go_must (refine HT.out.mono ?_);rintro e w1 (⟨_,rfl,hb1⟩ | ⟨hbad,_⟩);rotate_left;(exact absurd hbad H0.out);have HB1:=hideI (HB0.out.trans (hb1.mono (by simp)));clear hb1)
  go_ret2
  exact .inl ⟨H0.out,rfl,HB1.out.alloc HB1.out.size _⟩
end Go.Proofs.YtaehbgppfahdeaaGreat

namespace Go.Proofs.YtaehbgppfahdeaaGreat
open Go.RowKit Go.Maps
def SfPost (f:FuncM) (pv bv:Value) (w:World) (e:Ending) (w':World):Prop :=
 ((lookM f).1 ≠ 0 ∧ e=.returned (.tuple #[.agg #[.slice none 0 0,.int .i64 0,.int .i64 0,.slice none 0 0,.slice none 0 0,.slice none 0 0,.slice none 0 0,.map none],.int .i64 (lookM f).1]) ∧ Below w.heap.size w w') ∨
 ((lookM f).1=0 ∧ ∃ (o:List Nat) (pl:Nat → Nat) (par:Nat → Option Nat) (capo gF gL gp M:Nat) (F L:Nat → Int),
  e=.returned (.tuple #[.agg #[pv,.int .i64 f.arrays,.int .i64 f.cells,bv,.slice (some ⟨gF,0,none⟩) f.blocks.length f.blocks.length,.slice (some ⟨gL,0,none⟩) f.blocks.length f.blocks.length,.slice (some ⟨gp,0,none⟩) f.blocks.length f.blocks.length,.map (some M)],.int .i64 0]) ∧
  Flows f o pl capo ∧ Done (succM f.blocks) o pl par ∧ Numbered o par F L ∧ SF w' w'.heap.size f bv gF gL gp M F L ∧ Below w.heap.size w w')
theorem grown_set (w:World) (X o:Nat) (u:Value):w.grownBy (w.setCell ⟨X,o,none⟩ u) (some X):=by
 have h:Below 0 w (w.setCell ⟨X,o,none⟩ u):=(Below.refl 0 w).setCell (Nat.zero_le _) _
 exact ⟨h.os,h.tape,h.output,h.size,fun i _ hne => heap_setCell_other w ⟨X,o,none⟩ i _ (fun e => hne (by rw [e]))⟩
theorem sf_make {f:FuncM} {bv:Value} {w w':World} {B X g gF gL gp M:Nat} {F L:Nat → Int} {vs:List Value} (hg:w.grownBy w' (some X)) (hbl:BlocksR w B bv f.blocks) (hBX:B ≤ X) (hX:X < w.heap.size) (hn5:f.blocks.length ≤ 512)
  (hoF:w.ownsRow (X + 1) 3 1 (.slice (some ⟨gF,0,none⟩) f.blocks.length f.blocks.length) f.blocks.length (numsL f.blocks.length F)) (hoL:w.ownsRow (X + 1) 3 1 (.slice (some ⟨gL,0,none⟩) f.blocks.length f.blocks.length) f.blocks.length (numsL f.blocks.length L))
  (hls:Lists w g gp f.blocks.length vs (predsAt f.blocks f.blocks.length f.blocks.length 0)) (hgX:X < g) (hM:X < M) (hpl:PlacesAt w M (placedM f)):SF w' w'.heap.size f bv gF gL gp M F L:=by
 have hF':=hoF.kept hg (.inr (by have:=(hoF.lt gF rfl).1;simp [Value.ownBlock];omega))
 have hL':=hoL.kept hg (.inr (by have:=(hoL.lt gL rfl).1;simp [Value.ownBlock];omega))
 have hgp:=hls.lt
 have hR':=hls.row.kept hg (.inr (by simp [Value.ownBlock];omega))
 have hs:=hg.size
 refine ⟨((hbl.keeps (Keeps.of_grown hg hBX (by omega))).more' (by omega)),(hF'.lt gF rfl).2,(hL'.lt gL rfl).2,(hR'.lt gp rfl).2,?_,fun b hb => ?_,fun b hb => ?_,fun b hb => ?_,?_⟩
 ·have:=hpl.lt
  omega
 ·rw [World.ownsRow.cellAt hF' b (by omega),numsL_at hb]
 ·rw [World.ownsRow.cellAt hL' b (by omega),numsL_at hb]
 ·obtain ⟨v,hv⟩:∃ v,vs[b]?=some v:=⟨_,List.getElem?_eq_getElem (by rw [hls.vl];exact hb)⟩
  have hl:(predsAt f.blocks f.blocks.length f.blocks.length 0)[b]?=some (predsTo f.blocks f.blocks.length b):=by rw [predsAt_at hb];simp
  have ho:=(hls.own b v _ hv hl).kept hg (by
   cases e:v.ownBlock with
   | none => exact .inl rfl
   | some k => exact .inr (by have:=((hls.own b v _ hv hl).lt k e).1;simp;omega))
  exact ⟨v,by rw [World.ownsRow.cellAt hR' b (by omega)];exact hv,nat_ints ho (by have:=predsTo_len f.blocks f.blocks.length b;omega)⟩
 ·obtain ⟨D,h1,h2⟩:=hpl
  exact ⟨D,h1.kept hg (by simp;omega),h2⟩
theorem look_fewv {f:FuncM} (h:(lookM f).1=0):FewV f:=by
 have hf:=look_formed h
 unfold formedM at hf
 split at hf
 ·rename_i hl
  simp only [Bool.and_eq_true] at hl
  have:=limits_bd hl.1.1
  exact ⟨this.1,this.2.2.2.2.2.2.2⟩
 ·cases hf
set_option maxRecDepth 100000 in
set_option maxHeartbeats 4000000 in
theorem functionOf_any (f:FuncM) (B:Nat) (pv bv:Value) (w:World) (hpv:Ints w B pv f.params) (hbv:BlocksR w B bv f.blocks) (hB:B ≤ w.heap.size) (hid:∀ u ∈ usesM f,I64 u.1) :
  Calls Tryz.prog 61 #[.agg #[pv,.int .i64 f.arrays,.int .i64 f.cells,bv]] w (SfPost f pv bv w):=by
 have HP:=hideI hpv
 have HBL:=hideI hbv
 have HID:=hideI hid
 obtain ⟨P,pc,rfl,_⟩:=hpv
 obtain ⟨A,c,rfl,hbm,_⟩:=hbv
 obtain ⟨W0,hW0⟩:∃ W0:World,W0=(w.alloc (.cells #[.slice P f.params.length pc,.int .i64 f.arrays,.int .i64 f.cells,.slice A f.blocks.length c] 25)).alloc (.cells #[.slice none 0 0,.int .i64 0,.int .i64 0,.slice none 0 0,.slice none 0 0,.slice none 0 0,.slice none 0 0,.map none] 123):=⟨_,rfl⟩
 have hB0:Below w.heap.size w W0:=by rw [hW0];exact ((Below.refl _ w).alloc (Nat.le_refl _) _).alloc (by simp) _
 have hs0:W0.heap.size=w.heap.size + 2:=by rw [hW0];simp
 have hX0:W0.heap[w.heap.size]?=some (.cells #[.slice P f.params.length pc,.int .i64 f.arrays,.int .i64 f.cells,.slice A f.blocks.length c] 25 (0,0)):=by
  rw [hW0,Below.heap_alloc _ _ _ (by simp)]
  exact heap_alloc_new w _
 have hX1:W0.heap[w.heap.size + 1]?=some (.cells #[.slice none 0 0,.int .i64 0,.int .i64 0,.slice none 0 0,.slice none 0 0,.slice none 0 0,.slice none 0 0,.map none] 123 (0,0)):=by
  rw [hW0]
  have:=heap_alloc_new (w.alloc (.cells #[.slice P f.params.length pc,.int .i64 f.arrays,.int .i64 f.cells,.slice A f.blocks.length c] 25)) (.cells #[.slice none 0 0,.int .i64 0,.int .i64 0,.slice none 0 0,.slice none 0 0,.slice none 0 0,.slice none 0 0,.map none] 123)
  simpa using this
 have HW0:=hideI hW0
 have HB0:=hideI hB0
 have HS0:=hideI hs0
 have HX0:=hideI hX0
 have HX1:=hideI hX1
 have HPW:Hid (∀ W,Below W0.heap.size W0 W → Ints W B (.slice P f.params.length pc) f.params ∧ BlocksR W B (.slice A f.blocks.length c) f.blocks ∧ Below w.heap.size w W ∧ B ≤ W.heap.size):=hideI (fun W hW => by
  have h1:Below w.heap.size w W:=HB0.out.trans (hW.mono (by rw [HS0.out];omega))
  exact ⟨HP.out.keeps (Keeps.of_below (h1.mono hB)),HBL.out.keeps (Keeps.of_below (h1.mono hB)),h1,Nat.le_trans hB h1.size⟩)
 clear hW0 hB0 hs0 hX0 hX1 hid
 by_cases h0:(lookM f).1=0
 ·have H0:=hideI h0
  have HI:=hideI (idoms_any f B _ _ W0 (HPW.out _ (Below.refl _ _)).1 (HPW.out _ (Below.refl _ _)).2.1 (HPW.out _ (Below.refl _ _)).2.2.2 HID.out)
  have hx0:=row_cells HX0.out rfl
  have r0:=hx0 0
  have r1:=hx0 1
  have r2:=hx0 2
  have r3:=hx0 3
  clear h0 hx0
  go_enter Tryz.func61,Tryz.ntmps61
  go_upto_region 1 with fail
  rw [← HW0.out]
  go_wp2_with (first
   | (go_at_call 86;go_must (refine HI.out.mono ?_);rintro e w1 (⟨hbad,_⟩ | ⟨_,o,pl,par,capo,gi,rfl,hfs,hdone,hown,hb1⟩);(exact absurd H0.out hbad);have HFS:=hideI hfs;have HDONE:=hideI hdone;have HOWN:=hideI hown;have HB1:=hideI hb1;clear hfs hdone hown hb1 r0 r1 r2 r3;have hx0:=row_cells HX0.out (HB1.out.block _ (lt_of_heap HX0.out));have r0:=hx0 0;have r1:=hx0 1;have r2:=hx0 2;have r3:=hx0 3;clear hx0)
   | (go_at_call 74;go_must (refine (gPreds_any f B _ _ _ (HPW.out _ HB1.out).1 (HPW.out _ HB1.out).2.1 (HPW.out _ HB1.out).2.2.2 HID.out).mono ?_);rintro e w2 (⟨hbad,_⟩ | ⟨_,gp,vs,rfl,hls,hb2⟩);(exact absurd H0.out hbad);have HLS:=hideI hls;have HB2:=hideI (HB1.out.trans (hb2.mono HB1.out.size));have HOWN2:=hideI (own_kept_below HOWN.out hb2 (fun k hk => (HOWN.out.lt k hk).2));clear hls hb2 r0 r1 r2 r3))
  have hn0:=HFS.out.n0
  have hn5:=HFS.out.n5
  have HFEW:=hideI (look_fewv H0.out)
  have HTR:Hid (∀ W,Below w2.heap.size w2 W → Calls Tryz.prog 104 #[.slice (some ⟨gi,0,none⟩) f.blocks.length f.blocks.length] W fun e w' => ∃ (gF gL:Nat) (F L:Nat → Int),e=.returned (.agg #[.slice (some ⟨gF,0,none⟩) f.blocks.length f.blocks.length,.slice (some ⟨gL,0,none⟩) f.blocks.length f.blocks.length]) ∧ Numbered o par F L ∧
   w'.ownsRow w2.heap.size 3 1 (.slice (some ⟨gF,0,none⟩) f.blocks.length f.blocks.length) f.blocks.length (numsL f.blocks.length F) ∧ w'.ownsRow w2.heap.size 3 1 (.slice (some ⟨gL,0,none⟩) f.blocks.length f.blocks.length) f.blocks.length (numsL f.blocks.length L) ∧ Below W.heap.size W w'):=hideI (fun W hW => by
   refine (sTree_any HFS.out.ord HDONE.out.tree HDONE.out.grown f.blocks.length hn0 hn5 HFS.out.range _ gi W (own_kept_below HOWN2.out hW (fun k hk => (HOWN2.out.lt k hk).2))).mono ?_
   rintro e w' ⟨gF,gL,F,L,rfl,h1,h2,h3,h4⟩
   exact ⟨gF,gL,F,L,rfl,h1,World.ownsRow.mono h2 hW.size,World.ownsRow.mono h3 hW.size,h4⟩)
  have HPL:Hid (∀ W,Below w2.heap.size w2 W → Calls Tryz.prog 105 #[.agg #[.slice P f.params.length pc,.int .i64 f.arrays,.int .i64 f.cells,.slice A f.blocks.length c]] W fun e w' => ∃ M,e=.returned (.map (some M)) ∧ w2.heap.size ≤ M ∧ PlacesAt w' M (placedM f) ∧ Below W.heap.size W w'):=hideI (fun W hW => by
   have h1:=HPW.out W (HB2.out.trans (hW.mono HB2.out.size))
   exact (places_any f B _ _ W h1.1 h1.2.1 h1.2.2.2 HFEW.out hn5).mono fun _ _ ⟨M,a,b,c,d⟩ => ⟨M,a,Nat.le_trans hW.size b,c,d⟩)
  have hlx:=lt_of_heap HX1.out
  have hs2:w.heap.size + 1 < w2.heap.size:=Nat.lt_of_lt_of_le hlx HB2.out.size
  have G0:Hid (∀ W,Below (w.heap.size + 1) w2 W → ∀ o,W.cell? ⟨w.heap.size,o,none⟩=(#[.slice P f.params.length pc,.int .i64 f.arrays,.int .i64 f.cells,.slice A f.blocks.length c]:Array Value)[o]?):=hideI (fun W hW => row_cells HX0.out ((hW.block _ (Nat.lt_succ_self _)).trans (HB2.out.block _ (lt_of_heap HX0.out))))
  have G1:Hid (∀ W,Below w2.heap.size w2 W → (∀ o,W.cell? ⟨w.heap.size + 1,o,none⟩=(#[.slice none 0 0,.int .i64 0,.int .i64 0,.slice none 0 0,.slice none 0 0,.slice none 0 0,.slice none 0 0,.map none]:Array Value)[o]?) ∧ (∀ o,W.frozen? ⟨w.heap.size + 1,o,none⟩=false)):=hideI (fun W hW => ⟨row_cells HX1.out ((HB2.out.trans (hW.mono HB2.out.size)).block _ (lt_of_heap HX1.out)),free_rowN HX1.out ((HB2.out.trans (hW.mono HB2.out.size)).block _ (lt_of_heap HX1.out))⟩)
  have g0:=G0.out w2 (Below.refl _ _)
  go_wp2
  go_region_held3 (fun W => ∀ o,W.cell? ⟨w.heap.size,o,none⟩=(#[.slice P f.params.length pc,.int .i64 f.arrays,.int .i64 f.cells,.slice A f.blocks.length c]:Array Value)[o]?)
   (first | (with_reducible exact G0.out _ (hfb.mono (Nat.le_of_lt hs2))) | (with_reducible exact G0.out _ (hfa.mono (Nat.le_of_lt hs2))) | (with_reducible exact G0.out _ (((((((((hfb.mono (Nat.le_of_lt hs2)).setCell (by simp) _).setCell (by simp) _).setCell (by simp) _).setCell (by simp) _).setCell (by simp) _).setCell (by simp) _).setCell (by simp) _).setCell (by simp) _)) | go_keep)
   (first
    | (go_at_call 104;(with_reducible refine (HTR.out _ (drew1_below (Below.refl _ _))).mono ?_);rintro e w3 ⟨gF,gL,F,L,rfl,hnum,hoF,hoL,hb3⟩;have hfa:=(drew1_below (Below.refl w2.heap.size w2)).trans hb3)
    | (go_at_call 105;(with_reducible refine (HPL.out _ (drew1_below (Below.refl _ _))).mono ?_);rintro e w3 ⟨M,rfl,hML,hpl,hb3⟩;have hfa:=(drew1_below (Below.refl w2.heap.size w2)).trans hb3)
    | (go_at_call 105;(with_reducible refine (HPL.out _ hfa).mono ?_);rintro e w4 ⟨M,rfl,hML,hpl,hb4⟩;have hfb:=hfa.trans (hb4.mono hfa.size);replace hoF:=own_kept_below hoF hb4 (fun k hk => (hoF.lt k hk).2);replace hoL:=own_kept_below hoL hb4 (fun k hk => (hoL.lt k hk).2);have hg1:=G1.out _ hfb;have s:=hg1.1;have z:=hg1.2;have s0:=s 0;have s1:=s 1;have s2:=s 2;have s3:=s 3;have s4:=s 4;have s5:=s 5;have s6:=s 6;have s7:=s 7;have z0:=z 0;have z1:=z 1;have z2:=z 2;have z3:=z 3;have z4:=z 4;have z5:=z 5;have z6:=z 6;have z7:=z 7;clear hg1 s z)
    | (go_at_call 104;(with_reducible refine (HTR.out _ hfa).mono ?_);rintro e w4 ⟨gF,gL,F,L,rfl,hnum,hoF,hoL,hb4⟩;have hfb:=hfa.trans (hb4.mono hfa.size);replace hpl:=hpl.below hb4 hpl.lt;have hg1:=G1.out _ hfb;have s:=hg1.1;have z:=hg1.2;have s0:=s 0;have s1:=s 1;have s2:=s 2;have s3:=s 3;have s4:=s 4;have s5:=s 5;have s6:=s 6;have s7:=s 7;have z0:=z 0;have z1:=z 1;have z2:=z 2;have z3:=z 3;have z4:=z 4;have z5:=z 5;have z6:=z 6;have z7:=z 7;clear hg1 s z))
  all_goals
   go_wp2
   refine bodyPost_ret (v:=.tuple #[.agg #[.slice P f.params.length pc,.int .i64 f.arrays,.int .i64 f.cells,.slice A f.blocks.length c,.slice (some ⟨gF,0,none⟩) f.blocks.length f.blocks.length,.slice (some ⟨gL,0,none⟩) f.blocks.length f.blocks.length,.slice (some ⟨gp,0,none⟩) f.blocks.length f.blocks.length,.map (some M)],.int .i64 0]) (by simp [results,Tryz.results61,go_sem,s0,s1,s2,s3,s4,s5,s6,s7]) rfl ?_
   refine .inr ⟨H0.out,o,pl,par,capo,gF,gL,gp,M,F,L,rfl,HFS.out,HDONE.out,hnum,?_,?_⟩
   ·exact sf_make (X:=w.heap.size + 1) ((((((((grown_set _ _ _ _).trans_grown (grown_set _ _ _ _)).trans_grown (grown_set _ _ _ _)).trans_grown (grown_set _ _ _ _)).trans_grown (grown_set _ _ _ _)).trans_grown (grown_set _ _ _ _)).trans_grown (grown_set _ _ _ _)).trans_grown (grown_set _ _ _ _)) (HPW.out _ (HB2.out.trans (hfb.mono HB2.out.size))).2.1 (by omega) (Nat.lt_of_lt_of_le hs2 hfb.size) hn5 (World.ownsRow.mono hoF hs2) (World.ownsRow.mono hoL hs2) (HLS.out.kept hfb) (Nat.lt_of_lt_of_le hlx HB1.out.size) (by omega) hpl
   ·have hbb:=(HPW.out _ (HB2.out.trans (hfb.mono HB2.out.size))).2.2.1
    exact (((((((hbb.setCell (by simp) _).setCell (by simp) _).setCell (by simp) _).setCell (by simp) _).setCell (by simp) _).setCell (by simp) _).setCell (by simp) _).setCell (by simp) _
 ·have H0:=hideI h0
  have hb:((lookM f).1 != 0)=true:=by simpa using h0
  have HI:=hideI (idoms_any f B _ _ W0 (HPW.out _ (Below.refl _ _)).1 (HPW.out _ (Below.refl _ _)).2.1 (HPW.out _ (Below.refl _ _)).2.2.2 HID.out)
  clear h0
  have hx0:=row_cells HX0.out rfl
  have r0:=hx0 0
  have r1:=hx0 1
  have r2:=hx0 2
  have r3:=hx0 3
  clear hx0
  go_enter Tryz.func61,Tryz.ntmps61
  go_upto_region 1 with fail
  rw [← HW0.out]
  go_wp2_with (go_at_call 86;go_must (refine HI.out.mono ?_);rintro e w1 (⟨_,rfl,hb1⟩ | ⟨hbad,_⟩);rotate_left;(exact absurd hbad H0.out);have HB1:=hideI hb1;have hl:=lt_of_heap HX1.out;have hx1:=row_cells HX1.out (hb1.block _ hl);have hz1:=free_rowN HX1.out (hb1.block _ hl);clear hb1;have s0:=hx1 0;have s1:=hx1 1;have s2:=hx1 2;have s3:=hx1 3;have s4:=hx1 4;have s5:=hx1 5;have s6:=hx1 6;have s7:=hx1 7;have z0:=hz1 0;have z1:=hz1 1;have z2:=hz1 2;have z3:=hz1 3;have z4:=hz1 4;have z5:=hz1 5;have z6:=hz1 6;have z7:=hz1 7;clear hx1 hz1)
  refine bodyPost_ret (v:=.tuple #[.agg #[.slice none 0 0,.int .i64 0,.int .i64 0,.slice none 0 0,.slice none 0 0,.slice none 0 0,.slice none 0 0,.map none],.int .i64 (lookM f).1]) (by simp [results,Tryz.results61,go_sem,s0,s1,s2,s3,s4,s5,s6,s7]) rfl (.inl ⟨H0.out,rfl,?_⟩)
  have hbb:=HB0.out.trans (HB1.out.mono (by rw [HS0.out];omega))
  exact (((((((hbb.setCell (by simp) _).setCell (by simp) _).setCell (by simp) _).setCell (by simp) _).setCell (by simp) _).setCell (by simp) _).setCell (by simp) _).setCell (by simp) _
end Go.Proofs.YtaehbgppfahdeaaGreat
