/- What CanonChecks rests on, part 18: RPlain, RPreds, RBlocks, RWith9. -/
import Derived.Test.YtikogmpibkefdaaGreatPkCanonChecks17
import Derived.BigQuiet
import Derived.Deep.QuietTactic
import Derived.Deep.LoopGhost

namespace Go.Proofs.YtikogmpibkefdaaGreat
open Go.RowKit Go.Maps
def AhS (bs:List BlockM) (x:LpM) (i:Nat) (a:Int):Prop :=
 (a=-1 ∧ ((predsTo bs bs.length x.head).take i).filter (fun p => !decide (p ∈ x.blocks))=[]) ∨
 ∃ p:Nat,a=p ∧ ((predsTo bs bs.length x.head).take i).filter (fun p => !decide (p ∈ x.blocks))=[p] ∧ jumpB bs p=true
section
variable {bs:List BlockM} {x:LpM} {i p:Nat} {a:Int}
theorem AhS.skip (h:AhS bs x i a) (hp:(predsTo bs bs.length x.head)[i]?=some p) (hq:p ∈ x.blocks):AhS bs x (i + 1) a:=by
 unfold AhS
 rw [filter_skip hp (by simp [hq])]
 exact h
theorem AhS.take (h:AhS bs x i (-1)) (hp:(predsTo bs bs.length x.head)[i]?=some p) (hq:p ∉ x.blocks) (hj:jumpB bs p=true):AhS bs x (i + 1) p:=by
 rcases h with ⟨_,h⟩ | ⟨p',e,_⟩
 ·refine .inr ⟨p,rfl,?_,hj⟩
  rw [filter_more hp (by simp [hq]),h]
  rfl
 ·omega
theorem entries_split (i:Nat):entriesM bs x=((predsTo bs bs.length x.head).take i).filter (fun p => !decide (p ∈ x.blocks)) ++ ((predsTo bs bs.length x.head).drop i).filter (fun p => !decide (p ∈ x.blocks)):=by
 unfold entriesM
 rw [← List.filter_append,List.take_append_drop]
theorem AhS.two {p':Nat} (h:AhS bs x i (p':Int)) (hp:(predsTo bs bs.length x.head)[i]?=some p) (hq:p ∉ x.blocks):plainB bs x=false:=by
 rcases h with ⟨e,_⟩ | ⟨p2,e,h,_⟩
 ·omega
 ·refine plain_no ?_
  rw [entries_split (i + 1),filter_more hp (by simp [hq]),h]
  simp
theorem AhS.nojump (h:AhS bs x i (-1)) (hp:(predsTo bs bs.length x.head)[i]?=some p) (hq:p ∉ x.blocks) (hj:jumpB bs p=false):plainB bs x=false:=by
 rcases h with ⟨_,h⟩ | ⟨p',e,_⟩
 ·have e:=entries_split (bs:=bs) (x:=x) (i + 1)
  rw [filter_more hp (by simp [hq]),h,List.nil_append] at e
  cases hr:((predsTo bs bs.length x.head).drop (i + 1)).filter (fun p => !decide (p ∈ x.blocks)) with
  | nil =>
   rw [hr,List.append_nil] at e
   rw [plain_one e,hj]
   rfl
  | cons y r =>
   rw [hr] at e
   refine plain_no ?_
   rw [e]
   simp
 ·omega
theorem AhS.none_ (h:AhS bs x i (-1)) (hi:(predsTo bs bs.length x.head).length ≤ i):plainB bs x=false:=by
 rcases h with ⟨_,h⟩ | ⟨p',e,_⟩
 ·rw [List.take_of_length_le hi] at h
  refine plain_no ?_
  unfold entriesM
  rw [h]
  simp
 ·omega
theorem AhS.one_ {p:Nat} (h:AhS bs x i (p:Int)) (hi:(predsTo bs bs.length x.head).length ≤ i):plainB bs x=(x.latches.length == 1 && !(x.exits.any (sharedB bs x))):=by
 rcases h with ⟨e,_⟩ | ⟨p',e,h,hj⟩
 ·omega
 ·rw [List.take_of_length_le hi] at h
  rw [plain_one (show entriesM bs x=[p'] from h),hj]
  simp
theorem shared_no {e:Nat} (h:sharedB bs x e=true) (he:e ∈ x.exits):plainB bs x=false:=by
 unfold plainB
 have:x.exits.any (sharedB bs x)=true:=List.any_eq_true.2 ⟨e,he,h⟩
 rw [this]
 simp
theorem AhS.range {i:Nat} (h:AhS bs x i a):a=-1 ∨ ∃ p:Nat,a=(p:Int) ∧ p < bs.length:=by
 rcases h with ⟨e,_⟩ | ⟨p,e,h,_⟩
 ·exact .inl e
 ·refine .inr ⟨p,e,?_⟩
  have h1:p ∈ ((predsTo bs bs.length x.head).take i).filter (fun p => !decide (p ∈ x.blocks)):=by rw [h];simp
  exact predsTo_lt (List.mem_of_mem_take (List.mem_filter.1 h1).1)
end
set_option maxRecDepth 100000 in
set_option maxHeartbeats 8000000 in
theorem refPlain_any (bs:List BlockM) (x:LpM) (lo gp n hd m1 m2 m3 c c1 c2 c3 B:Nat) (A A1 A2 A3:Option Addr) (vs:List Value) (pv av cv v4:Value) (w:World) (hN:Lists w lo gp bs.length vs (predsAt bs bs.length bs.length 0)) (hbv:BlocksR w B (.slice A n c) bs) (hB:B ≤ w.heap.size)
  (hi:Ints w w.heap.size (.slice A1 m1 c1) (x.blocks.map fun (x:Nat) => (x:Int))) (hi3:Ints w w.heap.size (.slice A3 m3 c3) (x.exits.map fun (x:Nat) => (x:Int))) (hm1:m1=x.blocks.length) (hm2:m2=x.latches.length) (hm3:m3=x.exits.length) (hl3:m3 ≤ 512) (hn5:n ≤ 512) (hn:n=bs.length) (hd0:hd=x.head) (hh:hd < n) (hex:∀ e ∈ x.exits,e < n) :
  Calls Tryz.prog 72 #[.agg #[pv,av,cv,.slice A n c],.agg #[.int .i64 (hd:Int),.slice A1 m1 c1,.slice A2 m2 c2,.slice A3 m3 c3,v4],.slice (some ⟨gp,0,none⟩) n n] w fun e w' => e=.returned (.bool (plainB bs x)) ∧ Below w.heap.size w w':=by
 obtain ⟨W,hW⟩:∃ W:World,W=(w.alloc (.cells #[pv,av,cv,.slice A n c] 25)).alloc (.cells #[.int .i64 (hd:Int),.slice A1 m1 c1,.slice A2 m2 c2,.slice A3 m3 c3,v4] 112):=⟨_,rfl⟩
 have HBW:Hid (Below w.heap.size w W):=by show Below _ _ _;rw [hW];exact ((Below.refl _ w).alloc (Nat.le_refl _) _).alloc (by simp) _
 have hx1:W.heap[w.heap.size]?=some (.cells #[pv,av,cv,.slice A n c] 25 (0,0)):=by
  rw [hW,Below.heap_alloc _ _ _ (by simp)]
  exact heap_alloc_new w _
 have hx2:W.heap[w.heap.size + 1]?=some (.cells #[.int .i64 (hd:Int),.slice A1 m1 c1,.slice A2 m2 c2,.slice A3 m3 c3,v4] 112 (0,0)):=by
  rw [hW]
  have:=heap_alloc_new (w.alloc (.cells #[pv,av,cv,.slice A n c] 25)) (.cells #[.int .i64 (hd:Int),.slice A1 m1 c1,.slice A2 m2 c2,.slice A3 m3 c3,v4] 112)
  simpa using this
 have HIW:=hideI ((hi.keep HBW.out).more HBW.out.size)
 have HNW:=hideI (hN.kept HBW.out)
 have HBV:=hideI (hbv.keeps (Keeps.of_below (HBW.out.mono hB)))
 have HI3:=hideI ((hi3.keep HBW.out).more HBW.out.size)
 obtain ⟨vh,hv1,hgp,hv2⟩:=preds_list HNW.out (by omega:x.head < bs.length) (by omega)
 obtain ⟨Ah,ch,rfl,_,hat⟩:=hv2
 rw [List.length_map] at hv1 hat
 obtain ⟨mh,hmh⟩:∃ mh,mh=(predsTo bs bs.length x.head).length:=⟨_,rfl⟩
 have HMH:=hideI hmh
 have hmh5:mh ≤ 512:=by rw [hmh];exact Nat.le_trans (predsTo_len _ _ _) (by omega)
 rw [← hmh,← hd0] at hv1
 rw [← hmh] at hat
 have HAT:=hideI hat
 have HM1:=hideI hm1
 have HM2:=hideI hm2
 have HM3:=hideI hm3
 have HN:=hideI hn
 have HD:=hideI hd0
 have HEX:=hideI hex
 have HW0:=hideI hW
 have HR1:=hideI (row_cells hx1 rfl)
 have HR2:=hideI (row_cells hx2 rfl)
 have HV1:=hideI hv1
 clear hN hbv hi hi3 hm1 hm2 hm3 hn hd0 hex hW hx1 hx2 hv1 hat hmh
 go_enter Tryz.func72,Tryz.ntmps72
 go_upto_region 1 with fail
 rw [← HW0.out]
 go_wp2
 go_loopw [7,8] (fun a u wr => ∃ (i m:Nat) (ah:Int),i ≤ mh ∧ a=.int .i64 ah ∧ u=.int .i64 i ∧ Hid (AhS bs x i ah) ∧ Hid (wr=W.drewN m)) (fun _ u _ => mh - (intOf u).toNat)
 case atStart => exact ⟨0,0,-1,Nat.zero_le _,rfl,rfl,.inl ⟨rfl,rfl⟩,rfl⟩
 case round =>
  obtain ⟨i,m,ah,hi,rfl,rfl,HA,HWR⟩:=hrel
  have r0:wr.cell? ⟨w.heap.size + 1,0,none⟩=some (.int .i64 (hd:Int)):=by rw [HWR.out];exact HR2.out 0
  have rp:wr.cell? ⟨gp,hd,none⟩=some (.slice Ah mh ch):=by rw [HWR.out];exact HV1.out
  by_cases hlt:i < mh
  ·obtain ⟨p,hp⟩:∃ p,(predsTo bs bs.length x.head)[i]?=some p:=⟨_,List.getElem?_eq_getElem (by have:=HMH.out;omega)⟩
   obtain ⟨pb,po,rfl,hpb,d0⟩:=HAT.out i hlt
   rw [List.getElem?_map,hp] at d0
   simp only [Option.map_some,Option.getD_some] at d0
   have d1:wr.cell? ⟨pb,po + i,none⟩=some (.int .i64 (p:Int)):=by rw [HWR.out];exact d0
   have r1:wr.cell? ⟨w.heap.size + 1,1,none⟩=some (.slice A1 m1 c1):=by rw [HWR.out];exact HR2.out 1
   have r3:wr.cell? ⟨w.heap.size,3,none⟩=some (.slice A n c):=by rw [HWR.out];exact HR1.out 3
   have hpn:p < n:=by have:=HN.out;rw [this];exact predsTo_lt (List.mem_of_getElem? hp)
   have hiw:Ints wr W.heap.size (.slice A1 m1 c1) (x.blocks.map fun (x:Nat) => (x:Int)):=by rw [HWR.out];exact HIW.out
   have hh0:=has_any _ _ _ (p:Int) wr hiw
   rw [show decide ((p:Int) ∈ x.blocks.map fun (x:Nat) => (x:Int))=decide (p ∈ x.blocks) by simp only [mem_nat]] at hh0
   have HP:=hideI hp
   clear hp d0 hiw
   by_cases hin:p ∈ x.blocks
   ·have HH:=hideI hh0
    rw [decide_eq_true hin] at HH
    have HIN:=hideI hin
    clear hin hh0
    go_wp2_with (go_at_call 25;refine HH.out.mono ?_;rintro e w' ⟨rfl,rfl⟩)
    go_roundw
    case rel => exact ⟨i + 1,m,ah,by omega,rfl,by go_num,HA.out.skip HP.out HIN.out,HWR⟩
    case measure => simp [intOf];omega
   ·have HH:=hideI hh0
    rw [decide_eq_false hin] at HH
    have HIN:=hideI hin
    clear hin hh0
    rcases HA.out.range with rfl | ⟨p',rfl,hp'⟩
    ·obtain ⟨q,hq⟩:∃ q,bs[p]?=some q:=⟨_,List.getElem?_eq_getElem (by have:=HN.out;omega)⟩
     obtain ⟨Ab,cb,eb,_,hatb⟩:=HBV.out
     injection eb with eb1 eb2 eb3
     subst eb1
     obtain ⟨bb,ob,_,_,_,rfl,hbbB,_,_,hct,_⟩:=hatb p q hq
     have k2:wr.cell? ⟨bb,ob + p * 6 + 2,none⟩=some (.int .i64 q.term.op):=by rw [HWR.out];exact hct
     have hj:jumpB bs p=(q.term.op == 1):=by unfold jumpB;rw [hq]
     have HJ:=hideI hj
     clear hq hatb hct eb2 eb3 hj
     by_cases hop:q.term.op=1
     ·rw [hop] at k2 HJ
      have HJ1:Hid (jumpB bs p=true):=by show _=_;rw [HJ.out];rfl
      clear hop
      go_wp2_with (go_at_call 25;refine HH.out.mono ?_;rintro e w' ⟨rfl,rfl⟩)
      go_roundw
      case rel => exact ⟨i + 1,m,(p:Int),by omega,rfl,by go_num,HA.out.take HP.out HIN.out HJ1.out,HWR⟩
      case measure => simp [intOf];omega
     ·have HJ1:Hid (jumpB bs p=false):=by show _=_;rw [HJ.out];exact beq_eq_false_iff_ne.2 hop
      have hob:(q.term.op != 1)=true:=by rw [bne_iff_ne];exact hop
      clear hop
      go_wp2_with (go_at_call 25;refine HH.out.mono ?_;rintro e w' ⟨rfl,rfl⟩)
      go_ret
      refine ⟨?_,?_⟩
      ·rw [HA.out.nojump HP.out HIN.out HJ1.out];rfl
      ·rw [HWR.out];exact ⟨HBW.out.os,HBW.out.tape,HBW.out.output,HBW.out.size,HBW.out.block⟩
    ·go_wp2_with (go_at_call 25;refine HH.out.mono ?_;rintro e w' ⟨rfl,rfl⟩)
     go_ret
     refine ⟨?_,?_⟩
     ·rw [HA.out.two HP.out HIN.out];rfl
     ·rw [HWR.out];exact ⟨HBW.out.os,HBW.out.tape,HBW.out.output,HBW.out.size,HBW.out.block⟩
  ·have him:i=mh:=by omega
   subst him
   go_wp2
   clear r0 rp
   obtain ⟨wo,rfl⟩:∃ wo:World,wo=wr:=⟨_,rfl⟩
   go_loopw [10] (fun u wr2 => ∃ (j m':Nat),j ≤ m3 ∧ u=.int .i64 j ∧ Hid (∀ k e,k < j → x.exits[k]?=some e → sharedB bs x e=false) ∧ Hid (wr2=W.drewN m')) (fun u _ => m3 - (intOf u).toNat)
   case atStart => exact ⟨0,m,Nat.zero_le _,rfl,hideI (fun k e h => by omega),HWR⟩
   case round =>
    clear HWR
    obtain ⟨j,m',hj,rfl,HSH,HWR⟩:=hrel
    have r3:wr.cell? ⟨w.heap.size + 1,3,none⟩=some (.slice A3 m3 c3):=by rw [HWR.out];exact HR2.out 3
    by_cases hlt:j < m3
    ·obtain ⟨e,he⟩:∃ e,x.exits[j]?=some e:=⟨_,List.getElem?_eq_getElem (by have:=HM3.out;omega)⟩
     have hen:=HEX.out e (List.mem_of_getElem? he)
     obtain ⟨A3',c3',e3,_,hat3⟩:=HI3.out
     injection e3 with e31 e32 e33
     subst e31
     obtain ⟨b3,o3,rfl,hb3,d0⟩:=hat3 j (by rw [List.length_map];have:=HM3.out;omega)
     rw [List.getElem?_map,he] at d0
     simp only [Option.map_some,Option.getD_some] at d0
     have HD0:=hideI d0
     obtain ⟨ve,hv1,_,hv2⟩:=preds_list HNW.out (by have:=HN.out;omega:e < bs.length) (by have:=HN.out;omega)
     obtain ⟨Ae,ce,rfl,_,hate⟩:=hv2
     rw [List.length_map] at hv1 hate
     obtain ⟨me,hme⟩:∃ me,me=(predsTo bs bs.length e).length:=⟨_,rfl⟩
     have HME:=hideI hme
     have hme5:me ≤ 512:=by rw [hme];exact Nat.le_trans (predsTo_len _ _ _) (by have:=HN.out;omega)
     rw [← hme] at hv1 hate
     have HATE:=hideI hate
     have HVE:=hideI hv1
     have HE:=hideI he
     clear he hat3 d0 hv1 hate hme e32 e33
     go_wp2
     clear r3
     obtain ⟨wo2,rfl⟩:∃ wo:World,wo=wr:=⟨_,rfl⟩
     go_loopw [11] (fun u wr3 => ∃ (k m'':Nat),k ≤ me ∧ u=.int .i64 k ∧ Hid (∀ t q,t < k → (predsTo bs bs.length e)[t]?=some q → q ∈ x.blocks) ∧ Hid (wr3=W.drewN m'')) (fun u _ => me - (intOf u).toNat)
     case atStart => exact ⟨0,m',Nat.zero_le _,rfl,hideI (fun k e h => by omega),HWR⟩
     case round =>
      clear HWR
      obtain ⟨k,m'',hk,rfl,HAL,HWR⟩:=hrel
      have r3:wr.cell? ⟨w.heap.size + 1,3,none⟩=some (.slice (some ⟨b3,o3,none⟩) m3 c3):=by rw [HWR.out];exact HR2.out 3
      have re:wr.cell? ⟨b3,o3 + j,none⟩=some (.int .i64 (e:Int)):=by rw [HWR.out];exact HD0.out
      have rv:wr.cell? ⟨gp,e,none⟩=some (.slice Ae me ce):=by rw [HWR.out];exact HVE.out
      by_cases hltk:k < me
      ·obtain ⟨p,hp⟩:∃ p,(predsTo bs bs.length e)[k]?=some p:=⟨_,List.getElem?_eq_getElem (by have:=HME.out;omega)⟩
       obtain ⟨pb,po,rfl,hpb,d0⟩:=HATE.out k hltk
       rw [List.getElem?_map,hp] at d0
       simp only [Option.map_some,Option.getD_some] at d0
       have d1:wr.cell? ⟨pb,po + k,none⟩=some (.int .i64 (p:Int)):=by rw [HWR.out];exact d0
       have r1:wr.cell? ⟨w.heap.size + 1,1,none⟩=some (.slice A1 m1 c1):=by rw [HWR.out];exact HR2.out 1
       have hiw:Ints wr W.heap.size (.slice A1 m1 c1) (x.blocks.map fun (x:Nat) => (x:Int)):=by rw [HWR.out];exact HIW.out
       have HP:=hideI hp
       clear hp d0
       by_cases hin:p ∈ x.blocks
       ·have HH:Hid (∀ a,_):=hideI (has_at (w:=wr) (p:=p) (r:=true) hiw (decide_eq_true hin))
        have HIN:=hideI hin
        clear hin hiw
        go_wp2
        go_quiet (refine Calls.quiet_of_same (HH.out _))
        go_wp2
        go_roundw
        case rel =>
         refine ⟨k + 1,_,by omega,by go_num,hideI (fun t q ht hq => ?_),hideI (by rw [HWR.out];exact World.drewN_drewN ..)⟩
         by_cases et:t=k
         ·subst et
          have h1:=HP.out
          rw [hq] at h1
          cases h1
          exact HIN.out
         ·exact HAL.out t q (by omega) hq
        case measure => simp [intOf];omega
       ·have HH:Hid (∀ a,_):=hideI (has_at (w:=wr) (p:=p) (r:=false) hiw (decide_eq_false hin))
        have HIN:=hideI hin
        clear hin hiw
        go_wp2
        go_quiet (refine Calls.quiet_of_same (HH.out _))
        go_wp2
        go_ret
        refine ⟨?_,?_⟩
        ·have hsh:sharedB bs x e=true:=List.any_eq_true.2 ⟨p,List.mem_of_getElem? HP.out,by simp [HIN.out]⟩
         rw [shared_no hsh (List.mem_of_getElem? HE.out)]
         rfl
        ·rw [HWR.out];exact ⟨HBW.out.os,HBW.out.tape,HBW.out.output,HBW.out.size,HBW.out.block⟩
      ·have hkm:k=me:=by omega
       have HKM:=hideI hkm
       clear hkm
       go_wp2
       go_roundw
       case rel =>
        refine ⟨j + 1,m'',by omega,by go_num,hideI (fun t q ht hq => ?_),HWR⟩
        by_cases et:t=j
        ·subst et
         have h1:=HE.out
         rw [hq] at h1
         cases h1
         unfold sharedB
         rw [List.any_eq_false]
         intro y hy
         obtain ⟨s,hs⟩:=List.getElem?_of_mem hy
         have:=HAL.out s y (by have:=(List.getElem?_eq_some_iff.1 hs).1;have:=HME.out;have:=HKM.out;omega) hs
         simp [this]
        ·exact HSH.out t q (by omega) hq
       case measure => simp [intOf];omega
    ·have hjm:j=m3:=by omega
     have hany:x.exits.any (sharedB bs x)=false:=by
      rw [List.any_eq_false]
      intro y hy
      obtain ⟨s,hs⟩:=List.getElem?_of_mem hy
      have:=HSH.out s y (by have:=(List.getElem?_eq_some_iff.1 hs).1;have:=HM3.out;omega) hs
      simp [this]
     have HANY:=hideI hany
     have r2:wr.cell? ⟨w.heap.size + 1,2,none⟩=some (.slice A2 m2 c2):=by rw [HWR.out];exact HR2.out 2
     clear hany hjm
     rcases HA.out.range with rfl | ⟨p,rfl,hp⟩
     ·go_wp2
      go_ret
      refine ⟨?_,?_⟩
      ·rw [HA.out.none_ (by have:=HMH.out;omega)];rfl
      ·rw [HWR.out];exact ⟨HBW.out.os,HBW.out.tape,HBW.out.output,HBW.out.size,HBW.out.block⟩
     ·have hfin:=HA.out.one_ (by have:=HMH.out;omega)
      rw [HANY.out,← HM2.out,Bool.not_false,Bool.and_true] at hfin
      have HFIN:=hideI hfin
      clear hfin
      by_cases h2:m2=1
      ·subst h2
       go_wp2
       go_ret
       refine ⟨?_,?_⟩
       ·rw [HFIN.out];rfl
       ·rw [HWR.out];exact ⟨HBW.out.os,HBW.out.tape,HBW.out.output,HBW.out.size,HBW.out.block⟩
      ·have hmb:((m2:Int) == 1)=false:=beq_eq_false_iff_ne.2 (by omega)
       have HH2:=hideI h2
       clear h2
       go_wp2
       go_ret
       refine ⟨?_,?_⟩
       ·rw [HFIN.out,beq_eq_false_iff_ne.2 HH2.out];rfl
       ·rw [HWR.out];exact ⟨HBW.out.os,HBW.out.tape,HBW.out.output,HBW.out.size,HBW.out.block⟩
end Go.Proofs.YtikogmpibkefdaaGreat

namespace Go.Proofs.YtikogmpibkefdaaGreat
open Go.RowKit Go.Maps
def predsRow (bs:List BlockM) (n t b:Nat):List (List Nat):=(List.range n).map fun u => if u < t then predsTo bs n u else if u=t then predsTo bs b u else []
theorem predsRow_at {bs:List BlockM} {n t b u:Nat} (h:u < n):(predsRow bs n t b)[u]?=some (if u < t then predsTo bs n u else if u=t then predsTo bs b u else []):=by
 unfold predsRow
 rw [List.getElem?_map,List.getElem?_eq_getElem (by simpa using h)]
 simp
theorem predsRow_zero (bs:List BlockM) (n:Nat):predsRow bs n 0 0=(List.range n).map fun _ => []:=by
 unfold predsRow
 apply List.map_congr_left
 intro u _
 rw [if_neg (by omega)]
 split
 ·simp [predsTo]
 ·rfl
theorem predsRow_skip {bs:List BlockM} {n t b:Nat} (h:t ∉ succM bs b):predsRow bs n t (b + 1)=predsRow bs n t b:=by
 unfold predsRow
 apply List.map_congr_left
 intro u _
 by_cases e:u=t
 ·subst e
  rw [predsTo_succ,if_neg h,List.append_nil]
 ·simp [e]
theorem predsRow_push {bs:List BlockM} {n t b:Nat} (h:t ∈ succM bs b) (_htn:t < n):(predsRow bs n t b).set t (predsTo bs b t ++ [b])=predsRow bs n t (b + 1):=by
 apply List.ext_getElem?
 intro u
 by_cases hu:u < n
 ·rw [predsRow_at hu]
  by_cases e:t=u
  ·subst e
   rw [List.getElem?_set_self (by unfold predsRow;simpa using hu),if_neg (by omega),if_pos rfl,predsTo_succ,if_pos h]
  ·rw [List.getElem?_set_ne e,predsRow_at hu]
   have e':¬ u=t:=fun x => e x.symm
   simp [e']
 ·rw [List.getElem?_eq_none (by rw [List.length_set];unfold predsRow;simp;omega),List.getElem?_eq_none (by unfold predsRow;simp;omega)]
theorem predsRow_next (bs:List BlockM) (n t:Nat):predsRow bs n t n=predsRow bs n (t + 1) 0:=by
 unfold predsRow
 apply List.map_congr_left
 intro u _
 by_cases h1:u < t
 ·rw [if_pos h1,if_pos (by omega)]
 ·rw [if_neg h1]
  by_cases h2:u=t
  ·subst h2
   rw [if_pos rfl,if_pos (by omega)]
  ·rw [if_neg h2,if_neg (by omega)]
   split
   ·simp [predsTo]
   ·rfl
theorem predsRow_last (bs:List BlockM) (n:Nat):predsRow bs n n 0=predsAt bs n n 0:=by
 unfold predsRow predsAt
 apply List.map_congr_left
 intro u hu
 rw [if_pos (by simpa using hu)]
 simp
theorem mem_to {bs:List BlockM} {q:BlockM} {b t:Nat} (hin:EndsIn bs) (hq:bs[b]?=some q):((t:Int) ∈ q.term.to) ↔ t ∈ succM bs b:=by
 unfold succM
 rw [hq]
 simp only [List.mem_map]
 constructor
 ·exact fun h => ⟨(t:Int),h,by simp⟩
 ·rintro ⟨x,hx,he⟩
  have:=hin q (List.mem_of_getElem? hq) x hx
  have e:x=(t:Int):=by omega
  exact e ▸ hx
set_option maxRecDepth 100000 in
set_option maxHeartbeats 4000000 in
theorem refPreds_any (bs:List BlockM) (B:Nat) (pv av cv bv:Value) (w:World) (hbv:BlocksR w B bv bs) (hB:B ≤ w.heap.size) (hn5:bs.length ≤ 512) (hin:EndsIn bs) :
  Calls Tryz.prog 68 #[.agg #[pv,av,cv,bv]] w (PredsPost bs w):=by
 have HBL:=hideI hbv
 have HIN:=hideI hin
 obtain ⟨A,c,rfl,hbm,_⟩:=hbv
 obtain ⟨i0,hix,hz0,hz1,hz2⟩:=info_parts ints_info
 clear hin
 go_enter Tryz.func68,Tryz.ntmps68
 go_wp2_with (first
  | (at_make;go_must (refine wpList_make_full _ rfl _ _ 33 rfl (w.heap.size + 1) 22 i0 (.slice none 0 0) 1 Tryz.underlying33 hix hz0 hz1 .i64 .i64 _ _ bs.length rfl rfl rfl rfl (by rw [hz2];omega) (by unfold maxLen;omega) (by simp) ?_);intro w1 hown1 hg1;rw [World.size_alloc] at hown1;go_must (have HL1:=hideI (Lists.made hown1);have HGB:=hideI ((hg1.block w.heap.size (by simp) (by simp)).trans (heap_alloc_new w _));have HB0:Hid (Below w.heap.size w w1):=((Below.refl _ _).alloc (Nat.le_refl _) _).grown hg1 (by simp) (by simp);clear hown1 hg1)))
 clear hix hz0 hz1 hz2
 rw [← predsRow_zero bs bs.length] at HL1
 go_loopw [4] (fun u wr => ∃ (t:Nat) (vs:List Value),t ≤ bs.length ∧ u=.int .i64 t ∧ Hid (Lists wr (w.heap.size + 1) (w.heap.size + 1) bs.length vs (predsRow bs bs.length t 0)) ∧ Hid (Below w.heap.size w wr) ∧ Hid (Below (w.heap.size + 1) w1 wr)) (fun u _ => bs.length - (intOf u).toNat)
 case atStart => exact ⟨0,_,Nat.zero_le _,rfl,HL1,HB0,hideI (Below.refl _ _)⟩
 case round =>
  obtain ⟨t,vs,ht,rfl,HL,HBr,HBo⟩:=hrel
  have hxr:=row_cells HGB.out (HBo.out.block w.heap.size (by omega))
  have g3:=hxr 3
  clear hxr
  by_cases hlt:t < bs.length
  ·go_wp2
   clear g3
   obtain ⟨wo,rfl⟩:∃ wo:World,wo=wr:=⟨_,rfl⟩
   go_loopw [5] (fun u wr => ∃ (b:Nat) (vs:List Value),b ≤ bs.length ∧ u=.int .i64 b ∧ Hid (Lists wr (w.heap.size + 1) (w.heap.size + 1) bs.length vs (predsRow bs bs.length t b)) ∧ Hid (Below (w.heap.size + 1) wo wr)) (fun u _ => bs.length - (intOf u).toNat)
   case atStart => exact ⟨0,vs,Nat.zero_le _,rfl,HL,hideI (Below.refl _ _)⟩
   case round =>
    obtain ⟨b,vs2,hb,rfl,HLi,HBi⟩:=hrel
    have hxr:=row_cells HGB.out ((HBo.out.trans HBi.out).block w.heap.size (by omega))
    have g3:=hxr 3
    clear hxr
    by_cases hltb:b < bs.length
    ·obtain ⟨q,hq⟩:∃ q,bs[b]?=some q:=⟨_,List.getElem?_eq_getElem hltb⟩
     obtain ⟨A',c',e0,_,hbx⟩:=(HBL.out.more' hB).keeps (Keeps.of_below (HBr.out.trans (HBi.out.mono (Nat.le_succ _))))
     cases e0
     obtain ⟨ab,off,pq,cq,tv,rfl,hab,x0,x1,x2,x3,x4,x5,_,_,htv,_⟩:=hbx b q hq
     have HTV:=hideI htv
     have HMEM:=hideI (mem_to (t:=t) HIN.out hq)
     obtain ⟨TA,tc,rfl,htm,_⟩:=htv
     obtain ⟨v,hv⟩:∃ v,vs2[t]?=some v:=⟨_,List.getElem?_eq_getElem (by rw [HLi.out.vl];exact hlt)⟩
     obtain ⟨l,hl0⟩:∃ l,l=predsTo bs b t:=⟨_,rfl⟩
     have hl:(predsRow bs bs.length t b)[t]?=some l:=by rw [predsRow_at hlt,if_neg (by omega),if_pos rfl,hl0]
     have hll:l.length ≤ 1000:=by have:=predsTo_len bs b t;rw [hl0];omega
     have q1:wr.cell? ⟨w.heap.size + 1,t,none⟩=some v:=by rw [World.ownsRow.cellAt HLi.out.row t (by omega)];exact hv
     have HOWN:=hideI (HLi.out.own t v l hv hl)
     have hsz:=HLi.out.lt.2
     have HV:=hideI hv
     have HLL:=hideI hl
     have HL0:=hideI hl0
     obtain ⟨tl,htl⟩:∃ tl,tl=q.term.to:=⟨_,rfl⟩
     rw [← htl] at HTV HMEM x4 htm
     clear hbx hq x0 x1 x2 x3 x5 hv hl hl0 htl
     by_cases hin2:(t:Int) ∈ tl
     ·have HC:Hid (decide ((t:Int) ∈ tl)=true):=by show _=_;simpa using hin2
      have HIN2:=hideI (HMEM.out.1 hin2)
      obtain ⟨i1,hjx,hy0,hy1,hy2⟩:=info_parts int_info
      clear hin2
      go_wp2_with (first
       | (go_at_call 25;go_must (refine (has_any _ _ _ _ _ HTV.out).mono ?_);rw [HC.out];rintro e w2 ⟨rfl,rfl⟩)
       | (at_builtin;go_must (refine wpList_append_lies _ rfl _ _ _ rfl (w.heap.size + 1 + 1) 3 i1 (.int .i64 0) 1 8 Tryz.underlying22 hjx hy0 hy1 hy2 rfl (by decide) _ _ _ rfl (HOWN.out.alloc _) ⟨wr.heap.size,0,none⟩ 1 1 [.int .i64 b] rfl rfl (one_new wr _) (by simp [Value.oneCell']) (by decide) (by simp only [maxLen];omega) (by omega) (by simp;omega) _ rfl ?_);intro g1 cap1 w3 hown1 hgrow1 hor1 _;go_must (have HP:=hideI (HLi.out.push HV.out HLL.out hown1 hgrow1 hor1);have HPB:=hideI (HLi.out.pushed (u:=.slice (some ⟨g1,0,none⟩) (l.length + 1) cap1) HV.out HLL.out hgrow1 HBi.out (Nat.le_refl _));obtain ⟨hc4,hf4⟩:=HLi.out.held HV.out HLL.out hgrow1;clear hown1 hgrow1 hor1 q1)))
      go_roundw
      case rel => exact ⟨b + 1,_,by omega,by go_num,by rw [← predsRow_push HIN2.out hlt,← HL0.out];exact HP,HPB⟩
      case measure => simp [intOf];omega
     ·have HC:Hid (decide ((t:Int) ∈ tl)=false):=by show _=_;simpa using hin2
      have HIN2:=hideI (fun h => hin2 (HMEM.out.2 h))
      clear hin2
      go_wp2_with (first
       | (go_at_call 25;go_must (refine (has_any _ _ _ _ _ HTV.out).mono ?_);rw [HC.out];rintro e w2 ⟨rfl,rfl⟩))
      go_roundw
      case rel => exact ⟨b + 1,vs2,by omega,by go_num,by rw [predsRow_skip HIN2.out];exact HLi,HBi⟩
      case measure => simp [intOf];omega
    ·have hbn:b=bs.length:=by omega
     rw [hbn,predsRow_next] at HLi
     clear hbn
     go_wp2
     go_roundw
     case rel => exact ⟨t + 1,vs2,by omega,by go_num,HLi,hideI (HBr.out.trans (HBi.out.mono (Nat.le_succ _))),hideI (HBo.out.trans HBi.out)⟩
     case measure => simp [intOf];omega
  ·have hkn:t=bs.length:=by omega
   rw [hkn,predsRow_last] at HL
   clear hkn
   go_wp2
   go_ret
   exact ⟨_,vs,rfl,⟨HL.out.vl,HL.out.ll,World.ownsRow.mono HL.out.row (by omega),HL.out.own,HL.out.apart⟩,HBr.out⟩
end Go.Proofs.YtikogmpibkefdaaGreat

namespace Go.Proofs.YtikogmpibkefdaaGreat
open Go.RowKit Go.Maps
structure BkSt (bs:List BlockM) (o:List Nat) (h:Nat) (S:List Nat):Prop where
 nodup:S.Nodup
 lt:∀ x ∈ S,x < bs.length
 head:h ∈ S
 sound:∀ x ∈ S,InL bs o h x
 lat:∀ p,BackP bs o h p → p ∈ S
def shutAt (bs:List BlockM) (h:Nat) (S:List Nat) (b:Nat):Prop:=b ∈ S → b ≠ h → ∀ p,b ∈ succM bs p → p ∈ S
section
variable {bs:List BlockM} {o:List Nat} {h k j p:Nat} {S S0:List Nat} {ch:Bool}
theorem BkSt.all (B:BkSt bs o h S) (hc:∀ b,b < bs.length → shutAt bs h S b) (x:Nat):x ∈ S ↔ InL bs o h x:=by
 refine ⟨B.sound x,fun m => ?_⟩
 induction m with
 | head => exact B.head
 | latch q => exact B.lat _ q
 | step _ hne e ih => exact hc _ (B.lt _ ih) ih hne _ e
theorem BkSt.add (B:BkSt bs o h S) (hk:k ∈ S) (hne:k ≠ h) (hp:p ∈ predsTo bs bs.length k) (hn:p ∉ S):BkSt bs o h (p :: S):=by
 refine ⟨List.nodup_cons.2 ⟨hn,B.nodup⟩,fun x hx => ?_,List.mem_cons_of_mem _ B.head,fun x hx => ?_,fun q hq => List.mem_cons_of_mem _ (B.lat q hq)⟩
 ·rcases List.mem_cons.1 hx with rfl | hx
  ·exact predsTo_lt hp
  ·exact B.lt x hx
 ·rcases List.mem_cons.1 hx with rfl | hx
  ·exact .step (B.sound k hk) hne (mem_predsTo.1 hp)
  ·exact B.sound x hx
structure BkMid (bs:List BlockM) (o:List Nat) (h:Nat) (S0 S:List Nat) (ch:Bool) (k:Nat) (l:List Nat) (j:Nat):Prop where
 st:BkSt bs o h S
 no:ch=false → S=S0 ∧ (∀ b,b < k → shutAt bs h S b) ∧ (∀ p ∈ l.take j,p ∈ S)
 yes:ch=true → S0.length < S.length
theorem BkMid.begin {l l':List Nat} (B:BkMid bs o h S0 S ch k l 0):BkMid bs o h S0 S ch k l' 0 :=
 ⟨B.st,fun e => ⟨(B.no e).1,(B.no e).2.1,fun p hp => by simp at hp⟩,B.yes⟩
theorem BkMid.skip {l:List Nat} (B:BkMid bs o h S0 S ch k l j) (hp:l[j]?=some p) (hm:p ∈ S):BkMid bs o h S0 S ch k l (j + 1) :=
 ⟨B.st,fun e => ⟨(B.no e).1,(B.no e).2.1,fun q hq => by
  rw [List.take_add_one,hp] at hq
  rcases List.mem_append.1 hq with hq | hq
  ·exact (B.no e).2.2 q hq
  ·simp at hq;subst hq;exact hm⟩,B.yes⟩
theorem BkMid.add {l:List Nat} (B:BkMid bs o h S0 S ch k l j) (hp:l[j]?=some p) (hl:l=predsTo bs bs.length k) (hk:k ∈ S) (hne:k ≠ h) (hn:p ∉ S):BkMid bs o h S0 (p :: S) true k l (j + 1) :=
 ⟨B.st.add hk hne (by rw [← hl];exact List.mem_of_getElem? hp) hn,fun e => (by cases e),fun _ => by
  rw [List.length_cons]
  cases ch with
  | false => rw [(B.no rfl).1];omega
  | true => have:=B.yes rfl;omega⟩
theorem BkMid.next {l:List Nat} (B:BkMid bs o h S0 S ch k l j) (hl:l=predsTo bs bs.length k) (hj:l.length ≤ j):BkMid bs o h S0 S ch (k + 1) l 0 :=
 ⟨B.st,fun e => ⟨(B.no e).1,fun b hb => by
  by_cases hbk:b=k
  ·subst hbk
   intro _ _ p hp
   exact (B.no e).2.2 p (by rw [List.take_of_length_le hj,hl];exact mem_predsTo.2 hp)
  ·exact (B.no e).2.1 b (by omega),fun p hp => by simp at hp⟩,B.yes⟩
theorem BkMid.pass {l:List Nat} (B:BkMid bs o h S0 S ch k l 0) (hx:k ∉ S ∨ k=h):BkMid bs o h S0 S ch (k + 1) l 0 :=
 ⟨B.st,fun e => ⟨(B.no e).1,fun b hb => by
  by_cases hbk:b=k
  ·subst hbk
   intro h1 h2
   rcases hx with h3 | h3
   ·exact absurd h1 h3
   ·exact absurd h3 h2
  ·exact (B.no e).2.1 b (by omega),fun p hp => by simp at hp⟩,B.yes⟩
end
theorem exit_any {bs:List BlockM} {L:Nat → Nat → Bool} {h t:Nat}:((predsTo bs bs.length t).any fun p => L h p)=outB bs L h t:=by
 unfold outB predsTo
 rw [Bool.eq_iff_iff,List.any_eq_true,List.any_eq_true]
 constructor
 ·rintro ⟨p,hp,hl⟩
  rw [List.mem_filter] at hp
  exact ⟨p,hp.1,by rw [hl,Bool.true_and];exact hp.2⟩
 ·rintro ⟨p,hp,hl⟩
  rw [Bool.and_eq_true] at hl
  exact ⟨p,List.mem_filter.2 ⟨hp,hl.2⟩,hl.1⟩
structure TwoR (w:World) (base:Nat) (v u:Value) (l m:List Nat):Prop where
 one:w.ownsRow base 3 1 v l.length (natInts l)
 two:w.ownsRow base 3 1 u m.length (natInts m)
 apart:∀ k,v.ownBlock=some k → u.ownBlock ≠ some k
section
variable {w w' w1:World} {base:Nat} {v u:Value} {l m:List Nat} {o:Obj}
theorem TwoR.swap (h:TwoR w base v u l m):TwoR w base u v m l:=⟨h.two,h.one,fun k hk e => h.apart k e hk⟩
theorem TwoR.other {j off:Nat} (h:TwoR w base v u l m) (hj:j < base) (x:Value):TwoR (w.setCell ⟨j,off,none⟩ x) base v u l m :=
 ⟨ownsRow_setCell_other h.one (a:=⟨j,off,none⟩) (by intro e;have:=(h.one.lt j e).1;omega) x,ownsRow_setCell_other h.two (a:=⟨j,off,none⟩) (by intro e;have:=(h.two.lt j e).1;omega) x,h.apart⟩
theorem TwoR.push {g cap x:Nat} (h:TwoR w base v u l m) (hown:w1.ownsRow base 3 1 (.slice (some ⟨g,0,none⟩) (l.length + 1) cap) (l.length + 1) (natInts l ++ [.int .i64 (x:Int)])) (hg:(w.alloc o).grownBy w1 v.ownBlock) (hor:v.ownBlock=some g ∨ g=(w.alloc o).heap.size) :
  TwoR w1 base (.slice (some ⟨g,0,none⟩) (l.length + 1) cap) u (l ++ [x]) m:=by
 refine ⟨by rw [List.length_append,natInts_snoc];exact hown,(h.two.alloc o).kept hg ?_,fun k hk e => ?_⟩
 ·cases e:u.ownBlock with
  | none => exact .inl rfl
  | some k => exact .inr (fun e2 => h.apart k e2.symm e)
 ·have e1:g=k:=by simpa [Value.ownBlock] using hk
  subst e1
  rcases hor with h1 | h1
  ·exact h.apart g h1 e
  ·have:=(h.two.lt g e).2
   simp at h1
   omega
end
structure BkAt (N G n h:Nat) (fnc:Array Value) (w wr:World) (s v1 v3:Value) (P:Nat → Bool) (l m:List Nat):Prop where
 hG:N + 2 < G
 box:wr.heap[N + 1]?=some (.cells #[.int .i64 (h:Int),v1,s,v3,.int .i64 0] 112 (0,0))
 res:wr.heap[N + 2]?=some (.cells #[.int .i64 0,.slice none 0 0,.slice none 0 0,.slice none 0 0,.int .i64 0] 112 (0,0))
 fn:wr.heap[N]?=some (.cells fnc 25 (0,0))
 row:wr.ownsRow G 4 1 (.slice (some ⟨G,0,none⟩) n n) n (boolsM n P)
 two:TwoR wr (G + 1) v1 v3 l m
 bel:Below N w wr
section
variable {N G n h:Nat} {fnc:Array Value} {w wr w1:World} {s v1 v3:Value} {P:Nat → Bool} {l m:List Nat} {o:Obj}
theorem BkAt.lt (H:BkAt N G n h fnc w wr s v1 v3 P l m):G < wr.heap.size:=(H.row.lt G rfl).2
theorem BkAt.grown {v:Value} {off g len cap:Nat} (H:BkAt N G n h fnc w wr s v1 v3 P l m) (hv:∀ k,v.ownBlock=some k → G + 1 ≤ k) (hg:(wr.alloc o).grownBy w1 v.ownBlock) :
  w1.heap[N + 1]?=some (.cells #[.int .i64 (h:Int),v1,s,v3,.int .i64 0] 112 (0,0)) ∧
  (w1.setCell ⟨N + 1,off,none⟩ (.slice (some ⟨g,0,none⟩) len cap)).heap[N + 2]?=some (.cells #[.int .i64 0,.slice none 0 0,.slice none 0 0,.slice none 0 0,.int .i64 0] 112 (0,0)) ∧
  (w1.setCell ⟨N + 1,off,none⟩ (.slice (some ⟨g,0,none⟩) len cap)).heap[N]?=some (.cells fnc 25 (0,0)) ∧
  (w1.setCell ⟨N + 1,off,none⟩ (.slice (some ⟨g,0,none⟩) len cap)).ownsRow G 4 1 (.slice (some ⟨G,0,none⟩) n n) n (boolsM n P) ∧
  Below N w (w1.setCell ⟨N + 1,off,none⟩ (.slice (some ⟨g,0,none⟩) len cap)):=by
 have hl:=H.lt
 have hG:=H.hG
 have key:∀ j,j ≤ G → w1.heap[j]?=wr.heap[j]?:=fun j hj => by
  have h1:=hg.block j (by simp;omega) (fun e => by have:=hv j e.symm;omega)
  rw [h1]
  exact Below.heap_alloc _ _ _ (by omega)
 refine ⟨(key (N + 1) (by omega)).trans H.box,?_,?_,?_,?_⟩
 ·rw [heap_setCell_other w1 ⟨N + 1,off,none⟩ (N + 2) _ (Nat.ne_of_gt (Nat.lt_succ_self (N + 1)))]
  exact (key _ (by omega)).trans H.res
 ·rw [heap_setCell_other w1 ⟨N + 1,off,none⟩ N _ (Nat.ne_of_lt (Nat.lt_succ_self N))]
  exact (key _ (by omega)).trans H.fn
 ·refine ownsRow_setCell_other ?_ (a:=⟨N + 1,off,none⟩) (by intro e;have e2:G=N + 1:=Option.some.inj e;omega) _
  refine (H.row.alloc o).kept hg ?_
  cases e:v.ownBlock with
  | none => exact .inr (by simp [Value.ownBlock])
  | some k =>
   refine .inr (fun e2 => ?_)
   have e3:G=k:=by simpa [Value.ownBlock] using e2
   have:=hv k e
   omega
 ·exact (((H.bel).alloc (by have:=H.bel.size;omega) o).grown hg (by have:=H.bel.size;simp;omega) (fun k hk => by have:=hv k hk;omega)).setCell (Nat.le_succ N) _
theorem BkAt.push1 {g cap x:Nat} (H:BkAt N G n h fnc w wr s v1 v3 P l m) (hown:w1.ownsRow (G + 1) 3 1 (.slice (some ⟨g,0,none⟩) (l.length + 1) cap) (l.length + 1) (natInts l ++ [.int .i64 (x:Int)])) (hg:(wr.alloc o).grownBy w1 v1.ownBlock) (hor:v1.ownBlock=some g ∨ g=(wr.alloc o).heap.size) :
  BkAt N G n h fnc w (w1.setCell ⟨N + 1,1,none⟩ (.slice (some ⟨g,0,none⟩) (l.length + 1) cap)) s (.slice (some ⟨g,0,none⟩) (l.length + 1) cap) v3 P (l ++ [x]) m:=by
 obtain ⟨a1,a2,a3,a4,a5⟩:=H.grown (off:=1) (g:=g) (len:=l.length + 1) (cap:=cap) (fun k hk => (H.two.one.lt k hk).1) hg
 refine ⟨H.hG,?_,a2,a3,a4,(H.two.push hown hg hor).other (by have:=H.hG;omega) _,a5⟩
 rw [heap_setCell_same _ (N + 1) 1 _ _ _ a1]
 rfl
theorem BkAt.push3 {g cap x:Nat} (H:BkAt N G n h fnc w wr s v1 v3 P l m) (hown:w1.ownsRow (G + 1) 3 1 (.slice (some ⟨g,0,none⟩) (m.length + 1) cap) (m.length + 1) (natInts m ++ [.int .i64 (x:Int)])) (hg:(wr.alloc o).grownBy w1 v3.ownBlock) (hor:v3.ownBlock=some g ∨ g=(wr.alloc o).heap.size) :
  BkAt N G n h fnc w (w1.setCell ⟨N + 1,3,none⟩ (.slice (some ⟨g,0,none⟩) (m.length + 1) cap)) s v1 (.slice (some ⟨g,0,none⟩) (m.length + 1) cap) P l (m ++ [x]):=by
 obtain ⟨a1,a2,a3,a4,a5⟩:=H.grown (off:=3) (g:=g) (len:=m.length + 1) (cap:=cap) (fun k hk => (H.two.two.lt k hk).1) hg
 refine ⟨H.hG,?_,a2,a3,a4,((H.two.swap.push hown hg hor).other (by have:=H.hG;omega) _).swap,a5⟩
 rw [heap_setCell_same _ (N + 1) 3 _ _ _ a1]
 rfl
end
theorem range_more {P:Nat → Bool} {b:Nat} (h:P b=true):(List.range (b + 1)).filter P=(List.range b).filter P ++ [b]:=by
 rw [List.range_succ,List.filter_append]
 simp [h]
theorem range_skip {P:Nat → Bool} {b:Nat} (h:P b=false):(List.range (b + 1)).filter P=(List.range b).filter P:=by
 rw [List.range_succ,List.filter_append]
 simp [h]
theorem range_len {P:Nat → Bool} {b:Nat}:((List.range b).filter P).length ≤ b:=by
 have:=List.length_filter_le P (List.range b)
 rwa [List.length_range] at this
theorem any_next {P:Nat → Bool} {l:List Nat} {j p:Nat} (hp:l[j]?=some p):(l.take (j + 1)).any P=((l.take j).any P || P p):=by
 rw [List.take_add_one,hp,List.any_append]
 simp
def RBlocksPost (n:Nat) (h:Nat) (s:Value) (L:Nat → Nat → Bool) (bs:List BlockM) (w:World) (e:Ending) (w':World):Prop :=
 ∃ b1 b3:Value,e=.returned (.agg #[.int .i64 (h:Int),b1,s,b3,.int .i64 0]) ∧ TwoR w' w.heap.size b1 b3 (blocksM n L h) (exitsM bs L h) ∧ Below w.heap.size w w'
set_option maxRecDepth 100000 in
set_option maxHeartbeats 8000000 in
theorem refBlocks_any (bs:List BlockM) (o:List Nat) (pl:Nat → Nat) (par:Nat → Option Nat) (D L:Nat → Nat → Bool) (h gp B nl cs base:Nat) (As:Option Addr) (vs:List Value) (pv av cv bv:Value) (w:World) (K:LoopOk bs o pl par D L) (hh:h < bs.length) (hin:EndsIn bs) (hbv:BlocksR w B bv bs) (_hB:B ≤ w.heap.size) (hls:Lists w base gp bs.length vs (predsAt bs bs.length bs.length 0)) (hs:Ints w w.heap.size (.slice As nl cs) ((latchesM bs D h).map fun (x:Nat) => (x:Int))) (_hav:∃ x,av=.int .i64 x) :
  Calls Tryz.prog 74 #[.agg #[pv,av,cv,bv],.agg #[.int .i64 (h:Int),.slice none 0 0,.slice As nl cs,.slice none 0 0,.int .i64 0],.slice (some ⟨gp,0,none⟩) bs.length bs.length] w (RBlocksPost bs.length h (.slice As nl cs) L bs w):=by
 have HK:=hideI K
 have hn5:=K.n5
 have HIN:=hideI hin
 have HLS:=hideI hls
 obtain ⟨A,c,rfl,hbm,_⟩:=hbv
 obtain ⟨W0,hW0⟩:∃ W0,W0=((w.alloc (.cells #[pv,av,cv,.slice A bs.length c] 25)).alloc (.cells #[.int .i64 (h:Int),.slice none 0 0,.slice As nl cs,.slice none 0 0,.int .i64 0] 112)).alloc (.cells #[.int .i64 0,.slice none 0 0,.slice none 0 0,.slice none 0 0,.int .i64 0] 112):=⟨_,rfl⟩
 have hB0:Below w.heap.size w W0:=by rw [hW0];exact (((Below.refl _ w).alloc (Nat.le_refl _) _).alloc (by simp) _).alloc (by simp;omega) _
 have hs0:W0.heap.size=w.heap.size + 3:=by rw [hW0];simp
 have hb0:W0.heap[w.heap.size]?=some (.cells #[pv,av,cv,.slice A bs.length c] 25 (0,0)):=by
  rw [hW0,Below.heap_alloc _ _ _ (by simp;omega),Below.heap_alloc _ _ _ (by simp)]
  exact heap_alloc_new w _
 have hb1:W0.heap[w.heap.size + 1]?=some (.cells #[.int .i64 (h:Int),.slice none 0 0,.slice As nl cs,.slice none 0 0,.int .i64 0] 112 (0,0)):=by
  rw [hW0,Below.heap_alloc _ _ _ (by simp)]
  have:=heap_alloc_new (w.alloc (.cells #[pv,av,cv,.slice A bs.length c] 25)) (.cells #[.int .i64 (h:Int),.slice none 0 0,.slice As nl cs,.slice none 0 0,.int .i64 0] 112)
  simpa using this
 have hb2:W0.heap[w.heap.size + 2]?=some (.cells #[.int .i64 0,.slice none 0 0,.slice none 0 0,.slice none 0 0,.int .i64 0] 112 (0,0)):=by
  rw [hW0]
  have:=heap_alloc_new ((w.alloc (.cells #[pv,av,cv,.slice A bs.length c] 25)).alloc (.cells #[.int .i64 (h:Int),.slice none 0 0,.slice As nl cs,.slice none 0 0,.int .i64 0] 112)) (.cells #[.int .i64 0,.slice none 0 0,.slice none 0 0,.slice none 0 0,.int .i64 0] 112)
  simpa using this
 have HW0:=hideI hW0
 have HB0:=hideI hB0
 have HS0:=hideI hs0
 have HX0:=hideI hb0
 have HX1:=hideI hb1
 have HX2:=hideI hb2
 have HLS0:=hideI (HLS.out.kept hB0)
 have hnl:nl=(latchesM bs D h).length:=by
  obtain ⟨_,_,e,_⟩:=hs
  rw [List.length_map] at e
  injection e
 have HNL:=hideI hnl
 obtain ⟨As',_,e1,_,hpx⟩:=hs.keep hB0
 rw [List.length_map,← hnl] at hpx
 have ea:As'=As:=by injection e1 with e2 _ _;exact e2.symm
 subst ea
 have HPX:=hideI hpx
 have hnl5:nl ≤ 512:=by
  rw [hnl]
  unfold latchesM
  exact Nat.le_trans (List.length_filter_le _ _) (Nat.le_trans (predsTo_len _ _ _) hn5)
 have g3:=(row_cells hb0 rfl) 3
 obtain ⟨i0,hix,hz0,hz1,hz2⟩:=info_parts bool_info
 have hgm:w.heap.size + 2 < W0.heap.size:=by omega
 clear K hin hls hW0 hB0 hs0 hb0 hb1 hb2 hnl hs hpx e1
 go_enter Tryz.func74,Tryz.ntmps74
 go_upto_region 1 with fail
 rw [← HW0.out]
 go_wp2_with (at_make;go_must (refine wpList_make_full _ rfl _ _ 114 rfl W0.heap.size 4 i0 (.bool false) 1 Tryz.underlying114 hix hz0 hz1 .i64 .i64 _ _ bs.length rfl rfl rfl rfl (by rw [hz2];omega) (by unfold maxLen;omega) (Nat.le_refl _) ?_);intro w1 hown1 hg1;go_must (rw [marks_made] at hown1;have HO1:=hideI hown1;have HB1:Hid (Below W0.heap.size W0 w1):=hideI ((Below.refl _ _).grown hg1 (Nat.le_refl _) (by simp));clear hown1 hg1 g3))
 clear hix hz0 hz1 hz2
 go_loopw [8] (fun u wr => ∃ k:Nat,k ≤ nl ∧ u=.int .i64 k ∧ Hid (wr.ownsRow W0.heap.size 4 1 (.slice (some ⟨W0.heap.size,0,none⟩) bs.length bs.length) bs.length (marks bs.length ((latchesM bs D h).take k).reverse)) ∧ Hid (Below W0.heap.size W0 wr)) (fun u _ => nl - (intOf u).toNat)
 case atStart => exact ⟨0,Nat.zero_le _,rfl,by rw [List.take_zero,List.reverse_nil];exact HO1,HB1⟩
 case round =>
  obtain ⟨k,hk,rfl,HO,HBr⟩:=hrel
  have x2:=(row_cells HX1.out (HBr.out.block _ (by omega))) 2
  by_cases hlt:k < nl
  ·obtain ⟨p,hp⟩:∃ p,(latchesM bs D h)[k]?=some p:=⟨_,List.getElem?_eq_getElem (by rw [← HNL.out];exact hlt)⟩
   have hpl:p < bs.length:=lsucc_lt (HK.out.fn.mem_latches.1 (List.mem_of_getElem? hp)).1
   obtain ⟨pb,po,rfl,hpb,d0⟩:=HPX.out k hlt
   rw [List.getElem?_map,hp] at d0
   simp only [Option.map_some,Option.getD_some] at d0
   have d1:=(HBr.out.cell (p:=⟨pb,po + k,none⟩) (by show pb < _;omega)).trans d0
   obtain ⟨S,hS⟩:∃ S,S=((latchesM bs D h).take k).reverse:=⟨_,rfl⟩
   rw [← hS] at HO
   have HSN:Hid (((latchesM bs D h).take (k + 1)).reverse=p :: S):=by show _=_;rw [List.take_add_one,hp,hS];simp
   have c2:wr.cell? ⟨W0.heap.size,p,none⟩=some (.bool (decide (p ∈ S))):=by rw [World.ownsRow.cellAt HO.out p (by omega),marks_at hpl]
   obtain ⟨old,hold⟩:∃ old:Bool,old=decide (p ∈ S):=⟨_,rfl⟩
   rw [← hold] at c2
   have c3:wr.frozen? ⟨W0.heap.size,p,none⟩=false:=World.ownsRow.frozenAt HO.out p
   have hst:=(World.ownsRow.stored HO.out p (.bool true)).1
   rw [marks_set] at hst
   have HST:=hideI hst
   have HBS:Hid (Below W0.heap.size W0 (wr.setCell ⟨W0.heap.size,p,none⟩ (.bool true))):=HBr.out.setCell (Nat.le_refl _) _
   clear hp d0 hS hold hst
   go_wp2
   go_roundw
   case rel => exact ⟨k + 1,by omega,by go_num,by rw [HSN.out];exact HST,HBS⟩
   case measure => simp [intOf];omega
  ·obtain ⟨S,hS⟩:∃ S,S=(latchesM bs D h).reverse:=⟨_,rfl⟩
   have HO':Hid (wr.ownsRow W0.heap.size 4 1 (.slice (some ⟨W0.heap.size,0,none⟩) bs.length bs.length) bs.length (marks bs.length S)):=by
    have h1:=HO.out
    rw [List.take_of_length_le (by rw [← HNL.out];omega),← hS] at h1
    exact h1
   obtain ⟨S1,hS1⟩:∃ S1,S1=h :: S:=⟨_,rfl⟩
   have c2:wr.cell? ⟨W0.heap.size,h,none⟩=some (.bool (decide (h ∈ S))):=by rw [World.ownsRow.cellAt HO'.out h (by omega),marks_at hh]
   obtain ⟨old,hold⟩:∃ old:Bool,old=decide (h ∈ S):=⟨_,rfl⟩
   rw [← hold] at c2
   have c3:wr.frozen? ⟨W0.heap.size,h,none⟩=false:=World.ownsRow.frozenAt HO'.out h
   have hst:=(World.ownsRow.stored HO'.out h (.bool true)).1
   rw [marks_set,← hS1] at hst
   have x0:=(row_cells HX1.out (HBr.out.block _ (by omega))) 0
   obtain ⟨S2,hS2,hmm⟩:∃ S2,BkSt bs o h S2 ∧ ∀ x,x ∈ S2 ↔ x ∈ S1:=by
    refine ⟨h :: (latchesM bs D h).filter (fun x => decide (x ≠ h)),⟨?_,?_,List.mem_cons_self ..,?_,?_⟩,?_⟩
    ·refine List.nodup_cons.2 ⟨fun hm => ?_,List.Pairwise.filter _ ?_⟩
     ·rw [List.mem_filter] at hm
      simp at hm
     ·unfold latchesM predsTo
      exact List.Pairwise.filter _ (List.Pairwise.filter _ List.nodup_range)
    ·intro x hx
     rcases List.mem_cons.1 hx with rfl | hx
     ·exact hh
     ·exact lsucc_lt (HK.out.fn.mem_latches.1 (List.mem_filter.1 hx).1).1
    ·intro x hx
     rcases List.mem_cons.1 hx with rfl | hx
     ·exact .head
     ·exact .latch (HK.out.fn.mem_latches.1 (List.mem_filter.1 hx).1)
    ·intro p hp
     by_cases e:p=h
     ·exact e ▸ List.mem_cons_self ..
     ·exact List.mem_cons_of_mem _ (List.mem_filter.2 ⟨HK.out.fn.mem_latches.2 hp,by simpa using e⟩)
    ·intro x
     rw [hS1,hS,List.mem_cons,List.mem_cons,List.mem_filter,List.mem_reverse]
     constructor
     ·rintro (e | e)
      ·exact .inl e
      ·exact .inr e.1
     ·rintro (e | e)
      ·exact .inl e
      ·by_cases e2:x=h
       ·exact .inl e2
       ·exact .inr ⟨e,by simpa using e2⟩
   have HST:Hid ((wr.setCell ⟨W0.heap.size,h,none⟩ (.bool true)).ownsRow W0.heap.size 4 1 (.slice (some ⟨W0.heap.size,0,none⟩) bs.length bs.length) bs.length (marks bs.length S2)):=by
    have h1:=hst
    rw [show marks bs.length S1=marks bs.length S2 from marks_congr (fun x => (hmm x).symm)] at h1
    exact h1
   have HBS:Hid (Below W0.heap.size W0 (wr.setCell ⟨W0.heap.size,h,none⟩ (.bool true))):=HBr.out.setCell (Nat.le_refl _) _
   have HBK:=hideI hS2
   have hS2l:=below_len _ _ hS2.nodup hS2.lt
   clear hS hS1 hold hst hS2 hmm HO HO'
   go_wp2
   clear x2 x0 c2 c3 HBr
   go_loopg [9] (2 * bs.length + 1) (fun gk ch wr => ∃ (S:List Nat) (cb:Bool),ch=.bool cb ∧ 2 * (bs.length - S.length) + (if cb then 1 else 0) ≤ gk ∧ gk ≤ 2 * bs.length + 1 ∧ Hid (BkSt bs o h S) ∧ Hid (cb=false → ∀ b,b < bs.length → shutAt bs h S b) ∧ Hid (wr.ownsRow W0.heap.size 4 1 (.slice (some ⟨W0.heap.size,0,none⟩) bs.length bs.length) bs.length (marks bs.length S)) ∧ Hid (Below W0.heap.size W0 wr))
   case atStart => exact ⟨S2,true,rfl,by simp;omega,Nat.le_refl _,HBK,hideI (fun h => by cases h),HST,HBS⟩
   case round =>
    clear HBK HST HBS
    obtain ⟨S,cb,rfl,hgk,hgm2,HS,HC,HO,HBr⟩:=hrel
    cases cb with
    | false =>
     have HLI:Hid (∀ x,decide (x ∈ S)=L h x):=fun x => by
      rw [Bool.eq_iff_iff,decide_eq_true_iff,HK.out.fn.inL]
      exact HS.out.all (HC.out (by first | rfl | trivial)) x
     have HA0:Hid (BkAt w.heap.size W0.heap.size bs.length h #[pv,av,cv,.slice A bs.length c] w wr (.slice As' nl cs) (.slice none 0 0) (.slice none 0 0) (L h) ((List.range 0).filter (L h)) ((List.range 0).filter fun t => !L h t && outB bs L h t)):=by
      refine ⟨hgm,(HBr.out.block _ (by omega)).trans HX1.out,(HBr.out.block _ (by omega)).trans HX2.out,(HBr.out.block _ (by omega)).trans HX0.out,?_,⟨World.ownsRow_nil _ _ _ _,World.ownsRow_nil _ _ _ _,fun k hk => by cases hk⟩,HB0.out.trans (HBr.out.mono (by omega))⟩
      have h1:=HO.out
      rw [marks_bools,boolsM_congr (Q:=L h) (fun b _ => HLI.out b)] at h1
      exact h1
     clear HO HBr HC hgk hgm2
     obtain ⟨i1,hjx,hy0,hy1,hy2⟩:=info_parts int_info
     go_wp2_with fail
     go_loopw [12] (fun u wr => ∃ (b:Nat) (v1 v3:Value),b ≤ bs.length ∧ u=.int .i64 b ∧ Hid (BkAt w.heap.size W0.heap.size bs.length h #[pv,av,cv,.slice A bs.length c] w wr (.slice As' nl cs) v1 v3 (L h) ((List.range b).filter (L h)) ((List.range b).filter fun t => !L h t && outB bs L h t))) (fun u _ => bs.length - (intOf u).toNat)
     case atStart => exact ⟨0,_,_,Nat.zero_le _,rfl,HA0⟩
     case round =>
      clear HA0
      obtain ⟨b,v1,v3,hb,rfl,HA⟩:=hrel
      have g3:=(row_cells HA.out.fn rfl) 3
      have x1:=(row_cells HA.out.box rfl) 1
      have x3:=(row_cells HA.out.box rfl) 3
      have hGl:=HA.out.lt
      by_cases hlt:b < bs.length
      ·have cb:wr.cell? ⟨W0.heap.size,b,none⟩=some (.bool (L h b)):=by rw [World.ownsRow.cellAt HA.out.row b (by omega)];exact boolsM_at hlt
       obtain ⟨l1,hl1⟩:∃ l1,l1=(List.range b).filter (L h):=⟨_,rfl⟩
       obtain ⟨l3,hl3⟩:∃ l3,l3=(List.range b).filter fun t => !L h t && outB bs L h t:=⟨_,rfl⟩
       have hl1l:l1.length ≤ 512:=by rw [hl1];exact Nat.le_trans range_len (by omega)
       have hl3l:l3.length ≤ 512:=by rw [hl3];exact Nat.le_trans range_len (by omega)
       rw [← hl1,← hl3] at HA
       cases hr:L h b with
       | true =>
        rw [hr] at cb
        have HN1:Hid ((List.range (b + 1)).filter (L h)=l1 ++ [b]):=by show _=_;rw [hl1];exact range_more hr
        have HN3:Hid (((List.range (b + 1)).filter fun t => !L h t && outB bs L h t)=l3):=by show _=_;rw [hl3];exact range_skip (by simp [hr])
        have H63:Hid (l1.length + 1 ≤ maxLen):=by show _ ≤ _;simp only [maxLen];omega
        have HBY:Hid ((l1.length + 1) * 8 ≤ 140737488355328):=by show _ ≤ _;omega
        clear hr hl1 hl3 x3
        go_wp2_with (at_builtin;go_must (refine wpList_append_lies _ rfl _ _ _ rfl (W0.heap.size + 1) 3 i1 (.int .i64 0) 1 8 Tryz.underlying22 hjx hy0 hy1 hy2 rfl (by decide) _ _ _ rfl (HA.out.two.one.alloc _) ⟨wr.heap.size,0,none⟩ 1 1 [.int .i64 b] rfl rfl (one_new wr _) (by simp [Value.oneCell']) (by decide) H63.out HBY.out (by simp;omega) _ rfl ?_);intro g1 cap1 w3 hown1 hgrow1 hor1 _;go_must (have HGR:=hideI (HA.out.grown (off:=1) (g:=g1) (len:=l1.length + 1) (cap:=cap1) (fun k hk => (HA.out.two.one.lt k hk).1) hgrow1);have HPU:=hideI (HA.out.push1 hown1 hgrow1 hor1);have zz:=row_cells HGR.out.1 rfl 1;have ff:=free_rowN HGR.out.1 rfl 1;clear hown1 hgrow1 hor1))
        go_roundw
        case rel => exact ⟨b + 1,_,_,by omega,by go_num,by rw [HN1.out,HN3.out];exact HPU⟩
        case measure => simp [intOf];omega
       | false =>
        rw [hr] at cb
        have HN1:Hid ((List.range (b + 1)).filter (L h)=l1):=by show _=_;rw [hl1];exact range_skip hr
        obtain ⟨v,hv⟩:∃ v,vs[b]?=some v:=⟨_,List.getElem?_eq_getElem (by rw [HLS0.out.vl];exact hlt)⟩
        have hl:(predsAt bs bs.length bs.length 0)[b]?=some (predsTo bs bs.length b):=by rw [predsAt_at hlt];simp
        have cgp0:w.cell? ⟨gp,b,none⟩=some v:=by rw [World.ownsRow.cellAt HLS.out.row b (by omega)];exact hv
        have hgpl:=HLS.out.lt.2
        have hown:=HLS.out.own b v _ hv hl
        obtain ⟨l,hll2⟩:∃ l,l=predsTo bs bs.length b:=⟨_,rfl⟩
        rw [← hll2] at hown
        have HLL:=hideI hll2
        have hlll:l.length ≤ 512:=by rw [hll2];exact Nat.le_trans (predsTo_len _ _ _) hn5
        obtain ⟨PA,pc2,e1,_,hpy⟩:=nat_ints hown (by omega)
        rw [List.length_map] at e1 hpy
        subst e1
        have HPY:=hideI hpy
        have cgp:=(HA.out.bel.cell (p:=⟨gp,b,none⟩) hgpl).trans cgp0
        have HR:=hideI hr
        have HL3:=hideI hl3
        clear hv hl hown hll2 hpy cgp0 hr hl1 hl3 x1
        go_wp2_with fail
        go_loopw [13,14] (fun ev u wr2 => ∃ (j:Nat),j ≤ l.length ∧ u=.int .i64 j ∧ ev=.bool ((l.take j).any (L h)) ∧ wr2=wr) (fun _ u _ => l.length - (intOf u).toNat)
        case atStart => exact ⟨0,Nat.zero_le _,rfl,rfl,rfl⟩
        case round =>
         obtain ⟨j,hj,rfl,rfl,hw⟩:=hrel
         obtain rfl:=hw.symm
         obtain ⟨ex,hex⟩:∃ ex,ex=(l.take j).any (L h):=⟨_,rfl⟩
         rw [← hex]
         by_cases hltj:j < l.length
         ·obtain ⟨p,hp⟩:∃ p,l[j]?=some p:=⟨_,List.getElem?_eq_getElem hltj⟩
          have hpl:p < bs.length:=predsTo_lt (by rw [← HLL.out];exact List.mem_of_getElem? hp)
          have HAN:Hid ((l.take (j + 1)).any (L h)=(ex || L h p)):=by show _=_;rw [any_next hp,hex]
          obtain ⟨pb,po,rfl,hpb,d0⟩:=HPY.out j hltj
          rw [List.getElem?_map,hp] at d0
          simp only [Option.map_some,Option.getD_some] at d0
          have d1:=(HA.out.bel.cell (p:=⟨pb,po + j,none⟩) hpb).trans d0
          have cp:wr.cell? ⟨W0.heap.size,p,none⟩=some (.bool (L h p)):=by rw [World.ownsRow.cellAt HA.out.row p (by omega)];exact boolsM_at hpl
          obtain ⟨r,hr⟩:∃ r,r=L h p:=⟨_,rfl⟩
          rw [← hr] at cp HAN
          clear hp d0 hr hex
          cases ex with
          | true =>
           go_wp2_with fail
           go_roundw
           case rel => exact ⟨j + 1,by omega,by go_num,by rw [HAN.out];rfl,by first | rfl | trivial⟩
           case measure => simp [intOf];omega
          | false =>
           go_wp2_with fail
           go_roundw
           case rel => exact ⟨j + 1,by omega,by go_num,by rw [HAN.out];simp,by first | rfl | trivial⟩
           case measure => simp [intOf];omega
         ·have HEX:Hid (ex=outB bs L h b):=by
           show _=_
           rw [hex,List.take_of_length_le (by omega),HLL.out]
           exact exit_any
          clear hex
          cases ex with
          | true =>
           have HN3:Hid (((List.range (b + 1)).filter fun t => !L h t && outB bs L h t)=l3 ++ [b]):=by show _=_;rw [HL3.out];exact range_more (by rw [HR.out,← HEX.out];rfl)
           have H63:Hid (l3.length + 1 ≤ maxLen):=by show _ ≤ _;simp only [maxLen];omega
           have HBY:Hid ((l3.length + 1) * 8 ≤ 140737488355328):=by show _ ≤ _;omega
           go_wp2_with (at_builtin;go_must (refine wpList_append_lies _ rfl _ _ _ rfl (W0.heap.size + 1) 3 i1 (.int .i64 0) 1 8 Tryz.underlying22 hjx hy0 hy1 hy2 rfl (by decide) _ _ _ rfl (HA.out.two.two.alloc _) ⟨wr.heap.size,0,none⟩ 1 1 [.int .i64 b] rfl rfl (one_new wr _) (by simp [Value.oneCell']) (by decide) H63.out HBY.out (by simp;omega) _ rfl ?_);intro g1 cap1 w3 hown1 hgrow1 hor1 _;go_must (have HGR:=hideI (HA.out.grown (off:=3) (g:=g1) (len:=l3.length + 1) (cap:=cap1) (fun k hk => (HA.out.two.two.lt k hk).1) hgrow1);have HPU:=hideI (HA.out.push3 hown1 hgrow1 hor1);have zz:=row_cells HGR.out.1 rfl 3;have ff:=free_rowN HGR.out.1 rfl 3;clear hown1 hgrow1 hor1))
           go_roundw
           case rel => exact ⟨b + 1,_,_,by omega,by go_num,by rw [HN1.out,HN3.out];exact HPU⟩
           case measure => simp [intOf];omega
          | false =>
           have HN3:Hid (((List.range (b + 1)).filter fun t => !L h t && outB bs L h t)=l3):=by show _=_;rw [HL3.out];exact range_skip (by rw [HR.out,← HEX.out];rfl)
           go_wp2_with fail
           go_roundw
           case rel => exact ⟨b + 1,_,_,by omega,by go_num,by rw [HN1.out,HN3.out];exact HA⟩
           case measure => simp [intOf];omega
      ·have hbn:b=bs.length:=by omega
       subst hbn
       obtain ⟨A1,c1,rfl⟩:=own_sl HA.out.two.one
       obtain ⟨A3,c3,rfl⟩:=own_sl HA.out.two.two
       obtain ⟨m1,hm1⟩:∃ m1,m1=((List.range bs.length).filter (L h)).length:=⟨_,rfl⟩
       obtain ⟨m3,hm3⟩:∃ m3,m3=((List.range bs.length).filter fun t => !L h t && outB bs L h t).length:=⟨_,rfl⟩
       rw [← hm1,← hm3] at HA x1 x3
       have hbx:=row_cells HA.out.box rfl
       have x0:=hbx 0
       have x2:=hbx 2
       have x4:=hbx 4
       have hrs:=row_cells HA.out.res rfl
       have s0:=hrs 0
       have s1:=hrs 1
       have s2:=hrs 2
       have s3:=hrs 3
       have s4:=hrs 4
       have f0:=free_rowN HA.out.res rfl 0
       have f1:=free_rowN HA.out.res rfl 1
       have f2:=free_rowN HA.out.res rfl 2
       have f3:=free_rowN HA.out.res rfl 3
       have f4:=free_rowN HA.out.res rfl 4
       clear hbx hrs hm1 hm3
       go_wp2_with fail
       have hj:w.heap.size + 2 < W0.heap.size + 1:=by omega
       refine bodyPost_ret (v:=.agg #[.int .i64 (h:Int),.slice A1 m1 c1,.slice As' nl cs,.slice A3 m3 c3,.int .i64 0]) (by simp [results,Tryz.results74,go_sem,s0,s1,s2,s3,s4]) rfl ⟨_,_,rfl,?_,?_⟩
       ·have h1:TwoR _ (W0.heap.size + 1) _ _ _ _:=((((HA.out.two.other (j:=w.heap.size + 2) (off:=0) hj (.int .i64 (h:Int))).other (j:=w.heap.size + 2) (off:=1) hj (.slice A1 m1 c1)).other (j:=w.heap.size + 2) (off:=2) hj (.slice As' nl cs)).other (j:=w.heap.size + 2) (off:=3) hj (.slice A3 m3 c3)).other (j:=w.heap.size + 2) (off:=4) hj (.int .i64 0)
        exact ⟨World.ownsRow.mono h1.one (by omega),World.ownsRow.mono h1.two (by omega),h1.apart⟩
       ·exact ((((HA.out.bel.setCell (by simp;omega) _).setCell (by simp;omega) _).setCell (by simp;omega) _).setCell (by simp;omega) _).setCell (by simp;omega) _
    | true =>
     clear HC
     have hgk2:2 * (bs.length - S.length) + 1 ≤ gk:=by simpa using hgk
     have HGK:=hideI hgk2
     clear hgk hgk2
     go_wp2_with fail
     go_loopw [9,10] (fun ch u wr => ∃ (k:Nat) (S2:List Nat) (cb:Bool),k ≤ bs.length ∧ u=.int .i64 k ∧ ch=.bool cb ∧ Hid (BkMid bs o h S S2 cb k [] 0) ∧ Hid (wr.ownsRow W0.heap.size 4 1 (.slice (some ⟨W0.heap.size,0,none⟩) bs.length bs.length) bs.length (marks bs.length S2)) ∧ Hid (Below W0.heap.size W0 wr)) (fun _ u _ => bs.length - (intOf u).toNat)
     case atStart => exact ⟨0,S,false,Nat.zero_le _,rfl,rfl,hideI ⟨HS.out,fun _ => ⟨rfl,fun b hb => by omega,fun p hp => by simp at hp⟩,fun e => by cases e⟩,HO,HBr⟩
     case round =>
      clear HO HBr
      obtain ⟨k,S2,cb,hk,rfl,rfl,HM,HO,HBr⟩:=hrel
      have g3:=(row_cells HX0.out (HBr.out.block _ (by omega))) 3
      have x0:=(row_cells HX1.out (HBr.out.block _ (by omega))) 0
      by_cases hlt:k < bs.length
      ·obtain ⟨v,hv⟩:∃ v,vs[k]?=some v:=⟨_,List.getElem?_eq_getElem (by rw [HLS0.out.vl];exact hlt)⟩
       have hl:(predsAt bs bs.length bs.length 0)[k]?=some (predsTo bs bs.length k):=by rw [predsAt_at hlt];simp
       have cgp0:W0.cell? ⟨gp,k,none⟩=some v:=by rw [World.ownsRow.cellAt HLS0.out.row k (by omega)];exact hv
       have hgpl:=HLS0.out.lt.2
       have hown:=HLS0.out.own k v _ hv hl
       obtain ⟨l,hll2⟩:∃ l,l=predsTo bs bs.length k:=⟨_,rfl⟩
       rw [← hll2] at hown
       have HLL:=hideI hll2
       have hlll:l.length ≤ 512:=by rw [hll2];exact Nat.le_trans (predsTo_len _ _ _) hn5
       obtain ⟨PA,pc2,e1,_,hpy⟩:=nat_ints hown (by omega)
       rw [List.length_map] at e1 hpy
       subst e1
       have HPY:=hideI hpy
       have HMK:=hideI (HM.out.begin (l':=l))
       have CGP:=hideI cgp0
       clear hv hl hown hll2 hpy cgp0
       go_wp2_with fail
       go_loopw [9,11] (fun ch u wr => ∃ (j:Nat) (S2:List Nat) (cb:Bool),j ≤ l.length ∧ u=.int .i64 j ∧ ch=.bool cb ∧ Hid (BkMid bs o h S S2 cb k l j) ∧ Hid (j=0 ∨ (k ∈ S2 ∧ k ≠ h)) ∧ Hid (wr.ownsRow W0.heap.size 4 1 (.slice (some ⟨W0.heap.size,0,none⟩) bs.length bs.length) bs.length (marks bs.length S2)) ∧ Hid (Below W0.heap.size W0 wr)) (fun _ u _ => l.length - (intOf u).toNat)
       case atStart => exact ⟨0,S2,cb,Nat.zero_le _,rfl,rfl,HMK,hideI (.inl rfl),HO,HBr⟩
       case round =>
        clear HM HMK HO HBr g3 x0
        obtain ⟨j,S2,cb,hj,rfl,rfl,HM,HJ,HO,HBr⟩:=hrel
        have x0:=(row_cells HX1.out (HBr.out.block _ (by omega))) 0
        have cgp:=(HBr.out.cell (p:=⟨gp,k,none⟩) hgpl).trans CGP.out
        have cm:wr.cell? ⟨W0.heap.size,k,none⟩=some (.bool (decide (k ∈ S2))):=by rw [World.ownsRow.cellAt HO.out k (by omega),marks_at hlt]
        by_cases hltj:j < l.length
        ·by_cases hkS:k ∈ S2
         ·rw [show decide (k ∈ S2)=true from by simpa using hkS] at cm
          by_cases hkh:k=h
          ·have e1:((k:Int) != (h:Int))=false:=by rw [hkh];simp
           have hj0:j=0:=by
            rcases HJ.out with e | e
            ·exact e
            ·exact absurd hkh e.2
           have HN:Hid (BkMid bs o h S S2 cb (k + 1) [] 0):=by
            have h1:=HM.out
            rw [hj0] at h1
            exact (h1.pass (.inr hkh)).begin
           clear hkS hkh hj0
           go_wp2_with fail
           go_roundw
           case rel => exact ⟨k + 1,S2,cb,by omega,by go_num,rfl,HN,HO,HBr⟩
           case measure => simp [intOf];omega
          ·have e1:((k:Int) != (h:Int))=true:=by rw [bne_iff_ne];omega
           obtain ⟨p,hp⟩:∃ p,l[j]?=some p:=⟨_,List.getElem?_eq_getElem hltj⟩
           have hpl:p < bs.length:=predsTo_lt (by rw [← HLL.out];exact List.mem_of_getElem? hp)
           obtain ⟨pb,po,rfl,hpb,d0⟩:=HPY.out j hltj
           rw [List.getElem?_map,hp] at d0
           simp only [Option.map_some,Option.getD_some] at d0
           have d1:=(HBr.out.cell (p:=⟨pb,po + j,none⟩) hpb).trans d0
           have cp:wr.cell? ⟨W0.heap.size,p,none⟩=some (.bool (decide (p ∈ S2))):=by rw [World.ownsRow.cellAt HO.out p (by omega),marks_at hpl]
           have fp:wr.frozen? ⟨W0.heap.size,p,none⟩=false:=World.ownsRow.frozenAt HO.out p
           have HKK:Hid (k ∈ S2 ∧ k ≠ h):=⟨hkS,hkh⟩
           by_cases hpS:p ∈ S2
           ·rw [show decide (p ∈ S2)=true from by simpa using hpS] at cp
            have HN:=hideI (HM.out.skip hp hpS)
            clear hkS hkh hp d0 hpS
            go_wp2_with fail
            go_roundw
            case rel => exact ⟨j + 1,S2,cb,by omega,by go_num,rfl,HN,hideI (.inr HKK.out),HO,HBr⟩
            case measure => simp [intOf];omega
           ·rw [show decide (p ∈ S2)=false from by simpa using hpS] at cp
            have HN:=hideI (HM.out.add hp HLL.out hkS hkh hpS)
            have hst:=(World.ownsRow.stored HO.out p (.bool true)).1
            rw [marks_set] at hst
            have HST:=hideI hst
            have HBS:Hid (Below W0.heap.size W0 (wr.setCell ⟨W0.heap.size,p,none⟩ (.bool true))):=HBr.out.setCell (Nat.le_refl _) _
            have hpne:pb ≠ W0.heap.size:=by omega
            have hgne:gp ≠ W0.heap.size:=by omega
            clear hkS hkh hp d0 hpS hst
            go_wp2_with fail
            go_roundw
            case rel => exact ⟨j + 1,p :: S2,true,by omega,by go_num,rfl,HN,hideI (.inr ⟨List.mem_cons_of_mem _ HKK.out.1,HKK.out.2⟩),HST,HBS⟩
            case measure => simp [intOf];omega
         ·rw [show decide (k ∈ S2)=false from by simpa using hkS] at cm
          have hj0:j=0:=by
           rcases HJ.out with e | e
           ·exact e
           ·exact absurd e.1 hkS
          have HN:Hid (BkMid bs o h S S2 cb (k + 1) [] 0):=by
           have h1:=HM.out
           rw [hj0] at h1
           exact (h1.pass (.inl hkS)).begin
          clear hkS hj0
          go_wp2_with fail
          go_roundw
          case rel => exact ⟨k + 1,S2,cb,by omega,by go_num,rfl,HN,HO,HBr⟩
          case measure => simp [intOf];omega
        ·have HN:=hideI ((HM.out.next HLL.out (by omega)).begin (l':=[]))
         go_wp2_with fail
         go_roundw
         case rel => exact ⟨k + 1,S2,cb,by omega,by go_num,rfl,HN,HO,HBr⟩
         case measure => simp [intOf];omega
      ·have hkn:k=bs.length:=by omega
       have HN2:Hid (cb=false → ∀ b,b < bs.length → shutAt bs h S2 b):=fun e b hb => (HM.out.no e).2.1 b (by omega)
       have hS2l:=below_len _ _ HM.out.st.nodup HM.out.st.lt
       have hms:2 * (bs.length - S2.length) + (if cb then 1 else 0) + 1 ≤ gk:=by
        have:=HGK.out
        cases cb with
        | false => have:=(HM.out.no rfl).1;subst this;simp;omega
        | true => have:=HM.out.yes rfl;simp;omega
       have HMS:=hideI hms
       have HST:=hideI HM.out.st
       clear hkn hms
       go_wp2_with fail
       go_roundg (2 * (bs.length - S2.length) + (if cb then 1 else 0))
       case rel => exact ⟨S2,cb,rfl,Nat.le_refl _,by have:=HMS.out;omega,HST,HN2,HO,HBr⟩
       case measure => have:=HMS.out;omega
end Go.Proofs.YtikogmpibkefdaaGreat

namespace Go.Proofs.YtikogmpibkefdaaGreat
open Go.RowKit Go.Maps
theorem all_no {P:Nat → Bool} {l:List Nat} {j b:Nat} (hb:l[j]?=some b) (h:P b=false):l.all P=false:=by
 rw [List.all_eq_false]
 exact ⟨b,List.mem_of_getElem? hb,by rw [h];simp⟩
theorem all_next {P:Nat → Bool} {l:List Nat} {j b:Nat} (hb:l[j]?=some b) (h:P b=true) (ha:(l.take j).all P=true):(l.take (j + 1)).all P=true:=by
 rw [List.take_add_one,hb,List.all_append,ha]
 simp [h]
set_option maxRecDepth 100000 in
set_option maxHeartbeats 2000000 in
theorem refWithin_any (xs ys:List Nat) (nx ny cx cy:Nat) (Ax Ay:Option Addr) (v0 v2 v3 v4 u0 u2 u3 u4:Value) (w:World) (hx:Ints w w.heap.size (.slice Ax nx cx) (xs.map fun (x:Nat) => (x:Int))) (hy:Ints w w.heap.size (.slice Ay ny cy) (ys.map fun (x:Nat) => (x:Int))) (hn:nx=xs.length) (hn5:nx ≤ 512) :
  Calls Tryz.prog 75 #[.agg #[v0,.slice Ax nx cx,v2,v3,v4],.agg #[u0,.slice Ay ny cy,u2,u3,u4]] w fun e w' => e=.returned (.bool (xs.all fun b => decide (b ∈ ys))) ∧ Below w.heap.size w w':=by
 obtain ⟨W,hW⟩:∃ W,W=(w.alloc (.cells #[v0,.slice Ax nx cx,v2,v3,v4] 112)).alloc (.cells #[u0,.slice Ay ny cy,u2,u3,u4] 112):=⟨_,rfl⟩
 have HBW:Hid (Below w.heap.size w W):=by show Below _ _ _;rw [hW];exact ((Below.refl _ w).alloc (Nat.le_refl _) _).alloc (by simp) _
 have hx1:W.heap[w.heap.size]?=some (.cells #[v0,.slice Ax nx cx,v2,v3,v4] 112 (0,0)):=by
  rw [hW,Below.heap_alloc _ _ _ (by simp)]
  exact heap_alloc_new w _
 have hx2:W.heap[w.heap.size + 1]?=some (.cells #[u0,.slice Ay ny cy,u2,u3,u4] 112 (0,0)):=by
  rw [hW]
  have:=heap_alloc_new (w.alloc (.cells #[v0,.slice Ax nx cx,v2,v3,v4] 112)) (.cells #[u0,.slice Ay ny cy,u2,u3,u4] 112)
  simpa using this
 have HX1:=hideI hx1
 have HX2:=hideI hx2
 have HIX:=hideI (hx.keep HBW.out)
 have HIY:=hideI (hy.keep HBW.out)
 have HN:=hideI hn
 have HW0:=hideI hW
 obtain ⟨Ax',_,e1,_,hpx⟩:=HIX.out
 have ea:Ax'=Ax:=by injection e1 with e2 _ _;exact e2.symm
 subst ea
 rw [List.length_map,← hn] at hpx
 have HPX:=hideI hpx
 have q1:=row_cells hx1 rfl 1
 have q2:=row_cells hx2 rfl 1
 clear hW hx1 hx2 hx hy hn e1 hpx
 go_enter Tryz.func75,Tryz.ntmps75
 go_upto_region 1 with fail
 rw [← HW0.out]
 go_wp2_with fail
 go_loopw [5] (fun u wr => ∃ k m:Nat,k ≤ nx ∧ u=.int .i64 k ∧ Hid ((xs.take k).all (fun b => decide (b ∈ ys))=true) ∧ wr=W.drewN m) (fun u _ => nx - (intOf u).toNat)
 case atStart => exact ⟨0,0,Nat.zero_le _,rfl,hideI rfl,rfl⟩
 case round =>
  obtain ⟨k,m,hk,rfl,HA,hwr⟩:=hrel
  have HWR:=hideI hwr
  have r1:wr.cell? ⟨w.heap.size,1,none⟩=some (.slice Ax' nx cx):=by rw [hwr];exact q1
  have r2:wr.cell? ⟨w.heap.size + 1,1,none⟩=some (.slice Ay ny cy):=by rw [hwr];exact q2
  by_cases hlt:k < nx
  ·obtain ⟨b,hb⟩:∃ b,xs[k]?=some b:=⟨_,List.getElem?_eq_getElem (by have:=HN.out;omega)⟩
   obtain ⟨pb,po,rfl,hpb,d0⟩:=HPX.out k hlt
   rw [List.getElem?_map,hb] at d0
   simp only [Option.map_some,Option.getD_some] at d0
   have d1:wr.cell? ⟨pb,po + k,none⟩=some (.int .i64 (b:Int)):=by rw [hwr];exact d0
   obtain ⟨r,hr⟩:∃ r,r=decide (b ∈ ys):=⟨_,rfl⟩
   have HH:Hid (∀ a,_):=hideI (has_at (w:=wr) (p:=b) (r:=r) (by rw [hwr];exact HIY.out) hr.symm)
   cases r with
   | false =>
    have HF:Hid ((xs.all fun b => decide (b ∈ ys))=false):=all_no hb hr.symm
    clear hb d0 hr hwr q1 q2
    go_wp2_with fail
    go_quiet ((go_at_call 25;exact Calls.quiet_of_same (HH.out _)))
    go_wp2_with fail
    go_ret
    refine ⟨by rw [HF.out];rfl,?_⟩
    have h1:=drew_below HBW.out m
    rw [← HWR.out] at h1
    exact drew_below h1 _
   | true =>
    have HT:Hid ((xs.take (k + 1)).all (fun b => decide (b ∈ ys))=true):=all_next hb hr.symm HA.out
    clear hb d0 hr hwr q1 q2
    go_wp2_with fail
    go_quiet ((go_at_call 25;exact Calls.quiet_of_same (HH.out _)))
    go_wp2_with fail
    go_roundw
    case rel => exact ⟨k + 1,_,by omega,by go_num,HT,by rw [HWR.out];exact World.drewN_drewN ..⟩
    case measure => simp [intOf];omega
  ·have HE:Hid ((xs.all fun b => decide (b ∈ ys))=true):=by
    show _=_
    have h1:=HA.out
    rwa [List.take_of_length_le (by have:=HN.out;omega)] at h1
   clear hwr q1 q2
   go_wp2_with fail
   go_ret
   refine ⟨by rw [HE.out];rfl,?_⟩
   rw [HWR.out]
   exact drew_below HBW.out m
end Go.Proofs.YtikogmpibkefdaaGreat
