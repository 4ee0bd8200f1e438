/- What EditBackUpto rests on, part 4: GOut, GOutP, DGrow. -/
import Derived.Test.YtaehbgppfahdeaaGreatPkEditBackUpto3
import Derived.IntWalk
import Derived.Deep.LoopGhost

namespace Go.Proofs.YtaehbgppfahdeaaGreat
open Go.RowKit Go.Maps
def GOrderPost (f:FuncM) (w:World) (e:Ending) (w':World):Prop :=
 ((lookM f).1 ≠ 0 ∧ e=.returned (.tuple #[.slice none 0 0,.int .i64 (lookM f).1]) ∧ Below w.heap.size w w') ∨
 ((lookM f).1=0 ∧ ∃ (o:List Nat) (g cap:Nat),e=.returned (.tuple #[.slice (some ⟨g,0,none⟩) o.length cap,.int .i64 0]) ∧ OrderIs f.blocks o ∧ 0 < o.length ∧ o.length ≤ f.blocks.length ∧ w'.ownsRow w.heap.size 3 1 (.slice (some ⟨g,0,none⟩) o.length cap) o.length (natInts o) ∧ Below w.heap.size w w')
set_option maxRecDepth 100000 in
set_option maxHeartbeats 1000000 in
theorem gOrder_any (f:FuncM) (B:Nat) (pv bv:Value) (w:World) (hpv:Ints w B pv f.params) (hbv:BlocksR w B bv f.blocks) (hB:B ≤ w.heap.size) (hid:∀ u ∈ usesM f,I64 u.1) :
  Calls Tryz.prog 69 #[.agg #[pv,.int .i64 f.arrays,.int .i64 f.cells,bv]] w (GOrderPost f w):=by
 have HP:=hideI hpv
 have HBL:=hideI hbv
 have HID:=hideI hid
 obtain ⟨P,pc,rfl,_⟩:=hpv
 obtain ⟨A,c,rfl,hbm,_⟩:=hbv
 have HX:=hideI (heap_alloc_new w (.cells #[.slice P f.params.length pc,.int .i64 f.arrays,.int .i64 f.cells,.slice A f.blocks.length c] 25))
 have HK:Hid (Keeps B w (w.alloc (.cells #[.slice P f.params.length pc,.int .i64 f.arrays,.int .i64 f.cells,.slice A f.blocks.length c] 25))):=(Keeps.refl w).alloc hB _
 have HB0:Hid (Below w.heap.size w (w.alloc (.cells #[.slice P f.params.length pc,.int .i64 f.arrays,.int .i64 f.cells,.slice A f.blocks.length c] 25))):=(Below.refl _ w).alloc (Nat.le_refl _) _
 clear hid
 by_cases h0:(lookM f).1=0
 ·have H0:=hideI h0
  have hnb:=look_some_block h0
  clear h0
  go_enter Tryz.func69,Tryz.ntmps69
  go_wp2_with (first
   | (go_at_call 83;go_must (refine (check_any f B _ _ _ (HP.out.keeps HK.out) (HBL.out.keeps HK.out) (by simp;omega) HID.out).mono ?_);rw [H0.out];rintro e w1 ⟨rfl,hb⟩;have HB1:=hideI (HB0.out.trans (hb.mono (by simp)));have hxx:=row_cells ((hb.block _ (lt_of_heap HX.out)).trans HX.out) rfl;have q0:=hxx 0;have q1:=hxx 1;have q2:=hxx 2;have q3:=hxx 3;have hl1:w.heap.size < w1.heap.size:=(by have:=hb.size;simp at this;omega);clear hb hxx)
   | (go_at_call 116;go_must (refine (order_any f.blocks w.heap.size _ _ _ _ _ ((HBL.out.more' hB).keeps (Keeps.of_below HB1.out)) (by omega) hnb.1 hnb.2 (look_ends H0.out)).mono ?_);rintro e w2 ⟨o,g,cap,rfl,ho,ho0,ho1,hown,hb2⟩;have HO:=hideI ho;have HW:=hideI hown;have HB2:=hideI hb2;clear ho hown hb2))
  go_ret2
  exact .inr ⟨H0.out,o,g,cap,rfl,HO.out,ho0,ho1,World.ownsRow.mono HW.out (by omega),HB1.out.trans (HB2.out.mono (by omega))⟩
 ·have H0:=hideI h0
  have hb:((lookM f).1 != 0)=true:=by simpa using h0
  clear h0
  go_enter Tryz.func69,Tryz.ntmps69
  go_wp2_with (first
   | (go_at_call 83;go_must (refine (check_any f B _ _ _ (HP.out.keeps HK.out) (HBL.out.keeps HK.out) (by simp;omega) HID.out).mono ?_);rintro e w1 ⟨rfl,hb1⟩;have HB1:=hideI (HB0.out.trans (hb1.mono (by simp)));clear hb1))
  go_ret2
  exact .inl ⟨H0.out,rfl,HB1.out⟩
end Go.Proofs.YtaehbgppfahdeaaGreat

namespace Go.Proofs.YtaehbgppfahdeaaGreat
open Go.RowKit Go.Maps
def PredsPost (bs:List BlockM) (w:World) (e:Ending) (w':World):Prop :=
 ∃ (g:Nat) (vs:List Value),e=.returned (.slice (some ⟨g,0,none⟩) bs.length bs.length) ∧ Lists w' w.heap.size g bs.length vs (predsAt bs bs.length bs.length 0) ∧ Below w.heap.size w w'
set_option maxRecDepth 100000 in
set_option maxHeartbeats 4000000 in
theorem preds_any (bs:List BlockM) (B:Nat) (pv av cv bv:Value) (w:World) (hbv:BlocksR w B bv bs) (hB:B ≤ w.heap.size) (hn5:bs.length ≤ 512) (hin:EndsIn bs) :
  Calls Tryz.prog 124 #[.agg #[pv,av,cv,bv]] w (PredsPost bs w):=by
 have HBL:=hideI hbv
 have HIN:=hideI hin
 obtain ⟨A,c,rfl,hbm,_⟩:=hbv
 obtain ⟨i0,hix,hz0,hz1,hz2⟩:=info_parts ints_info
 clear hin
 go_enter Tryz.func124,Tryz.ntmps124
 go_wp2_with (first
  | (at_make;go_must (refine wpList_make_full _ rfl _ _ 44 rfl (w.heap.size + 1) 22 i0 (.slice none 0 0) 1 Tryz.underlying44 hix hz0 hz1 .i64 .i64 _ _ bs.length rfl rfl rfl rfl (by rw [hz2];omega) (by unfold maxLen;omega) (by simp) ?_);intro w1 hown1 hg1;rw [World.size_alloc] at hown1;go_must (have HL1:=hideI (Lists.made hown1);have hgb:=row_cells ((hg1.block w.heap.size (by simp) (by simp)).trans (heap_alloc_new w _)) rfl;have HGB:=hideI ((hg1.block w.heap.size (by simp) (by simp)).trans (heap_alloc_new w _));have HB0:Hid (Below w.heap.size w w1):=((Below.refl _ _).alloc (Nat.le_refl _) _).grown hg1 (by simp) (by simp);clear hown1 hg1;have g3:=hgb 3;clear hgb)))
 clear hix hz0 hz1 hz2
 rw [← predsAt_zero bs bs.length] at HL1
 clear g3
 go_loopw [16] (fun u wr => ∃ (k:Nat) (vs:List Value),k ≤ bs.length ∧ u=.int .i64 k ∧ Hid (Lists wr (w.heap.size + 1) (w.heap.size + 1) bs.length vs (predsAt bs bs.length k 0)) ∧ Hid (Below w.heap.size w wr) ∧ Hid (Below (w.heap.size + 1) w1 wr)) (fun u _ => bs.length - (intOf u).toNat)
 case atStart => exact ⟨0,_,Nat.zero_le _,rfl,HL1,HB0,hideI (Below.refl _ _)⟩
 case round =>
  obtain ⟨k,vs,hk,rfl,HL,HBr,HBo⟩:=hrel
  have hgl:=HBo.out
  by_cases hlt:k < bs.length
  ·obtain ⟨q,hq⟩:∃ q,bs[k]?=some q:=⟨_,List.getElem?_eq_getElem hlt⟩
   obtain ⟨A',c',e0,_,hbx⟩:=(HBL.out.more' hB).keeps (Keeps.of_below HBr.out)
   cases e0
   obtain ⟨ab,off,pq,cq,tv,rfl,hab,x0,x1,x2,x3,x4,x5,_,_,htv,_⟩:=hbx k q hq
   have HTV:=hideI htv
   have HQ:=hideI hq
   have HSU:Hid (succM bs k=q.term.to.map Int.toNat):=by show _=_;unfold succM;rw [hq]
   obtain ⟨TA,tc,rfl,htm,_⟩:=htv
   obtain ⟨m,hm⟩:∃ m,m=q.term.to.length:=⟨_,rfl⟩
   have HM:=hideI hm
   rw [← hm] at x4 htm
   have hxr:=row_cells HGB.out (hgl.block w.heap.size (by omega))
   have g3:=hxr 3
   clear hbx hq x0 x1 x2 x3 x5 hm hgl hxr
   go_wp2
   clear x4 g3
   obtain ⟨wo,rfl⟩:∃ wo:World,wo=wr:=⟨_,rfl⟩
   go_loopw [28] (fun u wr => ∃ (i:Nat) (vs:List Value),i ≤ m ∧ u=.int .i64 i ∧ Hid (Lists wr (w.heap.size + 1) (w.heap.size + 1) bs.length vs (predsAt bs bs.length k i)) ∧ Hid (Below (w.heap.size + 1) wo wr)) (fun u _ => m - (intOf u).toNat)
   case atStart => exact ⟨0,vs,Nat.zero_le _,rfl,HL,hideI (Below.refl _ _)⟩
   case round =>
    obtain ⟨i,vs2,hi,rfl,HLi,HBi⟩:=hrel
    by_cases hlti:i < m
    ·obtain ⟨t,ht⟩:∃ t,q.term.to[i]?=some t:=⟨_,List.getElem?_eq_getElem (by rw [HM.out] at hlti;exact hlti)⟩
     have htn:=HIN.out q (List.mem_of_getElem? HQ.out) t (List.mem_of_getElem? ht)
     obtain ⟨tn,rfl⟩:∃ tn:Nat,t=(tn:Int):=⟨t.toNat,by omega⟩
     have htl:tn < bs.length:=by omega
     have HTI:Hid ((succM bs k)[i]?=some tn):=by
      show _=_
      rw [HSU.out,List.getElem?_map,ht]
      rfl
     obtain ⟨TA',tc',e0,_,hxx⟩:=HTV.out.keep (HBi.out.mono (Nat.le_succ _))
     cases e0
     obtain ⟨tb,toff,rfl,htb,hcell⟩:=hxx i (by rw [← HM.out];exact hlti)
     rw [ht] at hcell
     simp only [Option.getD_some] at hcell
     obtain ⟨v,hv⟩:∃ v,vs2[tn]?=some v:=⟨_,List.getElem?_eq_getElem (by rw [HLi.out.vl];exact htl)⟩
     obtain ⟨l,hl0⟩:∃ l,l=predsTo bs k tn ++ if tn ∈ (succM bs k).take i then [k] else []:=⟨_,rfl⟩
     have hl:(predsAt bs bs.length k i)[tn]?=some l:=by rw [predsAt_at htl,hl0]
     have hmem:k ∈ l ↔ tn ∈ (succM bs k).take i:=by rw [hl0];exact predsAt_mem
     have hll:l.length ≤ 1000:=by
      rw [hl0,List.length_append]
      have:=predsTo_len bs k tn
      split <;> simp <;> omega
     have q1:wr.cell? ⟨w.heap.size + 1,tn,none⟩=some v:=by rw [World.ownsRow.cellAt HLi.out.row tn (by omega)];exact hv
     have HOWN:=hideI (HLi.out.own tn v l hv hl)
     have HINT:=hideI (nat_ints HOWN.out (by omega))
     have hsz:=HLi.out.lt.2
     have HV:=hideI hv
     have HLL:=hideI hl
     have HL0:=hideI hl0
     clear hxx ht htn hv hl hl0
     by_cases hin2:tn ∈ (succM bs k).take i
     ·have HC:Hid (decide ((k:Int) ∈ l.map fun (x:Nat) => (x:Int))=true):=by show _=_;rw [decide_eq_true_iff,mem_nat,hmem];exact hin2
      have HIN2:=hideI hin2
      clear hin2 hmem
      go_wp2_with (go_at_call 180;go_must (refine (contains_any _ _ _ _ _ HINT.out).mono ?_);rw [HC.out];rintro e w2 ⟨rfl,rfl⟩)
      go_roundw
      case rel => exact ⟨i + 1,vs2,by omega,by go_num,by rw [predsAt_skip HTI.out HIN2.out];exact HLi,HBi⟩
      case measure => simp [intOf];omega
     ·have HC:Hid (decide ((k:Int) ∈ l.map fun (x:Nat) => (x:Int))=false):=by show _=_;rw [decide_eq_false_iff_not,mem_nat,hmem];exact hin2
      have HIN2:=hideI hin2
      have hl0:=HL0.out
      rw [if_neg hin2,List.append_nil] at hl0
      have HL1:=hideI hl0
      obtain ⟨i1,hjx,hy0,hy1,hy2⟩:=info_parts int_info
      have H63:Hid (l.length + 1 ≤ maxLen):=by show _ ≤ _;simp only [maxLen];omega
      have HBY:Hid ((l.length + 1) * 8 ≤ 140737488355328):=by show _ ≤ _;omega
      have HBS:Hid (w.heap.size + 1 ≤ wr.heap.size):=by show _ ≤ _;omega
      clear hin2 hmem hl0
      go_wp2_with (first
       | (go_at_call 180;go_must (refine (contains_any _ _ _ _ _ HINT.out).mono ?_);rw [HC.out];rintro e w2 ⟨rfl,rfl⟩)
       | (at_builtin;go_must (refine wpList_append_lies _ rfl _ _ _ rfl (w.heap.size + 1 + 1) 3 i1 (.int .i64 0) 1 8 Tryz.underlying22 hjx hy0 hy1 hy2 rfl (by decide) _ _ _ rfl (HOWN.out.alloc _) ⟨wr.heap.size,0,none⟩ 1 1 [.int .i64 k] rfl rfl (one_new wr _) (by simp [Value.oneCell']) (by decide) H63.out HBY.out (by simp;exact HBS.out) _ rfl ?_);intro g1 cap1 w3 hown1 hgrow1 hor1 _;go_must (have HP:=hideI (HLi.out.push HV.out HLL.out hown1 hgrow1 hor1);have HPB:=hideI (HLi.out.pushed (u:=.slice (some ⟨g1,0,none⟩) (l.length + 1) cap1) HV.out HLL.out hgrow1 HBi.out (Nat.le_refl _));obtain ⟨hc4,hf4⟩:=HLi.out.held HV.out HLL.out hgrow1;clear hown1 hgrow1 hor1 q1)))
      go_roundw
      case rel => exact ⟨i + 1,_,by omega,by go_num,by rw [← predsAt_push HTI.out HIN2.out htl,← HL1.out];exact HP,HPB⟩
      case measure => simp [intOf];omega
    ·have HE:Hid (predsAt bs bs.length k i=predsAt bs bs.length (k + 1) 0):=predsAt_next bs _ k (by rw [HSU.out,List.length_map,← HM.out];omega)
     rw [HE.out] at HLi
     go_wp2
     go_roundw
     case rel => exact ⟨k + 1,vs2,by omega,by go_num,HLi,hideI (HBr.out.trans (HBi.out.mono (Nat.le_succ _))),hideI (HBo.out.trans HBi.out)⟩
     case measure => simp [intOf];omega
  ·have hkn:k=bs.length:=by omega
   have HKN:=hideI hkn
   rw [hkn] at HL
   clear hkn
   go_wp2
   go_ret
   exact ⟨_,vs,rfl,⟨HL.out.vl,HL.out.ll,World.ownsRow.mono HL.out.row (by omega),HL.out.own,HL.out.apart⟩,HBr.out⟩
end Go.Proofs.YtaehbgppfahdeaaGreat
namespace Go.Proofs.YtaehbgppfahdeaaGreat
open Go.RowKit Go.Maps
theorem Lists.mono {w:World} {base base' gb n:Nat} {vs:List Value} {ls:List (List Nat)} (h:Lists w base gb n vs ls) (hb:base' ≤ base):Lists w base' gb n vs ls :=
 ⟨h.vl,h.ll,World.ownsRow.mono h.row hb,h.own,h.apart⟩
theorem Lists.kept {w w':World} {base gb n:Nat} {vs:List Value} {ls:List (List Nat)} (h:Lists w base gb n vs ls) (hb:Below w.heap.size w w'):Lists w' base gb n vs ls :=
 ⟨h.vl,h.ll,own_kept_below h.row hb (fun k hk => (h.row.lt k hk).2),fun t v l hv hl => own_kept_below (h.own t v l hv hl) hb (fun k hk => ((h.own t v l hv hl).lt k hk).2),h.apart⟩
def GPredsPost (f:FuncM) (w:World) (e:Ending) (w':World):Prop :=
 ((lookM f).1 ≠ 0 ∧ e=.returned (.tuple #[.slice none 0 0,.int .i64 (lookM f).1]) ∧ Below w.heap.size w w') ∨
 ((lookM f).1=0 ∧ ∃ (g:Nat) (vs:List Value),e=.returned (.tuple #[.slice (some ⟨g,0,none⟩) f.blocks.length f.blocks.length,.int .i64 0]) ∧ Lists w' w.heap.size g f.blocks.length vs (predsAt f.blocks f.blocks.length f.blocks.length 0) ∧ Below w.heap.size w w')
set_option maxRecDepth 100000 in
set_option maxHeartbeats 1000000 in
theorem gPreds_any (f:FuncM) (B:Nat) (pv bv:Value) (w:World) (hpv:Ints w B pv f.params) (hbv:BlocksR w B bv f.blocks) (hB:B ≤ w.heap.size) (hid:∀ u ∈ usesM f,I64 u.1) :
  Calls Tryz.prog 74 #[.agg #[pv,.int .i64 f.arrays,.int .i64 f.cells,bv]] w (GPredsPost f w):=by
 have HP:=hideI hpv
 have HBL:=hideI hbv
 have HID:=hideI hid
 obtain ⟨P,pc,rfl,_⟩:=hpv
 obtain ⟨A,c,rfl,hbm,_⟩:=hbv
 have HX:=hideI (heap_alloc_new w (.cells #[.slice P f.params.length pc,.int .i64 f.arrays,.int .i64 f.cells,.slice A f.blocks.length c] 25))
 have HK:Hid (Keeps B w (w.alloc (.cells #[.slice P f.params.length pc,.int .i64 f.arrays,.int .i64 f.cells,.slice A f.blocks.length c] 25))):=(Keeps.refl w).alloc hB _
 have HB0:Hid (Below w.heap.size w (w.alloc (.cells #[.slice P f.params.length pc,.int .i64 f.arrays,.int .i64 f.cells,.slice A f.blocks.length c] 25))):=(Below.refl _ w).alloc (Nat.le_refl _) _
 clear hid
 by_cases h0:(lookM f).1=0
 ·have H0:=hideI h0
  have hnb:=look_some_block h0
  clear h0
  go_enter Tryz.func74,Tryz.ntmps74
  go_wp2_with (first
   | (go_at_call 83;go_must (refine (check_any f B _ _ _ (HP.out.keeps HK.out) (HBL.out.keeps HK.out) (by simp;omega) HID.out).mono ?_);rw [H0.out];rintro e w1 ⟨rfl,hb⟩;have HB1:=hideI (HB0.out.trans (hb.mono (by simp)));have hxx:=row_cells ((hb.block _ (lt_of_heap HX.out)).trans HX.out) rfl;have q0:=hxx 0;have q1:=hxx 1;have q2:=hxx 2;have q3:=hxx 3;have hl1:w.heap.size < w1.heap.size:=(by have:=hb.size;simp at this;omega);clear hb hxx)
   | (go_at_call 124;go_must (refine (preds_any f.blocks w.heap.size _ _ _ _ _ ((HBL.out.more' hB).keeps (Keeps.of_below HB1.out)) (by omega) hnb.2 (look_ends H0.out)).mono ?_);rintro e w2 ⟨g,vs,rfl,hls,hb2⟩;have HLS:=hideI hls;have HB2:=hideI hb2;clear hls hb2))
  go_ret2
  exact .inr ⟨H0.out,g,vs,rfl,HLS.out.mono (by omega),HB1.out.trans (HB2.out.mono (by omega))⟩
 ·have H0:=hideI h0
  have hb:((lookM f).1 != 0)=true:=by simpa using h0
  clear h0
  go_enter Tryz.func74,Tryz.ntmps74
  go_wp2_with (first
   | (go_at_call 83;go_must (refine (check_any f B _ _ _ (HP.out.keeps HK.out) (HBL.out.keeps HK.out) (by simp;omega) HID.out).mono ?_);rintro e w1 ⟨rfl,hb1⟩;have HB1:=hideI (HB0.out.trans (hb1.mono (by simp)));clear hb1))
  go_ret2
  exact .inl ⟨H0.out,rfl,HB1.out⟩
theorem gOrder_yes (f:FuncM) (B:Nat) (pv bv:Value) (w:World) (hpv:Ints w B pv f.params) (hbv:BlocksR w B bv f.blocks) (hB:B ≤ w.heap.size) (hid:∀ u ∈ usesM f,I64 u.1) (h:(lookM f).1=0) :
  Calls Tryz.prog 69 #[.agg #[pv,.int .i64 f.arrays,.int .i64 f.cells,bv]] w fun e w' => ∃ (o:List Nat) (g cap:Nat),e=.returned (.tuple #[.slice (some ⟨g,0,none⟩) o.length cap,.int .i64 0]) ∧ OrderIs f.blocks o ∧ 0 < o.length ∧ o.length ≤ f.blocks.length ∧ w'.ownsRow w.heap.size 3 1 (.slice (some ⟨g,0,none⟩) o.length cap) o.length (natInts o) ∧ Below w.heap.size w w':=by
 refine (gOrder_any f B pv bv w hpv hbv hB hid).mono ?_
 rintro e w' (⟨h2,_⟩ | ⟨_,h2⟩)
 ·exact absurd h h2
 ·exact h2
theorem gPreds_no (f:FuncM) (B:Nat) (pv bv:Value) (w:World) (hpv:Ints w B pv f.params) (hbv:BlocksR w B bv f.blocks) (hB:B ≤ w.heap.size) (hid:∀ u ∈ usesM f,I64 u.1) (h:(lookM f).1 ≠ 0) :
  Calls Tryz.prog 74 #[.agg #[pv,.int .i64 f.arrays,.int .i64 f.cells,bv]] w fun e w' => e=.returned (.tuple #[.slice none 0 0,.int .i64 (lookM f).1]) ∧ Below w.heap.size w w':=by
 refine (gPreds_any f B pv bv w hpv hbv hB hid).mono ?_
 rintro e w' (⟨_,h2⟩ | ⟨h2,_⟩)
 ·exact h2
 ·exact absurd h2 h
theorem gPreds_yes (f:FuncM) (B:Nat) (pv bv:Value) (w:World) (hpv:Ints w B pv f.params) (hbv:BlocksR w B bv f.blocks) (hB:B ≤ w.heap.size) (hid:∀ u ∈ usesM f,I64 u.1) (h:(lookM f).1=0) :
  Calls Tryz.prog 74 #[.agg #[pv,.int .i64 f.arrays,.int .i64 f.cells,bv]] w fun e w' => ∃ (g:Nat) (vs:List Value),e=.returned (.tuple #[.slice (some ⟨g,0,none⟩) f.blocks.length f.blocks.length,.int .i64 0]) ∧ Lists w' w.heap.size g f.blocks.length vs (predsAt f.blocks f.blocks.length f.blocks.length 0) ∧ Below w.heap.size w w':=by
 refine (gPreds_any f B pv bv w hpv hbv hB hid).mono ?_
 rintro e w' (⟨h2,_⟩ | ⟨_,h2⟩)
 ·exact absurd h h2
 ·exact h2
end Go.Proofs.YtaehbgppfahdeaaGreat

namespace Go.Proofs.YtaehbgppfahdeaaGreat
inductive Anc (par:Nat → Option Nat) (x:Nat):Nat → Prop
 | refl:Anc par x x
 | up {b d:Nat} (h:par b=some d) (k:Anc par x d):Anc par x b
def Grown (par:Nat → Option Nat) (b:Nat):Prop:=b=0 ∨ ∃ d,par b=some d
structure Ord (succ:Nat → List Nat) (o:List Nat) (pl:Nat → Nat):Prop where
 zero:o[0]?=some 0
 place:∀ (i:Nat) x,o[i]?=some x → pl x=i
 next:∀ x ∈ o,∀ y ∈ succ x,y ∈ o
 ahead:∀ (i:Nat) x,0 < i → o[i]?=some x → ∃ j y,j < i ∧ o[j]?=some y ∧ x ∈ succ y
structure Tree (o:List Nat) (pl:Nat → Nat) (par:Nat → Option Nat):Prop where
 root:par 0=none
 up:∀ b d,par b=some d → b ∈ o ∧ d ∈ o ∧ pl d < pl b ∧ Grown par d
inductive Way (succ:Nat → List Nat) (pl:Nat → Nat) (x:Nat):Nat → Nat → Prop
 | start (h:0 ≠ x):Way succ pl x 0 0
 | fwd {p b k:Nat} (w:Way succ pl x p k) (e:b ∈ succ p) (n:b ≠ x) (h:pl p < pl b):Way succ pl x b k
 | back {p b k:Nat} (w:Way succ pl x p k) (e:b ∈ succ p) (n:b ≠ x) (h:¬ pl p < pl b):Way succ pl x b (k + 1)
inductive Fwd (succ:Nat → List Nat) (pl:Nat → Nat) (b:Nat):Nat → Prop
 | refl:Fwd succ pl b b
 | step {p c:Nat} (w:Fwd succ pl b p) (e:c ∈ succ p) (h:pl p < pl c):Fwd succ pl b c
variable {succ:Nat → List Nat} {o:List Nat} {pl:Nat → Nat} {par:Nat → Option Nat}
theorem Ord.mem {i x:Nat} (h:o[i]?=some x):x ∈ o:=List.mem_of_getElem? h
theorem Ord.at (O:Ord succ o pl) {x:Nat} (h:x ∈ o):o[pl x]?=some x:=by
 obtain ⟨i,hi⟩:=List.getElem?_of_mem h
 rw [O.place i x hi];exact hi
theorem Ord.inj (O:Ord succ o pl) {x y:Nat} (hx:x ∈ o) (hy:y ∈ o) (h:pl x=pl y):x=y:=by
 have h1:=O.at hx
 rw [h,O.at hy] at h1
 exact (Option.some.inj h1).symm
theorem Ord.zero_mem (O:Ord succ o pl):0 ∈ o:=Ord.mem O.zero
theorem Ord.pl_zero (O:Ord succ o pl):pl 0=0:=O.place 0 0 O.zero
theorem Ord.of_pl_zero (O:Ord succ o pl) {x:Nat} (hx:x ∈ o) (h:pl x=0):x=0:=O.inj hx O.zero_mem (by rw [h,O.pl_zero])
theorem Ord.lt (O:Ord succ o pl) {x:Nat} (hx:x ∈ o):pl x < o.length:=(List.getElem?_eq_some_iff.1 (O.at hx)).1
theorem Anc.trans {x y z:Nat} (h:Anc par x y) (k:Anc par y z):Anc par x z:=by
 induction k with
 | refl => exact h
 | up e _ ih => exact .up e ih
theorem Anc.lin {x y c:Nat} (h:Anc par x c) (k:Anc par y c):Anc par x y ∨ Anc par y x:=by
 induction h with
 | refl => exact .inr k
 | up e h ih =>
  cases k with
  | refl => exact .inl (.up e h)
  | up e2 k => rw [e] at e2;cases e2;exact ih k
theorem Anc.step {x b d:Nat} (h:Anc par x b) (e:par b=some d):x=b ∨ Anc par x d:=by
 cases h with
 | refl => exact .inl rfl
 | up e2 k => rw [e] at e2;cases e2;exact .inr k
theorem Tree.mem (O:Ord succ o pl) (T:Tree o pl par) {b:Nat} (h:Grown par b):b ∈ o:=by
 rcases h with rfl | ⟨d,h⟩
 ·exact O.zero_mem
 ·exact (T.up b d h).1
theorem Tree.anc_pl (T:Tree o pl par) {x b:Nat} (h:Anc par x b):x=b ∨ (pl x < pl b ∧ x ∈ o):=by
 induction h with
 | refl => exact .inl rfl
 | up e _ ih =>
  have h1:=T.up _ _ e
  rcases ih with rfl | ⟨h2,h3⟩
  ·exact .inr ⟨h1.2.2.1,h1.2.1⟩
  ·exact .inr ⟨by omega,h3⟩
theorem Tree.anc_le (T:Tree o pl par) {x b:Nat} (h:Anc par x b):pl x ≤ pl b:=by
 rcases T.anc_pl h with rfl | ⟨h,_⟩ <;> omega
theorem Tree.anc_zero (T:Tree o pl par) {x:Nat} (h:Anc par x 0):x=0:=by
 cases h with
 | refl => rfl
 | up e _ => rw [T.root] at e;cases e
theorem Tree.anc_grown (T:Tree o pl par) {x b:Nat} (h:Anc par x b) (hb:Grown par b):Grown par x:=by
 induction h with
 | refl => exact hb
 | up e _ ih => exact ih (T.up _ _ e).2.2.2
theorem Tree.anc_mem (O:Ord succ o pl) (T:Tree o pl par) {x b:Nat} (h:Anc par x b) (hb:Grown par b):x ∈ o:=T.mem O (T.anc_grown h hb)
theorem Tree.antisymm (T:Tree o pl par) {x y:Nat} (h:Anc par x y) (k:Anc par y x):x=y:=by
 rcases T.anc_pl h with h1 | ⟨h1,_⟩
 ·exact h1
 ·have:=T.anc_le k;omega
theorem Tree.zero_anc (T:Tree o pl par):∀ (n b:Nat),pl b < n → Grown par b → Anc par 0 b:=by
 intro n
 induction n with
 | zero => intro b h;omega
 | succ n ih =>
  intro b hb hg
  rcases hg with rfl | ⟨d,e⟩
  ·exact .refl
  ·have h1:=T.up b d e
   exact .up e (ih d (by omega) h1.2.2.2)
theorem Way.ne {x b k:Nat} (h:Way succ pl x b k):b ≠ x:=by
 cases h with
 | start h => exact h
 | fwd _ _ n _ => exact n
 | back _ _ n _ => exact n
theorem Way.mem (O:Ord succ o pl) {x b k:Nat} (h:Way succ pl x b k):b ∈ o:=by
 induction h with
 | start _ => exact O.zero_mem
 | fwd _ e _ _ ih => exact O.next _ ih _ e
 | back _ e _ _ ih => exact O.next _ ih _ e
theorem Way.next {x p b k:Nat} (h:Way succ pl x p k) (e:b ∈ succ p) (n:b ≠ x):∃ k',Way succ pl x b k':=by
 by_cases hp:pl p < pl b
 ·exact ⟨k,.fwd h e n hp⟩
 ·exact ⟨k + 1,.back h e n hp⟩
theorem Way.parts {x c k:Nat} (b:Nat) (h:Way succ pl x c k):(∃ k',k' ≤ k ∧ Way succ pl x b k') ∨ Way succ pl b c k:=by
 induction h with
 | start h =>
  by_cases e:0=b
  ·subst e;exact .inl ⟨0,Nat.le_refl _,.start h⟩
  ·exact .inr (.start e)
 | @fwd p c k w e n hp ih =>
  rcases ih with ⟨k',h1,h2⟩ | ih
  ·exact .inl ⟨k',h1,h2⟩
  ·by_cases e2:c=b
   ·subst e2;exact .inl ⟨k,Nat.le_refl _,.fwd w e n hp⟩
   ·exact .inr (.fwd ih e e2 hp)
 | @back p c k w e n hp ih =>
  rcases ih with ⟨k',h1,h2⟩ | ih
  ·exact .inl ⟨k',by omega,h2⟩
  ·by_cases e2:c=b
   ·subst e2;exact .inl ⟨k + 1,Nat.le_refl _,.back w e n hp⟩
   ·exact .inr (.back ih e e2 hp)
theorem fwd_or (O:Ord succ o pl) (b:Nat):∀ (n c:Nat),pl c < n → c ∈ o → Way succ pl b c 0 ∨ Fwd succ pl b c:=by
 intro n
 induction n with
 | zero => intro c h;omega
 | succ n ih =>
  intro c hc hm
  by_cases e:c=b
  ·subst e;exact .inr .refl
  ·rcases Nat.eq_zero_or_pos (pl c) with h0 | h0
   ·have:=O.of_pl_zero hm h0
    subst this
    exact .inl (.start e)
   ·obtain ⟨j,y,hj,hy,hs⟩:=O.ahead _ c h0 (O.at hm)
    have hpy:=O.place j y hy
    rcases ih y (by omega) (Ord.mem hy) with h | h
    ·exact .inl (.fwd h hs e (by omega))
    ·exact .inr (.step h hs (by omega))
theorem Fwd.extend {x b c k:Nat} (h:Fwd succ pl b c) (w:Way succ pl x b k) (hx:pl x < pl b):Way succ pl x c k ∧ pl b ≤ pl c:=by
 induction h with
 | refl => exact ⟨w,Nat.le_refl _⟩
 | step _ e hp ih => exact ⟨.fwd ih.1 e (fun e2 => by subst e2;omega) hp,by omega⟩
def Dom (succ:Nat → List Nat) (pl:Nat → Nat) (x b:Nat):Prop:=∀ k,¬ Way succ pl x b k
structure St (succ:Nat → List Nat) (o:List Nat) (pl:Nat → Nat) (par:Nat → Option Nat) (r i:Nat):Prop where
 tree:Tree o pl par
 grown:∀ b ∈ o,(0 < r ∨ pl b < i) → Grown par b
 first:r=0 → ∀ b,Grown par b → pl b < i
 inv:∀ c,Grown par c → ∀ x k,Way succ pl x c k → (k < r ∨ (k ≤ r ∧ pl c < i)) → ¬ Anc par x c
 low:∀ c,Grown par c → ∀ x,Dom succ pl x c → Anc par x c
def Closest (succ:Nat → List Nat) (par:Nat → Option Nat) (b d:Nat):Prop:=∀ x,Anc par x d ↔ ∀ p,Grown par p → b ∈ succ p → Anc par x p
def putP (par:Nat → Option Nat) (b d:Nat):Nat → Option Nat:=fun c => if c=b then some d else par c
theorem putP_self (par:Nat → Option Nat) {b d:Nat} (h:par b=some d):putP par b d=par:=by
 funext c
 unfold putP
 split
 ·rename_i e;rw [e,h]
 ·rfl
theorem St.start (O:Ord succ o pl):St succ o pl (fun _ => none) 0 1:=by
 have hg:∀ b,Grown (fun _ => none) b → b=0:=by
  rintro b (h | ⟨d,h⟩)
  ·exact h
  ·cases h
 have ht:Tree o pl (fun _ => none):=⟨rfl,fun b d h => by cases h⟩
 refine ⟨ht,fun b hb h => ?_,fun _ b h => ?_,fun c h x k w _ ha => ?_,fun c h x hd => ?_⟩
 ·rcases h with h | h
  ·omega
  ·exact .inl (O.of_pl_zero hb (by omega))
 ·rw [hg b h,O.pl_zero];omega
 ·have:=hg c h
  subst this
  exact w.ne (ht.anc_zero ha).symm
 ·have:=hg c h
  subst this
  by_cases e:0=x
  ·subst e;exact .refl
  ·exact absurd (Way.start e) (hd 0)
theorem St.round (O:Ord succ o pl) {r:Nat} (S:St succ o pl par r o.length):St succ o pl par (r + 1) 1:=by
 refine ⟨S.tree,fun b hb _ => S.grown b hb (.inr (O.lt hb)),fun h => by omega,fun c hc x k w hk => ?_,S.low⟩
 rcases hk with hk | ⟨_,hk⟩
 ·exact S.inv c hc x k w (.inr ⟨by omega,O.lt (S.tree.mem O hc)⟩)
 ·have:=O.of_pl_zero (S.tree.mem O hc) (by omega)
  subst this
  intro ha
  exact w.ne (S.tree.anc_zero ha).symm
theorem Closest.ahead (O:Ord succ o pl) {r i b d:Nat} (S:St succ o pl par r i) (hi:0 < i) (hb:o[i]?=some b) (h:Closest succ par b d):d ∈ o ∧ pl d < pl b ∧ Grown par d ∧ b ≠ 0:=by
 have hpb:=O.place i b hb
 obtain ⟨j,y,hj,hy,hs⟩:=O.ahead i b hi hb
 have hpy:=O.place j y hy
 have hgy:=S.grown y (Ord.mem hy) (.inr (by omega))
 have h1:=(h d).1 .refl y hgy hs
 have h2:=S.tree.anc_le h1
 have h3:=S.tree.anc_grown h1 hgy
 exact ⟨S.tree.mem O h3,by omega,h3,fun e => by subst e;rw [O.pl_zero] at hpb;omega⟩
theorem St.step (O:Ord succ o pl) {r i b d:Nat} (S:St succ o pl par r i) (hi:0 < i) (hb:o[i]?=some b) (h:Closest succ par b d):St succ o pl (putP par b d) r (i + 1):=by
 obtain ⟨hd1,hd2,hd3,hb0⟩:=h.ahead O S hi hb
 have hpb:=O.place i b hb
 have hbm:=Ord.mem hb
 have hsame:∀ c,c ≠ b → putP par b d c=par c:=fun c hc => by unfold putP;rw [if_neg hc]
 have hat:putP par b d b=some d:=by unfold putP;rw [if_pos rfl]
 have hgr:∀ c,Grown par c → Grown (putP par b d) c:=by
  rintro c (hc | ⟨e,hc⟩)
  ·exact .inl hc
  ·by_cases e2:c=b
   ·subst e2;exact .inr ⟨d,hat⟩
   ·exact .inr ⟨e,by rw [hsame c e2];exact hc⟩
 have hgr2:∀ c,Grown (putP par b d) c → c ≠ b → Grown par c:=by
  rintro c (hc | ⟨e,hc⟩) hne
  ·exact .inl hc
  ·exact .inr ⟨e,by rw [hsame c hne] at hc;exact hc⟩
 have T:Tree o pl (putP par b d):=by
  refine ⟨by rw [hsame 0 (fun e => hb0 e.symm)];exact S.tree.root,fun c e hc => ?_⟩
  by_cases e2:c=b
  ·subst e2
   rw [hat] at hc
   cases hc
   exact ⟨hbm,hd1,hd2,hgr _ hd3⟩
  ·rw [hsame c e2] at hc
   have:=S.tree.up c e hc
   exact ⟨this.1,this.2.1,this.2.2.1,hgr _ this.2.2.2⟩
 have hlow:∀ x c,pl c < pl b → (Anc (putP par b d) x c ↔ Anc par x c):=by
  intro x c hc
  constructor
  ·intro ha
   induction ha with
   | refl => exact .refl
   | @up c e1 e _ ih =>
    have hne:c ≠ b:=fun e2 => by subst e2;omega
    rw [hsame c hne] at e
    exact .up e (ih (by have:=(S.tree.up _ _ e).2.2.1;omega))
  ·intro ha
   induction ha with
   | refl => exact .refl
   | @up c e1 e _ ih =>
    have hne:c ≠ b:=fun e2 => by subst e2;omega
    exact .up (by rw [hsame c hne];exact e) (ih (by have:=(S.tree.up _ _ e).2.2.1;omega))
 have hanb:∀ x,Anc (putP par b d) x b ↔ x=b ∨ Anc par x d:=by
  intro x
  constructor
  ·intro ha
   rcases ha.step hat with h1 | h1
   ·exact .inl h1
   ·exact .inr ((hlow x d hd2).1 h1)
  ·rintro (h1 | h1)
   ·subst h1;exact .refl
   ·exact .up hat ((hlow x d hd2).2 h1)
 have hnew:∀ x c,Anc (putP par b d) x c → (Anc par x c ∧ (Anc par b c → Anc par b x)) ∨ (Anc par b c ∧ Anc (putP par b d) x b):=by
  intro x c ha
  induction ha with
  | refl => exact .inl ⟨.refl,id⟩
  | @up c e1 e k ih =>
   by_cases hne:c=b
   ·subst hne
    exact .inr ⟨.refl,.up e k⟩
   ·rw [hsame c hne] at e
    rcases ih with ⟨h1,h2⟩ | ⟨h1,h2⟩
    ·refine .inl ⟨.up e h1,fun h3 => ?_⟩
     rcases h3.step e with h4 | h4
     ·exact absurd h4.symm hne
     ·exact h2 h4
    ·exact .inr ⟨.up e h1,h2⟩
 have hold:∀ x c,Anc par x c → (Anc par b c → Anc par b x) → Anc (putP par b d) x c:=by
  intro x c ha
  induction ha with
  | refl => intro _;exact .refl
  | @up c e1 e k ih =>
   intro h2
   by_cases hne:c=b
   ·subst hne
    have h3:=h2 .refl
    have:=S.tree.antisymm h3 (.up e k)
    rw [← this]
    exact .refl
   ·exact .up (by rw [hsame c hne];exact e) (ih (fun h3 => h2 (.up e h3)))
 have hthr:∀ x c,Anc par b c → Anc (putP par b d) x b → Anc (putP par b d) x c:=by
  intro x c ha hx
  exact hx.trans (hold b c ha (fun _ => .refl))
 have hinvb:∀ x k,Way succ pl x b k → k ≤ r → ¬ Anc (putP par b d) x b:=by
  intro x k w hk ha
  rcases (hanb x).1 ha with h1 | h1
  ·exact w.ne h1.symm
  ·have h2:=(h x).1 h1
   cases w with
   | start _ => exact hb0 rfl
   | fwd w e _ hp =>
    have hm:=w.mem O
    have hg:=S.grown _ hm (.inr (by omega))
    exact S.inv _ hg x k w (.inr ⟨hk,by omega⟩) (h2 _ hg e)
   | back w e _ hp =>
    have hm:=w.mem O
    have hg:=S.grown _ hm (.inl (by omega))
    exact S.inv _ hg x _ w (.inl (by omega)) (h2 _ hg e)
 have hlowb:∀ x,Dom succ pl x b → Anc (putP par b d) x b:=by
  intro x hx
  refine (hanb x).2 ?_
  by_cases e:x=b
  ·exact .inl e
  ·refine .inr ((h x).2 fun p hg he => S.low p hg x fun k w => ?_)
   obtain ⟨k',w'⟩:=w.next he (fun e2 => e e2.symm)
   exact hx k' w'
 have hunder:∀ c,Anc par b c → c ≠ b → Grown par c → 0 < r ∧ ¬ pl c < i + 1:=by
  intro c ha hne hg
  rcases S.tree.anc_pl ha with h1 | ⟨h1,_⟩
  ·exact absurd h1.symm hne
  ·refine ⟨?_,by omega⟩
   rcases Nat.eq_zero_or_pos r with h0 | h0
   ·have:=S.first h0 c hg;omega
   ·exact h0
 refine ⟨T,fun c hc hk => ?_,fun h0 c hc => ?_,fun c hc x k w hk ha => ?_,fun c hc x hx => ?_⟩
 ·by_cases e:c=b
  ·subst e;exact .inr ⟨d,hat⟩
  ·refine hgr c (S.grown c hc ?_)
   rcases hk with hk | hk
   ·exact .inl hk
   ·right
    have:pl c ≠ pl b:=fun e2 => e (O.inj hc hbm e2)
    omega
 ·by_cases e:c=b
  ·subst e;omega
  ·have:=S.first h0 c (hgr2 c hc e);omega
 ·by_cases e:c=b
  ·subst e
   exact hinvb x k w (by omega) ha
  ·have hg:=hgr2 c hc e
   have hne:pl c ≠ pl b:=fun e2 => e (O.inj (S.tree.mem O hg) hbm e2)
   have hk':k < r ∨ (k ≤ r ∧ pl c < i):=by omega
   rcases hnew x c ha with ⟨h1,_⟩ | ⟨h1,h2⟩
   ·exact S.inv c hg x k w hk' h1
   ·obtain ⟨h3,h4⟩:=hunder c h1 e hg
    rcases w.parts b with ⟨k',h5,w'⟩ | w'
    ·exact hinvb x k' w' (by omega) h2
    ·exact S.inv c hg b k w' hk' h1
 ·by_cases e:c=b
  ·subst e;exact hlowb x hx
  ·have hg:=hgr2 c hc e
   have ha:=S.low c hg x hx
   by_cases hbc:Anc par b c
   ·rcases ha.lin hbc with h1 | h1
    ·by_cases exb:x=b
     ·subst exb;exact hold x c ha (fun _ => .refl)
     ·-- x above b: no way to b avoids x
      refine hthr x c hbc (hlowb x fun k w => ?_)
      have hpx:pl x < pl b:=by
       rcases S.tree.anc_pl h1 with h2 | ⟨h2,_⟩
       ·exact absurd h2 exb
       ·exact h2
      obtain ⟨h3,_⟩:=hunder c hbc e hg
      rcases fwd_or O b _ c (Nat.lt_succ_self _) (S.tree.mem O hg) with h4 | h4
      ·exact S.inv c hg b 0 h4 (.inl h3) hbc
      ·exact hx k (h4.extend w hpx).1
    ·exact hold x c ha (fun _ => h1)
   ·exact hold x c ha (fun h2 => absurd h2 hbc)
def Fixed (succ:Nat → List Nat) (par:Nat → Option Nat) (b:Nat):Prop:=∀ p,Grown par p → b ∈ succ p → ∀ x,Anc par x b → x=b ∨ Anc par x p
theorem Closest.fixed {b d:Nat} (h:Closest succ par b d) (e:par b=some d):Fixed succ par b:=by
 intro p hg he x ha
 rcases ha.step e with h1 | h1
 ·exact .inl h1
 ·exact .inr ((h x).1 h1 p hg he)
structure Done (succ:Nat → List Nat) (o:List Nat) (pl:Nat → Nat) (par:Nat → Option Nat):Prop where
 tree:Tree o pl par
 grown:∀ b ∈ o,Grown par b
 fixed:∀ b ∈ o,Fixed succ par b
 is:∀ b ∈ o,∀ x,Anc par x b ↔ Dom succ pl x b
theorem St.done (O:Ord succ o pl) {r i:Nat} (S:St succ o pl par r i) (hr:0 < r) (hf:∀ b ∈ o,b ≠ 0 → Fixed succ par b):Done succ o pl par:=by
 have hf':∀ b ∈ o,Fixed succ par b:=by
  intro b hb
  by_cases e:b=0
  ·subst e
   intro p _ _ x ha
   exact .inl (S.tree.anc_zero ha)
  ·exact hf b hb e
 refine ⟨S.tree,fun b hb => S.grown b hb (.inl hr),hf',fun b hb x => ⟨fun ha k w => ?_,fun hd => S.low b (S.grown b hb (.inl hr)) x hd⟩⟩
 induction w with
 | start h => exact h (S.tree.anc_zero ha).symm
 | fwd w e n _ ih =>
  have hm:=w.mem O
  rcases hf' _ hb _ (S.grown _ hm (.inl hr)) e x ha with h1 | h1
  ·exact n h1.symm
  ·exact ih hm h1
 | back w e n _ ih =>
  have hm:=w.mem O
  rcases hf' _ hb _ (S.grown _ hm (.inl hr)) e x ha with h1 | h1
  ·exact n h1.symm
  ·exact ih hm h1
theorem bound_upto {P:Nat → Nat → Prop} (hm:∀ i a b,a ≤ b → P i a → P i b):∀ n,(∀ i,i < n → ∃ N,P i N) → ∃ N,∀ i,i < n → P i N:=by
 intro n
 induction n with
 | zero => intro _;exact ⟨0,fun i h => by omega⟩
 | succ n ih =>
  intro h
  obtain ⟨N,hN⟩:=ih (fun i hi => h i (by omega))
  obtain ⟨M,hM⟩:=h n (by omega)
  refine ⟨N + M,fun i hi => ?_⟩
  by_cases e:i=n
  ·subst e;exact hm _ _ _ (by omega) hM
  ·exact hm _ _ _ (by omega) (hN i (by omega))
theorem enough (succ:Nat → List Nat) (o:List Nat) (pl:Nat → Nat):∃ N,∀ x ∈ o,∀ c ∈ o,∀ k,Way succ pl x c k → ∃ k',k' ≤ N ∧ Way succ pl x c k':=by
 have h1:∃ N,∀ i,i < o.length → ∀ j,j < o.length → ∀ x c,o[i]?=some x → o[j]?=some c → ∀ k,Way succ pl x c k → ∃ k',k' ≤ N ∧ Way succ pl x c k':=by
  refine bound_upto (P:=fun i N => ∀ j,j < o.length → ∀ x c,o[i]?=some x → o[j]?=some c → ∀ k,Way succ pl x c k → ∃ k',k' ≤ N ∧ Way succ pl x c k') (fun i a b hab h j hj x c hx hc k w => ?_) _ (fun i _ => ?_)
  ·obtain ⟨k',h1,h2⟩:=h j hj x c hx hc k w
   exact ⟨k',by omega,h2⟩
  ·refine bound_upto (P:=fun j N => ∀ x c,o[i]?=some x → o[j]?=some c → ∀ k,Way succ pl x c k → ∃ k',k' ≤ N ∧ Way succ pl x c k') (fun j a b hab h x c hx hc k w => ?_) _ (fun j _ => ?_)
   ·obtain ⟨k',h1,h2⟩:=h x c hx hc k w
    exact ⟨k',by omega,h2⟩
   ·cases ha:o[i]? with
    | none => exact ⟨0,fun x c hx => by cases hx⟩
    | some a =>
     cases hb:o[j]? with
     | none => exact ⟨0,fun x c _ hc => by cases hc⟩
     | some b =>
      by_cases h:∃ k,Way succ pl a b k
      ·obtain ⟨K,hK⟩:=h
       exact ⟨K,fun x c hx hc k _ => by cases hx;cases hc;exact ⟨K,Nat.le_refl _,hK⟩⟩
      ·exact ⟨0,fun x c hx hc k w => by cases hx;cases hc;exact absurd ⟨k,w⟩ h⟩
 obtain ⟨N,hN⟩:=h1
 refine ⟨N,fun x hx c hc k w => ?_⟩
 obtain ⟨i,hi⟩:=List.getElem?_of_mem hx
 obtain ⟨j,hj⟩:=List.getElem?_of_mem hc
 exact hN i (List.getElem?_eq_some_iff.1 hi).1 j (List.getElem?_eq_some_iff.1 hj).1 x c hi hj k w
theorem St.late (O:Ord succ o pl) {N r i b d:Nat} (hN:∀ x ∈ o,∀ c ∈ o,∀ k,Way succ pl x c k → ∃ k',k' ≤ N ∧ Way succ pl x c k') (S:St succ o pl par r i) (hr:N < r) (hi:0 < i) (hb:o[i]?=some b) (h:Closest succ par b d):par b=some d:=by
 obtain ⟨hd1,hd2,hd3,hb0⟩:=h.ahead O S hi hb
 have hbm:=Ord.mem hb
 have hg:∀ c ∈ o,Grown par c:=fun c hc => S.grown c hc (.inl (by omega))
 have is:∀ c ∈ o,∀ x,Anc par x c ↔ Dom succ pl x c:=by
  intro c hc x
  refine ⟨fun ha k w => ?_,fun hd => S.low c (hg c hc) x hd⟩
  obtain ⟨k',h1,h2⟩:=hN x (S.tree.anc_mem O ha (hg c hc)) c hc k w
  exact S.inv c (hg c hc) x k' h2 (.inl (by omega)) ha
 obtain ⟨d0,h0⟩:∃ d0,par b=some d0:=by
  rcases hg b hbm with e | e
  ·exact absurd e hb0
  ·exact e
 have hu:=S.tree.up b d0 h0
 rw [h0]
 congr 1
 refine S.tree.antisymm ?_ ?_
 ·-- d0 above d
  refine (h d0).2 fun p hp he => (is p (S.tree.mem O hp) d0).2 fun k w => ?_
  obtain ⟨k',w'⟩:=w.next he (fun e => by subst e;omega)
  exact (is b hbm d0).1 (.up h0 .refl) k' w'
 ·have h1:=(h d).1 .refl
  have h2:Anc par d b:=by
   refine (is b hbm d).2 fun k w => ?_
   cases w with
   | start _ => exact hb0 rfl
   | fwd w e _ _ => exact (is _ (w.mem O) d).1 (h1 _ (hg _ (w.mem O)) e) _ w
   | back w e _ _ => exact (is _ (w.mem O) d).1 (h1 _ (hg _ (w.mem O)) e) _ w
  rcases h2.step h0 with h3 | h3
  ·subst h3;omega
  ·exact h3
def Meets (par:Nat → Option Nat) (a b m:Nat):Prop:=∀ x,Anc par x m ↔ Anc par x a ∧ Anc par x b
theorem Tree.climb (T:Tree o pl par) {a b d:Nat} (h:pl b < pl a) (e:par a=some d) (x:Nat):(Anc par x a ∧ Anc par x b) ↔ (Anc par x d ∧ Anc par x b):=by
 constructor
 ·rintro ⟨h1,h2⟩
  rcases h1.step e with h3 | h3
  ·subst h3
   have:=T.anc_le h2
   omega
  ·exact ⟨h3,h2⟩
 ·rintro ⟨h1,h2⟩
  exact ⟨.up e h1,h2⟩
end Go.Proofs.YtaehbgppfahdeaaGreat
namespace Go.Proofs.YtaehbgppfahdeaaGreat
open Go.RowKit Go.Maps
def topI:Option Nat → Int
 | some d => (d:Int)
 | none => -1
def placeI (o:List Nat) (pl:Nat → Nat) (b:Nat):Int:=if b ∈ o then (pl b:Int) else -1
def tops (n:Nat) (par:Nat → Option Nat):List Value:=(List.range n).map fun b => .int .i64 (topI (par b))
def places (n:Nat) (o:List Nat) (pl:Nat → Nat):List Value:=(List.range n).map fun b => .int .i64 (placeI o pl b)
theorem tops_at {n b:Nat} {par:Nat → Option Nat} (h:b < n):(tops n par)[b]?=some (.int .i64 (topI (par b))):=by
 unfold tops
 rw [List.getElem?_map,List.getElem?_eq_getElem (by simpa using h)]
 simp
theorem places_at {n b:Nat} {o:List Nat} {pl:Nat → Nat} (h:b < n):(places n o pl)[b]?=some (.int .i64 (placeI o pl b)):=by
 unfold places
 rw [List.getElem?_map,List.getElem?_eq_getElem (by simpa using h)]
 simp
theorem tops_set {n b d:Nat} {par:Nat → Option Nat}:(tops n par).set b (.int .i64 (d:Int))=tops n (putP par b d):=by
 unfold tops
 apply List.ext_getElem?
 intro i
 by_cases hi:i < n
 ·by_cases e:b=i
  ·subst e
   rw [List.getElem?_set_self (by simpa using hi),List.getElem?_map,List.getElem?_eq_getElem (by simpa using hi)]
   simp [putP,topI]
  ·rw [List.getElem?_set_ne e,List.getElem?_map,List.getElem?_map,List.getElem?_eq_getElem (by simpa using hi)]
   simp only [Option.map_some,List.getElem_range]
   rw [show putP par b d i=par i by unfold putP;rw [if_neg (fun h => e h.symm)]]
 ·rw [List.getElem?_eq_none (by simp;omega),List.getElem?_eq_none (by simp;omega)]
theorem tops_none (n:Nat):tops n (fun _ => none)=List.replicate n (.int .i64 (-1)):=by
 unfold tops
 apply List.ext_getElem?
 intro i
 by_cases hi:i < n
 ·rw [List.getElem?_map,List.getElem?_eq_getElem (by simpa using hi),List.getElem?_replicate,if_pos hi]
  rfl
 ·rw [List.getElem?_eq_none (by simp;omega),List.getElem?_eq_none (by simp;omega)]
structure FlowAt (w:World) (B:Nat) (bs:List BlockM) (o:List Nat) (pl:Nat → Nat) (gp:Nat) (vs:List Value) (go capo gl:Nat):Prop where
 preds:Lists w 0 gp bs.length vs (predsAt bs bs.length bs.length 0)
 order:w.ownsRow 0 3 1 (.slice (some ⟨go,0,none⟩) o.length capo) o.length (natInts o)
 place:w.ownsRow 0 3 1 (.slice (some ⟨gl,0,none⟩) bs.length bs.length) bs.length (places bs.length o pl)
 gp:gp < B
 go:go < B
 gl:gl < B
 apart:∀ (t:Nat) v k,vs[t]?=some v → v.ownBlock=some k → k < B
structure TreeAt (w:World) (B:Nat) (bs:List BlockM) (o:List Nat) (pl:Nat → Nat) (par:Nat → Option Nat) (gp:Nat) (vs:List Value) (go capo gl gi:Nat):Prop where
 flow:FlowAt w B bs o pl gp vs go capo gl
 idoms:w.ownsRow B 3 1 (.slice (some ⟨gi,0,none⟩) bs.length bs.length) bs.length (tops bs.length par)
section
variable {w w':World} {B B':Nat} {bs:List BlockM} {o:List Nat} {pl:Nat → Nat} {par:Nat → Option Nat} {gp:Nat} {vs:List Value} {go capo gl gi:Nat}
theorem Lists.keptB (h:Lists w 0 gp bs.length vs (predsAt bs bs.length bs.length 0)) (hb:Below B w w') (hgp:gp < B) (ha:∀ (t:Nat) v k,vs[t]?=some v → v.ownBlock=some k → k < B):Lists w' 0 gp bs.length vs (predsAt bs bs.length bs.length 0) :=
 ⟨h.vl,h.ll,own_kept_below h.row hb (fun k hk => by cases hk;exact hgp),fun t v l hv hl => own_kept_below (h.own t v l hv hl) hb (fun k hk => ha t v k hv hk),h.apart⟩
theorem FlowAt.kept (h:FlowAt w B bs o pl gp vs go capo gl) (hb:Below B w w'):FlowAt w' B bs o pl gp vs go capo gl :=
 ⟨h.preds.keptB hb h.gp h.apart,own_kept_below h.order hb (fun k hk => by cases hk;exact h.go),own_kept_below h.place hb (fun k hk => by cases hk;exact h.gl),h.gp,h.go,h.gl,h.apart⟩
theorem FlowAt.more (h:FlowAt w B bs o pl gp vs go capo gl) (hB:B ≤ B'):FlowAt w B' bs o pl gp vs go capo gl :=
 ⟨h.preds,h.order,h.place,Nat.lt_of_lt_of_le h.gp hB,Nat.lt_of_lt_of_le h.go hB,Nat.lt_of_lt_of_le h.gl hB,fun t v k hv hk => Nat.lt_of_lt_of_le (h.apart t v k hv hk) hB⟩
theorem TreeAt.lt (h:TreeAt w B bs o pl par gp vs go capo gl gi):B ≤ gi ∧ gi < w.heap.size:=h.idoms.lt gi rfl
theorem TreeAt.kept (h:TreeAt w B bs o pl par gp vs go capo gl gi) (hb:Below w.heap.size w w'):TreeAt w' B bs o pl par gp vs go capo gl gi:=by
 have hl:=h.lt
 exact ⟨h.flow.kept (hb.mono (by omega)),own_kept_below h.idoms hb (fun k hk => by cases hk;exact hl.2)⟩
theorem TreeAt.set {b d:Nat} (h:TreeAt w B bs o pl par gp vs go capo gl gi):TreeAt (w.setCell ⟨gi,b,none⟩ (.int .i64 (d:Int))) B bs o pl (putP par b d) gp vs go capo gl gi:=by
 have hl:=h.lt
 refine ⟨h.flow.kept ((Below.refl _ _).setCell (by simpa using hl.1) _),?_⟩
 have:=(World.ownsRow.stored h.idoms b (.int .i64 (d:Int))).1
 rwa [tops_set] at this
theorem TreeAt.top (h:TreeAt w B bs o pl par gp vs go capo gl gi) {b:Nat} (hb:b < bs.length):w.cell? ⟨gi,b,none⟩=some (.int .i64 (topI (par b))):=by
 rw [World.ownsRow.cellAt h.idoms b (by omega)];exact tops_at hb
theorem TreeAt.free (h:TreeAt w B bs o pl par gp vs go capo gl gi) (b:Nat):w.frozen? ⟨gi,b,none⟩=false:=World.ownsRow.frozenAt h.idoms b
theorem FlowAt.at (h:FlowAt w B bs o pl gp vs go capo gl) {b:Nat} (hb:b < bs.length):w.cell? ⟨gl,b,none⟩=some (.int .i64 (placeI o pl b)):=by
 rw [World.ownsRow.cellAt h.place b (by omega)];exact places_at hb
theorem FlowAt.list (h:FlowAt w B bs o pl gp vs go capo gl) {b:Nat} (hb:b < bs.length):∃ v,w.cell? ⟨gp,b,none⟩=some v ∧ w.ownsRow 0 3 1 v (predsTo bs bs.length b).length (natInts (predsTo bs bs.length b)):=by
 obtain ⟨v,hv⟩:∃ v,vs[b]?=some v:=⟨_,List.getElem?_eq_getElem (by rw [h.preds.vl];exact hb)⟩
 have hl:(predsAt bs bs.length bs.length 0)[b]?=some (predsTo bs bs.length b):=by rw [predsAt_at hb];simp
 exact ⟨v,by rw [World.ownsRow.cellAt h.preds.row b (by omega)];exact hv,World.ownsRow.mono (h.preds.own b v _ hv hl) (Nat.zero_le _)⟩
end
theorem drew_below {B:Nat} {w w':World} (h:Below B w w') (m:Nat):Below B w (w'.drewN m):=⟨h.os,h.tape,h.output,h.size,h.block⟩
structure TreeOk (bs:List BlockM) (o:List Nat) (pl:Nat → Nat) (par:Nat → Option Nat):Prop where
 ord:Ord (succM bs) o pl
 tree:Tree o pl par
 range:∀ x ∈ o,x < bs.length
 n5:bs.length ≤ 512
def MeetPost (par:Nat → Option Nat) (a b:Nat) (w:World) (e:Ending) (w':World):Prop :=
 ∃ m:Nat,e=.returned (.int .i64 m) ∧ Grown par m ∧ Meets par a b m ∧ Below w.heap.size w w'
set_option maxRecDepth 100000 in
set_option maxHeartbeats 2000000 in
theorem meet_any (bs:List BlockM) (o:List Nat) (pl:Nat → Nat) (par:Nat → Option Nat) (B gp go capo gl gi a b:Nat) (vs:List Value) (w:World) (hT:TreeAt w B bs o pl par gp vs go capo gl gi) (hK:TreeOk bs o pl par) (ha:Grown par a) (hb:Grown par b) :
  Calls Tryz.prog 239 #[.agg #[.slice (some ⟨gp,0,none⟩) bs.length bs.length,.slice (some ⟨go,0,none⟩) o.length capo,.slice (some ⟨gl,0,none⟩) bs.length bs.length,.slice (some ⟨gi,0,none⟩) bs.length bs.length],.int .i64 a,.int .i64 b] w (MeetPost par a b w):=by
 have HK:=hideI hK
 have HA:=hideI ha
 have HB:=hideI hb
 obtain ⟨W,hW⟩:∃ W:World,W=w.alloc (.cells #[.slice (some ⟨gp,0,none⟩) bs.length bs.length,.slice (some ⟨go,0,none⟩) o.length capo,.slice (some ⟨gl,0,none⟩) bs.length bs.length,.slice (some ⟨gi,0,none⟩) bs.length bs.length] 209):=⟨_,rfl⟩
 have HBW:Hid (Below w.heap.size w W):=by show Below _ _ _;rw [hW];exact (Below.refl _ _).alloc (Nat.le_refl _) _
 have HTW:Hid (TreeAt W B bs o pl par gp vs go capo gl gi):=hT.kept HBW.out
 have HXW:Hid (W.heap[w.heap.size]?=some (.cells #[.slice (some ⟨gp,0,none⟩) bs.length bs.length,.slice (some ⟨go,0,none⟩) o.length capo,.slice (some ⟨gl,0,none⟩) bs.length bs.length,.slice (some ⟨gi,0,none⟩) bs.length bs.length] 209 (0,0))):=by show _=_;rw [hW];exact heap_alloc_new w _
 clear hT hK ha hb
 go_enter Tryz.func239,Tryz.ntmps239
 go_wp2
 rw [← hW]
 clear hW
 go_loopw [1,2] (fun u v wr => ∃ (a' b' m:Nat),u=.int .i64 a' ∧ v=.int .i64 b' ∧ wr=W.drewN m ∧ Hid (Grown par a') ∧ Hid (Grown par b') ∧ Hid (∀ x,(Anc par x a' ∧ Anc par x b') ↔ (Anc par x a ∧ Anc par x b))) (fun u v _ => pl (intOf u).toNat + pl (intOf v).toNat)
 case atStart => exact ⟨a,b,0,rfl,rfl,rfl,HA,HB,hideI (fun x => Iff.rfl)⟩
 case round =>
  obtain ⟨a',b',m,rfl,rfl,rfl,HA',HB',HS⟩:=hrel
  have ham:=HK.out.tree.mem HK.out.ord HA'.out
  have hbm:=HK.out.tree.mem HK.out.ord HB'.out
  have hal:=HK.out.range a' ham
  have hbl:=HK.out.range b' hbm
  have hn5:=HK.out.n5
  have hx:=row_cells HXW.out rfl
  have q2:=hx 2
  have q3:=hx 3
  by_cases he:a'=b'
  ·subst he
   have hd:((a':Int) != (a':Int))=false:=by simp
   clear hx q2 q3
   go_wp2
   go_ret
   exact ⟨a',rfl,HA'.out,fun x => by have:=HS.out x;exact ⟨fun h => this.1 ⟨h,h⟩,fun h => (this.2 h).1⟩,drew_below HBW.out m⟩
  ·have hd:((a':Int) != (b':Int))=true:=by simp;omega
   have c1:=HTW.out.flow.at hal
   have c2:=HTW.out.flow.at hbl
   rw [show placeI o pl a'=(pl a':Int) by unfold placeI;rw [if_pos ham]] at c1
   rw [show placeI o pl b'=(pl b':Int) by unfold placeI;rw [if_pos hbm]] at c2
   have hne:pl a' ≠ pl b':=fun e => he (HK.out.ord.inj ham hbm e)
   have HAM:=hideI ham
   have HBM:=hideI hbm
   clear hx ham hbm he
   by_cases hlt:pl b' < pl a'
   ·obtain ⟨d,hpd⟩:∃ d,par a'=some d:=by
     rcases HA'.out with h0 | h0
     ·subst h0;rw [HK.out.ord.pl_zero] at hlt;omega
     ·exact h0
    have hup:=HK.out.tree.up a' d hpd
    have c3:=HTW.out.top hal
    rw [hpd] at c3
    simp only [topI] at c3
    have hdl:=hup.2.2.1
    have HG2:=hideI hup.2.2.2
    have HC:=hideI (HK.out.tree.climb hlt hpd)
    clear hpd hup hne
    go_wp2
    go_quiet (fail)
    go_wp2
    go_roundw
    case rel => exact ⟨d,b',_,rfl,rfl,rfl,HG2,HB',hideI (fun x => (HC.out x).symm.trans (HS.out x))⟩
    case measure => simp [intOf];omega
   ·obtain ⟨d,hpd⟩:∃ d,par b'=some d:=by
     rcases HB'.out with h0 | h0
     ·subst h0
      rw [HK.out.ord.pl_zero] at hlt hne
      omega
     ·exact h0
    have hlt2:pl a' < pl b':=by omega
    have hup:=HK.out.tree.up b' d hpd
    have c3:=HTW.out.top hbl
    rw [hpd] at c3
    simp only [topI] at c3
    have hdl:=hup.2.2.1
    have HG2:=hideI hup.2.2.2
    have HC:=hideI (HK.out.tree.climb hlt2 hpd)
    clear hpd hup hne
    go_wp2
    go_quiet (fail)
    go_wp2
    go_roundw
    case rel => exact ⟨a',d,_,rfl,rfl,rfl,HA',HG2,hideI (fun x => by have:=HC.out x;have h2:=HS.out x;constructor <;> intro h <;> (first | exact h2.1 ⟨h.1,(this.2 ⟨h.2,h.1⟩).1⟩ | exact (by have h3:=h2.2 h;have h4:=this.1 ⟨h3.2,h3.1⟩;exact ⟨h4.2,h4.1⟩)))⟩
    case measure => simp [intOf];omega
end Go.Proofs.YtaehbgppfahdeaaGreat
namespace Go.Proofs.YtaehbgppfahdeaaGreat
open Go.RowKit Go.Maps
def growB (par:Nat → Option Nat) (b:Nat):Bool:=b == 0 || (par b).isSome
theorem growB_yes {par:Nat → Option Nat} {b:Nat} (h:Grown par b):growB par b=true:=by
 unfold growB
 rcases h with rfl | ⟨d,h⟩
 ·rfl
 ·simp [h]
theorem growB_no {par:Nat → Option Nat} {b:Nat} (h:¬ Grown par b):growB par b=false:=by
 unfold growB
 cases hp:par b with
 | some d => exact absurd (.inr ⟨d,hp⟩) h
 | none =>
  have:b ≠ 0:=fun e => h (.inl e)
  simp [this]
set_option maxRecDepth 100000 in
set_option maxHeartbeats 1000000 in
theorem grown_any (bs:List BlockM) (o:List Nat) (pl:Nat → Nat) (par:Nat → Option Nat) (B gp go capo gl gi b:Nat) (vs:List Value) (w:World) (hT:TreeAt w B bs o pl par gp vs go capo gl gi) (hb:b < bs.length) (_hn5:bs.length ≤ 512) :
  Calls Tryz.prog 238 #[.agg #[.slice (some ⟨gp,0,none⟩) bs.length bs.length,.slice (some ⟨go,0,none⟩) o.length capo,.slice (some ⟨gl,0,none⟩) bs.length bs.length,.slice (some ⟨gi,0,none⟩) bs.length bs.length],.int .i64 b] w fun e w' => e=.returned (.bool (growB par b)) ∧ Below w.heap.size w w':=by
 have HB0:Hid (Below w.heap.size w (w.alloc (.cells #[.slice (some ⟨gp,0,none⟩) bs.length bs.length,.slice (some ⟨go,0,none⟩) o.length capo,.slice (some ⟨gl,0,none⟩) bs.length bs.length,.slice (some ⟨gi,0,none⟩) bs.length bs.length] 209))):=(Below.refl _ _).alloc (Nat.le_refl _) _
 have c1:=(hT.kept HB0.out).top hb
 clear hT
 rcases b with _ | b
 ·clear c1
  go_enter Tryz.func238,Tryz.ntmps238
  go_wp2
  go_ret
  exact ⟨rfl,HB0.out⟩
 ·have hd:(((b + 1:Nat):Int) == 0)=false:=by simp;omega
  cases hp:par (b + 1) with
  | none =>
   rw [hp] at c1
   simp only [topI] at c1
   go_enter Tryz.func238,Tryz.ntmps238
   go_wp2
   go_ret
   exact ⟨by simp [growB,hp];omega,HB0.out⟩
  | some d =>
   rw [hp] at c1
   simp only [topI] at c1
   have hd2:((d:Int) != -1)=true:=by rw [bne_iff_ne];omega
   go_enter Tryz.func238,Tryz.ntmps238
   go_wp2
   go_ret
   exact ⟨by simp [growB,hp],HB0.out⟩
def PartIs (par:Nat → Option Nat) (l:List Nat):Option Nat → Prop
 | none => ∀ p ∈ l,¬ Grown par p
 | some d => Grown par d ∧ ∀ x,Anc par x d ↔ ∀ p ∈ l,Grown par p → Anc par x p
section
variable {par:Nat → Option Nat} {l:List Nat} {k p:Nat} {dd:Option Nat}
theorem PartIs.start:PartIs par (l.take 0) none:=by
 intro p hp
 simp at hp
theorem mem_take_one (hy:l[k]?=some p) {x:Nat}:x ∈ l.take (k + 1) ↔ x ∈ l.take k ∨ x=p:=by
 rw [List.take_add_one,hy]
 simp
theorem PartIs.skip (h:PartIs par (l.take k) dd) (hy:l[k]?=some p) (hn:¬ Grown par p):PartIs par (l.take (k + 1)) dd:=by
 cases dd with
 | none =>
  intro x hx
  rcases (mem_take_one hy).1 hx with h1 | h1
  ·exact h x h1
  ·rw [h1];exact hn
 | some d =>
  refine ⟨h.1,fun x => (h.2 x).trans ⟨fun h2 q hq hg => ?_,fun h2 q hq hg => h2 q ((mem_take_one hy).2 (.inl hq)) hg⟩⟩
  rcases (mem_take_one hy).1 hq with h1 | h1
  ·exact h2 q h1 hg
  ·subst h1;exact absurd hg hn
theorem PartIs.first (h:PartIs par (l.take k) none) (hy:l[k]?=some p) (hg:Grown par p):PartIs par (l.take (k + 1)) (some p):=by
 refine ⟨hg,fun x => ⟨fun h2 q hq hgq => ?_,fun h2 => h2 p ((mem_take_one hy).2 (.inr rfl)) hg⟩⟩
 rcases (mem_take_one hy).1 hq with h1 | h1
 ·exact absurd hgq (h q h1)
 ·rw [h1];exact h2
theorem PartIs.meet {d m:Nat} (h:PartIs par (l.take k) (some d)) (hy:l[k]?=some p) (hg:Grown par p) (hm:Meets par d p m) (hgm:Grown par m):PartIs par (l.take (k + 1)) (some m):=by
 refine ⟨hgm,fun x => (hm x).trans ⟨fun h2 q hq hgq => ?_,fun h2 => ⟨(h.2 x).2 fun q hq hgq => h2 q ((mem_take_one hy).2 (.inl hq)) hgq,h2 p ((mem_take_one hy).2 (.inr rfl)) hg⟩⟩⟩
 rcases (mem_take_one hy).1 hq with h1 | h1
 ·exact (h.2 x).1 h2.1 q h1 hgq
 ·rw [h1];exact h2.2
theorem mem_preds {bs:List BlockM} {b p:Nat}:p ∈ predsTo bs bs.length b ↔ p < bs.length ∧ b ∈ succM bs p:=by
 unfold predsTo
 rw [List.mem_filter,List.mem_range]
 simp
theorem PartIs.closest {bs:List BlockM} {o:List Nat} {pl:Nat → Nat} {b:Nat} (hK:TreeOk bs o pl par) (h:PartIs par (predsTo bs bs.length b) dd) (he:∃ p,Grown par p ∧ b ∈ succM bs p):∃ d,dd=some d ∧ Closest (succM bs) par b d:=by
 cases dd with
 | none =>
  obtain ⟨p,hg,hs⟩:=he
  exact absurd hg (h p (mem_preds.2 ⟨hK.range p (hK.tree.mem hK.ord hg),hs⟩))
 | some d =>
  refine ⟨d,rfl,fun x => (h.2 x).trans ⟨fun h2 p hg hs => h2 p (mem_preds.2 ⟨hK.range p (hK.tree.mem hK.ord hg),hs⟩) hg,fun h2 p hp hg => h2 p hg (mem_preds.1 hp).2⟩⟩
end
def ClosestPost (bs:List BlockM) (par:Nat → Option Nat) (b:Nat) (w:World) (e:Ending) (w':World):Prop :=
 ∃ d:Nat,e=.returned (.int .i64 d) ∧ Closest (succM bs) par b d ∧ Below w.heap.size w w'
set_option maxRecDepth 100000 in
set_option maxHeartbeats 2000000 in
theorem closest_any (bs:List BlockM) (o:List Nat) (pl:Nat → Nat) (par:Nat → Option Nat) (B gp go capo gl gi b:Nat) (vs:List Value) (w:World) (hT:TreeAt w B bs o pl par gp vs go capo gl gi) (hK:TreeOk bs o pl par) (hb:b < bs.length) (he:∃ p,Grown par p ∧ b ∈ succM bs p) :
  Calls Tryz.prog 219 #[.agg #[.slice (some ⟨gp,0,none⟩) bs.length bs.length,.slice (some ⟨go,0,none⟩) o.length capo,.slice (some ⟨gl,0,none⟩) bs.length bs.length,.slice (some ⟨gi,0,none⟩) bs.length bs.length],.int .i64 b] w (ClosestPost bs par b w):=by
 have HK:=hideI hK
 have HE:=hideI he
 obtain ⟨W,hW⟩:∃ W:World,W=w.alloc (.cells #[.slice (some ⟨gp,0,none⟩) bs.length bs.length,.slice (some ⟨go,0,none⟩) o.length capo,.slice (some ⟨gl,0,none⟩) bs.length bs.length,.slice (some ⟨gi,0,none⟩) bs.length bs.length] 209):=⟨_,rfl⟩
 have HBW:Hid (Below w.heap.size w W):=by show Below _ _ _;rw [hW];exact (Below.refl _ _).alloc (Nat.le_refl _) _
 have HTW:Hid (TreeAt W B bs o pl par gp vs go capo gl gi):=hT.kept HBW.out
 have HXW:Hid (W.heap[w.heap.size]?=some (.cells #[.slice (some ⟨gp,0,none⟩) bs.length bs.length,.slice (some ⟨go,0,none⟩) o.length capo,.slice (some ⟨gl,0,none⟩) bs.length bs.length,.slice (some ⟨gi,0,none⟩) bs.length bs.length] 209 (0,0))):=by show _=_;rw [hW];exact heap_alloc_new w _
 have hwW:w.heap.size < W.heap.size:=lt_of_heap HXW.out
 have hx:=row_cells HXW.out rfl
 have q0:=hx 0
 obtain ⟨v,hc,hown⟩:=HTW.out.flow.list hb
 obtain ⟨l,hl⟩:∃ l,l=predsTo bs bs.length b:=⟨_,rfl⟩
 rw [← hl] at hown
 have hll:l.length ≤ 512:=by rw [hl];exact Nat.le_trans (predsTo_len _ _ _) hK.n5
 have HL:=hideI hl
 have HINT:=hideI (nat_ints hown (by omega))
 obtain ⟨PA,pc2,e1,_,hpx⟩:=HINT.out
 rw [List.length_map] at e1 hpx
 subst e1
 have HPX:=hideI hpx
 have hn5:=hK.n5
 rw [hW] at hc q0
 have HW0:=hideI hW
 clear hT hK he hx hl hpx hown hW
 go_enter Tryz.func219,Tryz.ntmps219
 go_wp2
 rw [← HW0.out]
 clear HW0 q0 hc
 go_loopw [5,15] (fun u v wr => ∃ (k:Nat) (dd:Option Nat),k ≤ l.length ∧ u=.int .i64 (topI dd) ∧ v=.int .i64 k ∧ Hid (PartIs par (l.take k) dd) ∧ Hid (Below W.heap.size W wr)) (fun _ v _ => l.length - (intOf v).toNat)
 case atStart => exact ⟨0,none,Nat.zero_le _,rfl,rfl,hideI PartIs.start,hideI (Below.refl _ _)⟩
 case round =>
  obtain ⟨k,dd,hk,rfl,rfl,HP,HBr⟩:=hrel
  by_cases hlt:k < l.length
  ·obtain ⟨p,hp⟩:∃ p,l[k]?=some p:=⟨_,List.getElem?_eq_getElem hlt⟩
   have hpl:p < bs.length:=by
    have:=List.mem_of_getElem? hp
    rw [HL.out] at this
    exact (mem_preds.1 this).1
   obtain ⟨pb,po,rfl,hpb,d1⟩:=HPX.out k hlt
   rw [List.getElem?_map,hp] at d1
   simp only [Option.map_some,Option.getD_some] at d1
   have d2:=(HBr.out.cell (p:=⟨pb,po + k,none⟩) hpb).trans d1
   have hx:=row_cells HXW.out (HBr.out.block _ hwW)
   have q0:=hx 0
   have q1:=hx 1
   have q2:=hx 2
   have q3:=hx 3
   have HTr:=hideI (HTW.out.kept HBr.out)
   have HPP:=hideI hp
   clear d1 hx hp
   by_cases hg:Grown par p
   ·have HG:=hideI hg
    have HGB:=hideI (growB_yes hg)
    clear hg
    cases dd with
    | none =>
     simp only [topI]
     go_wp2_with (go_at_call 238;go_must (refine (grown_any bs o pl par B gp go capo gl gi p vs _ HTr.out hpl hn5).mono ?_);rw [HGB.out];rintro e w2 ⟨rfl,hb2⟩;have HB2:=hideI (HBr.out.trans (hb2.mono HBr.out.size));clear hb2)
     go_roundw
     case rel => exact ⟨k + 1,some p,by omega,rfl,by go_num,hideI (HP.out.first HPP.out HG.out),HB2⟩
     case measure => simp [intOf];omega
    | some d =>
     simp only [topI]
     have hd:((d:Int) == -1)=false:=by rw [beq_eq_false_iff_ne];omega
     go_wp2_with (first
      | (go_at_call 238;go_must (refine (grown_any bs o pl par B gp go capo gl gi p vs _ HTr.out hpl hn5).mono ?_);rw [HGB.out];rintro e w2 ⟨rfl,hb2⟩;have HB2:=hideI (HBr.out.trans (hb2.mono HBr.out.size));have HT2:=hideI (HTr.out.kept hb2);have hx2:=row_cells HXW.out (HB2.out.block _ hwW);have r0:=hx2 0;have r1:=hx2 1;have r2:=hx2 2;have r3:=hx2 3;clear hb2 hx2 q0 q1 q2 q3 d2)
      | (go_at_call 239;go_must (refine (meet_any bs o pl par B gp go capo gl gi d p vs _ HT2.out HK.out HP.out.1 HG.out).mono ?_);rintro e w3 ⟨m,rfl,hgm,hm,hb3⟩;have HGM:=hideI hgm;have HM:=hideI hm;have HB3:=hideI (HB2.out.trans (hb3.mono HB2.out.size));clear hb3 hgm hm))
     go_roundw
     case rel => exact ⟨k + 1,some m,by omega,rfl,by go_num,hideI (HP.out.meet HPP.out HG.out HM.out HGM.out),HB3⟩
     case measure => simp [intOf];omega
   ·have HG:=hideI hg
    have HGB:=hideI (growB_no hg)
    clear hg
    go_wp2_with (go_at_call 238;go_must (refine (grown_any bs o pl par B gp go capo gl gi p vs _ HTr.out hpl hn5).mono ?_);rw [HGB.out];rintro e w2 ⟨rfl,hb2⟩;have HB2:=hideI (HBr.out.trans (hb2.mono HBr.out.size));clear hb2)
    go_roundw
    case rel => exact ⟨k + 1,dd,by omega,rfl,by go_num,hideI (HP.out.skip HPP.out HG.out),HB2⟩
    case measure => simp [intOf];omega
  ·have hkl:k=l.length:=by omega
   have HP2:Hid (PartIs par (predsTo bs bs.length b) dd):=by
    have h1:=HP.out
    rw [hkl,List.take_of_length_le (Nat.le_refl _),HL.out] at h1
    exact h1
   obtain ⟨d,rfl,hcl⟩:=HP2.out.closest HK.out HE.out
   have HCL:=hideI hcl
   simp only [topI]
   clear hkl hcl
   go_wp2
   go_ret
   exact ⟨d,rfl,HCL.out,HBW.out.trans (HBr.out.mono HBW.out.size)⟩
end Go.Proofs.YtaehbgppfahdeaaGreat
namespace Go.Proofs.YtaehbgppfahdeaaGreat
open Go.RowKit Go.Maps
def FixTo (bs:List BlockM) (o:List Nat) (par:Nat → Option Nat) (j:Nat):Prop:=∀ m x,0 < m → m < j → o[m]?=some x → Fixed (succM bs) par x
theorem FixTo.all {bs:List BlockM} {o:List Nat} {pl:Nat → Nat} {par:Nat → Option Nat} (O:Ord (succM bs) o pl) (h:FixTo bs o par o.length):∀ b ∈ o,b ≠ 0 → Fixed (succM bs) par b:=by
 intro b hb h0
 have h1:=O.at hb
 have:pl b ≠ 0:=fun e => h0 (O.of_pl_zero hb e)
 exact h (pl b) b (by omega) (O.lt hb) h1
theorem FixTo.start (bs:List BlockM) (o:List Nat) (par:Nat → Option Nat):FixTo bs o par 1:=fun m x h1 h2 => by omega
theorem FixTo.step {bs:List BlockM} {o:List Nat} {par:Nat → Option Nat} {j x:Nat} (h:FixTo bs o par j) (hx:o[j]?=some x) (hf:Fixed (succM bs) par x):FixTo bs o par (j + 1):=by
 intro m y h1 h2 hy
 by_cases e:m=j
 ·subst e;rw [hx] at hy;cases hy;exact hf
 ·exact h m y h1 (by omega) hy
theorem grown_of_below {w w':World} {r:Option Nat} (h:Below w.heap.size w w'):w.grownBy w' r:=⟨h.os,h.tape,h.output,h.size,fun b hb _ => h.block b hb⟩
structure Mid (bs:List BlockM) (o:List Nat) (pl:Nat → Nat) (N r j:Nat) (par:Nat → Option Nat) (ch:Bool):Prop where
 st:St (succM bs) o pl par r j
 yes:ch=true → r ≤ N
 no:ch=false → FixTo bs o par j
structure Head (bs:List BlockM) (o:List Nat) (pl:Nat → Nat) (N r:Nat) (par:Nat → Option Nat) (ch:Bool):Prop where
 st:St (succM bs) o pl par r 1
 yes:ch=true → r ≤ N + 1
 no:ch=false → 0 < r ∧ FixTo bs o par o.length
theorem Mid.head {bs:List BlockM} {o:List Nat} {pl:Nat → Nat} {N r:Nat} {par:Nat → Option Nat} {ch:Bool} (O:Ord (succM bs) o pl) (h:Mid bs o pl N r o.length par ch):Head bs o pl N (r + 1) par ch :=
 ⟨h.st.round O,fun e => by have:=h.yes e;omega,fun e => ⟨by omega,h.no e⟩⟩
theorem Mid.same {bs:List BlockM} {o:List Nat} {pl:Nat → Nat} {N r j b d:Nat} {par:Nat → Option Nat} {ch:Bool} (O:Ord (succM bs) o pl) (h:Mid bs o pl N r j par ch) (hj:0 < j) (hb:o[j]?=some b) (hc:Closest (succM bs) par b d) (e:par b=some d):Mid bs o pl N r (j + 1) par ch:=by
 refine ⟨?_,h.yes,fun e2 => (h.no e2).step hb (hc.fixed e)⟩
 have:=h.st.step O hj hb hc
 rwa [putP_self par e] at this
theorem Mid.turn {bs:List BlockM} {o:List Nat} {pl:Nat → Nat} {N r j b d:Nat} {par:Nat → Option Nat} {ch:Bool} (O:Ord (succM bs) o pl) (hN:∀ x ∈ o,∀ c ∈ o,∀ k,Way (succM bs) pl x c k → ∃ k',k' ≤ N ∧ Way (succM bs) pl x c k') (h:Mid bs o pl N r j par ch) (hj:0 < j) (hb:o[j]?=some b) (hc:Closest (succM bs) par b d) (e:par b ≠ some d):Mid bs o pl N r (j + 1) (putP par b d) true:=by
 refine ⟨h.st.step O hj hb hc,fun _ => ?_,fun e2 => by cases e2⟩
 by_cases hr:N < r
 ·exact absurd (h.st.late O hN hr hj hb hc) e
 ·omega
theorem Mid.pred {bs:List BlockM} {o:List Nat} {pl:Nat → Nat} {N r j b:Nat} {par:Nat → Option Nat} {ch:Bool} (O:Ord (succM bs) o pl) (h:Mid bs o pl N r j par ch) (hj:0 < j) (hb:o[j]?=some b):∃ p,Grown par p ∧ b ∈ succM bs p:=by
 obtain ⟨i,y,hi,hy,hs⟩:=O.ahead j b hj hb
 exact ⟨y,h.st.grown y (Ord.mem hy) (.inr (by rw [O.place i y hy];exact hi)),hs⟩
def GrowPost (bs:List BlockM) (o:List Nat) (pl:Nat → Nat) (B gp go capo gl gi:Nat) (vs:List Value) (w:World) (e:Ending) (w':World):Prop :=
 ∃ par,e=.returned (.tuple #[]) ∧ Done (succM bs) o pl par ∧ TreeAt w' B bs o pl par gp vs go capo gl gi ∧ w.grownBy w' (some gi)
set_option maxRecDepth 100000 in
set_option maxHeartbeats 4000000 in
theorem grow_any (bs:List BlockM) (o:List Nat) (pl:Nat → Nat) (B gp go capo gl gi:Nat) (vs:List Value) (w:World) (hT:TreeAt w B bs o pl (fun _ => none) gp vs go capo gl gi) (hO:Ord (succM bs) o pl) (hR:∀ x ∈ o,x < bs.length) (hn5:bs.length ≤ 512) (hol:o.length ≤ bs.length) (hcap:o.length ≤ capo) (hcm:capo ≤ maxLen) :
  Calls Tryz.prog 185 #[.agg #[.slice (some ⟨gp,0,none⟩) bs.length bs.length,.slice (some ⟨go,0,none⟩) o.length capo,.slice (some ⟨gl,0,none⟩) bs.length bs.length,.slice (some ⟨gi,0,none⟩) bs.length bs.length]] w (GrowPost bs o pl B gp go capo gl gi vs w):=by
 have HO:=hideI hO
 have HR:=hideI hR
 obtain ⟨N,hN⟩:=enough (succM bs) o pl
 have HN:=hideI hN
 replace hcm:capo ≤ 9223372036854775807:=hcm
 have hol0:0 < o.length:=(List.getElem?_eq_some_iff.1 hO.zero).1
 obtain ⟨W,hW⟩:∃ W:World,W=w.alloc (.cells #[.slice (some ⟨gp,0,none⟩) bs.length bs.length,.slice (some ⟨go,0,none⟩) o.length capo,.slice (some ⟨gl,0,none⟩) bs.length bs.length,.slice (some ⟨gi,0,none⟩) bs.length bs.length] 209):=⟨_,rfl⟩
 have HBW:Hid (Below w.heap.size w W):=by show Below _ _ _;rw [hW];exact (Below.refl _ _).alloc (Nat.le_refl _) _
 have HTW:Hid (TreeAt W B bs o pl (fun _ => none) gp vs go capo gl gi):=hT.kept HBW.out
 have HXW:Hid (W.heap[w.heap.size]?=some (.cells #[.slice (some ⟨gp,0,none⟩) bs.length bs.length,.slice (some ⟨go,0,none⟩) o.length capo,.slice (some ⟨gl,0,none⟩) bs.length bs.length,.slice (some ⟨gi,0,none⟩) bs.length bs.length] 209 (0,0))):=by show _=_;rw [hW];exact heap_alloc_new w _
 have hgi:gi ≠ w.heap.size:=by have:=hT.lt.2;omega
 have HGI:=hideI hgi
 have hwW:w.heap.size < W.heap.size:=lt_of_heap HXW.out
 have HW0:=hideI hW
 clear hT hO hR hN hW hgi
 go_enter Tryz.func185,Tryz.ntmps185
 go_wp2
 rw [← HW0.out]
 clear HW0
 go_loopg [2] (N + 3) (fun gk c wr => ∃ (r:Nat) (par:Nat → Option Nat) (ch:Bool),c=.bool ch ∧ gk + r=N + 3 ∧ Hid (Head bs o pl N r par ch) ∧ Hid (TreeAt wr B bs o pl par gp vs go capo gl gi) ∧ Hid (W.grownBy wr (some gi)))
 case atStart => exact ⟨0,_,true,rfl,by omega,hideI ⟨St.start HO.out,(fun _ => by omega),(fun e => by cases e)⟩,HTW,hideI (World.grownBy.refl _ _)⟩
 case round =>
  obtain ⟨r,par,ch,rfl,hgk,HH,HT,HG⟩:=hrel
  cases ch with
  | false =>
   go_wp2
   go_end0
   exact ⟨par,rfl,HH.out.st.done HO.out (HH.out.no rfl).1 ((HH.out.no rfl).2.all HO.out),HT.out,(grown_of_below HBW.out).trans HG.out⟩
  | true =>
   have hr:=HH.out.yes rfl
   have HM0:Hid (Mid bs o pl N r 1 par false):=hideI ⟨HH.out.st,(fun e => by cases e),fun _ => FixTo.start _ _ _⟩
   have hx:=row_cells HXW.out (HG.out.block _ hwW (fun e => HGI.out (Option.some.inj e).symm))
   have q1:=hx 1
   clear hx
   have HT0:=HT
   have HG0:=HG
   by_cases hc1:capo=1
   ·have hol1:o.length=1:=by omega
    have HOL:Hid (o.length=1):=hol1
    have hb1:o.length - 1=0:=by omega
    clear hol1
    go_wp2
    obtain ⟨wo,rfl⟩:∃ wo:World,wo=wr:=⟨_,rfl⟩
    go_loopw [2,12] (fun c u wr => c=.bool false ∧ u=.int .i64 0 ∧ wr=wo) (fun _ _ _ => 0)
    case atStart => exact ⟨rfl,rfl,rfl⟩
    case round =>
     obtain ⟨rfl,rfl,rfl⟩:=hrel
     go_wp2
     go_roundg (gk - 1)
     case measure => omega
     case rel => exact ⟨r + 1,par,false,rfl,by omega,hideI (Mid.head HO.out (by rw [HOL.out];exact HM0.out)),HT0,HG0⟩
   ·go_wp2
    go_loopw [2,12] (fun c u wr => ∃ (i:Nat) (par:Nat → Option Nat) (ch:Bool),i ≤ o.length - 1 ∧ c=.bool ch ∧ u=.int .i64 i ∧ Hid (Mid bs o pl N r (1 + i) par ch) ∧ Hid (TreeAt wr B bs o pl par gp vs go capo gl gi) ∧ Hid (W.grownBy wr (some gi))) (fun _ u _ => o.length - (intOf u).toNat)
    case atStart => exact ⟨0,par,false,Nat.zero_le _,rfl,rfl,HM0,HT,HG⟩
    case round =>
     clear HT0 HG0 HT HG HH HM0 q1
     obtain ⟨i,par,ch,hi,rfl,rfl,HM,HT,HG⟩:=hrel
     by_cases hlt:i < o.length - 1
     ·obtain ⟨b,hb⟩:∃ b,o[1 + i]?=some b:=⟨_,List.getElem?_eq_getElem (by omega)⟩
      have c1:=nat_cell HT.out.flow.order hb
      have hbl:=HR.out b (List.mem_of_getElem? hb)
      have HE:=hideI (HM.out.pred HO.out (by omega) hb)
      have HB:=hideI hb
      have HK:Hid (TreeOk bs o pl par):=hideI ⟨HO.out,HM.out.st.tree,HR.out,hn5⟩
      have hx:=row_cells HXW.out (HG.out.block _ hwW (fun e => HGI.out (Option.some.inj e).symm))
      have q0:=hx 0
      have q1:=hx 1
      have q2:=hx 2
      have q3:=hx 3
      clear hb hx
      go_wp2_with (go_at_call 219;go_must (refine (closest_any bs o pl par B gp go capo gl gi b vs _ HT.out HK.out hbl HE.out).mono ?_);rintro e w2 ⟨d,rfl,hcl,hb2⟩;have HCL:=hideI hcl;have HG2:=hideI (HG.out.trans (grown_of_below hb2));have HT2:=hideI (HT.out.kept hb2);obtain ⟨T,hTT⟩:∃ T,T=topI (par b):=⟨_,rfl⟩;have c2:=HT2.out.top hbl;rw [← hTT] at c2;have HTT:=hideI hTT;have c3:=HT2.out.free b;have hx2:=row_cells HXW.out (HG2.out.block _ hwW (fun e => HGI.out (Option.some.inj e).symm));have r3:=hx2 3;clear hcl hb2 hx2 hTT q0 q1 q2 q3 c1)
      ·have hne:(d:Int) ≠ T:=by have h:=‹((d:Int) != T)=true›;simpa using h
       have HNE:Hid (par b ≠ some d):=fun e => hne (by rw [HTT.out,e];rfl)
       have HT3:=hideI (HT2.out.set (b:=b) (d:=d))
       have HG3:=hideI (HG2.out.trans (World.ownsRow.stored HT2.out.idoms b (.int .i64 (d:Int))).2)
       go_roundw
       case rel => exact ⟨i + 1,_,true,by omega,rfl,by go_num,hideI (HM.out.turn (j:=1 + i) HO.out HN.out (by omega) HB.out HCL.out HNE.out),HT3,HG3⟩
       case measure => simp [intOf];omega
      ·have hne:(d:Int)=T:=by have h:=‹((d:Int) != T)=false›;simpa using h
       have HEQ:Hid (par b=some d):=by
        show _=_
        have h:=HTT.out
        rw [← hne] at h
        cases hp:par b with
        | none => rw [hp] at h;simp only [topI] at h;omega
        | some d2 => rw [hp] at h;simp only [topI] at h;congr 1;omega
       clear hne
       go_roundw
       case rel => exact ⟨i + 1,par,ch,by omega,rfl,by go_num,hideI (HM.out.same (j:=1 + i) HO.out (by omega) HB.out HCL.out HEQ.out),HT2,HG2⟩
       case measure => simp [intOf];omega
     ·go_wp2
      go_roundg (gk - 1)
      case measure => omega
      case rel => exact ⟨r + 1,par,ch,rfl,by omega,hideI (Mid.head HO.out (by have h1:=HM.out;rw [show 1 + i=o.length by omega] at h1;exact h1)),HT,HG⟩
end Go.Proofs.YtaehbgppfahdeaaGreat
