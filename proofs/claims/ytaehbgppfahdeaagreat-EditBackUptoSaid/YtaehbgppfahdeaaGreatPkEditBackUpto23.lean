/- What EditBackUpto rests on, part 23: RefIdsB, BulkF. -/
import Derived.Test.YtaehbgppfahdeaaGreatPkEditBackUpto22

namespace Go.Proofs.YtaehbgppfahdeaaGreat
open Go.RowKit
def FewB (f:FuncM):Prop:=f.params.length ≤ 1048576 ∧ sizeM f ≤ 2097152
theorem fewb_par {f:FuncM} (h:FewB f) (k:Nat):(paramDefs 0 (f.params.take k)).length < 4000000:=by
 rw [paramDefs_len,List.length_take]
 have:=h.1
 omega
theorem fewb_phi {f:FuncM} (h:FewB f) {k j:Nat} {q:BlockM} (hq:f.blocks[k]?=some q) (hj:j < q.phis.length) (vs1:List (Int × Int)) (h1:vs1=paramDefs 0 f.params ++ (f.blocks.take k).flatMap valuesBlock) :
  (vs1 ++ (q.phis.take j).map fun p => (p.id,p.typ)).length < 4000000:=by
 have a:=flat_at_le valuesBlock f.blocks k q hq
 have b:=values_len f.blocks
 have c:q.phis.length ≤ (valuesBlock q).length:=by unfold valuesBlock;rw [List.length_append,List.length_map];omega
 have d:=h.1
 have e:=h.2
 unfold sizeM at e
 rw [h1]
 simp only [List.length_append,List.length_map,List.length_take,paramDefs_len]
 omega
theorem fewb_code {f:FuncM} (h:FewB f) {k j:Nat} {q:BlockM} (hq:f.blocks[k]?=some q) (vs1 vs2:List (Int × Int)) (h1:vs1=paramDefs 0 f.params ++ (f.blocks.take k).flatMap valuesBlock) (h2:vs2=vs1 ++ q.phis.map fun p => (p.id,p.typ)) :
  (vs2 ++ (q.code.take j).flatMap valuesInstr).length < 4000000:=by
 have a:=flat_at_le valuesBlock f.blocks k q hq
 have b:=values_len f.blocks
 have c:q.phis.length + ((q.code.take j).flatMap valuesInstr).length ≤ (valuesBlock q).length:=by
  have:=flat_take_le valuesInstr q.code j
  unfold valuesBlock;rw [List.length_append,List.length_map];omega
 have d:=h.1
 have e:=h.2
 unfold sizeM at e
 rw [h2,h1]
 simp only [List.length_append,List.length_map,paramDefs_len]
 omega
set_option maxRecDepth 100000 in
set_option maxHeartbeats 8000000 in
theorem refValuesB_any (f:FuncM) (B:Nat) (pv bv:Value) (w:World) (hpv:Ints w B pv f.params) (hbv:BlocksR w B bv f.blocks) (hB:B ≤ w.heap.size) (hfew:FewB f) (hl5:f.blocks.length ≤ 1048576) :
  Calls Tryz.prog 37 #[.agg #[pv,.int .i64 f.arrays,.int .i64 f.cells,bv]] w fun e w' => ∃ v,e=.returned v ∧ RV w' w.heap.size v (valuesM f) ∧ Below w.heap.size w w':=by
 have HFEW:=hideI hfew
 obtain ⟨i0,hi,hz0,hz1,hz2⟩:=info_parts val_info
 obtain ⟨A,c,rfl,hbm,hbx⟩:=hbv
 obtain ⟨P,pc,rfl,hpm,hpx⟩:=hpv
 have HX:=hideI hbx
 have HP:=hideI hpx
 have hp16:=hfew.1
 clear hbx hfew hpx
 obtain ⟨W0,hW0⟩:∃ W0:World,W0=(w.alloc (.cells #[.slice P f.params.length pc,.int .i64 f.arrays,.int .i64 f.cells,.slice A f.blocks.length c] 25)).alloc (.cells #[] 74):=⟨_,rfl⟩
 have hK0:Hid (Kv w.heap.size w W0):=by rw [hW0];exact ((Kv.refl _ w).alloc (Nat.le_refl _) _).alloc (by simp) _
 have hbox0:Hid (W0.heap[w.heap.size]?=some (.cells #[.slice P f.params.length pc,.int .i64 f.arrays,.int .i64 f.cells,.slice A f.blocks.length c] 25 (0,0))):=by
  show _=_
  rw [hW0,Below.heap_alloc _ _ _ (by simp)]
  exact heap_alloc_new w _
 have hR0:Hid (RV W0 w.heap.size (.slice (some ⟨w.heap.size + 1,0,none⟩) 0 0) []):=by
  have:=World.ownsRow_made (base:=w.heap.size) (e:=74) (size:=2) (w.alloc (.cells #[.slice P f.params.length pc,.int .i64 f.arrays,.int .i64 f.cells,.slice A f.blocks.length c] 25)) #[] 0 (by simp) (by decide) rfl
  show RV W0 _ _ _
  rw [hW0]
  unfold RV
  simpa [valCells] using this
 have HW0:=hideI hW0
 clear hW0
 go_enter Tryz.func37,Tryz.ntmps37
 go_wp2
 rw [← HW0.out]
 go_loopw [3,4] (fun o i wr => ∃ k:Nat,k ≤ f.params.length ∧ i=.int .i64 k ∧ RV wr w.heap.size o (paramDefs 0 (f.params.take k)) ∧ Kv w.heap.size W0 wr) (fun _ i _ => f.params.length - (intOf i).toNat)
 case atStart => exact ⟨0,Nat.zero_le _,rfl,by simpa [paramDefs] using hR0.out,Kv.refl _ _⟩
 case round =>
  obtain ⟨k,hk,rfl,hIk,hFk⟩:=hrel
  have HIk:=hideI hIk
  have HFk:=hideI hFk
  have hx:=hFk.row hbox0.out (by decide)
  have hsz:w.heap.size < wr.heap.size:=by have h1:=hFk.size;have h2:=lt_of_heap hbox0.out;omega
  have HK:=hideI (Keeps.mono' (hK0.out.trans hFk).keeps hB)
  clear hIk hFk
  by_cases hlt:k < f.params.length
  ·obtain ⟨b3,off3,rfl,hb3,e3⟩:=HP.out k hlt
   obtain ⟨t,ht⟩:∃ t,f.params[k]?=some t:=⟨_,List.getElem?_eq_getElem hlt⟩
   rw [ht] at e3
   have f3:=(HK.out b3 (off3 + k) hb3).trans e3
   simp only [Option.getD_some] at f3
   have HT:=hideI ht
   have hfw:=fewb_par HFEW.out k
   obtain ⟨uu,huu⟩:∃ uu,uu=paramDefs 0 (f.params.take k):=⟨_,rfl⟩
   rw [← huu] at hfw HIk
   have HUU:=hideI huu
   clear e3 ht huu
   have hown:=HIk.out
   unfold RV at hown
   go_wp2_with (at_builtin;refine wpList_append_lies _ rfl _ _ _ rfl w.heap.size 74 i0 _ 2 16 Tryz.underlying71 hi hz0 hz1 hz2 rfl (by decide) _ _ _ rfl (hown.alloc _) ⟨wr.heap.size,0,none⟩ 1 1 [.int .i64 k,.int .i64 t] rfl rfl (two_new _ _ _) (by simp [Value.oneCell']) (by decide) (by unfold maxLen;omega) (by omega) (by simp;omega) _ rfl ?_;intro g1 cap1 w4 hown1 hgrow1 hor hgl1;have hka:=hideI (Kv.grown hgrow1 (hown.alloc _) (by simp;omega));have HO1:=hideI hown1;clear hown1 hgrow1 hor hgl1)
   go_roundw
   case rel => exact ⟨k + 1,by omega,by go_num,by rw [paramDefs_take HT.out,← HUU.out];exact RV.push HO1.out,(HFk.out.alloc (by omega) _).trans hka.out⟩
   case measure => simp [intOf];omega
  ·have HIend:Hid (RV wr w.heap.size u3 (paramDefs 0 f.params)):=by have:=HIk.out;rw [List.take_of_length_le (by omega)] at this;exact this
   go_wp2
   obtain ⟨wa,rfl⟩:∃ wa:World,wa=wr:=⟨_,rfl⟩
   clear hx hsz HK hlt
   go_loopw [3,5] (fun o i wr => ∃ k:Nat,k ≤ f.blocks.length ∧ i=.int .i64 k ∧ RV wr w.heap.size o (paramDefs 0 f.params ++ (f.blocks.take k).flatMap valuesBlock) ∧ Kv w.heap.size W0 wr) (fun _ i _ => f.blocks.length - (intOf i).toNat)
   case atStart => exact ⟨0,Nat.zero_le _,rfl,by simpa using HIend.out,HFk.out⟩
   case round =>
    obtain ⟨k,hk,rfl,hIk,hFk⟩:=hrel
    have HIk:=hideI hIk
    have HFk:=hideI hFk
    have hx:=hFk.row hbox0.out (by decide)
    have hsz:w.heap.size < wr.heap.size:=by have h1:=hFk.size;have h2:=lt_of_heap hbox0.out;omega
    have HK:=hideI (Keeps.mono' (hK0.out.trans hFk).keeps hB)
    clear hIk hFk
    by_cases hlt:k < f.blocks.length
    ·obtain ⟨q,hq⟩:∃ q,f.blocks[k]?=some q:=⟨_,List.getElem?_eq_getElem hlt⟩
     obtain ⟨b,off,qpv,qcv,qtv,rfl,hb,e0,e1,e2,e3,e4,e5,hpv,hcv,htv,_⟩:=HX.out k q hq
     have c0:=(HK.out b (off + k * 6) hb).trans e0
     have c1:=(HK.out b (off + k * 6 + 1) hb).trans e1
     have c2:=(HK.out b (off + k * 6 + 2) hb).trans e2
     have c3:=(HK.out b (off + k * 6 + 3) hb).trans e3
     have c4:=(HK.out b (off + k * 6 + 4) hb).trans e4
     have c5:=(HK.out b (off + k * 6 + 5) hb).trans e5
     have HQ:=hideI hq
     obtain ⟨PA,pc2,rfl,hpm2,hpx⟩:=hpv
     obtain ⟨CA,cc,rfl,hcm,hcx⟩:=hcv
     obtain ⟨TA,tc,rfl,_⟩:=htv
     have HPX:=hideI hpx
     have HCX:=hideI hcx
     clear e0 e1 e2 e3 e4 e5 hq hpx hcx
     obtain ⟨wo,rfl⟩:∃ wo:World,wo=wr:=⟨_,rfl⟩
     obtain ⟨W1,hW1⟩:∃ W1:World,W1=wo.alloc (.cells #[.slice PA q.phis.length pc2,.slice CA q.code.length cc,.int .i64 q.term.op,.int .i64 q.term.val,.slice TA q.term.to.length tc,.int .i64 q.term.n] 62):=⟨_,rfl⟩
     have HF1:Hid (Kv w.heap.size W0 W1):=by rw [hW1];exact HFk.out.alloc (by omega) _
     have HI1:Hid (RV W1 w.heap.size u3 (paramDefs 0 f.params ++ (f.blocks.take k).flatMap valuesBlock)):=by rw [hW1];exact HIk.out.alloc _
     have HB1:Hid (W1.heap[wo.heap.size]?=some (.cells #[.slice PA q.phis.length pc2,.slice CA q.code.length cc,.int .i64 q.term.op,.int .i64 q.term.val,.slice TA q.term.to.length tc,.int .i64 q.term.n] 62 (0,0))):=by rw [hW1];exact heap_alloc_new wo _
     have HW1:=hideI hW1
     clear hW1
     obtain ⟨us1,hus1⟩:∃ us1,us1=paramDefs 0 f.params ++ (f.blocks.take k).flatMap valuesBlock:=⟨_,rfl⟩
     rw [← hus1] at HI1
     have HU1:=hideI hus1
     clear hus1
     go_wp2
     rw [← HW1.out]
     go_loopw [3,7] (fun o i wr => ∃ j:Nat,j ≤ q.phis.length ∧ i=.int .i64 j ∧ RV wr w.heap.size o (us1 ++ (q.phis.take j).map fun p => (p.id,p.typ)) ∧ Kv w.heap.size W1 wr) (fun _ i _ => q.phis.length - (intOf i).toNat)
     case atStart => exact ⟨0,Nat.zero_le _,rfl,by simpa using HI1.out,Kv.refl _ _⟩
     case round =>
      obtain ⟨j,hj,rfl,hIj,hFj⟩:=hrel
      have HIj:=hideI hIj
      have HFj:=hideI hFj
      have hx1:=hFj.row HB1.out (by decide)
      have hsz1:wo.heap.size < wr.heap.size:=by have h1:=hFj.size;have h2:=lt_of_heap HB1.out;omega
      have hsz2:w.heap.size ≤ wr.heap.size:=by omega
      have HK1:=hideI (Keeps.mono' ((hK0.out.trans HF1.out).trans hFj).keeps hB)
      clear hIj hFj
      by_cases hlj:j < q.phis.length
      ·obtain ⟨p,hp⟩:∃ p,q.phis[j]?=some p:=⟨_,List.getElem?_eq_getElem hlj⟩
       obtain ⟨b2,off2,fv,vv,rfl,hb2,e0,e1,e2,e3,hf,hv,_⟩:=HPX.out j p hp
       have HQ2:=hideI hp
       have d0:=(HK1.out b2 (off2 + j * 4) hb2).trans e0
       have d1:=(HK1.out b2 (off2 + j * 4 + 1) hb2).trans e1
       have g0:wr.cell? ⟨wo.heap.size,0,none⟩=some (.slice (some ⟨b2,off2,none⟩) q.phis.length pc2):=hx1 0
       have hfw:=fewb_phi HFEW.out HQ.out hlj us1 HU1.out
       obtain ⟨uu,huu⟩:∃ uu,uu=us1 ++ (q.phis.take j).map fun p => (p.id,p.typ):=⟨_,rfl⟩
       rw [← huu] at hfw HIj
       have HUU:=hideI huu
       have hown:=HIj.out
       unfold RV at hown
       clear e0 e1 e2 e3 hp huu hx1
       have G0:Hid (∀ W,Kv w.heap.size wr W → W.cell? ⟨wo.heap.size,0,none⟩=some (.slice (some ⟨b2,off2,none⟩) q.phis.length pc2) ∧ W.cell? ⟨b2,off2 + j * 4,none⟩=some (.int .i64 p.id) ∧ W.cell? ⟨b2,off2 + j * 4 + 1,none⟩=some (.int .i64 p.typ)) :=
        fun W hW => ⟨(HFj.out.trans hW).row HB1.out (by decide) 0,(hW.keeps _ _ (by omega)).trans d0,(hW.keeps _ _ (by omega)).trans d1⟩
       go_wp2
       go_region_held3 (fun w' => w'.cell? ⟨wo.heap.size,0,none⟩=some (.slice (some ⟨b2,off2,none⟩) q.phis.length pc2) ∧ w'.cell? ⟨b2,off2 + j * 4,none⟩=some (.int .i64 p.id) ∧ w'.cell? ⟨b2,off2 + j * 4 + 1,none⟩=some (.int .i64 p.typ)) (first | go_keep | exact G0.out _ ((((Kv.refl _ wr).alloc hsz2 _).drew).trans hka) | exact G0.out _ (((Kv.refl _ wr).alloc hsz2 _).trans hka))
        (first | (refine step_append_lies _ rfl (.tmp 50) (.tmp 64) _ rfl w.heap.size 74 i0 _ 2 16 Tryz.underlying71 hi hz0 hz1 hz2 rfl (by decide) _ _ _ rfl (hown.alloc _) ⟨wr.heap.size,0,none⟩ 1 1 [.int .i64 p.id,.int .i64 p.typ] rfl rfl (two_new _ _ _) (by simp [Value.oneCell']) (by decide) (by unfold maxLen;omega) (by omega) (by simp;omega) _ rfl ?_;intro g1 cap1 w4 hown1 hgrow1 hor hgl1;have hka:=Kv.grown hgrow1 (hown.alloc _) (by simp;omega)))
       have HIN:Hid (RV w4 w.heap.size (.slice (some ⟨g1,0,none⟩) (uu.length + 1) cap1) (us1 ++ (q.phis.take (j + 1)).map fun p => (p.id,p.typ))):=by
        have:=RV.push hown1
        rw [map_take' (fun p:PhiM => (p.id,p.typ)) q.phis j p HQ2.out,← List.append_assoc,← HUU.out]
        exact this
       have HFN:Hid (Kv w.heap.size W1 w4):=(HFj.out.trans (((Kv.refl _ wr).alloc hsz2 _).drew)).trans hka
       clear hown1 hgrow1 hor hgl1 hka
       go_wp2
       go_roundw
       case rel => exact ⟨j + 1,by omega,by go_num,HIN.out,HFN.out⟩
       case measure => simp [intOf];omega
      ·have HIend:Hid (RV wr w.heap.size u3 (us1 ++ q.phis.map fun p => (p.id,p.typ))):=by have:=HIj.out;rw [List.take_of_length_le (by omega)] at this;exact this
       go_wp2
       obtain ⟨wp,rfl⟩:∃ wp:World,wp=wr:=⟨_,rfl⟩
       clear hx1 hsz1 hsz2 HK1 hlj
       obtain ⟨us3,hus3⟩:∃ us3,us3=us1 ++ q.phis.map fun p => (p.id,p.typ):=⟨_,rfl⟩
       rw [← hus3] at HIend
       have HU3:=hideI hus3
       clear hus3
       go_loopw [3,8] (fun o i wr => ∃ j:Nat,j ≤ q.code.length ∧ i=.int .i64 j ∧ RV wr w.heap.size o (us3 ++ (q.code.take j).flatMap valuesInstr) ∧ Kv w.heap.size W1 wr) (fun _ i _ => q.code.length - (intOf i).toNat)
       case atStart => exact ⟨0,Nat.zero_le _,rfl,by simpa using HIend.out,HFj.out⟩
       case round =>
        obtain ⟨j2,hj2,rfl,hIj2,hFj2⟩:=hrel
        have HIj2:=hideI hIj2
        have HFj2:=hideI hFj2
        have hx1:=hFj2.row HB1.out (by decide)
        have hsz1:wo.heap.size < wr.heap.size:=by have h1:=hFj2.size;have h2:=lt_of_heap HB1.out;omega
        have hsz0:w.heap.size ≤ wr.heap.size:=by omega
        have HK1:=hideI (Keeps.mono' ((hK0.out.trans HF1.out).trans hFj2).keeps hB)
        clear hIj2 hFj2
        by_cases hlj2:j2 < q.code.length
        ·obtain ⟨x,hp⟩:∃ x,q.code[j2]?=some x:=⟨_,List.getElem?_eq_getElem hlj2⟩
         obtain ⟨b2,off2,av,rfl,hb2,e0,e1,e2,e3,hf,_⟩:=HCX.out j2 x hp
         have d0:=(HK1.out b2 (off2 + j2 * 4) hb2).trans e0
         have d1:=(HK1.out b2 (off2 + j2 * 4 + 1) hb2).trans e1
         have HQ2:=hideI hp
         clear e0 e1 e2 e3 hp
         have hfw:=fewb_code (j:=j2) HFEW.out HQ.out us1 us3 HU1.out HU3.out
         obtain ⟨uu,huu⟩:∃ uu,uu=us3 ++ (q.code.take j2).flatMap valuesInstr:=⟨_,rfl⟩
         rw [← huu] at hfw HIj2
         have HUU:=hideI huu
         have hown:=HIj2.out
         unfold RV at hown
         clear huu
         obtain ⟨sk,hsk⟩:∃ sk,sk=(shapeS x.op).2.1:=⟨_,rfl⟩
         have HSK:Hid (makesS x.op=sk):=hsk.symm
         have HSH:Hid (shapeV x.op=.tuple #[.string ⟨(shapeS x.op).1.toArray⟩,.int .i64 sk,.int .i64 (shapeS x.op).2.2.1,.bool (shapeS x.op).2.2.2]):=by show _=_;rw [hsk];rfl
         clear hsk
         cases hm:decide (0 < sk)
         ·have hv:valuesInstr x=[]:=by unfold valuesInstr;rw [HSK.out,if_neg (by simpa using hm)]
          have HV:=hideI hv
          clear hv
          go_wp2_with (go_at_call 72;refine (shape_any _ _).mono ?_;rintro e w3 ⟨rfl,rfl⟩;rw [HSH.out])
          go_roundw
          case rel => exact ⟨j2 + 1,by omega,by go_num,by rw [flat_take' _ _ _ _ HQ2.out,HV.out,List.append_nil,← HUU.out];exact HIj2.out,HFj2.out⟩
          case measure => simp [intOf];omega
         ·have hv:valuesInstr x=[(x.id,sk)]:=by unfold valuesInstr;rw [HSK.out,if_pos (by simpa using hm)]
          have HV:=hideI hv
          clear hv
          go_wp2_with (first | (go_at_call 72;refine (shape_any _ _).mono ?_;rintro e w3 ⟨rfl,rfl⟩;rw [HSH.out]) | (at_builtin;refine wpList_append_lies _ rfl _ _ _ rfl w.heap.size 74 i0 _ 2 16 Tryz.underlying71 hi hz0 hz1 hz2 rfl (by decide) _ _ _ rfl (hown.alloc _) ⟨wr.heap.size,0,none⟩ 1 1 [.int .i64 x.id,.int .i64 sk] rfl rfl (two_new _ _ _) (by simp [Value.oneCell']) (by decide) (by unfold maxLen;omega) (by omega) (by simp;omega) _ rfl ?_;intro g1 cap1 w4 hown1 hgrow1 hor hgl1;have hka:=hideI (Kv.grown hgrow1 (hown.alloc _) (by simp;omega));have HO1:=hideI hown1;clear hown1 hgrow1 hor hgl1))
          go_roundw
          case rel => exact ⟨j2 + 1,by omega,by go_num,by rw [flat_take' _ _ _ _ HQ2.out,HV.out,← List.append_assoc,← HUU.out];exact RV.push HO1.out,(HFj2.out.alloc hsz0 _).trans hka.out⟩
          case measure => simp [intOf];omega
        ·have HIe:Hid (RV wr w.heap.size u3 (us3 ++ q.code.flatMap valuesInstr)):=by have:=HIj2.out;rw [List.take_of_length_le (by omega)] at this;exact this
         have HUB:Hid (paramDefs 0 f.params ++ (f.blocks.take (k + 1)).flatMap valuesBlock=us3 ++ q.code.flatMap valuesInstr):=by
          show _=_
          rw [flat_take' _ _ _ _ HQ.out,HU3.out,HU1.out]
          simp only [valuesBlock,List.append_assoc]
         go_wp2
         go_roundw
         case rel => exact ⟨k + 1,by omega,by go_num,by rw [HUB.out];exact HIe.out,HF1.out.trans HFj2.out⟩
         case measure => simp [intOf];omega
    ·go_wp2
     go_ret
     refine ⟨_,rfl,?_,(hK0.out.trans HFk.out).below⟩
     have:=HIk.out
     rw [List.take_of_length_le (by omega)] at this
     exact this
theorem valuesB_few {f:FuncM} (h:FewB f):(valuesM f).length < 4000000:=by
 have h1:=h.1
 have h2:=h.2
 have h3:=values_len f.blocks
 unfold sizeM at h2
 unfold valuesM
 rw [List.length_append,paramDefs_len]
 omega
set_option maxRecDepth 100000 in
set_option maxHeartbeats 16000000 in
theorem refIdsB_any (f:FuncM) (B:Nat) (pv bv:Value) (w:World) (hpv:Ints w B pv f.params) (hbv:BlocksR w B bv f.blocks) (hB:B ≤ w.heap.size) (hfew:FewB f) (hl5:f.blocks.length ≤ 1048576) :
  Calls Tryz.prog 13 #[.agg #[pv,.int .i64 f.arrays,.int .i64 f.cells,bv]] w (RefIdsPost f w):=by
 obtain ⟨i0,hi,hz0,hz1,hz2⟩:=info_parts int_info
 have HPV:=hideI hpv
 have HBV:=hideI hbv
 have HFEW:=hideI hfew
 have hvn:=valuesB_few hfew
 obtain ⟨A,c,rfl,hbm,_⟩:=hbv
 obtain ⟨P,pc,rfl,hpm,_⟩:=hpv
 obtain ⟨np,hnp⟩:∃ np,np=f.params.length:=⟨_,rfl⟩
 have hn16:np ≤ 1048576:=by rw [hnp];exact hfew.1
 have HNP:=hideI hnp
 have hbox0:=hideI (heap_alloc_new w (.cells #[.slice P f.params.length pc,.int .i64 f.arrays,.int .i64 f.cells,.slice A f.blocks.length c] 25))
 have HB0:Hid (Below w.heap.size w (w.alloc (.cells #[.slice P f.params.length pc,.int .i64 f.arrays,.int .i64 f.cells,.slice A f.blocks.length c] 25))):=(Below.refl _ w).alloc (Nat.le_refl _) _
 clear hfew hnp
 go_enter Tryz.func13,Tryz.ntmps13
 go_wp2_with (go_at_call 37;refine (refValuesB_any f B _ _ _ (HPV.out.keeps ((Keeps.refl w).alloc hB _)) (HBV.out.keeps ((Keeps.refl w).alloc hB _)) (by simp;omega) HFEW.out hl5).mono ?_;rintro e w1 ⟨v1,rfl,hv1,hb1⟩;obtain ⟨VA,vc,rfl,hvr⟩:=RV.read hv1;have HVR:=hideI hvr;have HBX:=hideI ((hb1.block _ (lt_of_heap hbox0.out)).trans hbox0.out);have HB1:=hideI (HB0.out.trans (hb1.mono (by simp)));clear hb1 hv1 hvr)
 obtain ⟨vs,hvs⟩:∃ vs,vs=valuesM f:=⟨_,rfl⟩
 rw [← hvs] at hvn HVR
 rw [← hvs]
 rw [← HNP.out] at HBX
 have HVS:=hideI hvs
 clear hvs
 have hszb:w.heap.size < w1.heap.size:=lt_of_heap HBX.out
 have hR0:Hid ((w1.alloc (.cells #[] 3)).ownsRow w1.heap.size 3 1 (.slice (some ⟨w1.heap.size,0,none⟩) 0 0) 0 []):=World.ownsRow_made (base:=w1.heap.size) (e:=3) (size:=1) w1 #[] 0 (Nat.le_refl _) (by decide) rfl
 have hBe0:Hid (Below w1.heap.size w1 (w1.alloc (.cells #[] 3))):=(Below.refl _ _).alloc (Nat.le_refl _) _
 go_loopw [5,6] (fun o i wr => ∃ (k:Nat) (xs:List Int),k ≤ vs.length ∧ i=.int .i64 k ∧ Hid (xs.length=k) ∧ wr.ownsRow w1.heap.size 3 1 o xs.length (xs.map (Value.int .i64)) ∧ Hid (xs.Pairwise (· < ·)) ∧ Hid (xs.Perm ((vs.take k).map (·.1))) ∧ Hid (RangeTo f vs k) ∧ Below w1.heap.size w1 wr) (fun _ i _ => vs.length - (intOf i).toNat)
 case atStart => exact ⟨0,[],Nat.zero_le _,rfl,rfl,hR0.out,List.Pairwise.nil,List.Perm.refl _,(fun j d hj => absurd hj (by omega)),hBe0.out⟩
 case round =>
  obtain ⟨k,xs,hk,rfl,hxl,hown,hris,hperm,hrng,hbe⟩:=hrel
  have HBE:=hideI hbe
  obtain ⟨OA,oc,rfl,hord⟩:=own_read hown
  have HORD:=hideI hord
  have HBXr:=hideI ((hbe.block _ hszb).trans HBX.out)
  have hx:=row_cells HBXr.out rfl
  have hszr:w1.heap.size ≤ wr.heap.size:=hbe.size
  have hnl:xs.length ≤ vs.length:=by have:=hxl.out;omega
  obtain ⟨n,hn⟩:∃ n,n=xs.length:=⟨_,rfl⟩
  rw [← hn] at hnl
  rw [← hn] at hown
  rw [← hn]
  have HOWN:=hideI hown
  have HN:=hideI hn
  clear hown hbe hord hn
  by_cases hlt:k < vs.length
  ·obtain ⟨d,hd⟩:∃ d,vs[k]?=some d:=⟨_,List.getElem?_eq_getElem hlt⟩
   obtain ⟨g,rfl,hg,c0,c1⟩:=HVR.out k d hd
   have d0:=((Keeps.of_below HBE.out) g (k * 2) hg).trans c0
   have HD:=hideI hd
   obtain ⟨id,hid⟩:∃ id,id=d.1:=⟨_,rfl⟩
   rw [← hid] at d0
   have HID:=hideI hid
   clear hd hid c0 c1
   have hcase:(decide (np ≤ k)=false ∨ (decide (np ≤ k)=true ∧ decide (id < np)=false ∧ decide (1048576 ≤ id)=false)) ∨ ((decide (np ≤ k)=true ∧ decide (id < np)=true) ∨ (decide (np ≤ k)=true ∧ decide (id < np)=false ∧ decide (1048576 ≤ id)=true)):=by
    by_cases h1:np ≤ k <;> by_cases h2:id < np <;> by_cases h3:1048576 ≤ id <;> simp [h1,h2,h3]
   rcases hcase with hgo | hno
   ·have HRNG:Hid (RangeTo f vs (k + 1)):=by
     refine rangeTo_succ hrng.out HD.out (fun hp => ?_)
     rw [← HNP.out] at hp ⊢
     rw [← HID.out]
     rcases hgo with h | ⟨h,h2,h3⟩
     ·exact absurd hp (of_decide_eq_false h)
     ·have:=of_decide_eq_false h2
      have:=of_decide_eq_false h3
      omega
    rcases hgo with h1 | ⟨h1,h2,h3⟩
    all_goals
     go_wp2
     go_loopw [8] (fun u wr' => ∃ (z:Int) (a:Nat),a ≤ n ∧ u=.int .i64 z ∧ Hid (z=a) ∧ Hid (∀ (j:Nat) (x:Int),a ≤ j → xs[j]?=some x → id < x) ∧ wr'=wr) (fun u _ => (intOf u).toNat)
     case atStart => exact ⟨n,n,Nat.le_refl _,rfl,rfl,(fun j x hj hx => by obtain ⟨h,_⟩:=List.getElem?_eq_some_iff.1 hx;have:=HN.out;omega),rfl⟩
     case round =>
      obtain ⟨z,a,ha,rfl,hza,hup,rfl⟩:=hrel
      have hrest:(decide (0 < z)=false ∨ ∃ (x:Int),decide (0 < z)=true ∧ xs[a - 1]?=some x ∧ decide (id < x)=false ∧ (x == id)=false) ∨ (∃ (x:Int),decide (0 < z)=true ∧ xs[a - 1]?=some x ∧ (decide (id < x)=true ∨ (decide (id < x)=false ∧ (x == id)=true))):=by
       have hza':=hza.out
       by_cases h0:a=0
       ·exact .inl (.inl (by simp;omega))
       ·have hxx:xs[a - 1]?=some (xs[a - 1]'(by have:=HN.out;omega)):=List.getElem?_eq_getElem _
        have hz0:decide (0 < z)=true:=by simp;omega
        rcases Int.lt_trichotomy id (xs[a - 1]'(by have:=HN.out;omega)) with h | h | h
        ·exact .inr ⟨_,hz0,hxx,.inl (by simpa using h)⟩
        ·exact .inr ⟨_,hz0,hxx,.inr ⟨by simp;omega,by simp;omega⟩⟩
        ·exact .inl (.inr ⟨_,hz0,hxx,by simp;omega,by simp;omega⟩)
      rcases hrest with hins | ⟨x,zq1,hxx,hcmp⟩
      ·have HLOW:Hid (∀ (j:Nat) (y:Int),j < a → xs[j]?=some y → y < id):=by
        intro j y hj hy
        rcases hins with h | ⟨x,h1,h2,h3,h4⟩
        ·have h':=of_decide_eq_false h
         have:=hza.out
         omega
        ·have hxid:x < id:=by
          have h5:=of_decide_eq_false h3
          have h6:x ≠ id:=by simpa using h4
          omega
         obtain ⟨e1,e2⟩:=List.getElem?_eq_some_iff.1 hy
         obtain ⟨e3,e4⟩:=List.getElem?_eq_some_iff.1 h2
         rcases Nat.lt_or_ge j (a - 1) with hja | hja
         ·have:=List.pairwise_iff_getElem.1 hris.out j (a - 1) e1 e3 hja
          omega
         ·have:j=a - 1:=by omega
          subst this
          omega
       have hzn:z.toNat=a:=by have:=hza.out;omega
       have hz00:0 ≤ z:=by have:=hza.out;omega
       have hown:=HOWN.out
       have hnm:n < 4000000:=by omega
       rcases hins with h4 | ⟨x,zq1,hxx,h5,h6⟩
       rotate_left
       obtain ⟨g2,rfl,hgx⟩:=HORD.out (a - 1) x hxx
       have zq2:1 ≤ z:=of_decide_eq_true zq1
       have zq3:z - 1 < (n:Int):=by have:=hza.out;omega
       have zq4:(z - 1).toNat=a - 1:=by have:=hza.out;omega
       have zq5:z.toNat - 1=a - 1:=by have:=hza.out;omega
       have zq6:IntKind.i64.wrap (z - 1)=z - 1:=IntWalk.i64_in _ (by have:=hza.out;omega)
       clear hxx
       rotate_right
       all_goals
        go_wp2_with (at_builtin;refine wpList_append_lies _ rfl _ _ _ rfl w1.heap.size 3 i0 _ 1 8 Tryz.underlying22 hi hz0 hz1 hz2 rfl (by decide) _ _ _ rfl (hown.alloc _) ⟨wr.heap.size,0,none⟩ 1 1 [.int .i64 0] rfl rfl (one_new _ _) (by simp [Value.oneCell']) (by decide) (by unfold maxLen;omega) (by omega) (by simp;omega) _ rfl ?_;intro g1 cap1 w4 hown1 hgrow1 hor hgl1;have HO4:=hideI hown1;have HG4:=hideI hgrow1;clear hown1 hgrow1 hor)
        have HB4:Hid (Below w1.heap.size w1 w4):=HBE.out.trans (grown_below HG4.out HOWN.out hszr)
        have HO5:Hid (w4.ownsRow w1.heap.size 3 1 (.slice (some ⟨g1,0,none⟩) (n + 1) cap1) (n + 1) ((xs ++ [0]).map (Value.int .i64))):=by have:=HO4.out;show World.ownsRow _ _ _ _ _ _ _;rw [List.map_append];exact this
        have hg1:w1.heap.size ≤ g1:=(World.ownsRow.lt HO5.out g1 rfl).1
        clear hown
        go_loopw [9] (fun u wr' => ∃ (m:Nat) (zs:List Int),a ≤ m ∧ m ≤ n ∧ u=.int .i64 m ∧ Hid (zs.length=n + 1) ∧ Hid (∀ j,j < m → zs[j]?=xs[j]?) ∧ Hid (∀ j,m < j → zs[j]?=xs[j - 1]?) ∧ wr'.ownsRow w1.heap.size 3 1 (.slice (some ⟨g1,0,none⟩) (n + 1) cap1) (n + 1) (zs.map (Value.int .i64)) ∧ Below w1.heap.size w1 wr') (fun u _ => (intOf u).toNat)
        case atStart =>
         refine ⟨n,xs ++ [0],ha,Nat.le_refl _,by go_num,(by show (xs ++ [0]).length=n + 1;rw [HN.out];simp),(fun j hj => List.getElem?_append_left (by have:=HN.out;omega)),?_,HO5.out,HB4.out⟩
         intro j hj
         have:=HN.out
         rw [List.getElem?_eq_none (by simp;omega),List.getElem?_eq_none (by omega)]
        case round =>
         obtain ⟨m,zs,ham,hmn,rfl,hzl,hzlow,hzup,hown6,hb6⟩:=hrel
         have HO6:=hideI hown6
         have HB6:=hideI hb6
         clear hown6 hb6
         by_cases hma:a < m
         ·obtain ⟨m',rfl⟩:∃ m',m=m' + 1:=⟨m - 1,by omega⟩
          have hzm:decide (z < (m':Int) + 1)=true:=by have:=hza.out;simp;omega
          obtain ⟨y,hy⟩:∃ y,zs[m']?=some y:=⟨_,List.getElem?_eq_getElem (by have:=hzl.out;omega)⟩
          have q1:wr.cell? ⟨g1,m',none⟩=some (.int .i64 y):=by rw [World.ownsRow.cellAt HO6.out m' (by omega),List.getElem?_map,hy];rfl
          obtain ⟨y2,hy2⟩:∃ y,zs[m' + 1]?=some y:=⟨_,List.getElem?_eq_getElem (by have:=hzl.out;omega)⟩
          have q2:wr.cell? ⟨g1,m' + 1,none⟩=some (.int .i64 y2):=by rw [World.ownsRow.cellAt HO6.out (m' + 1) (by omega),List.getElem?_map,hy2];rfl
          have q3:wr.frozen? ⟨g1,m' + 1,none⟩=false:=World.ownsRow.frozenAt HO6.out (m' + 1)
          have HY:=hideI hy
          clear hy hy2
          go_wp2
          go_roundw
          case rel =>
           refine ⟨m',zs.set (m' + 1) y,by omega,by omega,rfl,by have:=hzl.out;show (zs.set (m' + 1) y).length=n + 1;rw [List.length_set];exact this,?_,?_,?_,below_stored HB6.out hg1⟩
           ·intro j hj
            rw [List.getElem?_set_ne (by omega)]
            exact hzlow.out j (by omega)
           ·intro j hj
            by_cases hj1:j=m' + 1
            ·subst hj1
             rw [List.getElem?_set_self (by have:=hzl.out;omega),Nat.add_sub_cancel,← hzlow.out m' (by omega)]
             exact HY.out.symm
            ·rw [List.getElem?_set_ne (by omega)]
             exact hzup.out j (by omega)
           ·rw [List.map_set]
            exact (World.ownsRow.stored HO6.out (m' + 1) _).1
          case measure => simp [intOf]
         ·have hmz:decide (z < (m:Int))=false:=by have:=hza.out;simp;omega
          have hme:m=a:=by omega
          obtain ⟨y2,hy2⟩:∃ y,zs[a]?=some y:=⟨_,List.getElem?_eq_getElem (by have:=hzl.out;omega)⟩
          have q2:wr.cell? ⟨g1,a,none⟩=some (.int .i64 y2):=by rw [World.ownsRow.cellAt HO6.out a (by omega),List.getElem?_map,hy2];rfl
          have q3:wr.frozen? ⟨g1,a,none⟩=false:=World.ownsRow.frozenAt HO6.out a
          have hzn2:z < (n:Int) + 1:=by have:=hza.out;omega
          have hlow':=hzlow.out
          have hup':=hzup.out
          rw [hme] at hlow' hup'
          have HIL:Hid (zs.set a id=xs.take a ++ id :: xs.drop a):=ins_list (by have:=HN.out;omega) (by have:=hzl.out;have:=HN.out;omega) hlow' hup'
          have HST:=hideI (World.ownsRow.stored HO6.out a (.int .i64 id)).1
          clear hlow' hup' hy2 hme
          go_wp2
          go_roundw
          case rel =>
           have hl2:(xs.take a ++ id :: xs.drop a).length=n + 1:=by rw [← HIL.out,List.length_set];exact hzl.out
           refine ⟨k + 1,xs.take a ++ id :: xs.drop a,by omega,by go_num,?_,?_,ins_rising hris.out HLOW.out hup.out,?_,HRNG.out,below_stored HB6.out hg1⟩
           ·show _=k + 1
            rw [hl2]
            have:=hxl.out
            have:=HN.out
            omega
           ·rw [hl2,← HIL.out,List.map_set]
            exact HST.out
           ·show List.Perm _ _
            rw [fst_take HD.out,← HID.out]
            exact ins_perm hperm.out
          case measure => simp [intOf];omega
      ·obtain ⟨g2,rfl,hgx⟩:=HORD.out (a - 1) x hxx
       have HXX:=hideI hxx
       have zq2:1 ≤ z:=of_decide_eq_true zq1
       have zq3:z - 1 < (n:Int):=by have:=hza.out;omega
       have zq4:(z - 1).toNat=a - 1:=by have:=hza.out;omega
       have zq5:z.toNat - 1=a - 1:=by have:=hza.out;omega
       have zq6:IntKind.i64.wrap (z - 1)=z - 1:=IntWalk.i64_in _ (by have:=hza.out;omega)
       clear hxx
       rcases hcmp with h4 | ⟨h4,h5⟩
       ·go_wp2
        go_roundw
        case rel =>
         refine ⟨z - 1,a - 1,by omega,rfl,(show z - 1=((a - 1:Nat):Int) by have:=hza.out;omega),?_,trivial⟩
         intro j y hj hy
         rcases Nat.lt_or_ge j a with hja | hja
         ·have hja':j=a - 1:=by omega
          rw [hja',HXX.out] at hy
          injection hy with hy
          subst hy
          exact of_decide_eq_true h4
         ·exact hup.out j y hja hy
        case measure => simp [intOf];omega
       ·have HNO:Hid (¬ IdsOk f):=by
         intro ho
         refine fst_twice HD.out ?_ (by rw [HVS.out];exact ho.2)
         rw [← HID.out]
         have hxi:x=id:=by simpa using h5
         rw [← hxi]
         exact hperm.out.subset (List.mem_of_getElem? HXX.out)
        go_wp2
        go_ret2
        exact ⟨HB1.out.trans (HBE.out.mono (by omega)),.inl ⟨HNO.out,rfl⟩⟩
   ·have HNO:Hid (¬ IdsOk f):=by
     refine range_no (k:=k) (by rw [← HVS.out];exact HD.out) ?_ ?_
     ·rw [← HNP.out]
      rcases hno with ⟨h,_⟩ | ⟨h,_⟩ <;> exact of_decide_eq_true h
     ·rw [← HNP.out,← HID.out]
      rcases hno with ⟨_,h⟩ | ⟨_,_,h⟩
      ·exact .inl (of_decide_eq_true h)
      ·exact .inr (of_decide_eq_true h)
    rcases hno with ⟨h1,h2⟩ | ⟨h1,h2,h3⟩
    all_goals
     go_wp2
     go_ret2
     exact ⟨HB1.out.trans (HBE.out.mono (by omega)),.inl ⟨HNO.out,rfl⟩⟩
  ·go_wp2
   go_ret2
   have hkv:k=vs.length:=by omega
   have hpf:xs.Perm (vs.map (·.1)):=by have:=hperm.out;rw [List.take_of_length_le (by omega)] at this;exact this
   refine ⟨HB1.out.trans (HBE.out.mono (by omega)),.inr ⟨⟨?_,?_⟩,_,xs,rfl,?_,hris.out,?_⟩⟩
   ·have:=hrng.out
    rw [hkv] at this
    rw [← HVS.out]
    exact this
   ·rw [← HVS.out]
    refine hpf.nodup_iff.1 (hris.out.imp ?_)
    intro a b hab
    omega
   ·rw [← HN.out]
    exact World.ownsRow.mono HOWN.out (Nat.le_of_lt hszb)
   ·rw [← HVS.out]
    exact hpf
end Go.Proofs.YtaehbgppfahdeaaGreat

namespace Go.Proofs.YtaehbgppfahdeaaGreat
open Go.ChangeShapes Go.WideShapes Go.ChangeAt Go.RowKit Go.Deep
section
variable {H:Type} {enc:TypeId × Value → H} {w:World}
theorem rd_fieldB {t:TypeId} {fs:Array Field} (ht:Tryz.prog.underlying t=some (.struct fs)) {fuel:Nat} {cs:List Value} {x:DataW H × List MemPlace} (h:Rd enc w fuel t cs x) (j:Nat) {f:Field} (hf:fs[j]?=some f)
  (ft:TypeId) (h1:f.type=ft) (off:Nat) (h2:f.offset=off) (hc:Tryz.prog.cellsOf ft=1) {v:Value} (hv:cs[off]?=some v):∃ n y,Rd enc w n ft [v] y ∧ Rows.uptoBulk y.1 + 1 ≤ Rows.uptoBulk x.1:=by
 subst h1 h2
 obtain ⟨ys,n,_,hx,_,hlen,hg⟩:=DataW.trod_struct ht h
 have h1:=hg j f hf
 have hj:j < ys.length:=by rw [hlen];exact (Array.getElem?_eq_some_iff.1 hf).1
 rw [List.getElem?_eq_getElem hj] at h1
 refine ⟨n,ys[j],?_,?_⟩
 ·rw [hc,drop_take_one hv] at h1
  exact h1
 ·rw [hx]
  have:=bulk_part (d:=ys[j].1) (l:=ys.map (·.1)) (List.mem_map.2 ⟨_,List.getElem_mem hj,rfl⟩)
  simp only [Rows.uptoBulk]
  omega
theorem bulk_block {B fuel:Nat} {q:BlockM} {cs:List Value} {pv cv:Value} {x:DataW H × List MemPlace} (h:Rd enc w fuel 62 cs x) (h0:cs[0]?=some pv) (h1:cs[1]?=some cv)
  (hp:PhisR w B pv q.phis) (hc:CodeR w B cv q.code):sizeB q ≤ 2 * Rows.uptoBulk x.1:=by
 obtain ⟨n0,y0,r0,z0⟩:=rd_fieldB Tryz.underlying62 h 0 rfl 57 rfl 0 rfl cells53 h0
 obtain ⟨n1,y1,r1,z1⟩:=rd_fieldB Tryz.underlying62 h 1 rfl 58 rfl 1 rfl cells50 h1
 obtain ⟨A,c,rfl,_⟩:=hp
 obtain ⟨A2,c2,rfl,_⟩:=hc
 have a:=bulk_list Tryz.underlying57 r0
 have b:=bulk_list Tryz.underlying58 r1
 unfold sizeB
 omega
theorem bulk_sum:∀ (bs:List BlockM) (D:Nat → DataW H),(∀ (i:Nat) (q:BlockM),bs[i]?=some q → sizeB q ≤ 2 * Rows.uptoBulk (D i)) → (bs.map sizeB).sum ≤ 2 * Rows.uptoBulkAll ((List.range bs.length).map D):=by
 intro bs
 induction bs with
 | nil => intro D _;simp
 | cons q bs ih =>
  intro D h
  have h0:=h 0 q rfl
  have h1:=ih (fun i => D (i + 1)) (fun i p hp => h (i + 1) p (by simpa using hp))
  rw [List.length_cons,List.range_succ_eq_map]
  simp only [List.map_cons,List.map_map,Rows.uptoBulkAll,List.sum_cons]
  have e:(List.range bs.length).map (D ∘ Nat.succ)=(List.range bs.length).map fun i => D (i + 1):=rfl
  rw [e]
  omega
theorem bulk_blocks {B fuel:Nat} {v:Value} {bs:List BlockM} {x:DataW H × List MemPlace} (h:Rd enc w fuel 23 [v] x) (hb:BlocksR w B v bs) :
  bs.length ≤ Rows.uptoBulk x.1 ∧ (bs.map sizeB).sum ≤ 2 * Rows.uptoBulk x.1:=by
 obtain ⟨A,c,rfl,_,hq⟩:=hb
 refine ⟨bulk_list Tryz.underlying23 h,?_⟩
 rcases open_slice Tryz.underlying23 h with ⟨hv,_⟩ | ⟨a,len,cap,m,k,D,Pl,hv,_,hl,hm,hmm,hx,hi⟩
 ·injection hv with hv
  injection hv with _ e1 _
  rw [List.length_eq_zero_iff.1 e1]
  simp
 ·injection hv with hv
  injection hv with e0 e1 _
  have hs:=bulk_sum bs D (fun i q hiq => by
   obtain ⟨b,off,pv,cv,tv,hA,_,c0,c1,_,_,_,_,hp,hc,_⟩:=hq i q hiq
   have hlt:i < len:=by rw [← e1];exact (List.getElem?_eq_some_iff.1 hiq).1
   simp only [if_true] at hmm
   obtain ⟨cs,hcs,hr⟩:=hi i (by omega)
   obtain ⟨_,hlen,hat⟩:=World.cells?_some hcs
   rw [cells55] at hlen hat
   rw [hA] at e0
   injection e0 with e0
   subst e0
   have g0:=hat 0 (by omega)
   have g1:=hat 1 (by omega)
   rw [Go.WideShapes.add_plain,Go.WideShapes.add_plain] at g0 g1
   exact bulk_block hr (g0.symm.trans c0) (g1.symm.trans (by rw [Nat.add_assoc];exact c1)) hp hc)
  rw [hx]
  simp only [Rows.uptoBulk]
  rw [e1] at hs
  omega
set_option maxRecDepth 100000 in
theorem bulk_func {f:FuncM} {pv bv:Value} {d:DataW H} {p:List MemPlace} (h:DataW.Trod enc Tryz.prog w 0 (fun _ => true) true 25 (.agg #[pv,.int .i64 f.arrays,.int .i64 f.cells,bv]) d p) (hF:FnIn w f pv bv)
  (hb:Rows.uptoBulk d ≤ 1048576):FewB f ∧ f.blocks.length ≤ 1048576:=by
 obtain ⟨fuel,hf⟩:=h
 have hf':Rd enc w fuel 25 [pv,.int .i64 f.arrays,.int .i64 f.cells,bv] (d,p):=hf
 obtain ⟨n0,y0,r0,z0⟩:=rd_fieldB Tryz.underlying25 hf' 0 rfl 22 rfl 0 rfl cells22 rfl
 obtain ⟨n1,y1,r1,z1⟩:=rd_fieldB Tryz.underlying25 hf' 3 rfl 23 rfl 3 rfl (by kernel_rfl) rfl
 have a:=bulk_ints hF.par r0
 have ⟨b1,b2⟩:=bulk_blocks r1 hF.blk
 simp only at z0 z1
 refine ⟨⟨by omega,?_⟩,by omega⟩
 unfold sizeM
 omega
end
end Go.Proofs.YtaehbgppfahdeaaGreat
