/- What EditBackUpto rests on, part 7: RefValues, RefIds, SPlaceM, SPlaces, SAhead. -/
import Derived.Test.YtaehbgppfahdeaaGreatPkEditBackUpto6
import Derived.Deep.Onto

namespace Go.Proofs.YtaehbgppfahdeaaGreat
open Go.RowKit
theorem val_info:(Tryz.prog.info? 74).map (fun i => (i.zero,i.size,i.bytes))=some (some (.agg #[.int .i64 0,.int .i64 0]),2,16):=by kernel_rfl
def valCells (vs:List (Int × Int)):List Value:=vs.flatMap fun d => [.int .i64 d.1,.int .i64 d.2]
def RV (w:World) (base:Nat) (v:Value) (vs:List (Int × Int)):Prop:=w.ownsRow base 74 2 v vs.length (valCells vs)
theorem RV.push {w':World} {base:Nat} {v':Value} {vs:List (Int × Int)} {a b:Int} (h:w'.ownsRow base 74 2 v' (vs.length + 1) (valCells vs ++ [.int .i64 a,.int .i64 b])):RV w' base v' (vs ++ [(a,b)]):=by
 unfold RV valCells at *
 rw [List.length_append,List.flatMap_append]
 exact h
theorem RV.alloc {w:World} {base:Nat} {v:Value} {vs:List (Int × Int)} (h:RV w base v vs) (o:Obj):RV (w.alloc o) base v vs:=World.ownsRow.alloc h o
structure Kv (base:Nat) (w w':World):Prop where
 os:w'.os=w.os
 tape:w'.tape=w.tape
 output:w'.output=w.output
 size:w.heap.size ≤ w'.heap.size
 low:∀ b,b < base → w'.heap[b]?=w.heap[b]?
 other:∀ (b:Nat) (cs:Array Value) (t:TypeId),w.heap[b]?=some (Obj.cells cs t (0,0)) → t ≠ 74 → w'.heap[b]?=some (Obj.cells cs t (0,0))
theorem Kv.refl (base:Nat) (w:World):Kv base w w:=⟨rfl,rfl,rfl,Nat.le_refl _,fun _ _ => rfl,fun _ _ _ h _ => h⟩
theorem Kv.trans {base:Nat} {a b c:World} (h:Kv base a b) (k:Kv base b c):Kv base a c :=
 ⟨k.os.trans h.os,k.tape.trans h.tape,k.output.trans h.output,Nat.le_trans h.size k.size,fun i hi => (k.low i hi).trans (h.low i hi),fun i cs t hi ht => k.other i cs t (h.other i cs t hi ht) ht⟩
theorem Kv.of_below {base:Nat} {w w':World} (h:Below w.heap.size w w') (hb:base ≤ w.heap.size):Kv base w w' :=
 ⟨h.os,h.tape,h.output,h.size,fun i hi => h.block i (by omega),fun i cs t hi _ => (h.block i (lt_of_heap hi)).trans hi⟩
theorem Kv.alloc {base:Nat} {a w:World} (h:Kv base a w) (hb:base ≤ w.heap.size) (o:Obj):Kv base a (w.alloc o):=h.trans (Kv.of_below ((Below.refl _ _).alloc (Nat.le_refl _) o) hb)
theorem Kv.drew {base:Nat} {a w:World} (h:Kv base a w):Kv base a w.drew:=h.trans ⟨rfl,rfl,rfl,Nat.le_refl _,fun _ _ => rfl,fun _ _ _ h _ => h⟩
theorem Kv.grown {base n:Nat} {w w':World} {v:Value} {xs:List Value} (hg:w.grownBy w' v.ownBlock) (ho:w.ownsRow base 74 2 v n xs) (hb:base ≤ w.heap.size):Kv base w w' :=
 ⟨hg.os,hg.tape,hg.output,hg.size,fun i hi => hg.block i (by omega) (fun e => by have:=(ho.lt i e.symm).1;omega),fun i cs t hi ht => (hg.block i (lt_of_heap hi) (own_ne' ho hi (fun e => ht e.symm))).trans hi⟩
theorem Kv.keeps {base:Nat} {w w':World} (h:Kv base w w'):Keeps base w w':=fun b o hb => World.cell?_of_block (a:=⟨b,o,none⟩) (h.low b hb)
theorem Kv.row {base g:Nat} {w w':World} {cs:Array Value} {t:TypeId} (h:Kv base w w') (hg:w.heap[g]?=some (.cells cs t (0,0))) (ht:t ≠ 74):∀ o,w'.cell? ⟨g,o,none⟩=cs[o]? :=
 row_cells hg ((h.other g cs t hg ht).trans hg.symm)
theorem Kv.below {w w':World} (h:Kv w.heap.size w w'):Below w.heap.size w w':=⟨h.os,h.tape,h.output,h.size,h.low⟩
theorem two_new (w:World) (cs:List Value) (t:TypeId):∀ (j:Nat) (u:Value),cs[j]?=some u → (w.alloc (.cells cs.toArray t)).cell? ((⟨w.heap.size,0,none⟩:Addr).add j)=some u:=five_new w cs t
def valuesInstr (x:InstrM):List (Int × Int):=if 0 < makesS x.op then [(x.id,makesS x.op)] else []
def valuesBlock (q:BlockM):List (Int × Int):=(q.phis.map fun p => (p.id,p.typ)) ++ q.code.flatMap valuesInstr
def valuesM (f:FuncM):List (Int × Int):=paramDefs 0 f.params ++ f.blocks.flatMap valuesBlock
theorem paramDefs_take {l:List Int} {k:Nat} {t:Int} (h:l[k]?=some t):paramDefs 0 (l.take (k + 1))=paramDefs 0 (l.take k) ++ [((k:Int),t)]:=by
 obtain ⟨hk,rfl⟩:=List.getElem?_eq_some_iff.1 h
 rw [List.take_succ_eq_append_getElem hk,paramDefs_snoc,List.length_take]
 congr 3
 omega
theorem valuesBlock_len (q:BlockM):(valuesBlock q).length ≤ sizeB q:=by
 unfold valuesBlock sizeB
 rw [List.length_append,List.length_map]
 have:=flat_len valuesInstr 1 q.code (fun x _ => by unfold valuesInstr;split <;> simp)
 omega
theorem values_len:∀ l:List BlockM,(l.flatMap valuesBlock).length ≤ (l.map sizeB).sum:=by
 intro l
 induction l with
 | nil => simp
 | cons q l ih =>
  rw [List.flatMap_cons,List.length_append,List.map_cons,List.sum_cons]
  have:=valuesBlock_len q
  omega
def FewV (f:FuncM):Prop:=f.params.length ≤ 16 ∧ sizeM f ≤ 4096
theorem fewv_par {f:FuncM} (h:FewV f) (k:Nat):(paramDefs 0 (f.params.take k)).length < 5000:=by
 rw [paramDefs_len,List.length_take]
 have:=h.1
 omega
theorem fewv_phi {f:FuncM} (h:FewV f) {k j:Nat} {q:BlockM} (hq:f.blocks[k]?=some q) (hj:j < q.phis.length) (vs1:List (Int × Int)) (h1:vs1=paramDefs 0 f.params ++ (f.blocks.take k).flatMap valuesBlock) :
  (vs1 ++ (q.phis.take j).map fun p => (p.id,p.typ)).length < 5000:=by
 have a:=flat_at_le valuesBlock f.blocks k q hq
 have b:=values_len f.blocks
 have c:q.phis.length ≤ (valuesBlock q).length:=by unfold valuesBlock;rw [List.length_append,List.length_map];omega
 have d:=h.1
 have e:=h.2
 unfold sizeM at e
 rw [h1]
 simp only [List.length_append,List.length_map,List.length_take,paramDefs_len]
 omega
theorem fewv_code {f:FuncM} (h:FewV f) {k j:Nat} {q:BlockM} (hq:f.blocks[k]?=some q) (vs1 vs2:List (Int × Int)) (h1:vs1=paramDefs 0 f.params ++ (f.blocks.take k).flatMap valuesBlock) (h2:vs2=vs1 ++ q.phis.map fun p => (p.id,p.typ)) :
  (vs2 ++ (q.code.take j).flatMap valuesInstr).length < 5000:=by
 have a:=flat_at_le valuesBlock f.blocks k q hq
 have b:=values_len f.blocks
 have c:q.phis.length + ((q.code.take j).flatMap valuesInstr).length ≤ (valuesBlock q).length:=by
  have:=flat_take_le valuesInstr q.code j
  unfold valuesBlock;rw [List.length_append,List.length_map];omega
 have d:=h.1
 have e:=h.2
 unfold sizeM at e
 rw [h2,h1]
 simp only [List.length_append,List.length_map,paramDefs_len]
 omega
set_option maxRecDepth 100000 in
set_option maxHeartbeats 8000000 in
theorem refValues_any (f:FuncM) (B:Nat) (pv bv:Value) (w:World) (hpv:Ints w B pv f.params) (hbv:BlocksR w B bv f.blocks) (hB:B ≤ w.heap.size) (hfew:FewV f) (hl5:f.blocks.length ≤ 512) :
  Calls Tryz.prog 37 #[.agg #[pv,.int .i64 f.arrays,.int .i64 f.cells,bv]] w fun e w' => ∃ v,e=.returned v ∧ RV w' w.heap.size v (valuesM f) ∧ Below w.heap.size w w':=by
 have HFEW:=hideI hfew
 obtain ⟨i0,hi,hz0,hz1,hz2⟩:=info_parts val_info
 obtain ⟨A,c,rfl,hbm,hbx⟩:=hbv
 obtain ⟨P,pc,rfl,hpm,hpx⟩:=hpv
 have HX:=hideI hbx
 have HP:=hideI hpx
 have hp16:=hfew.1
 clear hbx hfew hpx
 obtain ⟨W0,hW0⟩:∃ W0:World,W0=(w.alloc (.cells #[.slice P f.params.length pc,.int .i64 f.arrays,.int .i64 f.cells,.slice A f.blocks.length c] 25)).alloc (.cells #[] 74):=⟨_,rfl⟩
 have hK0:Hid (Kv w.heap.size w W0):=by rw [hW0];exact ((Kv.refl _ w).alloc (Nat.le_refl _) _).alloc (by simp) _
 have hbox0:Hid (W0.heap[w.heap.size]?=some (.cells #[.slice P f.params.length pc,.int .i64 f.arrays,.int .i64 f.cells,.slice A f.blocks.length c] 25 (0,0))):=by
  show _=_
  rw [hW0,Below.heap_alloc _ _ _ (by simp)]
  exact heap_alloc_new w _
 have hR0:Hid (RV W0 w.heap.size (.slice (some ⟨w.heap.size + 1,0,none⟩) 0 0) []):=by
  have:=World.ownsRow_made (base:=w.heap.size) (e:=74) (size:=2) (w.alloc (.cells #[.slice P f.params.length pc,.int .i64 f.arrays,.int .i64 f.cells,.slice A f.blocks.length c] 25)) #[] 0 (by simp) (by decide) rfl
  show RV W0 _ _ _
  rw [hW0]
  unfold RV
  simpa [valCells] using this
 have HW0:=hideI hW0
 clear hW0
 go_enter Tryz.func37,Tryz.ntmps37
 go_wp2
 rw [← HW0.out]
 go_loopw [3,4] (fun o i wr => ∃ k:Nat,k ≤ f.params.length ∧ i=.int .i64 k ∧ RV wr w.heap.size o (paramDefs 0 (f.params.take k)) ∧ Kv w.heap.size W0 wr) (fun _ i _ => f.params.length - (intOf i).toNat)
 case atStart => exact ⟨0,Nat.zero_le _,rfl,by simpa [paramDefs] using hR0.out,Kv.refl _ _⟩
 case round =>
  obtain ⟨k,hk,rfl,hIk,hFk⟩:=hrel
  have HIk:=hideI hIk
  have HFk:=hideI hFk
  have hx:=hFk.row hbox0.out (by decide)
  have hsz:w.heap.size < wr.heap.size:=by have h1:=hFk.size;have h2:=lt_of_heap hbox0.out;omega
  have HK:=hideI (Keeps.mono' (hK0.out.trans hFk).keeps hB)
  clear hIk hFk
  by_cases hlt:k < f.params.length
  ·obtain ⟨b3,off3,rfl,hb3,e3⟩:=HP.out k hlt
   obtain ⟨t,ht⟩:∃ t,f.params[k]?=some t:=⟨_,List.getElem?_eq_getElem hlt⟩
   rw [ht] at e3
   have f3:=(HK.out b3 (off3 + k) hb3).trans e3
   simp only [Option.getD_some] at f3
   have HT:=hideI ht
   have hfw:=fewv_par HFEW.out k
   obtain ⟨uu,huu⟩:∃ uu,uu=paramDefs 0 (f.params.take k):=⟨_,rfl⟩
   rw [← huu] at hfw HIk
   have HUU:=hideI huu
   clear e3 ht huu
   have hown:=HIk.out
   unfold RV at hown
   go_wp2_with (at_builtin;refine wpList_append_lies _ rfl _ _ _ rfl w.heap.size 74 i0 _ 2 16 Tryz.underlying71 hi hz0 hz1 hz2 rfl (by decide) _ _ _ rfl (hown.alloc _) ⟨wr.heap.size,0,none⟩ 1 1 [.int .i64 k,.int .i64 t] rfl rfl (two_new _ _ _) (by simp [Value.oneCell']) (by decide) (by unfold maxLen;omega) (by omega) (by simp;omega) _ rfl ?_;intro g1 cap1 w4 hown1 hgrow1 hor hgl1;have hka:=hideI (Kv.grown hgrow1 (hown.alloc _) (by simp;omega));have HO1:=hideI hown1;clear hown1 hgrow1 hor hgl1)
   go_roundw
   case rel => exact ⟨k + 1,by omega,by go_num,by rw [paramDefs_take HT.out,← HUU.out];exact RV.push HO1.out,(HFk.out.alloc (by omega) _).trans hka.out⟩
   case measure => simp [intOf];omega
  ·have HIend:Hid (RV wr w.heap.size u3 (paramDefs 0 f.params)):=by have:=HIk.out;rw [List.take_of_length_le (by omega)] at this;exact this
   go_wp2
   obtain ⟨wa,rfl⟩:∃ wa:World,wa=wr:=⟨_,rfl⟩
   clear hx hsz HK hlt
   go_loopw [3,5] (fun o i wr => ∃ k:Nat,k ≤ f.blocks.length ∧ i=.int .i64 k ∧ RV wr w.heap.size o (paramDefs 0 f.params ++ (f.blocks.take k).flatMap valuesBlock) ∧ Kv w.heap.size W0 wr) (fun _ i _ => f.blocks.length - (intOf i).toNat)
   case atStart => exact ⟨0,Nat.zero_le _,rfl,by simpa using HIend.out,HFk.out⟩
   case round =>
    obtain ⟨k,hk,rfl,hIk,hFk⟩:=hrel
    have HIk:=hideI hIk
    have HFk:=hideI hFk
    have hx:=hFk.row hbox0.out (by decide)
    have hsz:w.heap.size < wr.heap.size:=by have h1:=hFk.size;have h2:=lt_of_heap hbox0.out;omega
    have HK:=hideI (Keeps.mono' (hK0.out.trans hFk).keeps hB)
    clear hIk hFk
    by_cases hlt:k < f.blocks.length
    ·obtain ⟨q,hq⟩:∃ q,f.blocks[k]?=some q:=⟨_,List.getElem?_eq_getElem hlt⟩
     obtain ⟨b,off,qpv,qcv,qtv,rfl,hb,e0,e1,e2,e3,e4,e5,hpv,hcv,htv,_⟩:=HX.out k q hq
     have c0:=(HK.out b (off + k * 6) hb).trans e0
     have c1:=(HK.out b (off + k * 6 + 1) hb).trans e1
     have c2:=(HK.out b (off + k * 6 + 2) hb).trans e2
     have c3:=(HK.out b (off + k * 6 + 3) hb).trans e3
     have c4:=(HK.out b (off + k * 6 + 4) hb).trans e4
     have c5:=(HK.out b (off + k * 6 + 5) hb).trans e5
     have HQ:=hideI hq
     obtain ⟨PA,pc2,rfl,hpm2,hpx⟩:=hpv
     obtain ⟨CA,cc,rfl,hcm,hcx⟩:=hcv
     obtain ⟨TA,tc,rfl,_⟩:=htv
     have HPX:=hideI hpx
     have HCX:=hideI hcx
     clear e0 e1 e2 e3 e4 e5 hq hpx hcx
     obtain ⟨wo,rfl⟩:∃ wo:World,wo=wr:=⟨_,rfl⟩
     obtain ⟨W1,hW1⟩:∃ W1:World,W1=wo.alloc (.cells #[.slice PA q.phis.length pc2,.slice CA q.code.length cc,.int .i64 q.term.op,.int .i64 q.term.val,.slice TA q.term.to.length tc,.int .i64 q.term.n] 62):=⟨_,rfl⟩
     have HF1:Hid (Kv w.heap.size W0 W1):=by rw [hW1];exact HFk.out.alloc (by omega) _
     have HI1:Hid (RV W1 w.heap.size u3 (paramDefs 0 f.params ++ (f.blocks.take k).flatMap valuesBlock)):=by rw [hW1];exact HIk.out.alloc _
     have HB1:Hid (W1.heap[wo.heap.size]?=some (.cells #[.slice PA q.phis.length pc2,.slice CA q.code.length cc,.int .i64 q.term.op,.int .i64 q.term.val,.slice TA q.term.to.length tc,.int .i64 q.term.n] 62 (0,0))):=by rw [hW1];exact heap_alloc_new wo _
     have HW1:=hideI hW1
     clear hW1
     obtain ⟨us1,hus1⟩:∃ us1,us1=paramDefs 0 f.params ++ (f.blocks.take k).flatMap valuesBlock:=⟨_,rfl⟩
     rw [← hus1] at HI1
     have HU1:=hideI hus1
     clear hus1
     go_wp2
     rw [← HW1.out]
     go_loopw [3,7] (fun o i wr => ∃ j:Nat,j ≤ q.phis.length ∧ i=.int .i64 j ∧ RV wr w.heap.size o (us1 ++ (q.phis.take j).map fun p => (p.id,p.typ)) ∧ Kv w.heap.size W1 wr) (fun _ i _ => q.phis.length - (intOf i).toNat)
     case atStart => exact ⟨0,Nat.zero_le _,rfl,by simpa using HI1.out,Kv.refl _ _⟩
     case round =>
      obtain ⟨j,hj,rfl,hIj,hFj⟩:=hrel
      have HIj:=hideI hIj
      have HFj:=hideI hFj
      have hx1:=hFj.row HB1.out (by decide)
      have hsz1:wo.heap.size < wr.heap.size:=by have h1:=hFj.size;have h2:=lt_of_heap HB1.out;omega
      have hsz2:w.heap.size ≤ wr.heap.size:=by omega
      have HK1:=hideI (Keeps.mono' ((hK0.out.trans HF1.out).trans hFj).keeps hB)
      clear hIj hFj
      by_cases hlj:j < q.phis.length
      ·obtain ⟨p,hp⟩:∃ p,q.phis[j]?=some p:=⟨_,List.getElem?_eq_getElem hlj⟩
       obtain ⟨b2,off2,fv,vv,rfl,hb2,e0,e1,e2,e3,hf,hv,_⟩:=HPX.out j p hp
       have HQ2:=hideI hp
       have d0:=(HK1.out b2 (off2 + j * 4) hb2).trans e0
       have d1:=(HK1.out b2 (off2 + j * 4 + 1) hb2).trans e1
       have g0:wr.cell? ⟨wo.heap.size,0,none⟩=some (.slice (some ⟨b2,off2,none⟩) q.phis.length pc2):=hx1 0
       have hfw:=fewv_phi HFEW.out HQ.out hlj us1 HU1.out
       obtain ⟨uu,huu⟩:∃ uu,uu=us1 ++ (q.phis.take j).map fun p => (p.id,p.typ):=⟨_,rfl⟩
       rw [← huu] at hfw HIj
       have HUU:=hideI huu
       have hown:=HIj.out
       unfold RV at hown
       clear e0 e1 e2 e3 hp huu hx1
       have G0:Hid (∀ W,Kv w.heap.size wr W → W.cell? ⟨wo.heap.size,0,none⟩=some (.slice (some ⟨b2,off2,none⟩) q.phis.length pc2) ∧ W.cell? ⟨b2,off2 + j * 4,none⟩=some (.int .i64 p.id) ∧ W.cell? ⟨b2,off2 + j * 4 + 1,none⟩=some (.int .i64 p.typ)) :=
        fun W hW => ⟨(HFj.out.trans hW).row HB1.out (by decide) 0,(hW.keeps _ _ (by omega)).trans d0,(hW.keeps _ _ (by omega)).trans d1⟩
       go_wp2
       go_region_held3 (fun w' => w'.cell? ⟨wo.heap.size,0,none⟩=some (.slice (some ⟨b2,off2,none⟩) q.phis.length pc2) ∧ w'.cell? ⟨b2,off2 + j * 4,none⟩=some (.int .i64 p.id) ∧ w'.cell? ⟨b2,off2 + j * 4 + 1,none⟩=some (.int .i64 p.typ)) (first | go_keep | exact G0.out _ ((((Kv.refl _ wr).alloc hsz2 _).drew).trans hka) | exact G0.out _ (((Kv.refl _ wr).alloc hsz2 _).trans hka))
        (first | (refine step_append_lies _ rfl (.tmp 50) (.tmp 64) _ rfl w.heap.size 74 i0 _ 2 16 Tryz.underlying71 hi hz0 hz1 hz2 rfl (by decide) _ _ _ rfl (hown.alloc _) ⟨wr.heap.size,0,none⟩ 1 1 [.int .i64 p.id,.int .i64 p.typ] rfl rfl (two_new _ _ _) (by simp [Value.oneCell']) (by decide) (by unfold maxLen;omega) (by omega) (by simp;omega) _ rfl ?_;intro g1 cap1 w4 hown1 hgrow1 hor hgl1;have hka:=Kv.grown hgrow1 (hown.alloc _) (by simp;omega)))
       have HIN:Hid (RV w4 w.heap.size (.slice (some ⟨g1,0,none⟩) (uu.length + 1) cap1) (us1 ++ (q.phis.take (j + 1)).map fun p => (p.id,p.typ))):=by
        have:=RV.push hown1
        rw [map_take' (fun p:PhiM => (p.id,p.typ)) q.phis j p HQ2.out,← List.append_assoc,← HUU.out]
        exact this
       have HFN:Hid (Kv w.heap.size W1 w4):=(HFj.out.trans (((Kv.refl _ wr).alloc hsz2 _).drew)).trans hka
       clear hown1 hgrow1 hor hgl1 hka
       go_wp2
       go_roundw
       case rel => exact ⟨j + 1,by omega,by go_num,HIN.out,HFN.out⟩
       case measure => simp [intOf];omega
      ·have HIend:Hid (RV wr w.heap.size u3 (us1 ++ q.phis.map fun p => (p.id,p.typ))):=by have:=HIj.out;rw [List.take_of_length_le (by omega)] at this;exact this
       go_wp2
       obtain ⟨wp,rfl⟩:∃ wp:World,wp=wr:=⟨_,rfl⟩
       clear hx1 hsz1 hsz2 HK1 hlj
       obtain ⟨us3,hus3⟩:∃ us3,us3=us1 ++ q.phis.map fun p => (p.id,p.typ):=⟨_,rfl⟩
       rw [← hus3] at HIend
       have HU3:=hideI hus3
       clear hus3
       go_loopw [3,8] (fun o i wr => ∃ j:Nat,j ≤ q.code.length ∧ i=.int .i64 j ∧ RV wr w.heap.size o (us3 ++ (q.code.take j).flatMap valuesInstr) ∧ Kv w.heap.size W1 wr) (fun _ i _ => q.code.length - (intOf i).toNat)
       case atStart => exact ⟨0,Nat.zero_le _,rfl,by simpa using HIend.out,HFj.out⟩
       case round =>
        obtain ⟨j2,hj2,rfl,hIj2,hFj2⟩:=hrel
        have HIj2:=hideI hIj2
        have HFj2:=hideI hFj2
        have hx1:=hFj2.row HB1.out (by decide)
        have hsz1:wo.heap.size < wr.heap.size:=by have h1:=hFj2.size;have h2:=lt_of_heap HB1.out;omega
        have hsz0:w.heap.size ≤ wr.heap.size:=by omega
        have HK1:=hideI (Keeps.mono' ((hK0.out.trans HF1.out).trans hFj2).keeps hB)
        clear hIj2 hFj2
        by_cases hlj2:j2 < q.code.length
        ·obtain ⟨x,hp⟩:∃ x,q.code[j2]?=some x:=⟨_,List.getElem?_eq_getElem hlj2⟩
         obtain ⟨b2,off2,av,rfl,hb2,e0,e1,e2,e3,hf,_⟩:=HCX.out j2 x hp
         have d0:=(HK1.out b2 (off2 + j2 * 4) hb2).trans e0
         have d1:=(HK1.out b2 (off2 + j2 * 4 + 1) hb2).trans e1
         have HQ2:=hideI hp
         clear e0 e1 e2 e3 hp
         have hfw:=fewv_code (j:=j2) HFEW.out HQ.out us1 us3 HU1.out HU3.out
         obtain ⟨uu,huu⟩:∃ uu,uu=us3 ++ (q.code.take j2).flatMap valuesInstr:=⟨_,rfl⟩
         rw [← huu] at hfw HIj2
         have HUU:=hideI huu
         have hown:=HIj2.out
         unfold RV at hown
         clear huu
         obtain ⟨sk,hsk⟩:∃ sk,sk=(shapeS x.op).2.1:=⟨_,rfl⟩
         have HSK:Hid (makesS x.op=sk):=hsk.symm
         have HSH:Hid (shapeV x.op=.tuple #[.string ⟨(shapeS x.op).1.toArray⟩,.int .i64 sk,.int .i64 (shapeS x.op).2.2.1,.bool (shapeS x.op).2.2.2]):=by show _=_;rw [hsk];rfl
         clear hsk
         cases hm:decide (0 < sk)
         ·have hv:valuesInstr x=[]:=by unfold valuesInstr;rw [HSK.out,if_neg (by simpa using hm)]
          have HV:=hideI hv
          clear hv
          go_wp2_with (go_at_call 72;refine (shape_any _ _).mono ?_;rintro e w3 ⟨rfl,rfl⟩;rw [HSH.out])
          go_roundw
          case rel => exact ⟨j2 + 1,by omega,by go_num,by rw [flat_take' _ _ _ _ HQ2.out,HV.out,List.append_nil,← HUU.out];exact HIj2.out,HFj2.out⟩
          case measure => simp [intOf];omega
         ·have hv:valuesInstr x=[(x.id,sk)]:=by unfold valuesInstr;rw [HSK.out,if_pos (by simpa using hm)]
          have HV:=hideI hv
          clear hv
          go_wp2_with (first | (go_at_call 72;refine (shape_any _ _).mono ?_;rintro e w3 ⟨rfl,rfl⟩;rw [HSH.out]) | (at_builtin;refine wpList_append_lies _ rfl _ _ _ rfl w.heap.size 74 i0 _ 2 16 Tryz.underlying71 hi hz0 hz1 hz2 rfl (by decide) _ _ _ rfl (hown.alloc _) ⟨wr.heap.size,0,none⟩ 1 1 [.int .i64 x.id,.int .i64 sk] rfl rfl (two_new _ _ _) (by simp [Value.oneCell']) (by decide) (by unfold maxLen;omega) (by omega) (by simp;omega) _ rfl ?_;intro g1 cap1 w4 hown1 hgrow1 hor hgl1;have hka:=hideI (Kv.grown hgrow1 (hown.alloc _) (by simp;omega));have HO1:=hideI hown1;clear hown1 hgrow1 hor hgl1))
          go_roundw
          case rel => exact ⟨j2 + 1,by omega,by go_num,by rw [flat_take' _ _ _ _ HQ2.out,HV.out,← List.append_assoc,← HUU.out];exact RV.push HO1.out,(HFj2.out.alloc hsz0 _).trans hka.out⟩
          case measure => simp [intOf];omega
        ·have HIe:Hid (RV wr w.heap.size u3 (us3 ++ q.code.flatMap valuesInstr)):=by have:=HIj2.out;rw [List.take_of_length_le (by omega)] at this;exact this
         have HUB:Hid (paramDefs 0 f.params ++ (f.blocks.take (k + 1)).flatMap valuesBlock=us3 ++ q.code.flatMap valuesInstr):=by
          show _=_
          rw [flat_take' _ _ _ _ HQ.out,HU3.out,HU1.out]
          simp only [valuesBlock,List.append_assoc]
         go_wp2
         go_roundw
         case rel => exact ⟨k + 1,by omega,by go_num,by rw [HUB.out];exact HIe.out,HF1.out.trans HFj2.out⟩
         case measure => simp [intOf];omega
    ·go_wp2
     go_ret
     refine ⟨_,rfl,?_,(hK0.out.trans HFk.out).below⟩
     have:=HIk.out
     rw [List.take_of_length_le (by omega)] at this
     exact this
end Go.Proofs.YtaehbgppfahdeaaGreat

namespace Go.Proofs.YtaehbgppfahdeaaGreat
open Go.RowKit
def RangeTo (f:FuncM) (vs:List (Int × Int)) (k:Nat):Prop:=∀ (j:Nat) (d:Int × Int),j < k → vs[j]?=some d → f.params.length ≤ j → (f.params.length:Int) ≤ d.1 ∧ d.1 < 1048576
def IdsOk (f:FuncM):Prop:=RangeTo f (valuesM f) (valuesM f).length ∧ ((valuesM f).map (·.1)).Nodup
def RefIdsPost (f:FuncM) (w:World) (e:Ending) (w':World):Prop :=
 Below w.heap.size w w' ∧ ((¬ IdsOk f ∧ e=.returned (.tuple #[.slice none 0 0,.bool false])) ∨
  (IdsOk f ∧ ∃ (v:Value) (xs:List Int),e=.returned (.tuple #[v,.bool true]) ∧ w'.ownsRow w.heap.size 3 1 v xs.length (xs.map (Value.int .i64)) ∧ xs.Pairwise (· < ·) ∧ xs.Perm ((valuesM f).map (·.1))))
theorem val_at (vs:List (Int × Int)):∀ (j:Nat) (d:Int × Int),vs[j]?=some d → (valCells vs)[j * 2]?=some (.int .i64 d.1) ∧ (valCells vs)[j * 2 + 1]?=some (.int .i64 d.2):=by
 induction vs with
 | nil => intro j d h;simp at h
 | cons a l ih =>
  intro j d h
  have hc:valCells (a :: l)=.int .i64 a.1 :: .int .i64 a.2 :: valCells l:=rfl
  cases j with
  | zero => simp at h;subst h;rw [hc];exact ⟨rfl,rfl⟩
  | succ j =>
   have:=ih j d (by simpa using h)
   rw [hc,show (j + 1) * 2=j * 2 + 1 + 1 by omega]
   simpa using this
theorem RV.read {w:World} {base:Nat} {v:Value} {vs:List (Int × Int)} (h:RV w base v vs) :
  ∃ A c,v=.slice A vs.length c ∧ ∀ (j:Nat) (d:Int × Int),vs[j]?=some d → ∃ g,A=some ⟨g,0,none⟩ ∧ g < w.heap.size ∧ w.cell? ⟨g,j * 2,none⟩=some (.int .i64 d.1) ∧ w.cell? ⟨g,j * 2 + 1,none⟩=some (.int .i64 d.2):=by
 rcases Nat.eq_zero_or_pos vs.length with h0 | h0
 ·have hv:vs=[]:=List.eq_nil_of_length_eq_zero h0
  subst hv
  rcases h.2 with ⟨rfl,_⟩ | ⟨g,cap,cur,rfl,_⟩
  ·exact ⟨_,_,rfl,by simp⟩
  ·exact ⟨_,_,rfl,by simp⟩
 ·obtain ⟨g,cap,rfl,hb,hlt⟩:=World.ownsRow.form h h0
  refine ⟨_,_,rfl,fun j d hj => ⟨g,rfl,hlt,?_,?_⟩⟩
  ·obtain ⟨hjl,_⟩:=List.getElem?_eq_some_iff.1 hj
   rw [World.ownsRow.cellAt h (j * 2) (by omega)]
   exact (val_at vs j d hj).1
  ·obtain ⟨hjl,_⟩:=List.getElem?_eq_some_iff.1 hj
   rw [World.ownsRow.cellAt h (j * 2 + 1) (by omega)]
   exact (val_at vs j d hj).2
theorem own_read {w:World} {base:Nat} {v:Value} {xs:List Int} (h:w.ownsRow base 3 1 v xs.length (xs.map (Value.int .i64))) :
  ∃ A c,v=.slice A xs.length c ∧ ∀ (j:Nat) (x:Int),xs[j]?=some x → ∃ g,A=some ⟨g,0,none⟩ ∧ w.cell? ⟨g,j,none⟩=some (.int .i64 x):=by
 rcases Nat.eq_zero_or_pos xs.length with h0 | h0
 ·have hv:xs=[]:=List.eq_nil_of_length_eq_zero h0
  subst hv
  rcases h.2 with ⟨rfl,_⟩ | ⟨g,cap,cur,rfl,_⟩
  ·exact ⟨_,_,rfl,by simp⟩
  ·exact ⟨_,_,rfl,by simp⟩
 ·obtain ⟨g,cap,rfl,hb,hlt⟩:=World.ownsRow.form h h0
  refine ⟨_,_,rfl,fun j x hj => ⟨g,rfl,?_⟩⟩
  obtain ⟨hjl,_⟩:=List.getElem?_eq_some_iff.1 hj
  rw [World.ownsRow.cellAt h j (by omega),List.getElem?_map,hj]
  rfl
theorem ins_list {xs zs:List Int} {a:Nat} {id:Int} (ha:a ≤ xs.length) (hl:zs.length=xs.length + 1) (h1:∀ j,j < a → zs[j]?=xs[j]?) (h2:∀ j,a < j → zs[j]?=xs[j - 1]?):zs.set a id=xs.take a ++ id :: xs.drop a:=by
 apply List.ext_getElem?
 intro j
 rw [List.getElem?_set]
 rcases Nat.lt_trichotomy j a with h | h | h
 ·rw [if_neg (by omega),h1 j h,List.getElem?_append_left (by simp;omega),List.getElem?_take,if_pos h]
 ·subst h
  rw [if_pos rfl,if_pos (by omega),List.getElem?_append_right (by simp;omega)]
  simp [Nat.min_eq_left ha]
 ·rw [if_neg (by omega),h2 j h,List.getElem?_append_right (by simp;omega)]
  have:j - (xs.take a).length=(j - 1 - a) + 1:=by simp;omega
  rw [this,List.getElem?_cons_succ,List.getElem?_drop]
  congr 1
  omega
theorem ins_rising {xs:List Int} {a:Nat} {id:Int} (hr:xs.Pairwise (· < ·)) (h1:∀ j x,j < a → xs[j]?=some x → x < id) (h2:∀ j x,a ≤ j → xs[j]?=some x → id < x):(xs.take a ++ id :: xs.drop a).Pairwise (· < ·):=by
 have ht:∀ x ∈ xs.take a,x < id:=by
  intro x hx
  obtain ⟨i,hi⟩:=List.getElem?_of_mem hx
  rw [List.getElem?_take] at hi
  split at hi
  ·exact h1 i x (by assumption) hi
  ·cases hi
 have hd:∀ x ∈ xs.drop a,id < x:=by
  intro x hx
  obtain ⟨i,hi⟩:=List.getElem?_of_mem hx
  rw [List.getElem?_drop] at hi
  exact h2 _ x (by omega) hi
 rw [List.pairwise_append]
 refine ⟨hr.sublist (List.take_sublist ..),?_,?_⟩
 ·rw [List.pairwise_cons]
  exact ⟨hd,hr.sublist (List.drop_sublist ..)⟩
 ·intro x hx y hy
  have h3:=ht x hx
  rcases List.mem_cons.1 hy with rfl | hy
  ·exact h3
  ·have:=hd y hy
   omega
theorem ins_perm {xs l:List Int} {a:Nat} {id:Int} (h:xs.Perm l):(xs.take a ++ id :: xs.drop a).Perm (l ++ [id]):=by
 have h1:(xs.take a ++ id :: xs.drop a).Perm (id :: (xs.take a ++ xs.drop a)):=List.perm_middle
 rw [List.take_append_drop] at h1
 exact (h1.trans (h.cons id)).trans (List.perm_append_singleton id l).symm
theorem fst_take {vs:List (Int × Int)} {k:Nat} {d:Int × Int} (h:vs[k]?=some d):(vs.take (k + 1)).map (·.1)=(vs.take k).map (·.1) ++ [d.1]:=by
 obtain ⟨hk,rfl⟩:=List.getElem?_eq_some_iff.1 h
 rw [List.take_succ_eq_append_getElem hk,List.map_append]
 rfl
theorem fst_twice {vs:List (Int × Int)} {k:Nat} {d:Int × Int} (h:vs[k]?=some d) (hm:d.1 ∈ (vs.take k).map (·.1)):¬ (vs.map (·.1)).Nodup:=by
 intro hn
 have h2:((vs.take (k + 1)).map (·.1)).Nodup:=hn.sublist ((List.take_sublist ..).map _)
 rw [fst_take h,List.nodup_append] at h2
 exact h2.2.2 _ hm d.1 (by simp) rfl
theorem rangeTo_succ {f:FuncM} {vs:List (Int × Int)} {k:Nat} {d:Int × Int} (h:RangeTo f vs k) (hd:vs[k]?=some d) (hr:f.params.length ≤ k → (f.params.length:Int) ≤ d.1 ∧ d.1 < 1048576):RangeTo f vs (k + 1):=by
 intro j e hj he hp
 rcases Nat.lt_or_ge j k with hjk | hjk
 ·exact h j e hjk he hp
 ·have:j=k:=by omega
  subst this
  rw [hd] at he
  injection he with he
  subst he
  exact hr hp
theorem range_no {f:FuncM} {k:Nat} {d:Int × Int} (hd:(valuesM f)[k]?=some d) (hp:f.params.length ≤ k) (h:d.1 < f.params.length ∨ 1048576 ≤ d.1):¬ IdsOk f:=by
 intro ho
 obtain ⟨hk,_⟩:=List.getElem?_eq_some_iff.1 hd
 have:=ho.1 k d hk hd hp
 omega
theorem values_few {f:FuncM} (h:FewV f):(valuesM f).length < 5000:=by
 have h1:=h.1
 have h2:=h.2
 have h3:=values_len f.blocks
 unfold sizeM at h2
 unfold valuesM
 rw [List.length_append,paramDefs_len]
 omega
theorem grown_below {w w':World} {o:Obj} {base n:Nat} {e:TypeId} {size:Nat} {v:Value} {xs:List Value} (hg:(w.alloc o).grownBy w' v.ownBlock) (ho:w.ownsRow base e size v n xs) (hb:base ≤ w.heap.size):Below base w w' :=
 ((Below.refl base w).alloc hb o).grown hg (by simp;omega) (fun g hgg => (ho.lt g hgg).1)
theorem below_stored {B g j:Nat} {w w':World} {u:Value} (h:Below B w w') (hg:B ≤ g):Below B w (w'.setCell ⟨g,j,none⟩ u):=h.setCell hg u
set_option maxRecDepth 100000 in
set_option maxHeartbeats 16000000 in
theorem refIds_any (f:FuncM) (B:Nat) (pv bv:Value) (w:World) (hpv:Ints w B pv f.params) (hbv:BlocksR w B bv f.blocks) (hB:B ≤ w.heap.size) (hfew:FewV f) (hl5:f.blocks.length ≤ 512) :
  Calls Tryz.prog 13 #[.agg #[pv,.int .i64 f.arrays,.int .i64 f.cells,bv]] w (RefIdsPost f w):=by
 obtain ⟨i0,hi,hz0,hz1,hz2⟩:=info_parts int_info
 have HPV:=hideI hpv
 have HBV:=hideI hbv
 have HFEW:=hideI hfew
 have hvn:=values_few hfew
 obtain ⟨A,c,rfl,hbm,_⟩:=hbv
 obtain ⟨P,pc,rfl,hpm,_⟩:=hpv
 obtain ⟨np,hnp⟩:∃ np,np=f.params.length:=⟨_,rfl⟩
 have hn16:np ≤ 16:=by rw [hnp];exact hfew.1
 have HNP:=hideI hnp
 have hbox0:=hideI (heap_alloc_new w (.cells #[.slice P f.params.length pc,.int .i64 f.arrays,.int .i64 f.cells,.slice A f.blocks.length c] 25))
 have HB0:Hid (Below w.heap.size w (w.alloc (.cells #[.slice P f.params.length pc,.int .i64 f.arrays,.int .i64 f.cells,.slice A f.blocks.length c] 25))):=(Below.refl _ w).alloc (Nat.le_refl _) _
 clear hfew hnp
 go_enter Tryz.func13,Tryz.ntmps13
 go_wp2_with (go_at_call 37;refine (refValues_any f B _ _ _ (HPV.out.keeps ((Keeps.refl w).alloc hB _)) (HBV.out.keeps ((Keeps.refl w).alloc hB _)) (by simp;omega) HFEW.out hl5).mono ?_;rintro e w1 ⟨v1,rfl,hv1,hb1⟩;obtain ⟨VA,vc,rfl,hvr⟩:=RV.read hv1;have HVR:=hideI hvr;have HBX:=hideI ((hb1.block _ (lt_of_heap hbox0.out)).trans hbox0.out);have HB1:=hideI (HB0.out.trans (hb1.mono (by simp)));clear hb1 hv1 hvr)
 obtain ⟨vs,hvs⟩:∃ vs,vs=valuesM f:=⟨_,rfl⟩
 rw [← hvs] at hvn HVR
 rw [← hvs]
 rw [← HNP.out] at HBX
 have HVS:=hideI hvs
 clear hvs
 have hszb:w.heap.size < w1.heap.size:=lt_of_heap HBX.out
 have hR0:Hid ((w1.alloc (.cells #[] 3)).ownsRow w1.heap.size 3 1 (.slice (some ⟨w1.heap.size,0,none⟩) 0 0) 0 []):=World.ownsRow_made (base:=w1.heap.size) (e:=3) (size:=1) w1 #[] 0 (Nat.le_refl _) (by decide) rfl
 have hBe0:Hid (Below w1.heap.size w1 (w1.alloc (.cells #[] 3))):=(Below.refl _ _).alloc (Nat.le_refl _) _
 go_loopw [5,6] (fun o i wr => ∃ (k:Nat) (xs:List Int),k ≤ vs.length ∧ i=.int .i64 k ∧ Hid (xs.length=k) ∧ wr.ownsRow w1.heap.size 3 1 o xs.length (xs.map (Value.int .i64)) ∧ Hid (xs.Pairwise (· < ·)) ∧ Hid (xs.Perm ((vs.take k).map (·.1))) ∧ Hid (RangeTo f vs k) ∧ Below w1.heap.size w1 wr) (fun _ i _ => vs.length - (intOf i).toNat)
 case atStart => exact ⟨0,[],Nat.zero_le _,rfl,rfl,hR0.out,List.Pairwise.nil,List.Perm.refl _,(fun j d hj => absurd hj (by omega)),hBe0.out⟩
 case round =>
  obtain ⟨k,xs,hk,rfl,hxl,hown,hris,hperm,hrng,hbe⟩:=hrel
  have HBE:=hideI hbe
  obtain ⟨OA,oc,rfl,hord⟩:=own_read hown
  have HORD:=hideI hord
  have HBXr:=hideI ((hbe.block _ hszb).trans HBX.out)
  have hx:=row_cells HBXr.out rfl
  have hszr:w1.heap.size ≤ wr.heap.size:=hbe.size
  have hnl:xs.length ≤ vs.length:=by have:=hxl.out;omega
  obtain ⟨n,hn⟩:∃ n,n=xs.length:=⟨_,rfl⟩
  rw [← hn] at hnl
  rw [← hn] at hown
  rw [← hn]
  have HOWN:=hideI hown
  have HN:=hideI hn
  clear hown hbe hord hn
  by_cases hlt:k < vs.length
  ·obtain ⟨d,hd⟩:∃ d,vs[k]?=some d:=⟨_,List.getElem?_eq_getElem hlt⟩
   obtain ⟨g,rfl,hg,c0,c1⟩:=HVR.out k d hd
   have d0:=((Keeps.of_below HBE.out) g (k * 2) hg).trans c0
   have HD:=hideI hd
   obtain ⟨id,hid⟩:∃ id,id=d.1:=⟨_,rfl⟩
   rw [← hid] at d0
   have HID:=hideI hid
   clear hd hid c0 c1
   have hcase:(decide (np ≤ k)=false ∨ (decide (np ≤ k)=true ∧ decide (id < np)=false ∧ decide (1048576 ≤ id)=false)) ∨ ((decide (np ≤ k)=true ∧ decide (id < np)=true) ∨ (decide (np ≤ k)=true ∧ decide (id < np)=false ∧ decide (1048576 ≤ id)=true)):=by
    by_cases h1:np ≤ k <;> by_cases h2:id < np <;> by_cases h3:1048576 ≤ id <;> simp [h1,h2,h3]
   rcases hcase with hgo | hno
   ·have HRNG:Hid (RangeTo f vs (k + 1)):=by
     refine rangeTo_succ hrng.out HD.out (fun hp => ?_)
     rw [← HNP.out] at hp ⊢
     rw [← HID.out]
     rcases hgo with h | ⟨h,h2,h3⟩
     ·exact absurd hp (of_decide_eq_false h)
     ·have:=of_decide_eq_false h2
      have:=of_decide_eq_false h3
      omega
    rcases hgo with h1 | ⟨h1,h2,h3⟩
    all_goals
     go_wp2
     go_loopw [8] (fun u wr' => ∃ (z:Int) (a:Nat),a ≤ n ∧ u=.int .i64 z ∧ Hid (z=a) ∧ Hid (∀ (j:Nat) (x:Int),a ≤ j → xs[j]?=some x → id < x) ∧ wr'=wr) (fun u _ => (intOf u).toNat)
     case atStart => exact ⟨n,n,Nat.le_refl _,rfl,rfl,(fun j x hj hx => by obtain ⟨h,_⟩:=List.getElem?_eq_some_iff.1 hx;have:=HN.out;omega),rfl⟩
     case round =>
      obtain ⟨z,a,ha,rfl,hza,hup,rfl⟩:=hrel
      have hrest:(decide (0 < z)=false ∨ ∃ (x:Int),decide (0 < z)=true ∧ xs[a - 1]?=some x ∧ decide (id < x)=false ∧ (x == id)=false) ∨ (∃ (x:Int),decide (0 < z)=true ∧ xs[a - 1]?=some x ∧ (decide (id < x)=true ∨ (decide (id < x)=false ∧ (x == id)=true))):=by
       have hza':=hza.out
       by_cases h0:a=0
       ·exact .inl (.inl (by simp;omega))
       ·have hxx:xs[a - 1]?=some (xs[a - 1]'(by have:=HN.out;omega)):=List.getElem?_eq_getElem _
        have hz0:decide (0 < z)=true:=by simp;omega
        rcases Int.lt_trichotomy id (xs[a - 1]'(by have:=HN.out;omega)) with h | h | h
        ·exact .inr ⟨_,hz0,hxx,.inl (by simpa using h)⟩
        ·exact .inr ⟨_,hz0,hxx,.inr ⟨by simp;omega,by simp;omega⟩⟩
        ·exact .inl (.inr ⟨_,hz0,hxx,by simp;omega,by simp;omega⟩)
      rcases hrest with hins | ⟨x,zq1,hxx,hcmp⟩
      ·have HLOW:Hid (∀ (j:Nat) (y:Int),j < a → xs[j]?=some y → y < id):=by
        intro j y hj hy
        rcases hins with h | ⟨x,h1,h2,h3,h4⟩
        ·have h':=of_decide_eq_false h
         have:=hza.out
         omega
        ·have hxid:x < id:=by
          have h5:=of_decide_eq_false h3
          have h6:x ≠ id:=by simpa using h4
          omega
         obtain ⟨e1,e2⟩:=List.getElem?_eq_some_iff.1 hy
         obtain ⟨e3,e4⟩:=List.getElem?_eq_some_iff.1 h2
         rcases Nat.lt_or_ge j (a - 1) with hja | hja
         ·have:=List.pairwise_iff_getElem.1 hris.out j (a - 1) e1 e3 hja
          omega
         ·have:j=a - 1:=by omega
          subst this
          omega
       have hzn:z.toNat=a:=by have:=hza.out;omega
       have hz00:0 ≤ z:=by have:=hza.out;omega
       have hown:=HOWN.out
       have hnm:n < 5000:=by omega
       rcases hins with h4 | ⟨x,zq1,hxx,h5,h6⟩
       rotate_left
       obtain ⟨g2,rfl,hgx⟩:=HORD.out (a - 1) x hxx
       have zq2:1 ≤ z:=of_decide_eq_true zq1
       have zq3:z - 1 < (n:Int):=by have:=hza.out;omega
       have zq4:(z - 1).toNat=a - 1:=by have:=hza.out;omega
       have zq5:z.toNat - 1=a - 1:=by have:=hza.out;omega
       have zq6:IntKind.i64.wrap (z - 1)=z - 1:=IntWalk.i64_in _ (by have:=hza.out;omega)
       clear hxx
       rotate_right
       all_goals
        go_wp2_with (at_builtin;refine wpList_append_lies _ rfl _ _ _ rfl w1.heap.size 3 i0 _ 1 8 Tryz.underlying22 hi hz0 hz1 hz2 rfl (by decide) _ _ _ rfl (hown.alloc _) ⟨wr.heap.size,0,none⟩ 1 1 [.int .i64 0] rfl rfl (one_new _ _) (by simp [Value.oneCell']) (by decide) (by unfold maxLen;omega) (by omega) (by simp;omega) _ rfl ?_;intro g1 cap1 w4 hown1 hgrow1 hor hgl1;have HO4:=hideI hown1;have HG4:=hideI hgrow1;clear hown1 hgrow1 hor)
        have HB4:Hid (Below w1.heap.size w1 w4):=HBE.out.trans (grown_below HG4.out HOWN.out hszr)
        have HO5:Hid (w4.ownsRow w1.heap.size 3 1 (.slice (some ⟨g1,0,none⟩) (n + 1) cap1) (n + 1) ((xs ++ [0]).map (Value.int .i64))):=by have:=HO4.out;show World.ownsRow _ _ _ _ _ _ _;rw [List.map_append];exact this
        have hg1:w1.heap.size ≤ g1:=(World.ownsRow.lt HO5.out g1 rfl).1
        clear hown
        go_loopw [9] (fun u wr' => ∃ (m:Nat) (zs:List Int),a ≤ m ∧ m ≤ n ∧ u=.int .i64 m ∧ Hid (zs.length=n + 1) ∧ Hid (∀ j,j < m → zs[j]?=xs[j]?) ∧ Hid (∀ j,m < j → zs[j]?=xs[j - 1]?) ∧ wr'.ownsRow w1.heap.size 3 1 (.slice (some ⟨g1,0,none⟩) (n + 1) cap1) (n + 1) (zs.map (Value.int .i64)) ∧ Below w1.heap.size w1 wr') (fun u _ => (intOf u).toNat)
        case atStart =>
         refine ⟨n,xs ++ [0],ha,Nat.le_refl _,by go_num,(by show (xs ++ [0]).length=n + 1;rw [HN.out];simp),(fun j hj => List.getElem?_append_left (by have:=HN.out;omega)),?_,HO5.out,HB4.out⟩
         intro j hj
         have:=HN.out
         rw [List.getElem?_eq_none (by simp;omega),List.getElem?_eq_none (by omega)]
        case round =>
         obtain ⟨m,zs,ham,hmn,rfl,hzl,hzlow,hzup,hown6,hb6⟩:=hrel
         have HO6:=hideI hown6
         have HB6:=hideI hb6
         clear hown6 hb6
         by_cases hma:a < m
         ·obtain ⟨m',rfl⟩:∃ m',m=m' + 1:=⟨m - 1,by omega⟩
          have hzm:decide (z < (m':Int) + 1)=true:=by have:=hza.out;simp;omega
          obtain ⟨y,hy⟩:∃ y,zs[m']?=some y:=⟨_,List.getElem?_eq_getElem (by have:=hzl.out;omega)⟩
          have q1:wr.cell? ⟨g1,m',none⟩=some (.int .i64 y):=by rw [World.ownsRow.cellAt HO6.out m' (by omega),List.getElem?_map,hy];rfl
          obtain ⟨y2,hy2⟩:∃ y,zs[m' + 1]?=some y:=⟨_,List.getElem?_eq_getElem (by have:=hzl.out;omega)⟩
          have q2:wr.cell? ⟨g1,m' + 1,none⟩=some (.int .i64 y2):=by rw [World.ownsRow.cellAt HO6.out (m' + 1) (by omega),List.getElem?_map,hy2];rfl
          have q3:wr.frozen? ⟨g1,m' + 1,none⟩=false:=World.ownsRow.frozenAt HO6.out (m' + 1)
          have HY:=hideI hy
          clear hy hy2
          go_wp2
          go_roundw
          case rel =>
           refine ⟨m',zs.set (m' + 1) y,by omega,by omega,rfl,by have:=hzl.out;show (zs.set (m' + 1) y).length=n + 1;rw [List.length_set];exact this,?_,?_,?_,below_stored HB6.out hg1⟩
           ·intro j hj
            rw [List.getElem?_set_ne (by omega)]
            exact hzlow.out j (by omega)
           ·intro j hj
            by_cases hj1:j=m' + 1
            ·subst hj1
             rw [List.getElem?_set_self (by have:=hzl.out;omega),Nat.add_sub_cancel,← hzlow.out m' (by omega)]
             exact HY.out.symm
            ·rw [List.getElem?_set_ne (by omega)]
             exact hzup.out j (by omega)
           ·rw [List.map_set]
            exact (World.ownsRow.stored HO6.out (m' + 1) _).1
          case measure => simp [intOf]
         ·have hmz:decide (z < (m:Int))=false:=by have:=hza.out;simp;omega
          have hme:m=a:=by omega
          obtain ⟨y2,hy2⟩:∃ y,zs[a]?=some y:=⟨_,List.getElem?_eq_getElem (by have:=hzl.out;omega)⟩
          have q2:wr.cell? ⟨g1,a,none⟩=some (.int .i64 y2):=by rw [World.ownsRow.cellAt HO6.out a (by omega),List.getElem?_map,hy2];rfl
          have q3:wr.frozen? ⟨g1,a,none⟩=false:=World.ownsRow.frozenAt HO6.out a
          have hzn2:z < (n:Int) + 1:=by have:=hza.out;omega
          have hlow':=hzlow.out
          have hup':=hzup.out
          rw [hme] at hlow' hup'
          have HIL:Hid (zs.set a id=xs.take a ++ id :: xs.drop a):=ins_list (by have:=HN.out;omega) (by have:=hzl.out;have:=HN.out;omega) hlow' hup'
          have HST:=hideI (World.ownsRow.stored HO6.out a (.int .i64 id)).1
          clear hlow' hup' hy2 hme
          go_wp2
          go_roundw
          case rel =>
           have hl2:(xs.take a ++ id :: xs.drop a).length=n + 1:=by rw [← HIL.out,List.length_set];exact hzl.out
           refine ⟨k + 1,xs.take a ++ id :: xs.drop a,by omega,by go_num,?_,?_,ins_rising hris.out HLOW.out hup.out,?_,HRNG.out,below_stored HB6.out hg1⟩
           ·show _=k + 1
            rw [hl2]
            have:=hxl.out
            have:=HN.out
            omega
           ·rw [hl2,← HIL.out,List.map_set]
            exact HST.out
           ·show List.Perm _ _
            rw [fst_take HD.out,← HID.out]
            exact ins_perm hperm.out
          case measure => simp [intOf];omega
      ·obtain ⟨g2,rfl,hgx⟩:=HORD.out (a - 1) x hxx
       have HXX:=hideI hxx
       have zq2:1 ≤ z:=of_decide_eq_true zq1
       have zq3:z - 1 < (n:Int):=by have:=hza.out;omega
       have zq4:(z - 1).toNat=a - 1:=by have:=hza.out;omega
       have zq5:z.toNat - 1=a - 1:=by have:=hza.out;omega
       have zq6:IntKind.i64.wrap (z - 1)=z - 1:=IntWalk.i64_in _ (by have:=hza.out;omega)
       clear hxx
       rcases hcmp with h4 | ⟨h4,h5⟩
       ·go_wp2
        go_roundw
        case rel =>
         refine ⟨z - 1,a - 1,by omega,rfl,(show z - 1=((a - 1:Nat):Int) by have:=hza.out;omega),?_,trivial⟩
         intro j y hj hy
         rcases Nat.lt_or_ge j a with hja | hja
         ·have hja':j=a - 1:=by omega
          rw [hja',HXX.out] at hy
          injection hy with hy
          subst hy
          exact of_decide_eq_true h4
         ·exact hup.out j y hja hy
        case measure => simp [intOf];omega
       ·have HNO:Hid (¬ IdsOk f):=by
         intro ho
         refine fst_twice HD.out ?_ (by rw [HVS.out];exact ho.2)
         rw [← HID.out]
         have hxi:x=id:=by simpa using h5
         rw [← hxi]
         exact hperm.out.subset (List.mem_of_getElem? HXX.out)
        go_wp2
        go_ret2
        exact ⟨HB1.out.trans (HBE.out.mono (by omega)),.inl ⟨HNO.out,rfl⟩⟩
   ·have HNO:Hid (¬ IdsOk f):=by
     refine range_no (k:=k) (by rw [← HVS.out];exact HD.out) ?_ ?_
     ·rw [← HNP.out]
      rcases hno with ⟨h,_⟩ | ⟨h,_⟩ <;> exact of_decide_eq_true h
     ·rw [← HNP.out,← HID.out]
      rcases hno with ⟨_,h⟩ | ⟨_,_,h⟩
      ·exact .inl (of_decide_eq_true h)
      ·exact .inr (of_decide_eq_true h)
    rcases hno with ⟨h1,h2⟩ | ⟨h1,h2,h3⟩
    all_goals
     go_wp2
     go_ret2
     exact ⟨HB1.out.trans (HBE.out.mono (by omega)),.inl ⟨HNO.out,rfl⟩⟩
  ·go_wp2
   go_ret2
   have hkv:k=vs.length:=by omega
   have hpf:xs.Perm (vs.map (·.1)):=by have:=hperm.out;rw [List.take_of_length_le (by omega)] at this;exact this
   refine ⟨HB1.out.trans (HBE.out.mono (by omega)),.inr ⟨⟨?_,?_⟩,_,xs,rfl,?_,hris.out,?_⟩⟩
   ·have:=hrng.out
    rw [hkv] at this
    rw [← HVS.out]
    exact this
   ·rw [← HVS.out]
    refine hpf.nodup_iff.1 (hris.out.imp ?_)
    intro a b hab
    omega
   ·rw [← HN.out]
    exact World.ownsRow.mono HOWN.out (Nat.le_of_lt hszb)
   ·rw [← HVS.out]
    exact hpf
end Go.Proofs.YtaehbgppfahdeaaGreat

namespace Go.Proofs.YtaehbgppfahdeaaGreat
open Go.RowKit
abbrev Placed:=List (Int × (Nat × Int))
def placedPhis (b:Nat) (ps:List PhiM):Placed:=ps.map fun p => (p.id,(b,-1))
def placedInstr (b i:Nat) (x:InstrM):Placed:=if 0 ≤ x.id then [(x.id,(b,(i:Int)))] else []
def placedCode (b:Nat) (xs:List InstrM):Nat → Placed
 | 0 => []
 | i + 1 => placedCode b xs i ++ match xs[i]? with | some x => placedInstr b i x | none => []
def placedBlock (b:Nat) (q:BlockM):Placed:=placedPhis b q.phis ++ placedCode b q.code q.code.length
def placedBlocks (bs:List BlockM):Nat → Placed
 | 0 => []
 | b + 1 => placedBlocks bs b ++ match bs[b]? with | some q => placedBlock b q | none => []
def placedParams:Nat → Placed
 | 0 => []
 | k + 1 => placedParams k ++ [((k:Int),(0,-1))]
def placedM (f:FuncM):Placed:=placedParams f.params.length ++ placedBlocks f.blocks f.blocks.length
def Placed.last (l:Placed) (id:Int):Option (Nat × Int):=(l.reverse.find? fun d => d.1 == id).map (·.2)
def Placed.first (l:Placed) (id:Int):Option (Nat × Int):=(l.find? fun d => d.1 == id).map (·.2)
theorem Placed.last_snoc (l:Placed) (id k:Int) (v:Nat × Int):Placed.last (l ++ [(id,v)]) k=if k=id then some v else Placed.last l k:=by
 unfold Placed.last
 rw [List.reverse_append]
 show (List.find? _ ((id,v) :: l.reverse)).map _=_
 rw [List.find?_cons]
 by_cases h:k=id
 ·subst h;simp
 ·have:(id == k)=false:=by simpa using fun e => h e.symm
  simp [h,this]
theorem find_nodup {l:Placed} {id:Int} {v:Nat × Int} (h:(l.map (·.1)).Nodup) (hm:(id,v) ∈ l):l.find? (fun d => d.1 == id)=some (id,v):=by
 induction l with
 | nil => cases hm
 | cons a l ih =>
  rw [List.map_cons,List.nodup_cons] at h
  rw [List.find?_cons]
  rcases List.mem_cons.1 hm with rfl | hm
  ·simp
  ·have hne:(a.1 == id)=false:=by
    rw [beq_eq_false_iff_ne]
    intro e
    exact h.1 (by rw [e];exact List.mem_map.2 ⟨_,hm,rfl⟩)
   rw [hne]
   exact ih h.2 hm
theorem Placed.mem_of_first {l:Placed} {id:Int} {v:Nat × Int} (h:l.first id=some v):(id,v) ∈ l:=by
 unfold Placed.first at h
 rw [Option.map_eq_some_iff] at h
 obtain ⟨d,hd,rfl⟩:=h
 have h1:=List.mem_of_find?_eq_some hd
 have h2:d.1=id:=by simpa using List.find?_some hd
 rw [← h2]
 exact h1
theorem Placed.first_mem {l:Placed} {id:Int} {v:Nat × Int} (h:(l.map (·.1)).Nodup) (hm:(id,v) ∈ l):l.first id=some v:=by
 unfold Placed.first
 rw [find_nodup h hm]
 rfl
theorem Placed.last_first {l:Placed} (h:(l.map (·.1)).Nodup) (id:Int):l.last id=l.first id:=by
 have hr:((l.reverse).map (·.1)).Nodup:=by rw [List.map_reverse];exact (List.reverse_perm _).nodup_iff.2 h
 have e:l.last id=Placed.first l.reverse id:=rfl
 rw [e]
 cases h1:l.first id with
 | some v => exact Placed.first_mem hr (List.mem_reverse.2 (Placed.mem_of_first h1))
 | none =>
  cases h2:Placed.first l.reverse id with
  | none => rfl
  | some v =>
   have:=Placed.first_mem h (List.mem_reverse.1 (Placed.mem_of_first h2))
   rw [h1] at this
   cases this
theorem placedCode_len (b:Nat) (xs:List InstrM):∀ i,(placedCode b xs i).length ≤ i:=by
 intro i
 induction i with
 | zero => simp [placedCode]
 | succ i ih =>
  unfold placedCode
  rw [List.length_append]
  have:(match xs[i]? with | some x => placedInstr b i x | none => ([]:Placed)).length ≤ 1:=by
   cases xs[i]? with
   | none => simp
   | some x => unfold placedInstr;simp only;split <;> simp
  omega
theorem placedBlock_len (b:Nat) (q:BlockM):(placedBlock b q).length ≤ sizeB q:=by
 unfold placedBlock placedPhis sizeB
 rw [List.length_append,List.length_map]
 have:=placedCode_len b q.code q.code.length
 omega
theorem placedBlocks_len (bs:List BlockM):∀ b,b ≤ bs.length → (placedBlocks bs b).length ≤ ((bs.take b).map sizeB).sum:=by
 intro b
 induction b with
 | zero => intro _;simp [placedBlocks]
 | succ b ih =>
  intro hb
  have hq:bs[b]?=some bs[b]:=List.getElem?_eq_getElem (by omega)
  unfold placedBlocks
  rw [hq,List.length_append,List.take_succ_eq_append_getElem (by omega),List.map_append,List.sum_append]
  have h1:=ih (by omega)
  have h2:=placedBlock_len b bs[b]
  simp only [List.map_cons,List.map_nil,List.sum_cons,List.sum_nil]
  omega
theorem placedParams_len:∀ k,(placedParams k).length=k:=by
 intro k
 induction k with
 | zero => rfl
 | succ k ih => unfold placedParams;simp [ih]
theorem placed_few {f:FuncM} (h:FewV f) {k:Nat} {q:BlockM} (hq:f.blocks[k]?=some q) (l:Placed) (hl:l.length ≤ sizeB q):(placedParams f.params.length ++ placedBlocks f.blocks k ++ l).length < 5000:=by
 have h1:=h.1
 have h2:=h.2
 have h3:=placedBlocks_len f.blocks k (by have:=(List.getElem?_eq_some_iff.1 hq).1;omega)
 have h4:=size_take_le f.blocks k q hq
 unfold sizeM at h2
 unfold sizeB at hl
 rw [List.length_append,List.length_append,placedParams_len]
 omega
end Go.Proofs.YtaehbgppfahdeaaGreat

namespace Go.Proofs.YtaehbgppfahdeaaGreat
open Go.RowKit Go.Maps
def placeElem:Value → Option (DataW Unit × List MemPlace)
 | .agg cs => match cs.toList with
  | [.int .i64 b,.int .i64 a] => some (.agg [.lit (.int .i64 b),.lit (.int .i64 a)],[])
  | _ => none
 | _ => none
theorem placeElem_mk (b a:Int):placeElem (.agg #[.int .i64 b,.int .i64 a])=some (.agg [.lit (.int .i64 b),.lit (.int .i64 a)],[]):=rfl
theorem placeElem_inv {v:Value} {b a:Int} {ps:List MemPlace} (h:placeElem v=some (.agg [.lit (.int .i64 b),.lit (.int .i64 a)],ps)):v=.agg #[.int .i64 b,.int .i64 a]:=by
 unfold placeElem at h
 split at h
 ·rename_i cs
  split at h
  ·rename_i b' a' hc
   have h':=congrArg Prod.fst (Option.some.inj h)
   simp only [DataW.agg.injEq,List.cons.injEq,DataW.lit.injEq,Lit.int.injEq,true_and,and_true] at h'
   obtain ⟨rfl,rfl⟩:=h'
   have:cs=#[.int .i64 b',.int .i64 a']:=by
    apply Array.toList_inj.1
    exact hc
   rw [this]
  ·cases h
 ·cases h
def placeOr (o:Option (Nat × Int)) (z:DataW Unit):DataW Unit:=match o with | some v => .agg [.lit (.int .i64 (v.1:Int)),.lit (.int .i64 v.2)] | none => z
def PlacesAt (w:World) (M:Nat) (l:Placed):Prop :=
 ∃ D:DataW Unit,w.ownsMap Tryz.prog 3 placeElem M l.length D ∧ IsMap D ∧ ∀ id z,D.atKey (.int .i64 id) z=placeOr (l.last id) z
theorem PlacesAt.lt {w:World} {M:Nat} {l:Placed} (h:PlacesAt w M l):M < w.heap.size:=by
 obtain ⟨D,h,_⟩:=h
 exact h.lt
theorem PlacesAt.below {w w':World} {M B:Nat} {l:Placed} (h:PlacesAt w M l) (hb:Below B w w') (hM:M < B):PlacesAt w' M l:=by
 obtain ⟨D,⟨es,clock,hg,r⟩,q⟩:=h
 exact ⟨D,⟨es,clock,(hb.block M hM).trans hg,r⟩,q⟩
theorem PlacesAt.alloc {w:World} {M:Nat} {l:Placed} (h:PlacesAt w M l) (o:Obj):PlacesAt (w.alloc o) M l:=h.below ((Below.refl w.heap.size w).alloc (Nat.le_refl _) o) h.lt
theorem PlacesAt.new (w:World):PlacesAt (w.alloc (.map #[] 0)) w.heap.size [] :=
 ⟨.map [],World.ownsMap_made _ _ _ _,⟨[],rfl⟩,fun _ _ => rfl⟩
theorem PlacesAt.put {w':World} {M:Nat} {l:Placed} {D:DataW Unit} {id:Int} {b:Nat} {a:Int} (h2:w'.ownsMap Tryz.prog 3 placeElem M (l.length + 1) (D.put (.int .i64 id) (.agg [.lit (.int .i64 (b:Int)),.lit (.int .i64 a)])))
  (hD:IsMap D) (h:∀ id z,D.atKey (.int .i64 id) z=placeOr (l.last id) z):PlacesAt w' M (l ++ [(id,(b,a))]):=by
 refine ⟨_,by simpa using h2,IsMap.put hD _ _,?_⟩
 intro k z
 rw [Placed.last_snoc]
 by_cases hk:k=id
 ·subst hk
  rw [atKey_put_same hD (by trivial),if_pos rfl]
  rfl
 ·rw [atKey_put_other (by simpa using hk),h,if_neg hk]
theorem grown_one {w wr:World} {o:Obj} {M:Nat} (h:w.grownBy wr (some M)):w.grownBy (wr.alloc o) (some M):=h.trans_grown (World.grownBy_alloc _ _ _)
set_option maxRecDepth 100000 in
set_option maxHeartbeats 8000000 in
theorem places_any (f:FuncM) (B:Nat) (pv bv:Value) (w:World) (hpv:Ints w B pv f.params) (hbv:BlocksR w B bv f.blocks) (hB:B ≤ w.heap.size) (hfew:FewV f) (hl5:f.blocks.length ≤ 512) :
  Calls Tryz.prog 105 #[.agg #[pv,.int .i64 f.arrays,.int .i64 f.cells,bv]] w fun e w' => ∃ M,e=.returned (.map (some M)) ∧ w.heap.size ≤ M ∧ PlacesAt w' M (placedM f) ∧ Below w.heap.size w w':=by
 have HFEW:=hideI hfew
 have hmm:=@run_makeMap Tryz.prog
 obtain ⟨A,c,rfl,hbm,hbx⟩:=hbv
 obtain ⟨P,pc,rfl,hpm,_⟩:=hpv
 have HX:=hideI hbx
 have hp16:=hfew.1
 clear hbx hfew
 obtain ⟨np,hnp⟩:∃ np,np=f.params.length:=⟨_,rfl⟩
 have HNP:=hideI hnp
 rw [← hnp] at hp16 hpm ⊢
 obtain ⟨nb,hnb⟩:∃ nb,nb=f.blocks.length:=⟨_,rfl⟩
 have HNB:=hideI hnb
 rw [← hnb] at hl5 hbm ⊢
 obtain ⟨W0,hW0⟩:∃ W0:World,W0=(w.alloc (.cells #[.slice P np pc,.int .i64 f.arrays,.int .i64 f.cells,.slice A nb c] 25)).alloc (.map #[] 0):=⟨_,rfl⟩
 have hsz0:W0.heap.size=w.heap.size + 2:=by rw [hW0];simp
 have hK0:Hid (Below w.heap.size w W0):=by rw [hW0];exact hideI (((Below.refl _ w).alloc (Nat.le_refl _) _).alloc (by simp) _)
 have hbox0:Hid (W0.heap[w.heap.size]?=some (.cells #[.slice P np pc,.int .i64 f.arrays,.int .i64 f.cells,.slice A nb c] 25 (0,0))):=by
  show _=_
  rw [hW0,Below.heap_alloc _ _ _ (by simp)]
  exact heap_alloc_new w _
 have hM0:Hid (PlacesAt W0 (w.heap.size + 1) []):=by
  have:=PlacesAt.new (w.alloc (.cells #[.slice P np pc,.int .i64 f.arrays,.int .i64 f.cells,.slice A nb c] 25))
  rw [hW0]
  exact hideI (by simpa using this)
 have HW0:=hideI hW0
 have HSZ0:=hideI hsz0
 clear hW0 hnp hnb hsz0
 go_enter Tryz.func105,Tryz.ntmps105
 go_wp2
 rw [← HW0.out]
 go_loopw [15] (fun i wr => ∃ k:Nat,k ≤ np ∧ i=.int .i64 k ∧ Hid (PlacesAt wr (w.heap.size + 1) (placedParams k)) ∧ Hid (W0.grownBy wr (some (w.heap.size + 1)))) (fun i _ => np - (intOf i).toNat)
 case atStart => exact ⟨0,Nat.zero_le _,rfl,hM0,hideI (World.grownBy.refl W0 _)⟩
 case round =>
  obtain ⟨k,hk,rfl,HM,HG⟩:=hrel
  have hx:=row_cells hbox0.out (HG.out.block w.heap.size (by rw [HSZ0.out];omega) (by simp))
  by_cases hlt:k < np
  ·obtain ⟨D,hown,hD,hat⟩:=HM.out
   rw [placedParams_len] at hown
   have HAT:=hideI hat
   have HIS:=hideI hD
   have HOWN:=hideI hown
   have hIk:Hid (I64 k):=by show I64 _;unfold I64;exact WalkArith.wf_i64 (by omega)
   clear hown hD hat
   go_wp2_with (at_mapUpdate;refine wpList_mapUpdate_own _ rfl _ _ _ 121 rfl 3 223 lawInt Tryz.underlying121 placeElem (w.heap.size + 1) k _ rfl HOWN.out (by unfold maxLen;omega) _ _ _ rfl rfl (keyOf_int_mk Tryz.underlying3 hIk.out) _ [] (placeElem_mk _ _) ?_;intro w1 hown1 hgrow1;have HO1:=hideI hown1;have HG1:=hideI hgrow1;clear hown1 hgrow1)
   go_roundw
   case rel => exact ⟨k + 1,by omega,by go_num,hideI (PlacesAt.put (b:=0) (by rw [placedParams_len];exact HO1.out) HIS.out HAT.out),hideI (HG.out.trans_grown HG1.out)⟩
   case measure => simp [intOf];omega
  ·obtain rfl:k=np:=by omega
   go_wp2
   obtain ⟨wa,rfl⟩:∃ wa:World,wa=wr:=⟨_,rfl⟩
   clear hx hlt
   go_loopw [25] (fun i wr => ∃ j:Nat,j ≤ nb ∧ i=.int .i64 j ∧ Hid (PlacesAt wr (w.heap.size + 1) (placedParams k ++ placedBlocks f.blocks j)) ∧ Hid (W0.grownBy wr (some (w.heap.size + 1)))) (fun i _ => nb - (intOf i).toNat)
   case atStart => exact ⟨0,Nat.zero_le _,rfl,by simpa [placedBlocks] using HM,HG⟩
   case round =>
    obtain ⟨j,hj,rfl,HM,HG⟩:=hrel
    have hx:=row_cells hbox0.out (HG.out.block w.heap.size (by rw [HSZ0.out];omega) (by simp))
    have hgs:=HG.out.size
    rw [HSZ0.out] at hgs
    have HK:=hideI (Keeps.trans (Keeps.of_below (hK0.out.mono hB)) (Keeps.of_grown (B:=B) HG.out (by omega) (by rw [HSZ0.out];omega)))
    by_cases hlt:j < nb
    ·obtain ⟨q,hq⟩:∃ q,f.blocks[j]?=some q:=⟨_,List.getElem?_eq_getElem (by rw [← HNB.out];exact hlt)⟩
     obtain ⟨b,off,qpv,qcv,qtv,rfl,hb,e0,e1,e2,e3,e4,e5,hpv,hcv,htv,_⟩:=HX.out j q hq
     have c0:=(HK.out b (off + j * 6) hb).trans e0
     have c1:=(HK.out b (off + j * 6 + 1) hb).trans e1
     have c2:=(HK.out b (off + j * 6 + 2) hb).trans e2
     have c3:=(HK.out b (off + j * 6 + 3) hb).trans e3
     have c4:=(HK.out b (off + j * 6 + 4) hb).trans e4
     have c5:=(HK.out b (off + j * 6 + 5) hb).trans e5
     have HQ:=hideI hq
     obtain ⟨PA,pc2,rfl,hpm2,hpx⟩:=hpv
     obtain ⟨CA,cc,rfl,hcm,hcx⟩:=hcv
     obtain ⟨TA,tc,rfl,_⟩:=htv
     have HPX:=hideI hpx
     have HCX:=hideI hcx
     obtain ⟨nq,hnq⟩:∃ nq,nq=q.phis.length:=⟨_,rfl⟩
     obtain ⟨nc,hnc⟩:∃ nc,nc=q.code.length:=⟨_,rfl⟩
     have HNQ:=hideI hnq
     have HNC:=hideI hnc
     rw [← hnq] at c0 hpm2
     rw [← hnc] at c1 hcm
     have hfw:Hid (∀ l:Placed,l.length ≤ sizeB q → (placedParams k ++ placedBlocks f.blocks j ++ l).length < 5000):=hideI (fun l hl => by have:=placed_few HFEW.out HQ.out l hl;rw [← HNP.out] at this;exact this)
     clear e0 e1 e2 e3 e4 e5 hq hpx hcx hnq hnc
     obtain ⟨wo,rfl⟩:∃ wo:World,wo=wr:=⟨_,rfl⟩
     obtain ⟨W1,hW1⟩:∃ W1:World,W1=wo.alloc (.cells #[.slice PA nq pc2,.slice CA nc cc,.int .i64 q.term.op,.int .i64 q.term.val,.slice TA q.term.to.length tc,.int .i64 q.term.n] 62):=⟨_,rfl⟩
     have HG1:Hid (W0.grownBy W1 (some (w.heap.size + 1))):=by rw [hW1];exact hideI (grown_one HG.out)
     have HM1:Hid (PlacesAt W1 (w.heap.size + 1) (placedParams k ++ placedBlocks f.blocks j)):=by rw [hW1];exact hideI (HM.out.alloc _)
     have HB1:Hid (W1.heap[wo.heap.size]?=some (.cells #[.slice PA nq pc2,.slice CA nc cc,.int .i64 q.term.op,.int .i64 q.term.val,.slice TA q.term.to.length tc,.int .i64 q.term.n] 62 (0,0))):=by rw [hW1];exact hideI (heap_alloc_new wo _)
     have HW1:=hideI hW1
     clear hW1
     obtain ⟨l1,hl1⟩:∃ l1,l1=placedParams k ++ placedBlocks f.blocks j:=⟨_,rfl⟩
     have HL1:=hideI hl1
     rw [← hl1] at HM1 hfw
     clear hl1
     go_wp2
     rw [← HW1.out]
     go_loopw [33] (fun i wr => ∃ m:Nat,m ≤ nq ∧ i=.int .i64 m ∧ Hid (PlacesAt wr (w.heap.size + 1) (l1 ++ placedPhis j (q.phis.take m))) ∧ Hid (W1.grownBy wr (some (w.heap.size + 1)))) (fun i _ => nq - (intOf i).toNat)
     case atStart => exact ⟨0,Nat.zero_le _,rfl,by simpa [placedPhis] using HM1,hideI (World.grownBy.refl W1 _)⟩
     case round =>
      obtain ⟨m,hm,rfl,HMm,HGm⟩:=hrel
      have HGa:=hideI (HG1.out.trans_grown HGm.out)
      have hgs1:=HGa.out.size
      rw [HSZ0.out] at hgs1
      have HK1:=hideI (Keeps.trans (Keeps.of_below (hK0.out.mono hB)) (Keeps.of_grown (B:=B) HGa.out (by omega) (by rw [HSZ0.out];omega)))
      have hx1:=row_cells HB1.out (HGm.out.block wo.heap.size (lt_of_heap HB1.out) (by simp;omega))
      by_cases hlm:m < nq
      ·obtain ⟨p,hp⟩:∃ p,q.phis[m]?=some p:=⟨_,List.getElem?_eq_getElem (by rw [← HNQ.out];exact hlm)⟩
       obtain ⟨b2,off2,fv,vv,rfl,hb2,e0,e1,e2,e3,⟨FA,fc,rfl,_⟩,⟨VA,vc,rfl,_⟩,hpi,_⟩:=HPX.out m p hp
       have d0:=(HK1.out b2 (off2 + m * 4) hb2).trans e0
       have d1:=(HK1.out b2 (off2 + m * 4 + 1) hb2).trans e1
       have d2:=(HK1.out b2 (off2 + m * 4 + 2) hb2).trans e2
       have d3:=(HK1.out b2 (off2 + m * 4 + 3) hb2).trans e3
       have HP2:=hideI hp
       have HPI:=hideI hpi
       obtain ⟨D,hown,hD,hat⟩:=HMm.out
       have hln:=hfw.out (placedPhis j (q.phis.take m)) (by unfold placedPhis sizeB;rw [List.length_map,List.length_take];omega)
       obtain ⟨n,hn⟩:∃ n,n=(l1 ++ placedPhis j (q.phis.take m)).length:=⟨_,rfl⟩
       rw [← hn] at hown hln
       have HN:=hideI hn
       have HAT:=hideI hat
       have HIS:=hideI hD
       have HOWN:=hideI hown
       clear e0 e1 e2 e3 hp hpi hown hD hat hn
       go_wp2_with (at_mapUpdate;refine wpList_mapUpdate_own _ rfl _ _ _ 121 rfl 3 223 lawInt Tryz.underlying121 placeElem (w.heap.size + 1) n _ rfl (HOWN.out.alloc _) (by unfold maxLen;omega) _ _ _ rfl rfl (keyOf_int_mk Tryz.underlying3 HPI.out) _ [] (placeElem_mk _ _) ?_;intro w1 hown1 hgrow1;have HO1:=hideI hown1;have HG3:=hideI ((World.grownBy_alloc wr _ (some (w.heap.size + 1))).trans_grown hgrow1);clear hown1 hgrow1)
       go_roundw
       case rel =>
        refine ⟨m + 1,by omega,by go_num,?_,hideI (HGm.out.trans_grown HG3.out)⟩
        have:=PlacesAt.put (b:=j) (by rw [← HN.out];exact HO1.out) HIS.out HAT.out
        rw [List.append_assoc] at this
        have e:placedPhis j (q.phis.take (m + 1))=placedPhis j (q.phis.take m) ++ [(p.id,(j,-1))]:=by
         unfold placedPhis
         exact map_take' _ q.phis m p HP2.out
        rw [e]
        exact hideI this
       case measure => simp [intOf];omega
      ·have HMe:Hid (PlacesAt wr (w.heap.size + 1) (l1 ++ placedPhis j q.phis)):=by have:=HMm.out;rw [List.take_of_length_le (by rw [← HNQ.out];omega)] at this;exact hideI this
       go_wp2
       obtain ⟨wp,rfl⟩:∃ wp:World,wp=wr:=⟨_,rfl⟩
       clear hx1 HK1 hlm HMm
       go_loopw [46] (fun i wr => ∃ m:Nat,m ≤ nc ∧ i=.int .i64 m ∧ Hid (PlacesAt wr (w.heap.size + 1) (l1 ++ (placedPhis j q.phis ++ placedCode j q.code m))) ∧ Hid (W1.grownBy wr (some (w.heap.size + 1)))) (fun i _ => nc - (intOf i).toNat)
       case atStart => exact ⟨0,Nat.zero_le _,rfl,by simpa [placedCode] using HMe,HGm⟩
       case round =>
        obtain ⟨m,hm,rfl,HMm,HGm⟩:=hrel
        have HGa:=hideI (HG1.out.trans_grown HGm.out)
        have hgs1:=HGa.out.size
        rw [HSZ0.out] at hgs1
        have HK1:=hideI (Keeps.trans (Keeps.of_below (hK0.out.mono hB)) (Keeps.of_grown (B:=B) HGa.out (by omega) (by rw [HSZ0.out];omega)))
        have hx1:=row_cells HB1.out (HGm.out.block wo.heap.size (lt_of_heap HB1.out) (by simp;omega))
        by_cases hlm:m < nc
        ·obtain ⟨p,hp⟩:∃ p,q.code[m]?=some p:=⟨_,List.getElem?_eq_getElem (by rw [← HNC.out];exact hlm)⟩
         obtain ⟨b2,off2,av,rfl,hb2,e0,e1,e2,e3,⟨FA,fc,rfl,_⟩,_,hpi,_⟩:=HCX.out m p hp
         have d0:=(HK1.out b2 (off2 + m * 4) hb2).trans e0
         have d1:=(HK1.out b2 (off2 + m * 4 + 1) hb2).trans e1
         have d2:=(HK1.out b2 (off2 + m * 4 + 2) hb2).trans e2
         have d3:=(HK1.out b2 (off2 + m * 4 + 3) hb2).trans e3
         have HP2:=hideI hp
         have HPI:=hideI hpi
         have HSU:Hid (placedCode j q.code (m + 1)=placedCode j q.code m ++ placedInstr j m p):=by show _=_;rw [placedCode,hp]
         obtain ⟨D,hown,hD,hat⟩:=HMm.out
         have hln:=hfw.out (placedPhis j q.phis ++ placedCode j q.code m) (by unfold placedPhis sizeB;rw [List.length_append,List.length_map];have:=placedCode_len j q.code m;have:=HNC.out;omega)
         obtain ⟨n,hn⟩:∃ n,n=(l1 ++ (placedPhis j q.phis ++ placedCode j q.code m)).length:=⟨_,rfl⟩
         rw [← hn] at hown hln
         have HN:=hideI hn
         have HAT:=hideI hat
         have HIS:=hideI hD
         have HOWN:=hideI hown
         clear e0 e1 e2 e3 hp hpi hown hD hat hn
         by_cases hid:0 ≤ p.id
         ·go_wp2_with (at_mapUpdate;refine wpList_mapUpdate_own _ rfl _ _ _ 121 rfl 3 223 lawInt Tryz.underlying121 placeElem (w.heap.size + 1) n _ rfl (HOWN.out.alloc _) (by unfold maxLen;omega) _ _ _ rfl rfl (keyOf_int_mk Tryz.underlying3 HPI.out) _ [] (placeElem_mk _ _) ?_;intro w1 hown1 hgrow1;have HO1:=hideI hown1;have HG3:=hideI ((World.grownBy_alloc wr _ (some (w.heap.size + 1))).trans_grown hgrow1);clear hown1 hgrow1)
          go_roundw
          case rel =>
           refine ⟨m + 1,by omega,by go_num,?_,hideI (HGm.out.trans_grown HG3.out)⟩
           have:=PlacesAt.put (b:=j) (by rw [← HN.out];exact HO1.out) HIS.out HAT.out
           rw [HSU.out]
           unfold placedInstr
           rw [if_pos hid]
           rw [List.append_assoc,List.append_assoc] at this
           exact hideI this
          case measure => simp [intOf];omega
         ·go_wp2
          go_roundw
          case rel =>
           refine ⟨m + 1,by omega,by go_num,?_,hideI (grown_one HGm.out)⟩
           rw [HSU.out]
           unfold placedInstr
           rw [if_neg hid,List.append_nil]
           exact hideI (HMm.out.alloc _)
          case measure => simp [intOf];omega
        ·have HMe:Hid (PlacesAt wr (w.heap.size + 1) (placedParams k ++ placedBlocks f.blocks (j + 1))):=by
          have h1:=HMm.out
          have h2:m=q.code.length:=by have:=HNC.out;omega
          rw [h2,HL1.out] at h1
          show PlacesAt _ _ _
          rw [placedBlocks,HQ.out,← List.append_assoc]
          exact h1
         go_wp2
         go_roundw
         case rel => exact ⟨j + 1,by omega,by go_num,HMe,HGa⟩
         case measure => simp [intOf];omega
    ·have HMe:Hid (PlacesAt wr (w.heap.size + 1) (placedM f)):=by
      have h1:=HM.out
      have h2:j=f.blocks.length:=by have:=HNB.out;omega
      rw [h2,HNP.out] at h1
      exact h1
     go_wp2
     go_ret
     exact ⟨w.heap.size + 1,rfl,by omega,HMe.out,hK0.out.grown HG.out (by rw [HSZ0.out];omega) (by intro k hk;injection hk with hk;omega)⟩
end Go.Proofs.YtaehbgppfahdeaaGreat

namespace Go.Proofs.YtaehbgppfahdeaaGreat
open Go.RowKit Go.Maps
structure SF (w:World) (B:Nat) (f:FuncM) (bv:Value) (gF gL gp M:Nat) (F L:Nat → Int):Prop where
 blk:BlocksR w B bv f.blocks
 hF:gF < B
 hL:gL < B
 hp:gp < B
 hM:M < B
 cF:∀ b,b < f.blocks.length → w.cell? ⟨gF,b,none⟩=some (.int .i64 (F b))
 cL:∀ b,b < f.blocks.length → w.cell? ⟨gL,b,none⟩=some (.int .i64 (L b))
 prd:∀ b,b < f.blocks.length → ∃ v,w.cell? ⟨gp,b,none⟩=some v ∧ Ints w B v ((predsTo f.blocks f.blocks.length b).map fun (x:Nat) => (x:Int))
 map:PlacesAt w M (placedM f)
theorem SF.kept {w w':World} {B:Nat} {f:FuncM} {bv:Value} {gF gL gp M:Nat} {F L:Nat → Int} (h:SF w B f bv gF gL gp M F L) (hb:Below B w w'):SF w' B f bv gF gL gp M F L :=
 ⟨h.blk.keeps (Keeps.of_below hb),h.hF,h.hL,h.hp,h.hM,fun b hbn => (hb.cell (p:=⟨gF,b,none⟩) h.hF).trans (h.cF b hbn),fun b hbn => (hb.cell (p:=⟨gL,b,none⟩) h.hL).trans (h.cL b hbn),
  fun b hbn => by obtain ⟨v,h1,h2⟩:=h.prd b hbn;exact ⟨v,(hb.cell (p:=⟨gp,b,none⟩) h.hp).trans h1,h2.keeps (Keeps.of_below hb)⟩,h.map.below hb h.hM⟩
set_option maxHeartbeats 400000 in
theorem sComeTo_any (n gF gL b:Nat) (z:Int) (w:World) (_hn5:n ≤ 512) (_hb:b < n) (_hgF:gF < w.heap.size) (_hc:w.cell? ⟨gF,b,none⟩=some (.int .i64 z)) :
  Calls Tryz.prog 106 #[.agg #[.slice (some ⟨gF,0,none⟩) n n,.slice (some ⟨gL,0,none⟩) n n],.int .i64 b] w fun e w' => e=.returned (.bool (z != -1)) ∧ Below w.heap.size w w':=by
 have hne:gF ≠ w.heap.size:=by omega
 go_enter Tryz.func106,Tryz.ntmps106
 go_wp2
 go_ret
 exact ⟨rfl,(Below.refl _ _).alloc (Nat.le_refl _) _⟩
def domB (F L:Nat → Int) (a b:Nat):Bool:=decide (F a ≤ F b) && decide (F b ≤ L a)
set_option maxHeartbeats 1000000 in
theorem sDominates_any (n gF gL a b:Nat) (F L:Nat → Int) (w:World) (_hn5:n ≤ 512) (_ha:a < n) (_hb:b < n) (_hgF:gF < w.heap.size) (_hgL:gL < w.heap.size)
  (hFa:w.cell? ⟨gF,a,none⟩=some (.int .i64 (F a))) (hFb:w.cell? ⟨gF,b,none⟩=some (.int .i64 (F b))) (hLa:w.cell? ⟨gL,a,none⟩=some (.int .i64 (L a))) :
  Calls Tryz.prog 199 #[.agg #[.slice (some ⟨gF,0,none⟩) n n,.slice (some ⟨gL,0,none⟩) n n],.int .i64 a,.int .i64 b] w fun e w' => e=.returned (.bool (domB F L a b)) ∧ Below w.heap.size w w':=by
 have hn1:gF ≠ w.heap.size:=by omega
 have hn2:gL ≠ w.heap.size:=by omega
 obtain ⟨x,hx⟩:∃ x,x=F a:=⟨_,rfl⟩
 obtain ⟨y,hy⟩:∃ y,y=F b:=⟨_,rfl⟩
 obtain ⟨z,hz⟩:∃ z,z=L a:=⟨_,rfl⟩
 rw [← hx] at hFa
 rw [← hy] at hFb
 rw [← hz] at hLa
 have hd:domB F L a b=(decide (x ≤ y) && decide (y ≤ z)):=by unfold domB;rw [← hx,← hy,← hz]
 have HD:=hideI hd
 have HB0:Hid (Below w.heap.size w (w.alloc (.cells #[.slice (some ⟨gF,0,none⟩) n n,.slice (some ⟨gL,0,none⟩) n n] 120))):=(Below.refl _ _).alloc (Nat.le_refl _) _
 clear hx hy hz hd
 cases h1:decide (x ≤ y)
 ·have H1:=hideI h1
  go_enter Tryz.func199,Tryz.ntmps199
  go_wp2
  go_quiet (fail)
  go_wp2
  go_ret
  exact ⟨by rw [HD.out,H1.out];rfl,drew_below HB0.out _⟩
 ·have H1:=hideI h1
  go_enter Tryz.func199,Tryz.ntmps199
  go_wp2
  go_quiet (fail)
  go_wp2
  go_ret
  exact ⟨by rw [HD.out,H1.out];rfl,drew_below HB0.out _⟩
set_option maxHeartbeats 400000 in
theorem usesValue_any (op val n:Int) (tv:Value) (w:World) (TA:Option Addr) (tl tc:Nat) (htv:tv=.slice TA tl tc) :
  Calls Tryz.prog 157 #[.agg #[.int .i64 op,.int .i64 val,tv,.int .i64 n]] w fun e w' => e=.returned (.bool ((op == 2) || (op == 3))) ∧ Below w.heap.size w w':=by
 subst htv
 have HB0:Hid (Below w.heap.size w (w.alloc (.cells #[.int .i64 op,.int .i64 val,.slice TA tl tc,.int .i64 n] 60))):=(Below.refl _ _).alloc (Nat.le_refl _) _
 cases h2:op == 2
 ·have H2:=hideI h2
  go_enter Tryz.func157,Tryz.ntmps157
  go_wp2
  go_ret
  exact ⟨by simp,HB0.out⟩
 ·have H2:=hideI h2
  go_enter Tryz.func157,Tryz.ntmps157
  go_wp2
  go_ret
  exact ⟨by simp,HB0.out⟩
set_option maxHeartbeats 1000000 in
theorem endOf_any (f:FuncM) (B:Nat) (pv bv:Value) (b:Nat) (q:BlockM) (w:World) (hbv:BlocksR w B bv f.blocks) (_hB:B ≤ w.heap.size) (hq:f.blocks[b]?=some q) (_hn5:f.blocks.length ≤ 512) (P:Option Addr) (pl pc:Nat) (hpv:pv=.slice P pl pc) :
  Calls Tryz.prog 156 #[.agg #[pv,.int .i64 f.arrays,.int .i64 f.cells,bv],.int .i64 b] w fun e w' => e=.returned (.agg #[.int .i64 b,.int .i64 (q.code.length:Int)]) ∧ Below w.heap.size w w':=by
 subst hpv
 have hbn:=(List.getElem?_eq_some_iff.1 hq).1
 obtain ⟨A,c,rfl,hbm,hbx⟩:=hbv
 obtain ⟨b1,off,qpv,qcv,qtv,rfl,hb1,e0,e1,e2,e3,e4,e5,hpv,hcv,htv,_⟩:=hbx b q hq
 obtain ⟨CA,cc,rfl,hcm,hcx⟩:=hcv
 have hne0:b1 ≠ w.heap.size:=by omega
 have hne1:b1 ≠ w.heap.size + 1:=by omega
 have hlt1:b1 < w.heap.size:=by omega
 obtain ⟨m,hm⟩:∃ m,m=q.code.length:=⟨_,rfl⟩
 obtain ⟨n,hn⟩:∃ n,n=f.blocks.length:=⟨_,rfl⟩
 rw [← hm] at e1 hcm ⊢
 rw [← hn] at _hn5 hbn hbm ⊢
 have HB0:Hid (∀ u v:Value,Below w.heap.size w ((w.alloc (.cells #[.slice P pl pc,.int .i64 f.arrays,.int .i64 f.cells,.slice (some ⟨b1,off,none⟩) n c] 25)).alloc (.cells #[u,v] 223))):=hideI (fun u v => ((Below.refl _ _).alloc (Nat.le_refl _) _).alloc (by simp) _)
 clear hbx hcx hpv htv e0 e2 e3 e4 e5 hq hm hn
 go_enter Tryz.func156,Tryz.ntmps156
 go_wp2
 refine bodyPost_ret (v:=.agg #[.int .i64 b,.int .i64 (m:Int)]) (by simp [results,Tryz.results156,go_sem]) rfl ⟨rfl,HB0.out _ _⟩
theorem wpList_lookup_places {P:Program} (w:World) {ops:Array Oper} {rest:List Oper} {o:Oper} {a:Act} {Q:Exit → Act → World → Prop}
  (hg:o.guard=none) (m x:Operand) (t:TypeId) (hop:o.op=Op.lookup t m x false)
  (k e:TypeId) (K:Keyed P k) (ht:P.underlying t=some (.map k e)) (hz:(zeroValue e).run P w=.ok (.agg #[.int .i64 0,.int .i64 0]) w) (b n:Nat) (D:DataW Unit)
  (hm:a.eval m=.map (some b)) (hown:w.ownsMap P k placeElem b n D) (key:Value) (kl:Lit) (hx:a.eval x=key) (hkey:keyOf P k key=some kl) (mb:Nat) (ma:Int)
  (hat:∀ z,D.atKey kl z=placeOr (some (mb,ma)) z)
  (hK:wpList P ops Q rest (a.put o.dst (.agg #[.int .i64 (mb:Int),.int .i64 ma])) w) :
  wpList P ops Q (o :: rest) a w:=by
 refine wpList_plain hg fun K' hK' => ?_
 obtain ⟨v,ps,hrun,hv⟩:=hown.lookup K ht hz (placeElem_mk 0 0) hkey
 rw [hat] at hv
 obtain rfl:=placeElem_inv hv
 unfold Oper.wp
 simp [execOp,hop,hm,hx,hrun,Result.andThen]
 exact hK' _ _ hK
theorem zeroPlace (w:World):(zeroValue 223).run Tryz.prog w=.ok (.agg #[.int .i64 0,.int .i64 0]) w:=by kernel_rfl
def aheadB (F L:Nat → Int) (m:Nat × Int) (ub:Nat) (ua:Int):Bool:=if m.1=ub then decide (m.2 < ua) else domB F L m.1 ub
set_option maxRecDepth 100000 in
set_option maxHeartbeats 2000000 in
theorem comesAhead_any (f:FuncM) (B:Nat) (pv bv:Value) (gF gL gp M:Nat) (F L:Nat → Int) (id:Int) (mb ub:Nat) (ma ua:Int) (w:World) (hS:SF w B f bv gF gL gp M F L) (hB:B ≤ w.heap.size) (hn5:f.blocks.length ≤ 512) (hid:I64 id)
  (hm:(placedM f).last id=some (mb,ma)) (hmb:mb < f.blocks.length) (hub:ub < f.blocks.length) (P:Option Addr) (pl pc:Nat) (hpv:pv=.slice P pl pc) :
  Calls Tryz.prog 155 #[.agg #[pv,.int .i64 f.arrays,.int .i64 f.cells,bv,.slice (some ⟨gF,0,none⟩) f.blocks.length f.blocks.length,.slice (some ⟨gL,0,none⟩) f.blocks.length f.blocks.length,.slice (some ⟨gp,0,none⟩) f.blocks.length f.blocks.length,.map (some M)],.int .i64 id,.agg #[.int .i64 ub,.int .i64 ua]] w
   fun e w' => e=.returned (.bool (aheadB F L (mb,ma) ub ua)) ∧ Below w.heap.size w w':=by
 subst hpv
 obtain ⟨n,hn⟩:∃ n,n=f.blocks.length:=⟨_,rfl⟩
 have HN:=hideI hn
 have HS:=hideI hS
 obtain ⟨A,c,rfl,hbm,_⟩:=hS.blk
 rw [← hn] at hn5 hmb hub hbm ⊢
 obtain ⟨W1,hW1⟩:∃ W1:World,W1=(w.alloc (.cells #[.slice P pl pc,.int .i64 f.arrays,.int .i64 f.cells,.slice A n c,.slice (some ⟨gF,0,none⟩) n n,.slice (some ⟨gL,0,none⟩) n n,.slice (some ⟨gp,0,none⟩) n n,.map (some M)] 123)).alloc (.cells #[.int .i64 ub,.int .i64 ua] 223):=⟨_,rfl⟩
 have hBW:Below w.heap.size w W1:=by rw [hW1];exact ((Below.refl _ _).alloc (Nat.le_refl _) _).alloc (by simp) _
 have hs1:W1.heap.size=w.heap.size + 2:=by rw [hW1];simp
 obtain ⟨D,hown,hD,hat⟩:=(hS.kept (hBW.mono hB)).map
 have HOWN:=hideI hown
 have HAT:Hid (∀ z,D.atKey (.int .i64 id) z=placeOr (some (mb,ma)) z):=hideI (fun z => by rw [hat,hm])
 have h0:W1.heap[w.heap.size]?=some (.cells #[.slice P pl pc,.int .i64 f.arrays,.int .i64 f.cells,.slice A n c,.slice (some ⟨gF,0,none⟩) n n,.slice (some ⟨gL,0,none⟩) n n,.slice (some ⟨gp,0,none⟩) n n,.map (some M)] 123 (0,0)):=by
  rw [hW1,Below.heap_alloc _ _ _ (by simp)]
  exact heap_alloc_new w _
 have h1:W1.heap[w.heap.size + 1]?=some (.cells #[.int .i64 ub,.int .i64 ua] 223 (0,0)):=by
  rw [hW1]
  have:=heap_alloc_new (w.alloc (.cells #[.slice P pl pc,.int .i64 f.arrays,.int .i64 f.cells,.slice A n c,.slice (some ⟨gF,0,none⟩) n n,.slice (some ⟨gL,0,none⟩) n n,.slice (some ⟨gp,0,none⟩) n n,.map (some M)] 123)) (.cells #[.int .i64 ub,.int .i64 ua] 223)
  simpa using this
 have HX0:=hideI h0
 have HX1:=hideI h1
 have HBW:=hideI hBW
 have HW1:=hideI hW1
 have HS1:=hideI hs1
 have HID:=hideI hid
 clear hW1 hBW hs1 hown hD hat h0 h1 hid hm hn hS
 by_cases he:mb=ub
 ·have HE:Hid (aheadB F L (mb,ma) ub ua=decide (ma < ua)):=by show _=_;unfold aheadB;rw [if_pos he]
  have heb:((mb:Int) == ub)=true:=beq_iff_eq.2 (by omega)
  clear he
  go_enter Tryz.func155,Tryz.ntmps155
  go_upto_region 1 with fail
  rw [← HW1.out]
  have hx0:=row_cells HX0.out rfl
  have r4:=hx0 4
  have r5:=hx0 5
  have r7:=hx0 7
  have hx1:=row_cells HX1.out rfl
  have s0:=hx1 0
  have s1:=hx1 1
  have hl0:=lt_of_heap HX0.out
  have hl1:=lt_of_heap HX1.out
  clear hx0 hx1
  go_wp2_with (at_lookup;go_must (refine wpList_lookup_places _ rfl _ _ 121 rfl 3 223 lawInt Tryz.underlying121 (zeroPlace _) M _ D rfl HOWN.out _ _ rfl (keyOf_int_mk Tryz.underlying3 HID.out) mb ma HAT.out ?_))
  go_ret
  exact ⟨by rw [HE.out];rfl,HBW.out.alloc HBW.out.size _⟩
 ·have HE:Hid (aheadB F L (mb,ma) ub ua=domB F L mb ub):=by show _=_;unfold aheadB;rw [if_neg he]
  have heb:((mb:Int) == ub)=false:=beq_eq_false_iff_ne.2 (by omega)
  clear he
  go_enter Tryz.func155,Tryz.ntmps155
  go_upto_region 1 with fail
  rw [← HW1.out]
  have hx0:=row_cells HX0.out rfl
  have r4:=hx0 4
  have r5:=hx0 5
  have r7:=hx0 7
  have hx1:=row_cells HX1.out rfl
  have s0:=hx1 0
  have s1:=hx1 1
  have hl0:=lt_of_heap HX0.out
  have hl1:=lt_of_heap HX1.out
  have hb2:Below W1.heap.size W1 (W1.alloc (.cells #[.int .i64 (mb:Int),.int .i64 ma] 223)):=(Below.refl _ _).alloc (Nat.le_refl _) _
  have HS2:=HS.out.kept ((HBW.out.trans (hb2.mono (by rw [HS1.out];omega))).mono hB)
  have HC:=hideI (sDominates_any n gF gL mb ub F L (W1.alloc (.cells #[.int .i64 (mb:Int),.int .i64 ma] 223)) hn5 hmb hub (by have:=HS2.hF;simp;omega) (by have:=HS2.hL;simp;omega) (HS2.cF mb (by rw [← HN.out];exact hmb)) (HS2.cF ub (by rw [← HN.out];exact hub)) (HS2.cL mb (by rw [← HN.out];exact hmb)))
  have HB2:=hideI (HBW.out.trans (hb2.mono (by rw [HS1.out];omega)))
  clear hx0 hx1 hb2 HS2
  go_wp2_with (first
   | (at_lookup;go_must (refine wpList_lookup_places _ rfl _ _ 121 rfl 3 223 lawInt Tryz.underlying121 (zeroPlace _) M _ D rfl HOWN.out _ _ rfl (keyOf_int_mk Tryz.underlying3 HID.out) mb ma HAT.out ?_))
   | (go_at_call 199;go_must (refine HC.out.mono ?_);rintro e w2 ⟨rfl,hb3⟩;have HB3:=hideI (HB2.out.trans (hb3.mono HB2.out.size));clear hb3))
  go_ret
  exact ⟨by rw [HE.out];rfl,HB3.out⟩
end Go.Proofs.YtaehbgppfahdeaaGreat
