/- What EditBackUpto rests on, part 19: RMapped, RefUses5. -/
import Derived.Test.YtaehbgppfahdeaaGreatPkEditBackUpto18
import Derived.Deep.Onto

namespace Go.Proofs.YtaehbgppfahdeaaGreat
open Go.RowKit
end Go.Proofs.YtaehbgppfahdeaaGreat

namespace Go.Proofs.YtaehbgppfahdeaaGreat
open Go.RowKit
def rowPhi (b:Nat) (t:Int) (d:Int × Int):List Int:=[d.1,t,(b:Int),-1,d.2]
def rowInstr (b i:Nat) (d:Int × Int):List Int:=[d.1,d.2,(b:Int),(i:Int),0]
def rowsPhi (b:Nat) (p:PhiM):List (List Int):=(p.vals.zip p.fr).map (rowPhi b p.typ)
def rowsInstr (b i:Nat) (x:InstrM):List (List Int):=(x.args.zip (takesS x.op)).map (rowInstr b i)
def rowsCode (b:Nat) (xs:List InstrM):Nat → List (List Int)
 | 0 => []
 | i + 1 => rowsCode b xs i ++ match xs[i]? with | some x => rowsInstr b i x | none => []
def rowsTerm (b:Nat) (q:BlockM):List (List Int) :=
 if q.term.op=2 then [[q.term.val,2,(b:Int),(q.code.length:Int),0]] else if q.term.op=3 then [[q.term.val,0,(b:Int),(q.code.length:Int),0]] else []
def rowsBlock (b:Nat) (q:BlockM):List (List Int):=q.phis.flatMap (rowsPhi b) ++ (rowsCode b q.code q.code.length ++ rowsTerm b q)
def rowsTo (bs:List BlockM):Nat → List (List Int)
 | 0 => []
 | b + 1 => rowsTo bs b ++ match bs[b]? with | some q => rowsBlock b q | none => []
def RU5 (w:World) (base:Nat) (v:Value) (us:List (Int × Int)) (rows:List (List Int)):Prop :=
 rows.map (fun r => (r.getD 0 0,r.getD 1 0))=us ∧ (∀ r ∈ rows,r.length=5) ∧ w.ownsRow base 39 5 v us.length (rows.flatten.map (Value.int .i64))
theorem RU5.push {w':World} {base:Nat} {v':Value} {us:List (Int × Int)} {rows:List (List Int)} (h1:rows.map (fun r => (r.getD 0 0,r.getD 1 0))=us) (h2:∀ r ∈ rows,r.length=5) {a b c d e:Int}
  (h:w'.ownsRow base 39 5 v' (us.length + 1) (rows.flatten.map (Value.int .i64) ++ [.int .i64 a,.int .i64 b,.int .i64 c,.int .i64 d,.int .i64 e])):RU5 w' base v' (us ++ [(a,b)]) (rows ++ [[a,b,c,d,e]]):=by
 refine ⟨by rw [List.map_append,h1];rfl,?_,?_⟩
 ·intro r hr
  rcases List.mem_append.1 hr with hr | hr
  ·exact h2 r hr
  ·simp at hr
   subst hr
   rfl
 ·simpa using h
theorem RU5.alloc {w:World} {base:Nat} {v:Value} {us:List (Int × Int)} {rows:List (List Int)} (h:RU5 w base v us rows) (o:Obj):RU5 (w.alloc o) base v us rows:=⟨h.1,h.2.1,h.2.2.alloc o⟩
theorem RU5.below {w w':World} {base:Nat} {v:Value} {us:List (Int × Int)} {rows:List (List Int)} (h:RU5 w base v us rows) (hb:Below w.heap.size w w'):RU5 w' base v us rows:=by
 obtain ⟨h1,h2,h3⟩:=h
 exact ⟨h1,h2,h3.kept (row:=none) ⟨hb.os,hb.tape,hb.output,hb.size,fun k hk _ => hb.block k hk⟩ (by
  cases hv:v.ownBlock with
  | none => exact .inl rfl
  | some k => exact .inr (by simp))⟩
set_option maxRecDepth 100000 in
set_option maxHeartbeats 8000000 in
theorem refUses5_any (bs:List BlockM) (B:Nat) (pv xv cv bv:Value) (w:World) (hbv:BlocksR w B bv bs) (hB:B ≤ w.heap.size) (hfew:Few bs) (hl5:bs.length ≤ 512)
  (hform:∀ b ∈ bs,∀ x ∈ b.code,x.args.length=(takesS x.op).length) (hphi:∀ b ∈ bs,∀ p ∈ b.phis,p.vals.length=p.fr.length) :
  Calls Tryz.prog 15 #[.agg #[pv,xv,cv,bv]] w fun e w' => ∃ v,e=.returned v ∧ RU5 w' w.heap.size v (bs.flatMap usesBlock) (rowsTo bs bs.length) ∧ Below w.heap.size w w':=by
 have HFEW:=hideI hfew
 have HFO:=hideI hform
 have HPH:=hideI hphi
 have HBB:=hideI hbv
 obtain ⟨i0,hi,hz0,hz1,hz2⟩:=info_parts use_info
 obtain ⟨A,c,rfl,hbm,hbx⟩:=hbv
 have HX:=hideI hbx
 clear hbx hfew hform hphi
 obtain ⟨W0,hW0⟩:∃ W0:World,W0=(w.alloc (.cells #[pv,xv,cv,.slice A bs.length c] 25)).alloc (.cells #[] 39):=⟨_,rfl⟩
 have hK0:Hid (Ka w.heap.size w W0):=by rw [hW0];exact ((Ka.refl _ w).alloc (Nat.le_refl _) _).alloc (by simp) _
 have hbox0:Hid (W0.heap[w.heap.size]?=some (.cells #[pv,xv,cv,.slice A bs.length c] 25 (0,0))):=by
  show _=_
  rw [hW0,Below.heap_alloc _ _ _ (by simp)]
  exact heap_alloc_new w _
 have hR0:Hid (RU5 W0 w.heap.size (.slice (some ⟨w.heap.size + 1,0,none⟩) 0 0) [] []):=by
  have:=World.ownsRow_made (base:=w.heap.size) (e:=39) (size:=5) (w.alloc (.cells #[pv,xv,cv,.slice A bs.length c] 25)) #[] 0 (by simp) (by decide) rfl
  show RU5 W0 _ _ _ _
  rw [hW0]
  exact ⟨rfl,(fun _ h => by cases h),by simpa using this⟩
 have HW0:=hideI hW0
 clear hW0
 go_enter Tryz.func15,Tryz.ntmps15
 go_wp2
 rw [← HW0.out]
 go_loopw [3,4] (fun o i wr => ∃ k:Nat,k ≤ bs.length ∧ i=.int .i64 k ∧ RU5 wr w.heap.size o ((bs.take k).flatMap usesBlock) (rowsTo bs k) ∧ Ka w.heap.size W0 wr) (fun _ i _ => bs.length - (intOf i).toNat)
 case atStart => exact ⟨0,Nat.zero_le _,rfl,by simpa [rowsTo] using hR0.out,Ka.refl _ _⟩
 case round =>
  obtain ⟨k,hk,rfl,hIk,hFk⟩:=hrel
  obtain ⟨u3,rfl⟩:∃ u3':Value,u3'=u3:=⟨_,rfl⟩
  have HIk:=hideI hIk
  have HFk:=hideI hFk
  have hx:=hFk.row hbox0.out (by decide)
  have hsz:w.heap.size < wr.heap.size:=by have h1:=hFk.size;have h2:=lt_of_heap hbox0.out;omega
  have HK:=hideI (Keeps.mono' (hK0.out.trans hFk).keeps hB)
  clear hIk hFk
  by_cases hlt:k < bs.length
  ·obtain ⟨q,hq⟩:∃ q,bs[k]?=some q:=⟨_,List.getElem?_eq_getElem hlt⟩
   obtain ⟨b,off,qpv,qcv,qtv,rfl,hb,e0,e1,e2,e3,e4,e5,hpv,hcv,htv,_⟩:=HX.out k q hq
   have c0:=(HK.out b (off + k * 6) hb).trans e0
   have c1:=(HK.out b (off + k * 6 + 1) hb).trans e1
   have c2:=(HK.out b (off + k * 6 + 2) hb).trans e2
   have c3:=(HK.out b (off + k * 6 + 3) hb).trans e3
   have c4:=(HK.out b (off + k * 6 + 4) hb).trans e4
   have c5:=(HK.out b (off + k * 6 + 5) hb).trans e5
   have HQ:=hideI hq
   obtain ⟨PA,pc,rfl,hpm,hpx⟩:=hpv
   obtain ⟨CA,cc,rfl,hcm,hcx⟩:=hcv
   obtain ⟨TA,tc,rfl,_⟩:=htv
   have HPX:=hideI hpx
   have HCX:=hideI hcx
   clear e0 e1 e2 e3 e4 e5 hq hpx hcx
   obtain ⟨wo,rfl⟩:∃ wo:World,wo=wr:=⟨_,rfl⟩
   obtain ⟨W1,hW1⟩:∃ W1:World,W1=wo.alloc (.cells #[.slice PA q.phis.length pc,.slice CA q.code.length cc,.int .i64 q.term.op,.int .i64 q.term.val,.slice TA q.term.to.length tc,.int .i64 q.term.n] 62):=⟨_,rfl⟩
   have HF1:Hid (Ka w.heap.size W0 W1):=by rw [hW1];exact HFk.out.alloc (by omega) _
   have HI1:Hid (RU5 W1 w.heap.size u3 ((bs.take k).flatMap usesBlock) (rowsTo bs k)):=by rw [hW1];exact HIk.out.alloc _
   have HB1:Hid (W1.heap[wo.heap.size]?=some (.cells #[.slice PA q.phis.length pc,.slice CA q.code.length cc,.int .i64 q.term.op,.int .i64 q.term.val,.slice TA q.term.to.length tc,.int .i64 q.term.n] 62 (0,0))):=by rw [hW1];exact heap_alloc_new wo _
   have HW1:=hideI hW1
   clear hW1
   obtain ⟨us1,hus1⟩:∃ us1,us1=(bs.take k).flatMap usesBlock:=⟨_,rfl⟩
   obtain ⟨rs1,hrs1⟩:∃ rs1,rs1=rowsTo bs k:=⟨_,rfl⟩
   rw [← hus1,← hrs1] at HI1
   have HU1:=hideI hus1
   have HRS1:=hideI hrs1
   clear hus1 hrs1
   go_wp2
   rw [← HW1.out]
   go_loopw [3,6] (fun o i wr => ∃ j:Nat,j ≤ q.phis.length ∧ i=.int .i64 j ∧ RU5 wr w.heap.size o (us1 ++ (q.phis.take j).flatMap usesPhi) (rs1 ++ (q.phis.take j).flatMap (rowsPhi k)) ∧ Ka w.heap.size W1 wr) (fun _ i _ => q.phis.length - (intOf i).toNat)
   case atStart => exact ⟨0,Nat.zero_le _,rfl,by simpa using HI1.out,Ka.refl _ _⟩
   case round =>
    obtain ⟨j,hj,rfl,hIj,hFj⟩:=hrel
    have HIj:=hideI hIj
    have HFj:=hideI hFj
    have hx1:=hFj.row HB1.out (by decide)
    have hsz1:wo.heap.size < wr.heap.size:=by have h1:=hFj.size;have h2:=lt_of_heap HB1.out;omega
    have HK1:=hideI (Keeps.mono' ((hK0.out.trans HF1.out).trans hFj).keeps hB)
    clear hIj hFj
    by_cases hlj:j < q.phis.length
    ·obtain ⟨p,hp⟩:∃ p,q.phis[j]?=some p:=⟨_,List.getElem?_eq_getElem hlj⟩
     obtain ⟨b2,off2,fv,vv,rfl,hb2,e0,e1,e2,e3,hf,hv,_⟩:=HPX.out j p hp
     have HQ2:=hideI hp
     have hpl:Hid (p.vals.length=p.fr.length):=HPH.out q (List.mem_of_getElem? HQ.out) p (List.mem_of_getElem? hp)
     obtain ⟨FA,fc,rfl,hfm,hfx⟩:=hf
     obtain ⟨VA,vc,rfl,hvm,hvx⟩:=hv
     have HVX:=hideI hvx
     have HFX:=hideI hfx
     have HE:=hideI (And.intro e1 (And.intro e2 e3))
     have d3:=(HK1.out b2 (off2 + j * 4 + 3) hb2).trans e3
     obtain ⟨wi,rfl⟩:∃ wi:World,wi=wr:=⟨_,rfl⟩
     obtain ⟨us2,hus2⟩:∃ us2,us2=us1 ++ (q.phis.take j).flatMap usesPhi:=⟨_,rfl⟩
     obtain ⟨rs2,hrs2⟩:∃ rs2,rs2=rs1 ++ (q.phis.take j).flatMap (rowsPhi k):=⟨_,rfl⟩
     rw [← hus2,← hrs2] at HIj
     have HU2:=hideI hus2
     have HRS2:=hideI hrs2
     clear e0 e1 e2 e3 hp hvx hfx hus2 hrs2
     go_wp2
     clear d3
     go_loopw [3,7] (fun o i wr => ∃ m:Nat,m ≤ p.vals.length ∧ i=.int .i64 m ∧ RU5 wr w.heap.size o (us2 ++ (p.vals.take m).map fun v => (v,p.typ)) (rs2 ++ ((p.vals.zip p.fr).take m).map (rowPhi k p.typ)) ∧ Ka w.heap.size wi wr) (fun _ i _ => p.vals.length - (intOf i).toNat)
     case atStart => exact ⟨0,Nat.zero_le _,rfl,by simpa using HIj.out,Ka.refl _ _⟩
     case round =>
      obtain ⟨m,hm,rfl,hIm,hFm⟩:=hrel
      have hx2:=(HFj.out.trans hFm).row HB1.out (by decide)
      have HK2:=hideI (Keeps.mono' (((hK0.out.trans HF1.out).trans HFj.out).trans hFm).keeps hB)
      have hsz2:w.heap.size ≤ wr.heap.size:=by have h1:=hFm.size;omega
      have d1:=(HK2.out b2 (off2 + j * 4 + 1) hb2).trans HE.out.1
      have d2:=(HK2.out b2 (off2 + j * 4 + 2) hb2).trans HE.out.2.1
      have d3:=(HK2.out b2 (off2 + j * 4 + 3) hb2).trans HE.out.2.2
      have HIm:=hideI hIm
      have HFm:=hideI hFm
      clear hIm hFm
      by_cases hlm:m < p.vals.length
      ·obtain ⟨b3,off3,rfl,hb3,e3⟩:=HVX.out m hlm
       obtain ⟨v,hv⟩:∃ v,p.vals[m]?=some v:=⟨_,List.getElem?_eq_getElem hlm⟩
       have hlf:m < p.fr.length:=by rw [← hpl.out];exact hlm
       obtain ⟨b4,off4,rfl,hb4,e4⟩:=HFX.out m hlf
       obtain ⟨fr,hfr⟩:∃ fr,p.fr[m]?=some fr:=⟨_,List.getElem?_eq_getElem hlf⟩
       rw [hv] at e3
       rw [hfr] at e4
       have f3:=(HK2.out b3 (off3 + m) hb3).trans e3
       have f4:=(HK2.out b4 (off4 + m) hb4).trans e4
       simp only [Option.getD_some] at f3 f4
       have HV:=hideI hv
       have HZ:Hid ((p.vals.zip p.fr)[m]?=some (v,fr)):=hideI (List.getElem?_zip_eq_some.2 ⟨hv,hfr⟩)
       have hfw:=few_phi HFEW.out HQ.out HQ2.out hlm us1 us2 HU1.out HU2.out
       obtain ⟨uu,huu⟩:∃ uu,uu=us2 ++ (p.vals.take m).map fun v => (v,p.typ):=⟨_,rfl⟩
       obtain ⟨rows,hrows⟩:∃ rows,rows=rs2 ++ ((p.vals.zip p.fr).take m).map (rowPhi k p.typ):=⟨_,rfl⟩
       rw [← huu] at hfw HIm
       rw [← hrows] at HIm
       have HUU:=hideI huu
       have HRW:=hideI hrows
       clear e3 e4 hv hfr huu hrows
       have g0:wr.cell? ⟨wo.heap.size,0,none⟩=some (.slice (some ⟨b2,off2,none⟩) q.phis.length pc):=hx2 0
       clear hx2
       obtain ⟨hrw1,hrw2,hown⟩:=HIm.out
       have HR1:=hideI hrw1
       have HR2:=hideI hrw2
       clear hrw1 hrw2
       have G0:Hid (∀ W,Ka w.heap.size wr W → W.cell? ⟨wo.heap.size,0,none⟩=some (.slice (some ⟨b2,off2,none⟩) q.phis.length pc) ∧ W.cell? ⟨b2,off2 + j * 4 + 1,none⟩=some (.int .i64 p.typ) ∧ W.cell? ⟨b2,off2 + j * 4 + 2,none⟩=some (.slice (some ⟨b4,off4,none⟩) p.fr.length fc) ∧ W.cell? ⟨b2,off2 + j * 4 + 3,none⟩=some (.slice (some ⟨b3,off3,none⟩) p.vals.length vc) ∧ W.cell? ⟨b3,off3 + m,none⟩=some (.int .i64 v) ∧ W.cell? ⟨b4,off4 + m,none⟩=some (.int .i64 fr)) :=
        fun W hW => ⟨((HFj.out.trans HFm.out).trans hW).row HB1.out (by decide) 0,(hW.keeps _ _ (by omega)).trans d1,(hW.keeps _ _ (by omega)).trans d2,(hW.keeps _ _ (by omega)).trans d3,(hW.keeps _ _ (by omega)).trans f3,(hW.keeps _ _ (by omega)).trans f4⟩
       go_wp2
       go_region_held3 (fun w' => w'.cell? ⟨wo.heap.size,0,none⟩=some (.slice (some ⟨b2,off2,none⟩) q.phis.length pc) ∧ w'.cell? ⟨b2,off2 + j * 4 + 1,none⟩=some (.int .i64 p.typ) ∧ w'.cell? ⟨b2,off2 + j * 4 + 2,none⟩=some (.slice (some ⟨b4,off4,none⟩) p.fr.length fc) ∧ w'.cell? ⟨b2,off2 + j * 4 + 3,none⟩=some (.slice (some ⟨b3,off3,none⟩) p.vals.length vc) ∧ w'.cell? ⟨b3,off3 + m,none⟩=some (.int .i64 v) ∧ w'.cell? ⟨b4,off4 + m,none⟩=some (.int .i64 fr)) (first | go_keep | exact G0.out _ ((((Ka.refl _ wr).alloc hsz2 _).drew).trans hka) | exact G0.out _ (((Ka.refl _ wr).alloc hsz2 _).trans hka))
        (first | (refine step_append_lies _ rfl (.tmp 44) (.tmp 71) _ rfl w.heap.size 39 i0 _ 5 40 Tryz.underlying36 hi hz0 hz1 hz2 rfl (by decide) _ _ _ rfl (hown.alloc _) ⟨wr.heap.size,0,none⟩ 1 1 [.int .i64 v,.int .i64 p.typ,.int .i64 k,.int .i64 (-1),.int .i64 fr] rfl rfl (five_new _ _ _) (by simp [Value.oneCell']) (by decide) (by unfold maxLen;omega) (by omega) (by simp;omega) _ rfl ?_;intro g1 cap1 w4 hown1 hgrow1 hor hgl1;have hka:=Ka.grown hgrow1 (hown.alloc _) (by simp;omega)))
       have HIN:Hid (RU5 w4 w.heap.size (.slice (some ⟨g1,0,none⟩) (uu.length + 1) cap1) (us2 ++ (p.vals.take (m + 1)).map fun v => (v,p.typ)) (rs2 ++ ((p.vals.zip p.fr).take (m + 1)).map (rowPhi k p.typ))):=by
        have:=RU5.push (b:=p.typ) HR1.out HR2.out hown1
        rw [map_take' (fun v => (v,p.typ)) p.vals m v HV.out,← List.append_assoc,← HUU.out,map_take' (rowPhi k p.typ) (p.vals.zip p.fr) m (v,fr) HZ.out,← List.append_assoc,← HRW.out]
        exact this
       have HFN:Hid (Ka w.heap.size wi w4):=(HFm.out.trans (((Ka.refl _ wr).alloc hsz2 _).drew)).trans hka
       clear hown1 hgrow1 hor hgl1 hka
       go_wp2
       go_roundw
       case rel => exact ⟨m + 1,by omega,by go_num,HIN.out,HFN.out⟩
       case measure => simp [intOf];omega
      ·have HIend:Hid (RU5 wr w.heap.size u3 (us2 ++ usesPhi p) (rs2 ++ rowsPhi k p)):=by have:=HIm.out;rw [List.take_of_length_le (l:=p.vals) (by omega),List.take_of_length_le (l:=p.vals.zip p.fr) (by rw [List.length_zip];omega)] at this;exact this
       go_wp2
       go_roundw
       case rel => exact ⟨j + 1,by omega,by go_num,by rw [flat_take' _ _ _ _ HQ2.out,flat_take' _ _ _ _ HQ2.out,← List.append_assoc,← List.append_assoc,← HU2.out,← HRS2.out];exact HIend.out,HFj.out.trans HFm.out⟩
       case measure => simp [intOf];omega
    ·have HIend:Hid (RU5 wr w.heap.size u3 (us1 ++ q.phis.flatMap usesPhi) (rs1 ++ q.phis.flatMap (rowsPhi k))):=by have:=HIj.out;rw [List.take_of_length_le (by omega)] at this;exact this
     go_wp2
     obtain ⟨wp,rfl⟩:∃ wp:World,wp=wr:=⟨_,rfl⟩
     clear hx1 hsz1 HK1 hlj
     obtain ⟨us3,hus3⟩:∃ us3,us3=us1 ++ q.phis.flatMap usesPhi:=⟨_,rfl⟩
     obtain ⟨rs3,hrs3⟩:∃ rs3,rs3=rs1 ++ q.phis.flatMap (rowsPhi k):=⟨_,rfl⟩
     rw [← hus3,← hrs3] at HIend
     have HU3:=hideI hus3
     have HRS3:=hideI hrs3
     clear hus3 hrs3
     go_loopw [3,8] (fun o i wr => ∃ j:Nat,j ≤ q.code.length ∧ i=.int .i64 j ∧ RU5 wr w.heap.size o (us3 ++ (q.code.take j).flatMap usesInstr) (rs3 ++ rowsCode k q.code j) ∧ Ka w.heap.size W1 wr) (fun _ i _ => q.code.length - (intOf i).toNat)
     case atStart => exact ⟨0,Nat.zero_le _,rfl,by simpa [rowsCode] using HIend.out,HFj.out⟩
     case round =>
      obtain ⟨j2,hj2,rfl,hIj2,hFj2⟩:=hrel
      have HIj2:=hideI hIj2
      have HFj2:=hideI hFj2
      have hx1:=hFj2.row HB1.out (by decide)
      have hsz1:wo.heap.size < wr.heap.size:=by have h1:=hFj2.size;have h2:=lt_of_heap HB1.out;omega
      have hsz0:w.heap.size ≤ wr.heap.size:=by omega
      have HK1:=hideI (Keeps.mono' ((hK0.out.trans HF1.out).trans hFj2).keeps hB)
      clear hIj2 hFj2
      by_cases hlj2:j2 < q.code.length
      ·obtain ⟨x,hp⟩:∃ x,q.code[j2]?=some x:=⟨_,List.getElem?_eq_getElem hlj2⟩
       have hxl:Hid (x.args.length=(takesS x.op).length):=HFO.out q (List.mem_of_getElem? HQ.out) x (List.mem_of_getElem? hp)
       obtain ⟨b2,off2,av,rfl,hb2,e0,e1,e2,e3,hf,_⟩:=HCX.out j2 x hp
       have d0:=(HK1.out b2 (off2 + j2 * 4) hb2).trans e0
       have HE2:=hideI e2
       have HQ2:=hideI hp
       obtain ⟨AA,ac,rfl,ham,hax⟩:=hf
       have HAX:=hideI hax
       clear e0 e1 e2 e3 hp hax
       obtain ⟨wi,rfl⟩:∃ wi:World,wi=wr:=⟨_,rfl⟩
       go_wp2_with (go_at_call 38;refine (refArgs_any _ _).mono ?_;rintro e w3 ⟨tv,rfl,htv,hbA⟩;obtain ⟨TK,tkc,rfl,htm,htx⟩:=htv;have HTX:=hideI htx;have HBA:=hideI hbA;clear htx hbA)
       have HF3:Hid (Ka w.heap.size W1 w3):=HFj2.out.trans (Ka.of_below HBA.out hsz0)
       have HI3:Hid (RU5 w3 w.heap.size u3 (us3 ++ (q.code.take j2).flatMap usesInstr) (rs3 ++ rowsCode k q.code j2)):=HIj2.out.below HBA.out
       obtain ⟨us4,hus4⟩:∃ us4,us4=us3 ++ (q.code.take j2).flatMap usesInstr:=⟨_,rfl⟩
       obtain ⟨rs4,hrs4⟩:∃ rs4,rs4=rs3 ++ rowsCode k q.code j2:=⟨_,rfl⟩
       rw [← hus4,← hrs4] at HI3
       have HU4:=hideI hus4
       have HRS4:Hid (rs3 ++ rowsCode k q.code (j2 + 1)=rs4 ++ rowsInstr k j2 x):=by show _=_;rw [rowsCode,HQ2.out,hrs4,List.append_assoc]
       clear hrs4
       have hsz3:wi.heap.size ≤ w3.heap.size:=HBA.out.size
       clear hus4 hx1 d0
       go_loopw [3,12] (fun o i wr => ∃ m:Nat,m ≤ (takesS x.op).length ∧ i=.int .i64 m ∧ RU5 wr w.heap.size o (us4 ++ (x.args.take m).zip ((takesS x.op).take m)) (rs4 ++ ((x.args.zip (takesS x.op)).take m).map (rowInstr k j2)) ∧ Ka w.heap.size w3 wr) (fun _ i _ => (takesS x.op).length - (intOf i).toNat)
       case atStart => exact ⟨0,Nat.zero_le _,rfl,by simpa using HI3.out,Ka.refl _ _⟩
       case round =>
        obtain ⟨m,hm,rfl,hIm,hFm⟩:=hrel
        have HIm:=hideI hIm
        have HFm:=hideI hFm
        have HK2:=hideI (Keeps.mono' ((hK0.out.trans HF1.out).trans (HF3.out.trans hFm)).keeps hB)
        have hsz2:w.heap.size ≤ wr.heap.size:=by have h1:=hFm.size;omega
        clear hIm hFm
        by_cases hlm:m < (takesS x.op).length
        ·have hla:m < x.args.length:=by rw [hxl.out];exact hlm
         obtain ⟨b3,off3,rfl,hb3,e3⟩:=HAX.out m hla
         obtain ⟨v,hv⟩:∃ v,x.args[m]?=some v:=⟨_,List.getElem?_eq_getElem hla⟩
         obtain ⟨t,ht⟩:∃ t,(takesS x.op)[m]?=some t:=⟨_,List.getElem?_eq_getElem hlm⟩
         obtain ⟨g,cs,rfl,hg,hgb,hgc⟩:=HTX.out (by omega)
         have hgx:=(HFm.out.row hgb (by decide) m).trans (hgc m hlm)
         rw [hv] at e3
         rw [ht] at hgx
         have f3:=(HK2.out b3 (off3 + m) hb3).trans e3
         have d2:=(HK2.out b2 (off2 + j2 * 4 + 2) hb2).trans HE2.out
         simp only [Option.getD_some] at f3 hgx
         have HV:=hideI hv
         have HT2:=hideI ht
         have HZ:Hid ((x.args.zip (takesS x.op))[m]?=some (v,t)):=hideI (List.getElem?_zip_eq_some.2 ⟨hv,ht⟩)
         have HGB:=hideI (And.intro hgb (hgc m hlm))
         have hfw:=few_instr HFEW.out HQ.out HQ2.out hla hxl.out us1 us3 us4 HU1.out HU3.out HU4.out
         obtain ⟨uu,huu⟩:∃ uu,uu=us4 ++ (x.args.take m).zip ((takesS x.op).take m):=⟨_,rfl⟩
         obtain ⟨rows,hrows⟩:∃ rows,rows=rs4 ++ ((x.args.zip (takesS x.op)).take m).map (rowInstr k j2):=⟨_,rfl⟩
         rw [← huu] at hfw HIm
         rw [← hrows] at HIm
         have HUU:=hideI huu
         have HRW:=hideI hrows
         clear hrows
         obtain ⟨hrw1,hrw2,hown⟩:=HIm.out
         have HR1:=hideI hrw1
         have HR2:=hideI hrw2
         have g0:wr.cell? ⟨wo.heap.size,1,none⟩=some (.slice (some ⟨b2,off2,none⟩) q.code.length cc):=((HF3.out.trans HFm.out).row HB1.out (by decide) 1)
         clear e3 hv ht hgb hgc huu hrw1 hrw2
         have G0:Hid (∀ W,Ka w.heap.size wr W → W.cell? ⟨wo.heap.size,1,none⟩=some (.slice (some ⟨b2,off2,none⟩) q.code.length cc) ∧ W.cell? ⟨b2,off2 + j2 * 4 + 2,none⟩=some (.slice (some ⟨b3,off3,none⟩) x.args.length ac) ∧ W.cell? ⟨b3,off3 + m,none⟩=some (.int .i64 v) ∧ W.cell? ⟨g,m,none⟩=some (.int .i64 t)) :=
          fun W hW => ⟨((HF3.out.trans HFm.out).trans hW).row HB1.out (by decide) 1,(hW.keeps _ _ (by omega)).trans d2,(hW.keeps _ _ (by omega)).trans f3,(by rw [((HFm.out.trans hW).row HGB.out.1 (by decide) m),← hgx,HFm.out.row HGB.out.1 (by decide) m])⟩
         go_wp2
         go_region_held3 (fun w' => w'.cell? ⟨wo.heap.size,1,none⟩=some (.slice (some ⟨b2,off2,none⟩) q.code.length cc) ∧ w'.cell? ⟨b2,off2 + j2 * 4 + 2,none⟩=some (.slice (some ⟨b3,off3,none⟩) x.args.length ac) ∧ w'.cell? ⟨b3,off3 + m,none⟩=some (.int .i64 v) ∧ w'.cell? ⟨g,m,none⟩=some (.int .i64 t)) (first | go_keep | exact G0.out _ ((((Ka.refl _ wr).alloc hsz2 _).drew).trans hka) | exact G0.out _ (((Ka.refl _ wr).alloc hsz2 _).trans hka))
          (first | (refine step_append_lies _ rfl (.tmp 97) (.tmp 114) _ rfl w.heap.size 39 i0 _ 5 40 Tryz.underlying36 hi hz0 hz1 hz2 rfl (by decide) _ _ _ rfl (hown.alloc _) ⟨wr.heap.size,0,none⟩ 1 1 [.int .i64 v,.int .i64 t,.int .i64 k,.int .i64 j2,.int .i64 0] rfl rfl (five_new _ _ _) (by simp [Value.oneCell']) (by decide) (by unfold maxLen;omega) (by omega) (by simp;omega) _ rfl ?_;intro g1 cap1 w4 hown1 hgrow1 hor hgl1;have hka:=Ka.grown hgrow1 (hown.alloc _) (by simp;omega)))
         have HIN:Hid (RU5 w4 w.heap.size (.slice (some ⟨g1,0,none⟩) (uu.length + 1) cap1) (us4 ++ (x.args.take (m + 1)).zip ((takesS x.op).take (m + 1))) (rs4 ++ ((x.args.zip (takesS x.op)).take (m + 1)).map (rowInstr k j2))):=by
          have:=RU5.push (b:=t) HR1.out HR2.out hown1
          rw [zip_take' _ _ _ _ _ HV.out HT2.out,← List.append_assoc,← HUU.out,map_take' (rowInstr k j2) (x.args.zip (takesS x.op)) m (v,t) HZ.out,← List.append_assoc,← HRW.out]
          exact this
         have HFN:Hid (Ka w.heap.size w3 w4):=(HFm.out.trans (((Ka.refl _ wr).alloc hsz2 _).drew)).trans hka
         clear hown1 hgrow1 hor hgl1 hka
         go_wp2
         go_roundw
         case rel => exact ⟨m + 1,by omega,by go_num,HIN.out,HFN.out⟩
         case measure => simp [intOf];omega
        ·have HIe:Hid (RU5 wr w.heap.size u3 (us4 ++ usesInstr x) (rs4 ++ rowsInstr k j2 x)):=by
          have:=HIm.out
          rw [List.take_of_length_le (l:=x.args) (by rw [hxl.out];omega),List.take_of_length_le (l:=takesS x.op) (by omega),List.take_of_length_le (l:=x.args.zip (takesS x.op)) (by rw [List.length_zip];omega)] at this
          exact this
         go_wp2
         go_roundw
         case rel => exact ⟨j2 + 1,by omega,by go_num,by rw [flat_take' _ _ _ _ HQ2.out,← List.append_assoc,← HU4.out,HRS4.out];exact HIe.out,HF3.out.trans HFm.out⟩
         case measure => simp [intOf];omega
      ·have HIe:Hid (RU5 wr w.heap.size u3 (us3 ++ q.code.flatMap usesInstr) (rs3 ++ rowsCode k q.code q.code.length)):=by have:=HIj2.out;rw [List.take_of_length_le (by omega),show j2=q.code.length by omega] at this;exact this
       have HUB:Hid ((bs.take (k + 1)).flatMap usesBlock=(us3 ++ q.code.flatMap usesInstr) ++ usesTerm q.term):=by
        show _=_
        rw [flat_take' _ _ _ _ HQ.out,HU3.out,HU1.out]
        simp only [usesBlock,List.append_assoc]
       have HRB:Hid (rowsTo bs (k + 1)=(rs3 ++ rowsCode k q.code q.code.length) ++ rowsTerm k q):=by
        show _=_
        rw [rowsTo,HQ.out,HRS3.out,HRS1.out]
        simp only [rowsBlock,List.append_assoc]
       cases h2:q.term.op == 2
       ·cases h3:q.term.op == 3
        ·have hu:usesTerm q.term=[]:=by
          unfold usesTerm
          rw [if_neg (by simpa using h2),if_neg (by simpa using h3)]
         have HU:=hideI hu
         have HRT:Hid (rowsTerm k q=[]):=by
          show _=_
          unfold rowsTerm
          rw [if_neg (by simpa using h2),if_neg (by simpa using h3)]
         clear hu
         go_wp2
         go_roundw
         case rel => exact ⟨k + 1,by omega,by go_num,by rw [HUB.out,HU.out,List.append_nil,HRB.out,HRT.out,List.append_nil];exact HIe.out,HF1.out.trans HFj2.out⟩
         case measure => simp [intOf];omega
        ·have hu:usesTerm q.term=[(q.term.val,0)]:=by
          unfold usesTerm
          rw [if_neg (by simpa using h2),if_pos (by simpa using h3)]
         have HU:=hideI hu
         have HRT:Hid (rowsTerm k q=[[q.term.val,0,(k:Int),(q.code.length:Int),0]]):=by
          show _=_
          unfold rowsTerm
          rw [if_neg (by simpa using h2),if_pos (by simpa using h3)]
         have hfw:=few_term HFEW.out HQ.out (by rw [hu];exact Nat.zero_lt_one) us1 us3 HU1.out HU3.out
         clear hu
         obtain ⟨uu,huu⟩:∃ uu,uu=us3 ++ q.code.flatMap usesInstr:=⟨_,rfl⟩
         obtain ⟨rows,hrows⟩:∃ rows,rows=rs3 ++ rowsCode k q.code q.code.length:=⟨_,rfl⟩
         rw [← huu] at hfw HIe HUB
         rw [← hrows] at HIe HRB
         clear huu hrows
         obtain ⟨hrw1,hrw2,hown⟩:=HIe.out
         have HR1:=hideI hrw1
         have HR2:=hideI hrw2
         clear hrw1 hrw2
         go_wp2_with (at_builtin;refine wpList_append_lies _ rfl _ _ _ rfl w.heap.size 39 i0 _ 5 40 Tryz.underlying36 hi hz0 hz1 hz2 rfl (by decide) _ _ _ rfl (hown.alloc _) ⟨wr.heap.size,0,none⟩ 1 1 [.int .i64 q.term.val,.int .i64 0,.int .i64 k,.int .i64 q.code.length,.int .i64 0] rfl rfl (five_new _ _ _) (by simp [Value.oneCell']) (by decide) (by unfold maxLen;omega) (by omega) (by simp;omega) _ rfl ?_;intro g1 cap1 w4 hown1 hgrow1 hor hgl1;have hka:=hideI (Ka.grown hgrow1 (hown.alloc _) (by simp;omega));have HO1:=hideI hown1;clear hown1 hgrow1 hor hgl1)
         go_roundw
         case rel => exact ⟨k + 1,by omega,by go_num,by rw [HUB.out,HU.out,HRB.out,HRT.out];exact RU5.push HR1.out HR2.out HO1.out,(HF1.out.trans (HFj2.out.alloc hsz0 _)).trans hka.out⟩
         case measure => simp [intOf];omega
       ·have hu:usesTerm q.term=[(q.term.val,2)]:=by
         unfold usesTerm
         rw [if_pos (by simpa using h2)]
        have HU:=hideI hu
        have HRT:Hid (rowsTerm k q=[[q.term.val,2,(k:Int),(q.code.length:Int),0]]):=by
         show _=_
         unfold rowsTerm
         rw [if_pos (by simpa using h2)]
        have hfw:=few_term HFEW.out HQ.out (by rw [hu];exact Nat.zero_lt_one) us1 us3 HU1.out HU3.out
        clear hu
        have h3:(q.term.op == 3)=false:=by
         have:q.term.op=2:=by simpa using h2
         rw [this];rfl
        obtain ⟨uu,huu⟩:∃ uu,uu=us3 ++ q.code.flatMap usesInstr:=⟨_,rfl⟩
        obtain ⟨rows,hrows⟩:∃ rows,rows=rs3 ++ rowsCode k q.code q.code.length:=⟨_,rfl⟩
        rw [← huu] at hfw HIe HUB
        rw [← hrows] at HIe HRB
        clear huu hrows
        obtain ⟨hrw1,hrw2,hown⟩:=HIe.out
        have HR1:=hideI hrw1
        have HR2:=hideI hrw2
        clear hrw1 hrw2
        go_wp2_with (at_builtin;refine wpList_append_lies _ rfl _ _ _ rfl w.heap.size 39 i0 _ 5 40 Tryz.underlying36 hi hz0 hz1 hz2 rfl (by decide) _ _ _ rfl (hown.alloc _) ⟨wr.heap.size,0,none⟩ 1 1 [.int .i64 q.term.val,.int .i64 2,.int .i64 k,.int .i64 q.code.length,.int .i64 0] rfl rfl (five_new _ _ _) (by simp [Value.oneCell']) (by decide) (by unfold maxLen;omega) (by omega) (by simp;omega) _ rfl ?_;intro g1 cap1 w4 hown1 hgrow1 hor hgl1;have hka:=hideI (Ka.grown hgrow1 (hown.alloc _) (by simp;omega));have HO1:=hideI hown1;have hx4:=((HFj2.out.alloc hsz0 _).trans hka.out).row HB1.out (by decide);clear hown1 hgrow1 hor hgl1)
        go_roundw
        case rel => exact ⟨k + 1,by omega,by go_num,by rw [HUB.out,HU.out,HRB.out,HRT.out];exact RU5.push HR1.out HR2.out HO1.out,(HF1.out.trans (HFj2.out.alloc hsz0 _)).trans hka.out⟩
        case measure => simp [intOf];omega
  ·go_wp2
   go_ret
   refine ⟨_,rfl,?_,(hK0.out.trans HFk.out).below⟩
   have:=HIk.out
   rw [List.take_of_length_le (by omega),show k=bs.length by omega] at this
   exact this
end Go.Proofs.YtaehbgppfahdeaaGreat
