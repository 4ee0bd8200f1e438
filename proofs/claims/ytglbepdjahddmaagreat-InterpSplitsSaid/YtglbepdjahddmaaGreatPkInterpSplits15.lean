/- What InterpSplits rests on, part 15: RPreds, ITrace, ISame, IEndM, IRuns, IOpen, Env, TwoRuns, TwoSteps, TwoConst. -/
import Derived.Test.YtglbepdjahddmaaGreatPkInterpSplits14
import Derived.Deep.QuietTactic
import Derived.BigQuiet
import Derived.Deep.RegionHeld3

namespace Go.Proofs.YtglbepdjahddmaaGreat
open Go.RowKit Go.Maps
def predsRow (bs:List BlockM) (n t b:Nat):List (List Nat):=(List.range n).map fun u => if u < t then predsTo bs n u else if u=t then predsTo bs b u else []
theorem predsRow_at {bs:List BlockM} {n t b u:Nat} (h:u < n):(predsRow bs n t b)[u]?=some (if u < t then predsTo bs n u else if u=t then predsTo bs b u else []):=by
 unfold predsRow
 rw [List.getElem?_map,List.getElem?_eq_getElem (by simpa using h)]
 simp
theorem predsRow_zero (bs:List BlockM) (n:Nat):predsRow bs n 0 0=(List.range n).map fun _ => []:=by
 unfold predsRow
 apply List.map_congr_left
 intro u _
 rw [if_neg (by omega)]
 split
 ·simp [predsTo]
 ·rfl
theorem predsRow_skip {bs:List BlockM} {n t b:Nat} (h:t ∉ succM bs b):predsRow bs n t (b + 1)=predsRow bs n t b:=by
 unfold predsRow
 apply List.map_congr_left
 intro u _
 by_cases e:u=t
 ·subst e
  rw [predsTo_succ,if_neg h,List.append_nil]
 ·simp [e]
theorem predsRow_push {bs:List BlockM} {n t b:Nat} (h:t ∈ succM bs b) (_htn:t < n):(predsRow bs n t b).set t (predsTo bs b t ++ [b])=predsRow bs n t (b + 1):=by
 apply List.ext_getElem?
 intro u
 by_cases hu:u < n
 ·rw [predsRow_at hu]
  by_cases e:t=u
  ·subst e
   rw [List.getElem?_set_self (by unfold predsRow;simpa using hu),if_neg (by omega),if_pos rfl,predsTo_succ,if_pos h]
  ·rw [List.getElem?_set_ne e,predsRow_at hu]
   have e':¬ u=t:=fun x => e x.symm
   simp [e']
 ·rw [List.getElem?_eq_none (by rw [List.length_set];unfold predsRow;simp;omega),List.getElem?_eq_none (by unfold predsRow;simp;omega)]
theorem predsRow_next (bs:List BlockM) (n t:Nat):predsRow bs n t n=predsRow bs n (t + 1) 0:=by
 unfold predsRow
 apply List.map_congr_left
 intro u _
 by_cases h1:u < t
 ·rw [if_pos h1,if_pos (by omega)]
 ·rw [if_neg h1]
  by_cases h2:u=t
  ·subst h2
   rw [if_pos rfl,if_pos (by omega)]
  ·rw [if_neg h2,if_neg (by omega)]
   split
   ·simp [predsTo]
   ·rfl
theorem predsRow_last (bs:List BlockM) (n:Nat):predsRow bs n n 0=predsAt bs n n 0:=by
 unfold predsRow predsAt
 apply List.map_congr_left
 intro u hu
 rw [if_pos (by simpa using hu)]
 simp
theorem mem_to {bs:List BlockM} {q:BlockM} {b t:Nat} (hin:EndsIn bs) (hq:bs[b]?=some q):((t:Int) ∈ q.term.to) ↔ t ∈ succM bs b:=by
 unfold succM
 rw [hq]
 simp only [List.mem_map]
 constructor
 ·exact fun h => ⟨(t:Int),h,by simp⟩
 ·rintro ⟨x,hx,he⟩
  have:=hin q (List.mem_of_getElem? hq) x hx
  have e:x=(t:Int):=by omega
  exact e ▸ hx
set_option maxRecDepth 100000 in
set_option maxHeartbeats 4000000 in
theorem refPreds_any (bs:List BlockM) (B:Nat) (pv av cv bv:Value) (w:World) (hbv:BlocksR w B bv bs) (hB:B ≤ w.heap.size) (hn5:bs.length ≤ 512) (hin:EndsIn bs) :
  Calls Tryz.prog 32 #[.agg #[pv,av,cv,bv]] w (PredsPost bs w):=by
 have HBL:=hideI hbv
 have HIN:=hideI hin
 obtain ⟨A,c,rfl,hbm,_⟩:=hbv
 obtain ⟨i0,hix,hz0,hz1,hz2⟩:=info_parts ints_info
 clear hin
 go_enter Tryz.func32,Tryz.ntmps32
 go_wp2_with (first
  | (at_make;go_must (refine wpList_make_full _ rfl _ _ 39 rfl (w.heap.size + 1) 22 i0 (.slice none 0 0) 1 Tryz.underlying39 hix hz0 hz1 .i64 .i64 _ _ bs.length rfl rfl rfl rfl (by rw [hz2];omega) (by unfold maxLen;omega) (by simp) ?_);intro w1 hown1 hg1;rw [World.size_alloc] at hown1;go_must (have HL1:=hideI (Lists.made hown1);have HGB:=hideI ((hg1.block w.heap.size (by simp) (by simp)).trans (heap_alloc_new w _));have HB0:Hid (Below w.heap.size w w1):=((Below.refl _ _).alloc (Nat.le_refl _) _).grown hg1 (by simp) (by simp);clear hown1 hg1)))
 clear hix hz0 hz1 hz2
 rw [← predsRow_zero bs bs.length] at HL1
 go_loopw [4] (fun u wr => ∃ (t:Nat) (vs:List Value),t ≤ bs.length ∧ u=.int .i64 t ∧ Hid (Lists wr (w.heap.size + 1) (w.heap.size + 1) bs.length vs (predsRow bs bs.length t 0)) ∧ Hid (Below w.heap.size w wr) ∧ Hid (Below (w.heap.size + 1) w1 wr)) (fun u _ => bs.length - (intOf u).toNat)
 case atStart => exact ⟨0,_,Nat.zero_le _,rfl,HL1,HB0,hideI (Below.refl _ _)⟩
 case round =>
  obtain ⟨t,vs,ht,rfl,HL,HBr,HBo⟩:=hrel
  have hxr:=row_cells HGB.out (HBo.out.block w.heap.size (by omega))
  have g3:=hxr 3
  clear hxr
  by_cases hlt:t < bs.length
  ·go_wp2
   clear g3
   obtain ⟨wo,rfl⟩:∃ wo:World,wo=wr:=⟨_,rfl⟩
   go_loopw [5] (fun u wr => ∃ (b:Nat) (vs:List Value),b ≤ bs.length ∧ u=.int .i64 b ∧ Hid (Lists wr (w.heap.size + 1) (w.heap.size + 1) bs.length vs (predsRow bs bs.length t b)) ∧ Hid (Below (w.heap.size + 1) wo wr)) (fun u _ => bs.length - (intOf u).toNat)
   case atStart => exact ⟨0,vs,Nat.zero_le _,rfl,HL,hideI (Below.refl _ _)⟩
   case round =>
    obtain ⟨b,vs2,hb,rfl,HLi,HBi⟩:=hrel
    have hxr:=row_cells HGB.out ((HBo.out.trans HBi.out).block w.heap.size (by omega))
    have g3:=hxr 3
    clear hxr
    by_cases hltb:b < bs.length
    ·obtain ⟨q,hq⟩:∃ q,bs[b]?=some q:=⟨_,List.getElem?_eq_getElem hltb⟩
     obtain ⟨A',c',e0,_,hbx⟩:=(HBL.out.more' hB).keeps (Keeps.of_below (HBr.out.trans (HBi.out.mono (Nat.le_succ _))))
     cases e0
     obtain ⟨ab,off,pq,cq,tv,rfl,hab,x0,x1,x2,x3,x4,x5,_,_,htv,_⟩:=hbx b q hq
     have HTV:=hideI htv
     have HMEM:=hideI (mem_to (t:=t) HIN.out hq)
     obtain ⟨TA,tc,rfl,htm,_⟩:=htv
     obtain ⟨v,hv⟩:∃ v,vs2[t]?=some v:=⟨_,List.getElem?_eq_getElem (by rw [HLi.out.vl];exact hlt)⟩
     obtain ⟨l,hl0⟩:∃ l,l=predsTo bs b t:=⟨_,rfl⟩
     have hl:(predsRow bs bs.length t b)[t]?=some l:=by rw [predsRow_at hlt,if_neg (by omega),if_pos rfl,hl0]
     have hll:l.length ≤ 1000:=by have:=predsTo_len bs b t;rw [hl0];omega
     have q1:wr.cell? ⟨w.heap.size + 1,t,none⟩=some v:=by rw [World.ownsRow.cellAt HLi.out.row t (by omega)];exact hv
     have HOWN:=hideI (HLi.out.own t v l hv hl)
     have hsz:=HLi.out.lt.2
     have HV:=hideI hv
     have HLL:=hideI hl
     have HL0:=hideI hl0
     obtain ⟨tl,htl⟩:∃ tl,tl=q.term.to:=⟨_,rfl⟩
     rw [← htl] at HTV HMEM x4 htm
     clear hbx hq x0 x1 x2 x3 x5 hv hl hl0 htl
     by_cases hin2:(t:Int) ∈ tl
     ·have HC:Hid (decide ((t:Int) ∈ tl)=true):=by show _=_;simpa using hin2
      have HIN2:=hideI (HMEM.out.1 hin2)
      obtain ⟨i1,hjx,hy0,hy1,hy2⟩:=info_parts int_info
      clear hin2
      go_wp2_with (first
       | (go_at_call 69;go_must (refine (has_any _ _ _ _ _ HTV.out).mono ?_);rw [HC.out];rintro e w2 ⟨rfl,rfl⟩)
       | (at_builtin;go_must (refine wpList_append_lies _ rfl _ _ _ rfl (w.heap.size + 1 + 1) 3 i1 (.int .i64 0) 1 8 Tryz.underlying22 hjx hy0 hy1 hy2 rfl (by decide) _ _ _ rfl (HOWN.out.alloc _) ⟨wr.heap.size,0,none⟩ 1 1 [.int .i64 b] rfl rfl (one_new wr _) (by simp [Value.oneCell']) (by decide) (by simp only [maxLen];omega) (by omega) (by simp;omega) _ rfl ?_);intro g1 cap1 w3 hown1 hgrow1 hor1 _;go_must (have HP:=hideI (HLi.out.push HV.out HLL.out hown1 hgrow1 hor1);have HPB:=hideI (HLi.out.pushed (u:=.slice (some ⟨g1,0,none⟩) (l.length + 1) cap1) HV.out HLL.out hgrow1 HBi.out (Nat.le_refl _));obtain ⟨hc4,hf4⟩:=HLi.out.held HV.out HLL.out hgrow1;clear hown1 hgrow1 hor1 q1)))
      go_roundw
      case rel => exact ⟨b + 1,_,by omega,by go_num,by rw [← predsRow_push HIN2.out hlt,← HL0.out];exact HP,HPB⟩
      case measure => simp [intOf];omega
     ·have HC:Hid (decide ((t:Int) ∈ tl)=false):=by show _=_;simpa using hin2
      have HIN2:=hideI (fun h => hin2 (HMEM.out.2 h))
      clear hin2
      go_wp2_with (first
       | (go_at_call 69;go_must (refine (has_any _ _ _ _ _ HTV.out).mono ?_);rw [HC.out];rintro e w2 ⟨rfl,rfl⟩))
      go_roundw
      case rel => exact ⟨b + 1,vs2,by omega,by go_num,by rw [predsRow_skip HIN2.out];exact HLi,HBi⟩
      case measure => simp [intOf];omega
    ·have hbn:b=bs.length:=by omega
     rw [hbn,predsRow_next] at HLi
     clear hbn
     go_wp2
     go_roundw
     case rel => exact ⟨t + 1,vs2,by omega,by go_num,HLi,hideI (HBr.out.trans (HBi.out.mono (Nat.le_succ _))),hideI (HBo.out.trans HBi.out)⟩
     case measure => simp [intOf];omega
  ·have hkn:t=bs.length:=by omega
   rw [hkn,predsRow_last] at HL
   clear hkn
   go_wp2
   go_ret
   exact ⟨_,vs,rfl,⟨HL.out.vl,HL.out.ll,World.ownsRow.mono HL.out.row (by omega),HL.out.own,HL.out.apart⟩,HBr.out⟩
end Go.Proofs.YtglbepdjahddmaaGreat

namespace Go.Proofs.YtglbepdjahddmaaGreat
open Go.RowKit Go.Maps
def TraceR (w:World) (B:Nat) (v:Value) (s:StM) (en:EndM):Prop :=
 ∃ ov av vv,v=.agg #[.int .i64 en.1,.int .i64 en.2.1,.int .i64 en.2.2,ov,av,.int .i64 s.steps,.int .i64 s.checks,vv] ∧ Ints w B ov s.out ∧ ArrsR w B av s.arrs ∧ Ints w B vv s.vis
theorem TraceR.keeps {w W:World} {B:Nat} {v:Value} {s:StM} {en:EndM} (h:TraceR w B v s en) (k:Keeps B w W):TraceR W B v s en:=by
 obtain ⟨ov,av,vv,e,h1,h2,h3⟩:=h
 exact ⟨ov,av,vv,e,h1.keeps k,h2.keeps k,h3.keeps k⟩
theorem row_cap {w:World} {base:Nat} {e:TypeId} {size:Nat} {v:Value} {n:Nat} {xs:List Value} (h:w.ownsRow base e size v n xs):∀ A2 n2 c2,v=.slice A2 n2 c2 → n2 ≤ c2:=by
 intro A2 n2 c2 e2
 rcases h.2 with ⟨e1,e0⟩ | ⟨g,cap,cur,e1,_,_,hx,_⟩
 ·rw [e1] at e2
  injection e2 with _ a b
  omega
 ·rw [e1] at e2
  injection e2 with _ a b
  omega
theorem TraceAt.reads {base:Nat} {w:World} {v:Value} {s:StM} {en:EndM} (h:TraceAt base w v s en) (ho:s.out.length ≤ 140737488351232) (ha:s.arrs.length ≤ 140737488351232) (hl:∀ l ∈ s.arrs,l.length ≤ 140737488351232) (hv:s.vis.length ≤ 140737488351232):TraceR w w.heap.size v s en:=by
 obtain ⟨nv,val,e,hr⟩:=h
 refine ⟨_,_,_,e,ints_own (hr .out _ rfl) ho,?_,ints_own (hr .vis _ rfl) hv⟩
 have hrow:=hr .arrs _ rfl
 obtain ⟨A,cp,ea⟩:=row_form hrow
 refine ⟨A,cp,ea,ha,fun k l hk => ?_⟩
 have hkl:=(List.getElem?_eq_some_iff.1 hk).1
 obtain ⟨g,cap,ev,_,hg⟩:=World.ownsRow.form hrow (by show 0 < s.arrs.length;omega)
 rw [ev] at ea
 injection ea with e1 _ e3
 have hc:=World.ownsRow.cellAt (by rw [ev] at hrow;exact hrow) k (by show k < s.arrs.length * 1;omega)
 refine ⟨g,0,val (.arr k),e1.symm,hg,?_,?_,?_⟩
 ·rw [Nat.zero_add]
  rw [hc,List.getElem?_map,List.getElem?_range hkl]
  rfl
 ·exact ints_own (hr (.arr k) (intRow l) (by show s.arrs[k]?.map intRow=_;rw [hk];rfl)) (hl l (List.mem_of_getElem? hk))
 ·exact row_cap (hr (.arr k) (intRow l) (by show s.arrs[k]?.map intRow=_;rw [hk];rfl))
def TraceIn (lo hi:Nat) (w:World) (v:Value) (s:StM) (en:EndM):Prop :=
 ∃ (nv:Nat) (val:MVals),v=.agg #[.int .i64 en.1,.int .i64 en.2.1,.int .i64 en.2.2,val .out,val .arrs,.int .i64 s.steps,.int .i64 s.checks,val .vis] ∧ ∀ t d,mRow s nv val t=some d → w.ownsRow lo d.elem 1 (val t) d.len d.cells ∧ ∀ g,(val t).ownBlock=some g → g < hi
theorem TraceAt.within {base:Nat} {w:World} {v:Value} {s:StM} {en:EndM} (h:TraceAt base w v s en):TraceIn base w.heap.size w v s en:=by
 obtain ⟨nv,val,e,h⟩:=h
 exact ⟨nv,val,e,fun t d ht => ⟨h t d ht,fun g hg => ((h t d ht).lt g hg).2⟩⟩
theorem TraceIn.at {lo hi:Nat} {w:World} {v:Value} {s:StM} {en:EndM} (h:TraceIn lo hi w v s en):TraceAt lo w v s en:=by
 obtain ⟨nv,val,e,h⟩:=h
 exact ⟨nv,val,e,fun t d ht => (h t d ht).1⟩
theorem TraceIn.kept {lo hi:Nat} {w W:World} {v:Value} {s:StM} {en:EndM} (h:TraceIn lo hi w v s en) (hk:∀ b,lo ≤ b → b < hi → W.heap[b]?=w.heap[b]?):TraceIn lo hi W v s en:=by
 obtain ⟨nv,val,e,h⟩:=h
 exact ⟨nv,val,e,fun t d ht => ⟨owns_kept (h t d ht).1 fun g hg => hk g ((h t d ht).1.lt g hg).1 ((h t d ht).2 g hg),(h t d ht).2⟩⟩
end Go.Proofs.YtglbepdjahddmaaGreat

namespace Go.Proofs.YtglbepdjahddmaaGreat
open Go.RowKit Go.Maps
set_option maxRecDepth 100000 in
set_option maxHeartbeats 2000000 in
theorem sameArrs_yes (w:World) (B:Nat) (v u:Value) (xs:List (List Int)) (h1:ArrsR w B v xs) (h2:ArrsR w B u xs) :
  Calls Tryz.prog 57 #[v,u] w fun e w' => e=.returned (.bool true) ∧ ∃ m,w'=w.drewN m:=by
 have H1:=hideI h1
 have H2:=hideI h2
 obtain ⟨A1,c1,rfl,hm,k1⟩:=h1
 obtain ⟨A2,c2,rfl,_,k2⟩:=h2
 obtain ⟨n,hn⟩:∃ n,n=xs.length:=⟨_,rfl⟩
 rw [← hn] at H1 H2 hm ⊢
 have HN:=hideI hn
 have K1:=hideI k1
 have K2:=hideI k2
 clear k1 k2 hn
 go_enter Tryz.func57,Tryz.ntmps57
 go_wp2
 go_loopw [5] (fun u wr => ∃ k m:Nat,k ≤ n ∧ u=.int .i64 k ∧ wr=w.drewN m) (fun u _ => n - (intOf u).toNat)
 case atStart => exact ⟨0,0,Nat.zero_le _,rfl,rfl⟩
 case round =>
  obtain ⟨k,m,hk,rfl,hwr⟩:=hrel
  have HWR:=hideI hwr
  by_cases hlt:k < n
  ·obtain ⟨l,hl⟩:∃ l,xs[k]?=some l:=⟨_,List.getElem?_eq_getElem (by have:=HN.out;omega)⟩
   obtain ⟨b1,o1,v1,rfl,hb1,d1,i1,_⟩:=K1.out k l hl
   obtain ⟨b2,o2,v2,rfl,hb2,d2,i2,_⟩:=K2.out k l hl
   have d1:wr.cell? ⟨b1,o1 + k,none⟩=some v1:=by rw [hwr];exact d1
   have d2:wr.cell? ⟨b2,o2 + k,none⟩=some v2:=by rw [hwr];exact d2
   have HC:Hid (∀ a,Calls Tryz.prog 15 #[v1,v2] (wr.drewN a) fun e w' => e=.returned (.bool true) ∧ ∃ m,w'=(wr.drewN a).drewN m):=fun a =>
    (sameInts_any (wr.drewN a) B _ _ _ _ (i1.keeps (Keeps.heap' (Keeps.refl _) (by show wr.heap=_;rw [hwr];rfl))) (i2.keeps (Keeps.heap' (Keeps.refl _) (by show wr.heap=_;rw [hwr];rfl)))).mono fun e w' ⟨h1,h2⟩ => ⟨by rw [h1,beq_self_eq_true],h2⟩
   clear hl hwr i1 i2
   go_wp2
   go_quiet ((go_at_call 15;exact Calls.quiet_of (HC.out _)))
   go_wp2
   go_roundw
   case rel => exact ⟨k + 1,_,by omega,by go_num,by rw [HWR.out];exact World.drewN_drewN ..⟩
   case measure => simp [intOf];omega
  ·go_wp2
   go_ret
   exact ⟨rfl,m,rfl⟩
theorem below_two (w:World) (o1 o2:Obj):Below w.heap.size w ((w.alloc o1).alloc o2):=((Below.refl _ w).alloc (Nat.le_refl _) _).alloc (by simp) _
theorem keeps_two {w:World} {B:Nat} (hB:B ≤ w.heap.size) (o1 o2:Obj):Keeps B w ((w.alloc o1).alloc o2):=Keeps.of_below ((below_two w o1 o2).mono hB)
set_option maxRecDepth 100000 in
set_option maxHeartbeats 2000000 in
theorem alike_yes (w:World) (B:Nat) (v u:Value) (s t:StM) (en:EndM) (h1:TraceR w B v s en) (h2:TraceR w B u t en) (hB:B ≤ w.heap.size) (ho:s.out=t.out) (ha:s.arrs=t.arrs) :
  Calls Tryz.prog 25 #[v,u] w fun e w' => e=.returned (.bool true) ∧ Below w.heap.size w w':=by
 have H1:=hideI h1
 have H2:=hideI h2
 obtain ⟨o1,a1,v1,rfl,i1,r1,_⟩:=h1
 obtain ⟨o2,a2,v2,rfl,i2,r2,_⟩:=h2
 obtain ⟨e0,e1,e2⟩:=en
 rw [← ho] at i2
 rw [← ha] at r2
 have HI:Hid (∀ W,Keeps B w W → Calls Tryz.prog 15 #[o1,o2] W fun e w' => e=.returned (.bool true) ∧ ∃ m,w'=W.drewN m):=hideI fun W k =>
  (sameInts_any W B _ _ _ _ (i1.keeps k) (i2.keeps k)).mono fun e w' ⟨h1,h2⟩ => ⟨by rw [h1,beq_self_eq_true],h2⟩
 have HA:Hid (∀ W,Keeps B w W → Calls Tryz.prog 57 #[a1,a2] W fun e w' => e=.returned (.bool true) ∧ ∃ m,w'=W.drewN m):=hideI fun W k => sameArrs_yes W B _ _ _ (r1.keeps k) (r2.keeps k)
 clear i1 i2 r1 r2 ho ha
 go_enter Tryz.func25,Tryz.ntmps25
 go_wp2_with (first
  | (go_at_call 15;go_must (refine (HI.out _ (by exact Keeps.heap' (keeps_two hB _ _) rfl)).mono ?_);rintro e w1 ⟨rfl,m,rfl⟩)
  | (go_at_call 57;go_must (refine (HA.out _ (by exact Keeps.heap' (keeps_two hB _ _) rfl)).mono ?_);rintro e w1 ⟨rfl,m2,rfl⟩))
 go_ret
 exact ⟨rfl,below_drewN (below_two w _ _) _⟩
end Go.Proofs.YtglbepdjahddmaaGreat

namespace Go.Proofs.YtglbepdjahddmaaGreat
open Go.RowKit Go.Maps
structure EndOk (en:EndM):Prop where
 lo:1 ≤ en.1
 hi:en.1 ≤ 5
 trap:en.1=2 ∨ en.2.2=0
 value:en.1=1 ∨ en.2.1=0
end Go.Proofs.YtglbepdjahddmaaGreat

namespace Go.Proofs.YtglbepdjahddmaaGreat
open Go.RowKit Go.Maps
def noS:StM:=⟨fun _ => 0,[],[],[],0,0,[]⟩
def Runs (f:FuncM) (I:InM) (F:Nat) (s:StM) (en:EndM):Prop:=(CheckIs f (0,0) ∧ EndIs f I (min F 200000) s en) ∨ (¬ CheckIs f (0,0) ∧ s=noS ∧ en=(6,0,0))
def RunR (f:FuncM) (I:InM) (F:Nat) (w:World) (e:Ending) (w':World):Prop:=∃ v s en,e=.returned v ∧ Runs f I F s en ∧ TraceR w' w'.heap.size v s en ∧ Below w.heap.size w w'
theorem noS_at (base:Nat) (w:World):TraceAt base w refusedV noS (6,0,0):=by
 refine ⟨0,fun _ => .slice none 0 0,rfl,fun t d ht => ?_⟩
 cases t with
 | arr k => cases ht
 | _ => injection ht with ht;subst ht;exact World.ownsRow_nil _ _ _ _
theorem EndIs.bounds {f:FuncM} {I:InM} {F:Nat} {s:StM} {en:EndM} (_hs:CheckIs f (0,0)) (h:EndIs f I (min F 200000) s en):KeepM f I s ∧ s.steps ≤ min F 200000:=end_keeps (start_fit f I) h
def RunT (f:FuncM) (I:InM) (F:Nat) (w:World) (e:Ending) (w':World):Prop:=∃ v s en,e=.returned v ∧ Runs f I F s en ∧ TraceAt w.heap.size w' v s en ∧ Below w.heap.size w w'
theorem irun_laid (f:FuncM) (I:InM) (B:Nat) (pv bv av rv:Value) (F:Nat) (w:World) (hpv:Ints w B pv f.params) (hbv:BlocksR w B bv f.blocks) (hB:B ≤ w.heap.size) (hid:∀ u ∈ usesM f,I64 u.1)
  (ha:Ints w B av I.args) (hr:ArrsR w B rv I.arrs) :
  Calls Tryz.prog 17 #[.agg #[pv,.int .i64 f.arrays,.int .i64 f.cells,bv],.agg #[av,rv],.int .i64 F] w (RunT f I F w):=by
 refine (irun_any f I B pv bv av rv F w hpv hbv hB hid ha hr).mono ?_
 rintro e w' (⟨hs,_,v,s,en,rfl,hend,htr,hb⟩ | ⟨hn,rfl,hb⟩)
 ·rw [Int.toNat_natCast] at hend
  exact ⟨v,s,en,rfl,.inl ⟨hs,hend⟩,htr,hb⟩
 ·have hn:¬ CheckIs f (0,0):=by
   rcases hn with h | h
   ·exact h
   ·omega
  exact ⟨_,noS,_,rfl,.inr ⟨hn,rfl,rfl⟩,noS_at _ _,hb⟩
theorem Runs.short {f:FuncM} {I:InM} {F:Nat} {s:StM} {en:EndM} (h:Runs f I F s en):s.out.length ≤ 4096 ∧ s.arrs.length ≤ 8 ∧ (∀ l ∈ s.arrs,l.length ≤ 4096) ∧ s.vis.length ≤ 512 ∧ s.steps ≤ min F 200000 ∧ 0 ≤ s.checks ∧ (s.out.length:Int) + s.checks ≤ s.steps:=by
 rcases h with ⟨hs,hend⟩ | ⟨_,rfl,_⟩
 ·obtain ⟨hk,hst⟩:=hend.bounds hs
  obtain ⟨_,_,_,h8,h5⟩:=strict_bounds hs
  have hf:=hk.fit
  exact ⟨hf.out,by have:=hf.arrs;omega,hk.short,by have:=hf.vis;omega,hst,hk.told.1,hk.told.2⟩
 ·exact ⟨Nat.zero_le _,Nat.zero_le _,fun l hl => by simp [noS] at hl,Nat.zero_le _,Nat.zero_le _,Int.le_refl _,Int.le_refl _⟩
theorem Runs.reads {f:FuncM} {I:InM} {F:Nat} {s:StM} {en:EndM} {base:Nat} {w:World} {v:Value} (h:Runs f I F s en) (ht:TraceAt base w v s en):TraceR w w.heap.size v s en:=by
 obtain ⟨h1,h2,h3,h4,_⟩:=h.short
 exact ht.reads (by omega) (by omega) (fun l hl => by have:=h3 l hl;omega) (by omega)
end Go.Proofs.YtglbepdjahddmaaGreat

namespace Go.Proofs.YtglbepdjahddmaaGreat
open Go.ChangeShapes Go.WideShapes Go.ChangeAt Go.RowKit Go.Deep
section
variable {H:Type} {enc:TypeId × Value → H} {w:World}
theorem bytes22:Tryz.prog.bytesOf 22=24:=by kernel_rfl
theorem cellsI:Tryz.prog.cellsOf 39=1:=by kernel_rfl
theorem cellsIn:Tryz.prog.cellsOf 41=2:=by kernel_rfl
theorem rd_cap {fuel:Nat} {v:Value} {x:DataW H × List MemPlace} (h:Rd enc w fuel 22 [v] x):∀ A n c,v=.slice A n c → n ≤ c:=by
 intro A n c e
 rcases open_ints Tryz.underlying22 Tryz.underlying3 cells3 h with ⟨hv,_⟩ | ⟨a,len',cap',zs,hv,_,hl,hm,hz,_⟩
 ·injection hv with hv
  subst hv
  injection e with _ e1 e2
  omega
 ·injection hv with hv
  subst hv
  injection e with _ e1 e2
  simp only [if_true] at hz
  omega
theorem rd_lists {fuel:Nat} {v:Value} {x:DataW H × List MemPlace} (h:Rd enc w fuel 39 [v] x) (hs:Sz 39 x.1):∃ xs,ArrsR w w.heap.size v xs:=by
 obtain ⟨A,n,cap,rfl,hn,hk⟩:=rd_slice Tryz.underlying39 cells22 (by rw [bytes22];omega) (by omega) h hs
 obtain ⟨xs,hl,hps⟩:=list_choose (α:=List Int) (R:=fun k l => ∃ b off lv,A=some ⟨b,off,none⟩ ∧ b < w.heap.size ∧ w.cell? ⟨b,off + k,none⟩=some lv ∧ Ints w w.heap.size lv l ∧ ∀ A2 n2 c2,lv=.slice A2 n2 c2 → n2 ≤ c2) n (fun k hlt => by
   obtain ⟨b,off,cs,f,y,hA,hb,hlen,hc,hr,hz⟩:=hk k hlt
   obtain ⟨c0,rfl⟩:∃ c0,cs=[c0]:=by
    match cs,hlen with
    | [a],_ => exact ⟨a,rfl⟩
   obtain ⟨l,hi,_⟩:=rd_ints hr hz
   exact ⟨l,b,off,c0,hA,hb,by have:=hc 0 (by omega);rw [Nat.mul_one,Nat.add_zero] at this;exact this,hi,rd_cap hr⟩)
 subst hl
 exact ⟨xs,A,cap,rfl,hn,fun k l hk => hps k l hk⟩
structure InIn (w:World) (I:InM) (av rv:Value):Prop where
 args:Ints w w.heap.size av I.args
 arrs:ArrsR w w.heap.size rv I.arrs
set_option maxRecDepth 100000 in
theorem open_input {ts:List TypeId} {ds:List (DataW H)} {base:Nat} {v:Value} {d:DataW H} {p:List MemPlace} (hok:Value.okWide Tryz.prog w .any base 41 v) (h:DataW.Trod enc Tryz.prog w 0 (fun _ => true) true 41 v d p)
  (hsz:(DataW.weightsEach Tryz.prog ts ds).all (· ≤ reachBytes)=true) {j:Nat} (ht:ts[j]?=some 41) (hd:ds[j]?=some d) :
  ∃ (I:InM) (av rv:Value),v=.agg #[av,rv] ∧ InIn w I av rv:=by
 obtain ⟨cs,rfl,_⟩:=okWide_struct Tryz.underlying41 hok
 obtain ⟨fuel,hf⟩:=h
 have hs:Sz 41 d:=by
  intro n hn
  have h1:=List.all_eq_true.1 hsz n (DataW.weights_mem_each ht hd n hn)
  rw [decide_eq_true_eq] at h1
  exact h1
 have hf':Rd enc w fuel 41 cs.toList (d,p):=hf
 obtain ⟨ys,n,_,hx,hlen,_,hg⟩:=DataW.trod_struct Tryz.underlying41 hf'
 rw [cellsIn] at hlen
 obtain ⟨l,hl⟩:∃ l,l=cs.toList:=⟨_,rfl⟩
 rw [← hl] at hlen hf'
 obtain ⟨c0,c1,rfl⟩:∃ c0 c1,l=[c0,c1]:=by
  match l,hlen with
  | [a,b],_ => exact ⟨a,b,rfl⟩
 obtain ⟨n0,y0,r0,z0⟩:=rd_field1 Tryz.underlying41 hf' hs 0 rfl 22 rfl 0 rfl cells22 rfl
 obtain ⟨n1,y1,r1,z1⟩:=rd_field1 Tryz.underlying41 hf' hs 1 rfl 39 rfl 1 rfl cellsI rfl
 obtain ⟨xs,hxs,_⟩:=rd_ints r0 z0
 obtain ⟨ls,hls⟩:=rd_lists r1 z1
 refine ⟨⟨xs,ls⟩,c0,c1,?_,hxs,hls⟩
 congr 1
 rw [← Array.toArray_toList (xs:=cs),← hl]
end
end Go.Proofs.YtglbepdjahddmaaGreat

namespace Go.Proofs.YtglbepdjahddmaaGreat
open Go.RowKit
def updE (e:Nat → Value) (d:Option Nat) (v:Value):Nat → Value:=fun x => if d=some x then v else e x
def updB (L:Nat → Bool) (i:Nat):Nat → Bool:=fun x => if i=x then true else L x
def putEnv (a:Act):List Nat → (Nat → Value) → Act
 | [],_ => a
 | d :: ds,e => putEnv (a.put (some d) (e d)) ds e
theorem put_twice (a:Act) (d:Nat) (v u:Value):(a.put (some d) v).put (some d) u=a.put (some d) u:=by
 simp [Act.put]
theorem put_swap (a:Act) {d c:Nat} (h:d ≠ c) (v u:Value):(a.put (some d) v).put (some c) u=(a.put (some c) u).put (some d) v:=by
 simp only [Act.put]
 rw [Array.setIfInBounds_comm _ _ h]
theorem putEnv_put:∀ (ds:List Nat) (a:Act) (e:Nat → Value) (d:Nat) (v:Value),d ∉ ds → (putEnv a ds e).put (some d) v=putEnv (a.put (some d) v) ds e
 | [],_,_,_,_,_ => rfl
 | c :: ds,a,e,d,v,h => by
  show (putEnv (a.put (some c) (e c)) ds e).put (some d) v=putEnv ((a.put (some d) v).put (some c) (e c)) ds e
  rw [putEnv_put ds _ e d v (fun hm => h (List.mem_cons_of_mem _ hm)),put_swap a (fun e => h (by rw [e];exact List.mem_cons_self ..))]
theorem putEnv_congr:∀ (ds:List Nat) (a:Act) (e e':Nat → Value),(∀ d ∈ ds,e d=e' d) → putEnv a ds e=putEnv a ds e'
 | [],_,_,_,_ => rfl
 | c :: ds,a,e,e',h => by
  show putEnv (a.put (some c) (e c)) ds e=putEnv (a.put (some c) (e' c)) ds e'
  rw [h c (List.mem_cons_self ..),putEnv_congr ds _ e e' fun d hd => h d (List.mem_cons_of_mem _ hd)]
theorem putEnv_upd:∀ (ds:List Nat) (a:Act) (e:Nat → Value) (d:Nat) (v:Value),ds.Nodup → d ∈ ds → (putEnv a ds e).put (some d) v=putEnv a ds (updE e (some d) v)
 | c :: ds,a,e,d,v,hn,hm => by
  obtain ⟨hc,hn⟩:=List.nodup_cons.1 hn
  show (putEnv (a.put (some c) (e c)) ds e).put (some d) v=putEnv (a.put (some c) (updE e (some d) v c)) ds (updE e (some d) v)
  by_cases h:c=d
  ·subst h
   rw [putEnv_put ds _ e c v hc,put_twice,show updE e (some c) v c=v by simp [updE]]
   refine putEnv_congr ds _ _ _ fun x hx => ?_
   have:c ≠ x:=fun h => hc (by rw [h];exact hx)
   simp [updE,this]
  ·rw [show updE e (some d) v c=e c by simp [updE,Ne.symm h]]
   exact putEnv_upd ds _ e d v hn (by rcases List.mem_cons.1 hm with h' | h';exact absurd h'.symm h;exact h')
theorem putEnv_out:∀ (ds:List Nat) (a:Act) (e:Nat → Value) (d:Nat),d ∉ ds → (putEnv a ds e).eval (.tmp d)=a.eval (.tmp d)
 | [],_,_,_,_ => rfl
 | c :: ds,a,e,d,h => by
  show (putEnv (a.put (some c) (e c)) ds e).eval (.tmp d)=_
  rw [putEnv_out ds _ e d fun hm => h (List.mem_cons_of_mem _ hm)]
  have:c ≠ d:=fun e => h (by rw [e];exact List.mem_cons_self ..)
  simp [Act.put,Act.eval,Array.getD_eq_getD_getElem?,this]
theorem putEnv_in:∀ (ds:List Nat) (a:Act) (e:Nat → Value) (d:Nat),ds.Nodup → d ∈ ds → d < a.tmps.size → (putEnv a ds e).eval (.tmp d)=e d
 | c :: ds,a,e,d,hn,hm,hs => by
  obtain ⟨hc,hn⟩:=List.nodup_cons.1 hn
  show (putEnv (a.put (some c) (e c)) ds e).eval (.tmp d)=_
  by_cases h:c=d
  ·subst h
   rw [putEnv_out ds _ e c hc]
   simp [Act.put,Act.eval,Array.getD_eq_getD_getElem?,hs]
  ·exact putEnv_in ds _ e d hn (by rcases List.mem_cons.1 hm with h' | h';exact absurd h'.symm h;exact h') (by simp [Act.put];exact hs)
theorem putEnv_self:∀ (ds:List Nat) (a:Act),putEnv a ds (fun d => a.eval (.tmp d))=a
 | [],_ => rfl
 | c :: ds,a => by
  show putEnv (a.put (some c) (a.eval (.tmp c))) ds _=a
  have h:a.put (some c) (a.eval (.tmp c))=a:=by
   obtain ⟨t,l⟩:=a
   simp only [Act.put,Act.eval,Act.mk.injEq,and_true]
   apply Array.ext_getElem?
   intro i
   rw [Array.getElem?_setIfInBounds]
   split
   ·rename_i h
    subst h
    split
    ·rename_i h
     simp [h]
    ·rename_i h
     rw [Array.getElem?_eq_none (by omega)]
   ·rfl
  rw [h]
  exact putEnv_self ds a
section
variable {P:Program} {ops:Array Oper} {Q:Exit → Act → World → Prop} {a0:Act} {ds:List Nat} {F:(Nat → Bool) → (Nat → Value) → World → Prop}
def StepOk (P:Program) (ops:Array Oper) (Q:Exit → Act → World → Prop) (a0:Act) (ds:List Nat) (F:(Nat → Bool) → (Nat → Value) → World → Prop) (i:Nat) (o:Oper):Prop :=
 ∀ (L:Nat → Bool) (e:Nat → Value) (w:World) (a:Act),L i=false → (∀ x ∈ o.after.toList,Region.binds .any x=true → L x.on=true) → F L e w →
  (∀ d ∈ ds,a.eval (.tmp d)=e d) → (∀ d,d ∉ ds → a.eval (.tmp d)=a0.eval (.tmp d)) →
  ∀ K:Act → World → Prop,(∀ v w',F (updB L i) (updE e o.dst v) w' → K (a.put o.dst v) w') → if Region.wanted o (yielded ops a.tmps)=true then Oper.wp P o a w K Q else K (a.put o.dst undef) w
def StepsOk (P:Program) (ops:Array Oper) (Q:Exit → Act → World → Prop) (a0:Act) (ds:List Nat) (F:(Nat → Bool) → (Nat → Value) → World → Prop):Nat → List Oper → Prop
 | _,[] => True
 | i,o :: r => StepOk P ops Q a0 ds F i o ∧ StepsOk P ops Q a0 ds F (i + 1) r
theorem steps_at {l:List Oper}:∀ {k:Nat},StepsOk P ops Q a0 ds F k l → ∀ {i:Nat} {o:Oper},l[i]?=some o → StepOk P ops Q a0 ds F (k + i) o:=by
 induction l with
 | nil => intro k _ i o ho;cases ho
 | cons p l ih =>
  intro k h i o ho
  obtain ⟨h1,h2⟩:=(id h:StepOk P ops Q a0 ds F k p ∧ StepsOk P ops Q a0 ds F (k + 1) l)
  cases i with
  | zero =>
   rw [List.getElem?_cons_zero] at ho
   rw [Option.some.inj ho] at h1
   exact h1
  | succ i =>
   rw [List.getElem?_cons_succ] at ho
   have:=ih h2 ho
   rw [show k + (i + 1)=k + 1 + i by omega]
   exact this
def EnvJ (ops:Array Oper) (a0:Act) (ds:List Nat) (F:(Nat → Bool) → (Nat → Value) → World → Prop) (listed:Array Bool) (a:Act) (w:World):Prop :=
 listed.size=ops.size ∧ ∃ e,a=putEnv a0 ds e ∧ F (fun i => listed.getD i true) e w
def dstsB (ops:Array Oper) (ds:List Nat) (n:Nat):Bool:=ops.all fun o => match o.dst with | some d => ds.contains d && decide (d < n) | none => true
theorem count_set {listed:Array Bool} {i:Nat} (hl:i < listed.size) (h0:listed.getD i true=false):∀ l:List Nat,(l.filter fun j => !(listed.setIfInBounds i true).getD j true).length ≤ (l.filter fun j => !listed.getD j true).length ∧ (i ∈ l → (l.filter fun j => !(listed.setIfInBounds i true).getD j true).length < (l.filter fun j => !listed.getD j true).length)
 | [] => ⟨Nat.le_refl _,fun h => by cases h⟩
 | j :: l => by
  obtain ⟨h1,h2⟩:=count_set hl h0 l
  by_cases hij:i=j
  ·subst hij
   have e1:(!(listed.setIfInBounds i true).getD i true)=false:=by simp [hl]
   have e2:(!listed.getD i true)=true:=by rw [h0];rfl
   rw [List.filter_cons,List.filter_cons,e1,e2]
   simp only [Bool.false_eq_true,if_false,if_true,List.length_cons]
   exact ⟨by omega,fun _ => by omega⟩
  ·rw [List.filter_cons,List.filter_cons,getD_set_ne true hij]
   have hm:i ∈ j :: l → i ∈ l:=fun h => by rcases List.mem_cons.1 h with h | h;exact absurd h hij;exact h
   cases hv:listed.getD j true with
   | true =>
    simp only [Bool.not_true,Bool.false_eq_true,if_false]
    exact ⟨h1,fun h => h2 (hm h)⟩
   | false =>
    simp only [Bool.not_false,if_true,List.length_cons]
    exact ⟨by omega,fun h => by have:=h2 (hm h);omega⟩
theorem env_step (hn:ds.Nodup) (hd:dstsB ops ds a0.tmps.size=true) (hds:ds.all (fun d => decide (d < a0.tmps.size))=true) (hF:∀ L L' e w,(∀ i,L i=L' i) → F L e w → F L' e w) (hs:StepsOk P ops Q a0 ds F 0 ops.toList)
  {listed:Array Bool} {a:Act} {w:World} (h:EnvJ ops a0 ds F listed a w) {i:Nat} (hi:i ∈ Region.ready .any ops listed) (K':Act → World → Prop) (hK':∀ a' w',EnvJ ops a0 ds F (listed.setIfInBounds i true) a' w' → K' a' w'):wpOp P ops Q i K' a w:=by
 obtain ⟨h1,e,rfl,hf⟩:=h
 obtain ⟨h0,o,ho,hafter⟩:=mem_ready.1 hi
 have hlt:=(Array.getElem?_eq_some_iff.1 ho).1
 have hst:=steps_at hs (i:=i) (o:=o) (by rw [Array.getElem?_toList];exact ho)
 rw [Nat.zero_add] at hst
 have hdo:∀ d,o.dst=some d → d ∈ ds:=fun d hdd => by
  unfold dstsB at hd
  rw [Array.all_eq_true_iff_forall_mem] at hd
  have:=hd o (Array.mem_of_getElem? ho)
  rw [hdd] at this
  have h2:d ∈ ds ∧ d < a0.tmps.size:=by simpa using this
  exact h2.1
 refine wpOp_step ho fun K hK => ?_
 refine hst (fun i => listed.getD i true) e w (putEnv a0 ds e) h0 (fun x hx hb => ?_) hf (fun d hdd => ?_) (fun d hdd => putEnv_out ds a0 e d hdd) K (fun v w' hf' => ?_)
 ·have h2:=hafter x (by simpa using hx) hb
  rcases Nat.lt_or_ge x.on listed.size with h' | h'
  ·simp [h'] at h2 ⊢;exact h2
  ·simp [Array.getElem?_eq_none h'] at h2
 ·rw [List.all_eq_true] at hds
  exact putEnv_in ds a0 e d hn hdd (by simpa using hds d hdd)
 ·refine hK _ _ (hK' _ _ ⟨by simpa using h1,updE e o.dst v,?_,hF _ _ _ _ (fun j => ?_) hf'⟩)
  ·cases hdst:o.dst with
   | none => exact putEnv_congr ds a0 _ _ fun d _ => by simp [updE]
   | some d => exact putEnv_upd ds a0 e d v hn (hdo d hdst)
  ·unfold updB
   by_cases hij:i=j
   ·subst hij
    simp [h1,hlt]
   ·rw [if_neg hij,getD_set_ne true hij]
theorem wpAny_env (hn:ds.Nodup) (hd:dstsB ops ds a0.tmps.size=true) (hds:ds.all (fun d => decide (d < a0.tmps.size))=true) (hF:∀ L L' e w,(∀ i,L i=L' i) → F L e w → F L' e w) (hs:StepsOk P ops Q a0 ds F 0 ops.toList)
  (hend:∀ e w,F (fun _ => true) e w → Q .normal (putEnv a0 ds e) w) (hall:∀ l:Array Bool,l.size=ops.size → Region.ready .any ops l=[] → ∀ i,l.getD i true=true) (fuel:Nat) :
  ∀ (listed:Array Bool) (a:Act) (w:World),EnvJ ops a0 ds F listed a w → ((List.range ops.size).filter fun i => !listed.getD i true).length ≤ fuel → wpAny P .any ops Q fuel listed a w:=by
 have hfin:∀ (listed:Array Bool) (a:Act) (w:World),EnvJ ops a0 ds F listed a w → Region.ready .any ops listed=[] → Q .normal a w:=fun listed a w ⟨h1,e,h2,hf⟩ hr => by
  rw [h2]
  exact hend e w (hF _ _ e w (fun i => hall listed h1 hr i) hf)
 induction fuel with
 | zero =>
  intro listed a w h hlen
  have hr:Region.ready .any ops listed=[]:=by
   cases hr:Region.ready .any ops listed with
   | nil => rfl
   | cons j r =>
    obtain ⟨h0,o,ho,_⟩:=mem_ready.1 (by rw [hr];exact List.mem_cons_self ..:j ∈ Region.ready .any ops listed)
    have hm:j ∈ (List.range ops.size).filter fun i => !listed.getD i true:=List.mem_filter.2 ⟨List.mem_range.2 (Array.getElem?_eq_some_iff.1 ho).1,by rw [h0];rfl⟩
    have:=List.length_pos_of_mem hm
    omega
  exact ⟨hr,hfin listed a w h hr⟩
 | succ fuel ih =>
  intro listed a w h hlen
  refine ⟨fun hr => hfin listed a w h hr,fun i hi => ?_⟩
  refine env_step hn hd hds hF hs h hi _ fun a' w' h' => ih _ _ _ h' ?_
  obtain ⟨h0,o,ho,_⟩:=mem_ready.1 hi
  have hlt:=(Array.getElem?_eq_some_iff.1 ho).1
  have:=(count_set (listed:=listed) (by rw [h.1];exact hlt) h0 (List.range ops.size)).2 (List.mem_range.2 hlt)
  omega
def fwdB (ops:Array Oper):Bool:=(List.range ops.size).all fun i => match ops[i]? with | some o => o.after.all fun x => !Region.binds .any x || decide (x.on < i) | none => true
theorem fwd_all (h:fwdB ops=true) (l:Array Bool) (hl:l.size=ops.size) (hr:Region.ready .any ops l=[]):∀ i,l.getD i true=true:=by
 intro i
 induction i using Nat.strongRecOn with
 | _ i ih =>
  rcases Nat.lt_or_ge i ops.size with hlt | hge
  ·cases hv:l.getD i true with
   | true => rfl
   | false =>
    exfalso
    have ho:ops[i]?=some ops[i]:=Array.getElem?_eq_getElem hlt
    have:i ∈ Region.ready .any ops l:=mem_ready.2 ⟨hv,ops[i],ho,fun x hx hb => by
     unfold fwdB at h
     rw [List.all_eq_true] at h
     have h2:=h i (List.mem_range.2 hlt)
     rw [ho] at h2
     simp only [Array.all_eq_true_iff_forall_mem] at h2
     have h3:=h2 x hx
     rw [hb] at h3
     have h4:x.on < i:=by simpa using h3
     have h5:=ih x.on h4
     have h6:x.on < l.size:=by omega
     simp [h6] at h5 ⊢
     exact h5⟩
    rw [hr] at this
    cases this
  ·simp [Array.getElem?_eq_none (by omega:l.size ≤ i)]
theorem wp_region_env {id:Nat} {w:World} (hm:P.follows .mixedOrders=true) (ds:List Nat) (F:(Nat → Bool) → (Nat → Value) → World → Prop) (n:Nat) (hsz:a0.tmps.size=n) (hn:ds.Nodup) (hd:dstsB ops ds n=true) (hds:ds.all (fun d => decide (d < n))=true) (hfw:fwdB ops=true)
  (h0:∀ e,F (fun _ => false) e w.drew) (hF:∀ L L' e w,(∀ i,i < ops.size → L i=L' i) → F L e w → F L' e w) (hs:StepsOk P ops Q a0 ds F 0 ops.toList) (hend:∀ e w,F (fun _ => true) e w → Q .normal (putEnv a0 ds e) w) :
  (Code.region id ops true).wp P Q a0 w:=by
 subst hsz
 refine wp_region_any hm (wpAny_env (F:=F) hn hd hds (fun L L' e w h => hF L L' e w fun i _ => h i) hs hend (fwd_all hfw) ops.size _ a0 _ ⟨by simp,_,(putEnv_self ds a0).symm,hF _ _ _ _ (fun i hi => ?_) (h0 _)⟩ ?_)
 ·simp [hi]
 ·exact Nat.le_trans (List.length_filter_le _ _) (by simp)
end
end Go.Proofs.YtglbepdjahddmaaGreat

namespace Go.Proofs.YtglbepdjahddmaaGreat
open Go.RowKit Go.Maps
structure TwoP where
 c:Bool → Nat
 s:Bool → Nat
 a:Bool → Nat
 t:Bool → Nat
 p:Bool → Nat
 known:List (Nat × Nat)
def TwoP.okB (q:TwoP):Bool :=
 decide ([q.c false,q.c true,q.a false,q.a true,q.p false,q.p true].Nodup) && decide ([q.s false,q.s true,q.t false,q.t true].Nodup) &&
 q.known.all fun x => q.known.all (fun y => x.1 != y.1 || x == y) && !([q.c false,q.c true,q.a false,q.a true,q.p false,q.p true].contains x.1) && !([q.s false,q.s true,q.t false,q.t true].contains x.2)
structure TwoP.Ok (q:TwoP):Prop where
 cc:q.c false ≠ q.c true
 aa:q.a false ≠ q.a true
 pp:q.p false ≠ q.p true
 ca:∀ j k,q.c j ≠ q.a k
 cp:∀ j k,q.c j ≠ q.p k
 ap:∀ j k,q.a j ≠ q.p k
 ss:q.s false ≠ q.s true
 tt:q.t false ≠ q.t true
 st:∀ j k,q.s j ≠ q.t k
 one:∀ x ∈ q.known,∀ y ∈ q.known,x.1=y.1 → x=y
 kc:∀ x ∈ q.known,∀ j,x.1 ≠ q.c j ∧ x.1 ≠ q.a j ∧ x.1 ≠ q.p j ∧ x.2 ≠ q.s j ∧ x.2 ≠ q.t j
theorem TwoP.ok_of {q:TwoP} (h:q.okB=true):q.Ok:=by
 unfold TwoP.okB at h
 simp only [Bool.and_eq_true,decide_eq_true_eq,List.all_eq_true,Bool.not_eq_true',Bool.or_eq_true,bne_iff_ne,beq_iff_eq,List.nodup_cons,List.mem_cons,List.not_mem_nil,or_false,not_or,List.contains_eq_mem,decide_eq_false_iff_not] at h
 obtain ⟨⟨⟨⟨c1,c2,c3,c4,c5⟩,⟨d2,d3,d4,d5⟩,⟨e3,e4,e5⟩,⟨f4,f5⟩,g5,_⟩,⟨s1,s2,s3⟩,⟨r2,r3⟩,q3,_⟩,hk⟩:=h
 refine ⟨c1,e3,g5,fun j k => ?_,fun j k => ?_,fun j k => ?_,s1,q3,fun j k => ?_,fun x hx y hy he => ?_,fun x hx j => ?_⟩
 ·cases j <;> cases k <;> assumption
 ·cases j <;> cases k <;> assumption
 ·cases j <;> cases k <;> assumption
 ·cases j <;> cases k <;> assumption
 ·obtain ⟨⟨h1,_⟩,_⟩:=hk x hx
  rcases h1 y hy with h1 | h1
  ·exact absurd he h1
  ·exact h1
 ·obtain ⟨⟨_,h2⟩,h3⟩:=hk x hx
  obtain ⟨a1,a2,a3,a4,a5,a6⟩:=h2
  obtain ⟨b1,b2,b3,b4⟩:=h3
  cases j <;> exact ⟨by assumption,by assumption,by assumption,by assumption,by assumption⟩
structure TwoF (q:TwoP) (kv:Nat → Value) (RR:Bool → StM → EndM → Prop) (W2:World) (L:Nat → Bool) (e:Nat → Value) (w:World):Prop where
 below:Below W2.heap.size W2 w
 known:∀ x ∈ q.known,L x.1=true → e x.2=kv x.2
 run:∀ j,L (q.c j)=true → ∃ s en lo hi,RR j s en ∧ TraceIn lo hi w (e (q.s j)) s en ∧ hi ≤ w.heap.size ∧ ∀ k g,L (q.a k)=true → e (q.t k)=.pointer (some ⟨g,0,none⟩) → g < lo ∨ hi ≤ g
 made:∀ k,L (q.a k)=true → ∃ g x0 x1 x2 x3 x4 x5 x6 x7,e (q.t k)=.pointer (some ⟨g,0,none⟩) ∧ W2.heap.size ≤ g ∧ g < w.heap.size ∧ w.heap[g]?=some (.cells #[x0,x1,x2,x3,x4,x5,x6,x7] 43 (0,0))
 ne:L (q.a false)=true → L (q.a true)=true → e (q.t false) ≠ e (q.t true)
 put:∀ k,L (q.p k)=true → L (q.a k)=true ∧ L (q.c k)=true ∧ ∃ g cs,e (q.t k)=.pointer (some ⟨g,0,none⟩) ∧ e (q.s k)=.agg cs ∧ w.heap[g]?=some (.cells cs 43 (0,0))
section
variable {q:TwoP} {kv:Nat → Value} {RR:Bool → StM → EndM → Prop} {W2:World} {L:Nat → Bool} {e:Nat → Value} {w w':World}
theorem TwoF.start (W2:World):TwoF q kv RR W2 (fun _ => false) e W2.drew :=
 ⟨(Below.refl _ _).drew,(fun _ _ h => absurd h (by decide)),(fun _ h => absurd h (by decide)),(fun _ h => absurd h (by decide)),(fun h => absurd h (by decide)),(fun _ h => absurd h (by decide))⟩
theorem updB_of {L:Nat → Bool} {i x:Nat} (h:updB L i x=true) (hn:i ≠ x):L x=true:=by
 unfold updB at h
 rwa [if_neg hn] at h
theorem updE_other (e:Nat → Value) {d x:Nat} (h:d ≠ x) (v:Value):updE e (some d) v x=e x:=by
 unfold updE
 rw [if_neg (by simpa using h)]
theorem updE_same (e:Nat → Value) (d:Nat) (v:Value):updE e (some d) v d=v:=by
 unfold updE
 rw [if_pos rfl]
theorem TwoF.grow (h:TwoF q kv RR W2 L e w) (hb:Below w.heap.size w w'):TwoF q kv RR W2 L e w':=by
 refine ⟨h.below.trans (hb.mono h.below.size),h.known,fun j hj => ?_,fun k hk => ?_,h.ne,fun k hk => ?_⟩
 ·obtain ⟨s,en,lo,hi,h1,h2,h3,h4⟩:=h.run j hj
  exact ⟨s,en,lo,hi,h1,h2.kept fun b _ hb2 => hb.block b (by omega),Nat.le_trans h3 hb.size,h4⟩
 ·obtain ⟨g,x0,x1,x2,x3,x4,x5,x6,x7,h1,h2,h3,h4⟩:=h.made k hk
  exact ⟨g,x0,x1,x2,x3,x4,x5,x6,x7,h1,h2,Nat.lt_of_lt_of_le h3 hb.size,(hb.block g h3).trans h4⟩
 ·obtain ⟨h1,h2,g,cs,h3,h4,h5⟩:=h.put k hk
  obtain ⟨g2,_,_,_,_,_,_,_,_,e2,_,h6,_⟩:=h.made k h1
  rw [h3] at e2
  have:g=g2:=by simpa using e2
  subst this
  exact ⟨h1,h2,g,cs,h3,h4,(hb.block g h6).trans h5⟩
theorem TwoF.knows (h:TwoF q kv RR W2 L e w) (ok:q.Ok) {i d:Nat} (hm:(i,d) ∈ q.known):TwoF q kv RR W2 (updB L i) (updE e (some d) (kv d)) w:=by
 have hk:=ok.kc _ hm
 refine ⟨h.below,fun x hx hL => ?_,fun j hj => ?_,fun k hk2 => ?_,fun h1 h2 => ?_,fun k hk2 => ?_⟩
 ·by_cases hd:d=x.2
  ·rw [hd,updE_same]
  ·rw [updE_other _ hd]
   refine h.known x hx (updB_of hL fun hi => hd ?_)
   rw [← ok.one _ hm _ hx hi]
 ·rw [updE_other _ (hk j).2.2.2.1]
  obtain ⟨s,en,lo,hi,h1,h2,h3,h4⟩:=h.run j (updB_of hj (hk j).1)
  refine ⟨s,en,lo,hi,h1,h2,h3,fun k g hL he => h4 k g (updB_of hL (hk k).2.1) ?_⟩
  rwa [updE_other _ (hk k).2.2.2.2] at he
 ·rw [updE_other _ (hk k).2.2.2.2]
  exact h.made k (updB_of hk2 (hk k).2.1)
 ·rw [updE_other _ (hk false).2.2.2.2,updE_other _ (hk true).2.2.2.2]
  exact h.ne (updB_of h1 (hk false).2.1) (updB_of h2 (hk true).2.1)
 ·rw [updE_other _ (hk k).2.2.2.1,updE_other _ (hk k).2.2.2.2]
  obtain ⟨h1,h2,r⟩:=h.put k (updB_of hk2 (hk k).2.2.1)
  refine ⟨?_,?_,r⟩
  ·unfold updB;split <;> simp_all
  ·unfold updB;split <;> simp_all
theorem updB_up {L:Nat → Bool} {i x:Nat} (h:L x=true):updB L i x=true:=by
 unfold updB
 split
 ·rfl
 ·exact h
theorem TwoF.ran (h:TwoF q kv RR W2 L e w) (ok:q.Ok) {j:Bool} (hj:L (q.c j)=false) {v:Value} {s:StM} {en:EndM} (hr:RR j s en) (ht:TraceAt w.heap.size w' v s en) (hb:Below w.heap.size w w'):TwoF q kv RR W2 (updB L (q.c j)) (updE e (some (q.s j)) v) w':=by
 have h1:=h.grow hb
 have hcc:∀ k,k ≠ j → q.c j ≠ q.c k:=fun k hk => by
  have:=ok.cc
  cases j <;> cases k <;> simp_all
  exact fun h => this h.symm
 have hss:∀ k,k ≠ j → q.s j ≠ q.s k:=fun k hk => by
  have:=ok.ss
  cases j <;> cases k <;> simp_all
  exact fun h => this h.symm
 have hL:∀ {k},updB L (q.c j) (q.a k)=true → L (q.a k)=true:=fun {k} hL => updB_of hL (ok.ca j k)
 have hE:∀ k,updE e (some (q.s j)) v (q.t k)=e (q.t k):=fun k => updE_other _ (ok.st j k) _
 refine ⟨h1.below,fun x hx hLx => ?_,fun k hk => ?_,fun k hk => ?_,fun h2 h3 => ?_,fun k hk => ?_⟩
 ·have:=ok.kc x hx j
  rw [updE_other _ (Ne.symm this.2.2.2.1)]
  exact h1.known x hx (updB_of hLx (Ne.symm this.1))
 ·by_cases e1:k=j
  ·subst e1
   rw [updE_same]
   refine ⟨s,en,w.heap.size,w'.heap.size,hr,ht.within,Nat.le_refl _,fun k2 g hLa he => .inl ?_⟩
   rw [hE] at he
   obtain ⟨g2,_,_,_,_,_,_,_,_,e2,_,h6,_⟩:=h.made k2 (hL hLa)
   rw [he] at e2
   have:g=g2:=by simpa using e2
   omega
  ·rw [updE_other _ (hss k e1)]
   obtain ⟨s2,en2,lo,hi,a1,a2,a3,a4⟩:=h1.run k (updB_of hk (hcc k e1))
   exact ⟨s2,en2,lo,hi,a1,a2,a3,fun k2 g hLa he => a4 k2 g (hL hLa) (by rwa [hE] at he)⟩
 ·rw [hE]
  exact h1.made k (hL hk)
 ·rw [hE,hE]
  exact h1.ne (hL h2) (hL h3)
 ·obtain ⟨a1,a2,g,cs,a3,a4,a5⟩:=h1.put k (updB_of hk (ok.cp j k))
  have hkj:k ≠ j:=fun h => by rw [h,hj] at a2;cases a2
  exact ⟨updB_up a1,updB_up a2,g,cs,by rw [hE];exact a3,by rw [updE_other _ (hss k hkj)];exact a4,a5⟩
theorem TwoF.makes (h:TwoF q kv RR W2 L e w) (ok:q.Ok) {j:Bool} (hj:L (q.a j)=false) (x0 x1 x2 x3 x4 x5 x6 x7:Value):TwoF q kv RR W2 (updB L (q.a j)) (updE e (some (q.t j)) (.pointer (some ⟨w.heap.size,0,none⟩))) (w.alloc (.cells #[x0,x1,x2,x3,x4,x5,x6,x7] 43)):=by
 have h1:=h.grow ((Below.refl w.heap.size w).alloc (Nat.le_refl _) (.cells #[x0,x1,x2,x3,x4,x5,x6,x7] 43))
 have haa:∀ k,k ≠ j → q.a j ≠ q.a k:=fun k hk => by
  have:=ok.aa
  cases j <;> cases k <;> simp_all
  exact fun h => this h.symm
 have htt:∀ k,k ≠ j → q.t j ≠ q.t k:=fun k hk => by
  have:=ok.tt
  cases j <;> cases k <;> simp_all
  exact fun h => this h.symm
 have hS:∀ k v,updE e (some (q.t j)) v (q.s k)=e (q.s k):=fun k v => updE_other _ (Ne.symm (ok.st k j)) _
 have hold:∀ k,L (q.a k)=true → e (q.t k) ≠ .pointer (some ⟨w.heap.size,0,none⟩):=fun k hk he => by
  obtain ⟨g2,_,_,_,_,_,_,_,_,e2,_,h6,_⟩:=h.made k hk
  rw [he] at e2
  have:w.heap.size=g2:=by injection e2 with e2;injection e2 with e2;injection e2
  omega
 refine ⟨h1.below,fun x hx hLx => ?_,fun k hk => ?_,fun k hk => ?_,fun h2 h3 => ?_,fun k hk => ?_⟩
 ·have:=ok.kc x hx j
  rw [updE_other _ (Ne.symm this.2.2.2.2)]
  exact h1.known x hx (updB_of hLx (Ne.symm this.2.1))
 ·rw [hS]
  have hLc:=updB_of hk (Ne.symm (ok.ca k j))
  obtain ⟨s2,en2,lo,hi,a1,a2,a3,a4⟩:=h1.run k hLc
  obtain ⟨_,_,_,hi0,_,_,b3,_⟩:=h.run k hLc
  obtain ⟨s3,en3,lo3,hi3,c1,c2,c3,c4⟩:=h.run k hLc
  refine ⟨s3,en3,lo3,hi3,c1,c2.kept fun b _ hb2 => Below.heap_alloc _ _ _ (by omega),by simp;omega,fun k2 g hLa he => ?_⟩
  by_cases e1:k2=j
  ·subst e1
   rw [updE_same] at he
   have:w.heap.size=g:=by simpa using he
   exact .inr (by omega)
  ·rw [updE_other _ (htt k2 e1)] at he
   exact c4 k2 g (updB_of hLa (haa k2 e1)) he
 ·by_cases e1:k=j
  ·subst e1
   rw [updE_same]
   exact ⟨w.heap.size,x0,x1,x2,x3,x4,x5,x6,x7,rfl,h.below.size,by simp,heap_alloc_new w _⟩
  ·rw [updE_other _ (htt k e1)]
   exact h1.made k (updB_of hk (haa k e1))
 ·cases j with
  | false =>
   rw [updE_same,updE_other _ (htt true (by decide))]
   exact fun he => hold true (updB_of h3 (haa true (by decide))) he.symm
  | true =>
   rw [updE_same,updE_other _ (htt false (by decide))]
   exact hold false (updB_of h2 (haa false (by decide)))
 ·obtain ⟨a1,a2,g,cs,a3,a4,a5⟩:=h1.put k (updB_of hk (ok.ap j k))
  have hkj:k ≠ j:=fun h => by rw [h,hj] at a1;cases a1
  exact ⟨updB_up a1,updB_up a2,g,cs,by rw [updE_other _ (htt k hkj)];exact a3,by rw [hS];exact a4,a5⟩
theorem TwoF.stores (h:TwoF q kv RR W2 L e w) (ok:q.Ok) {j:Bool} (hj:L (q.p j)=false) (ha:L (q.a j)=true) (hc:L (q.c j)=true) {g:Nat} {cs:Array Value} {v:Value} (hg:e (q.t j)=.pointer (some ⟨g,0,none⟩)) (hcs:e (q.s j)=.agg cs)
  (hW:w'.heap[g]?=some (.cells cs 43 (0,0))) (hW8:∃ x0 x1 x2 x3 x4 x5 x6 x7,cs=#[x0,x1,x2,x3,x4,x5,x6,x7]) (ho:∀ b,b ≠ g → w'.heap[b]?=w.heap[b]?) (hb:Below W2.heap.size w w') (hsz:w'.heap.size=w.heap.size):TwoF q kv RR W2 (updB L (q.p j)) (updE e none v) w':=by
 have hE:updE e none v=e:=funext fun x => by simp [updE]
 have hpp:∀ k,k ≠ j → q.p j ≠ q.p k:=fun k hk => by
  have:=ok.pp
  cases j <;> cases k <;> simp_all
  exact fun h => this h.symm
 have hLa:∀ {k},updB L (q.p j) (q.a k)=true → L (q.a k)=true:=fun {k} hL => updB_of hL (Ne.symm (ok.ap k j))
 have hLc:∀ {k},updB L (q.p j) (q.c k)=true → L (q.c k)=true:=fun {k} hL => updB_of hL (Ne.symm (ok.cp k j))
 have hother:∀ k g2,k ≠ j → L (q.a k)=true → e (q.t k)=.pointer (some ⟨g2,0,none⟩) → g2 ≠ g:=fun k g2 hk hLk he hgg => by
  subst hgg
  cases j <;> cases k <;> simp_all
  ·exact h.ne ha hLk (by rw [he,hg])
  ·exact h.ne hLk ha (by rw [he,hg])
 rw [hE]
 refine ⟨h.below.trans hb,fun x hx hLx => ?_,fun k hk => ?_,fun k hk => ?_,fun h2 h3 => h.ne (hLa h2) (hLa h3),fun k hk => ?_⟩
 ·have:=ok.kc x hx j
  exact h.known x hx (updB_of hLx (Ne.symm this.2.2.1))
 ·obtain ⟨s2,en2,lo,hi,a1,a2,a3,a4⟩:=h.run k (hLc hk)
  have hout:=a4 j g ha hg
  exact ⟨s2,en2,lo,hi,a1,a2.kept fun b h1 h2 => ho b (by omega),by omega,fun k2 g2 hL2 he => a4 k2 g2 (hLa hL2) he⟩
 ·obtain ⟨g2,y0,y1,y2,y3,y4,y5,y6,y7,b1,b2,b3,b4⟩:=h.made k (hLa hk)
  by_cases e1:k=j
  ·subst e1
   rw [hg] at b1
   have:g=g2:=by simpa using b1
   subst this
   obtain ⟨x0,x1,x2,x3,x4,x5,x6,x7,rfl⟩:=hW8
   exact ⟨g,x0,x1,x2,x3,x4,x5,x6,x7,hg,b2,by omega,hW⟩
  ·exact ⟨g2,y0,y1,y2,y3,y4,y5,y6,y7,b1,b2,by omega,(ho g2 (hother k g2 e1 (hLa hk) b1)).trans b4⟩
 ·by_cases e1:k=j
  ·subst e1
   exact ⟨updB_up ha,updB_up hc,g,cs,hg,hcs,hW⟩
  ·obtain ⟨a1,a2,g2,cs2,a3,a4,a5⟩:=h.put k (updB_of hk (hpp k e1))
   exact ⟨updB_up a1,updB_up a2,g2,cs2,a3,a4,(ho g2 (hother k g2 e1 a1 a3)).trans a5⟩
theorem TwoF.done (h:TwoF q kv RR W2 L e w) {j:Bool} (hc:L (q.c j)=true) (ha:L (q.a j)=true) (hp:L (q.p j)=true) :
  ∃ g s en lo cs,e (q.t j)=.pointer (some ⟨g,0,none⟩) ∧ W2.heap.size ≤ g ∧ g < w.heap.size ∧ RR j s en ∧ TraceAt lo w (.agg cs) s en ∧ w.heap[g]?=some (.cells cs 43 (0,0)):=by
 obtain ⟨s,en,lo,hi,h1,h2,_⟩:=h.run j hc
 obtain ⟨g,_,_,_,_,_,_,_,_,e1,h3,h4,_⟩:=h.made j ha
 obtain ⟨_,_,g2,cs,e2,e3,h5⟩:=h.put j hp
 rw [e1] at e2
 have:g=g2:=by injection e2 with e2;injection e2 with e2;injection e2
 subst this
 rw [e3] at h2
 exact ⟨g,s,en,lo,cs,e1,h3,h4,h1,h2.at,h5⟩
end
end Go.Proofs.YtglbepdjahddmaaGreat

namespace Go.Proofs.YtglbepdjahddmaaGreat
open Go.RowKit Go.Maps
theorem load_func (ev:Operand → Value) (w:World) (b t d:Nat) (p0 p1 p2 p3:Value) (pos:String) (af:Array Edge) (g) (ty:TypeId) (ha:ev (.tmp t)=.pointer (some ⟨b,0,none⟩)) (hw:∀ o,w.cell? ⟨b,o,none⟩=(#[p0,p1,p2,p3]:Array Value)[o]?) :
   (execOp ev { dst:=some d,op:=.load 25 (.tmp t),type:=ty,pos:=pos,after:=af,guard:=g }).run Tryz.prog w=.ok (.value (.agg #[p0,p1,p2,p3])) w:=by
 have h0:=hw 0
 have h1:=hw 1
 have h2:=hw 2
 have h3:=hw 3
 clear hw
 go_simp
theorem alloc_trace (ev:Operand → Value) (w:World) (d:Nat) (pos:String) (af:Array Edge) (g) (ty:TypeId) :
   ∃ x0 x1 x2 x3 x4 x5 x6 x7,(execOp ev { dst:=some d,op:=.alloc 43,type:=ty,pos:=pos,after:=af,guard:=g }).run Tryz.prog w=.ok (.value (.pointer (some ⟨w.heap.size,0,none⟩))) (w.alloc (.cells #[x0,x1,x2,x3,x4,x5,x6,x7] 43)):=by
 refine ⟨.int .i64 0,.int .i64 0,.int .i64 0,.slice none 0 0,.slice none 0 0,.int .i64 0,.int .i64 0,.slice none 0 0,?_⟩
 go_simp
theorem store_trace (ev:Operand → Value) (w:World) (t s b:Nat) (x0 x1 x2 x3 x4 x5 x6 x7 v0 v1 v2 v3 v4 v5 v6 v7:Value) (n0 n1 n2 n5 n6:Int) (A3 A4 A7:Option Addr) (l3 c3 l4 c4 l7 c7:Nat) (k0:v0=.int .i64 n0) (k1:v1=.int .i64 n1) (k2:v2=.int .i64 n2) (k3:v3=.slice A3 l3 c3) (k4:v4=.slice A4 l4 c4) (k5:v5=.int .i64 n5) (k6:v6=.int .i64 n6) (k7:v7=.slice A7 l7 c7) (pos:String) (af:Array Edge) (g) (ty:TypeId) (h1:ev (.tmp t)=.pointer (some ⟨b,0,none⟩)) (h2:ev (.tmp s)=.agg #[v0,v1,v2,v3,v4,v5,v6,v7]) (hw:w.heap[b]?=some (.cells #[x0,x1,x2,x3,x4,x5,x6,x7] 43 (0,0))) :
   (execOp ev { dst:=none,op:=.store 43 (.tmp t) (.tmp s),type:=ty,pos:=pos,after:=af,guard:=g }).run Tryz.prog w=.ok .skip ((((((((w.setCell ⟨b,0,none⟩ v0).setCell ⟨b,1,none⟩ v1).setCell ⟨b,2,none⟩ v2).setCell ⟨b,3,none⟩ v3).setCell ⟨b,4,none⟩ v4).setCell ⟨b,5,none⟩ v5).setCell ⟨b,6,none⟩ v6).setCell ⟨b,7,none⟩ v7):=by
 have hx:=row_cells hw rfl
 have hz:=fun o => frozen_of_row w b o _ _ hw
 have y0:w.cell? ⟨b,0,none⟩=some x0:=hx 0
 have y1:w.cell? ⟨b,1,none⟩=some x1:=hx 1
 have y2:w.cell? ⟨b,2,none⟩=some x2:=hx 2
 have y3:w.cell? ⟨b,3,none⟩=some x3:=hx 3
 have y4:w.cell? ⟨b,4,none⟩=some x4:=hx 4
 have y5:w.cell? ⟨b,5,none⟩=some x5:=hx 5
 have y6:w.cell? ⟨b,6,none⟩=some x6:=hx 6
 have y7:w.cell? ⟨b,7,none⟩=some x7:=hx 7
 have z0:=hz 0
 have z1:=hz 1
 have z2:=hz 2
 have z3:=hz 3
 have z4:=hz 4
 have z5:=hz 5
 have z6:=hz 6
 have z7:=hz 7
 clear hx hz
 subst k0 k1 k2 k3 k4 k5 k6 k7
 go_simp
theorem load_input (ev:Operand → Value) (w:World) (b t d:Nat) (p0 p1:Value) (pos:String) (af:Array Edge) (g) (ty:TypeId) (ha:ev (.tmp t)=.pointer (some ⟨b,0,none⟩)) (hw:∀ o,w.cell? ⟨b,o,none⟩=(#[p0,p1]:Array Value)[o]?) :
   (execOp ev { dst:=some d,op:=.load 41 (.tmp t),type:=ty,pos:=pos,after:=af,guard:=g }).run Tryz.prog w=.ok (.value (.agg #[p0,p1])) w:=by
 have h0:=hw 0
 have h1:=hw 1
 clear hw
 go_simp
def maskB (n:Nat) (L:Nat → Bool):Nat → Bool:=fun i => L i && decide (i < n)
theorem mask_of {n i:Nat} {L:Nat → Bool} (h:L i=true) (hi:i < n):maskB n L i=true:=by
 unfold maskB
 rw [h,decide_eq_true hi]
 rfl
theorem mask_upd {n i:Nat} (hi:i < n) (L:Nat → Bool):maskB n (updB L i)=updB (maskB n L) i:=by
 funext x
 unfold maskB updB
 by_cases h:i=x
 ·subst h
  rw [if_pos rfl,if_pos rfl,decide_eq_true hi]
  rfl
 ·rw [if_neg h,if_neg h]
theorem mask_congr {n:Nat} {L L':Nat → Bool} (h:∀ i,i < n → L i=L' i):maskB n L=maskB n L':=by
 funext x
 unfold maskB
 by_cases hx:x < n
 ·rw [h x hx]
 ·rw [decide_eq_false hx,Bool.and_false,Bool.and_false]
def awaitsB (af:List Edge) (ks:List Nat) (n:Nat):Bool:=ks.all fun k => decide (k < n) && af.any fun x => Region.binds .any x && x.on == k
theorem awaits_spec {af:List Edge} {ks:List Nat} {n:Nat} (h:awaitsB af ks n=true):∀ k ∈ ks,k < n ∧ ∃ x ∈ af,Region.binds .any x=true ∧ x.on=k:=by
 intro k hk
 unfold awaitsB at h
 rw [List.all_eq_true] at h
 have:=h k hk
 rw [Bool.and_eq_true,decide_eq_true_iff,List.any_eq_true] at this
 obtain ⟨h1,x,hx,h2⟩:=this
 rw [Bool.and_eq_true,beq_iff_eq] at h2
 exact ⟨h1,x,hx,h2⟩
section
variable {q:TwoP} {kv:Nat → Value} {RR:Bool → StM → EndM → Prop} {W2:World} {Q:Exit → Act → World → Prop} {ops:Array Oper} {a0:Act} {ds:List Nat} {n:Nat}
def RunsF (n:Nat) (q:TwoP) (kv:Nat → Value) (RR:Bool → StM → EndM → Prop) (W2:World):(Nat → Bool) → (Nat → Value) → World → Prop:=fun L e w => TwoF q kv RR W2 (maskB n L) e w
set_option maxRecDepth 100000 in
theorem step_known (ok:q.Ok) {i d:Nat} {o:Oper} (hi:i < n) (hm:(i,d) ∈ q.known) (hd:o.dst=some d) (hg:o.guard=none)
  (hrun:∀ (a:Act) (w:World),Below W2.heap.size W2 w → (∀ x,x ∉ ds → a.eval (.tmp x)=a0.eval (.tmp x)) → (execOp a.eval o).run Tryz.prog w=.ok (.value (kv d)) w):StepOk Tryz.prog ops Q a0 ds (RunsF n q kv RR W2) i o:=by
 intro L e w a _ _ hF _ hout K hK
 rw [if_pos (by unfold Region.wanted;rw [hg])]
 unfold Oper.wp
 rw [hrun a w hF.below hout]
 show K (a.put o.dst (kv d)) w
 refine hK _ _ ?_
 unfold RunsF
 rw [mask_upd hi,hd]
 exact hF.knows ok hm
set_option maxRecDepth 100000 in
theorem step_make (ok:q.Ok) {j:Bool} {o:Oper} (hi:q.a j < n) (hd:o.dst=some (q.t j)) (hg:o.guard=none) (ho:o.op=.alloc 43):StepOk Tryz.prog ops Q a0 ds (RunsF n q kv RR W2) (q.a j) o:=by
 intro L e w a hL _ hF _ hout K hK
 rw [if_pos (by unfold Region.wanted;rw [hg])]
 obtain ⟨dst,op,ty,pos,af,g⟩:=o
 subst hd ho
 obtain ⟨x0,x1,x2,x3,x4,x5,x6,x7,hrun⟩:=alloc_trace a.eval w (q.t j) pos af g ty
 unfold Oper.wp
 rw [hrun]
 refine hK _ _ ?_
 unfold RunsF
 rw [mask_upd hi]
 exact hF.makes ok (by unfold maskB;rw [hL];rfl) x0 x1 x2 x3 x4 x5 x6 x7
set_option maxRecDepth 100000 in
theorem step_store (ok:q.Ok) {j:Bool} {o:Oper} (hi:q.p j < n) (hd:o.dst=none) (hg:o.guard=none) (ho:o.op=.store 43 (.tmp (q.t j)) (.tmp (q.s j)))
  (haw:awaitsB o.after.toList [q.a j,q.c j] n=true) (hds:q.t j ∈ ds ∧ q.s j ∈ ds) :
  StepOk Tryz.prog ops Q a0 ds (RunsF n q kv RR W2) (q.p j) o:=by
 intro L e w a hL haf hF hin hout K hK
 rw [if_pos (by unfold Region.wanted;rw [hg])]
 have hdone:∀ k ∈ [q.a j,q.c j],maskB n L k=true:=fun k hk => by
  obtain ⟨hkn,x,hx,hb,rfl⟩:=awaits_spec haw k hk
  exact mask_of (haf x hx hb) hkn
 have ha:=hdone (q.a j) (by simp)
 have hc:=hdone (q.c j) (by simp)
 obtain ⟨g,x0,x1,x2,x3,x4,x5,x6,x7,e1,hlo,_,hg8⟩:=hF.made j ha
 obtain ⟨s,en,lo,hi2,_,⟨nv,val,e2,hrows⟩,_⟩:=hF.run j hc
 obtain ⟨Ao,co,ho⟩:=row_form (hrows .out _ rfl).1
 obtain ⟨Aa,ca,ha2⟩:=row_form (hrows .arrs _ rfl).1
 obtain ⟨Av,cv,hv⟩:=row_form (hrows .vis _ rfl).1
 obtain ⟨dst,op,ty,pos,af,gd⟩:=o
 subst hd ho
 unfold Oper.wp
 rw [store_trace a.eval w (q.t j) (q.s j) g x0 x1 x2 x3 x4 x5 x6 x7 _ _ _ _ _ _ _ _ _ _ _ _ _ Ao Aa Av _ co _ ca _ cv rfl rfl rfl ho ha2 rfl rfl hv pos af gd ty ((hin _ hds.1).trans e1) ((hin _ hds.2).trans e2) hg8]
 obtain ⟨h1,h2,h3⟩:=eight_set hg8 _ _ _ _ _ _ _ _ rfl
 refine hK _ _ ?_
 unfold RunsF
 rw [mask_upd hi]
 exact hF.stores ok (by unfold maskB;rw [hL];rfl) ha hc e1 e2 h1 ⟨_,_,_,_,_,_,_,_,rfl⟩ h2 (h3 _ hlo) (by simp)
end
end Go.Proofs.YtglbepdjahddmaaGreat

namespace Go.Proofs.YtglbepdjahddmaaGreat
open Go.RowKit Go.Maps
theorem call_runC (ev:Operand → Value) (w:World) (d t1 t2:Nat) (fv iv nv:Value) (pos:String) (af:Array Edge) (g) (ty:TypeId) (h1:ev (.tmp t1)=fv) (h2:ev (.tmp t2)=iv) (h3:ev (.const nv)=nv) (hf:ev (.func 17)=.func (.func 17) #[] #[]) :
   (execOp ev { dst:=some d,op:=.call { callee:=.value (.func 17),args:=#[.tmp t1,.tmp t2,.const nv],argTypes:=#[25,41,3] },type:=ty,pos:=pos,after:=af,guard:=g }).run Tryz.prog w=.ok (.enter 17 #[fv,iv,nv]) w:=by
 go_simp
set_option maxRecDepth 100000 in
theorem step_runC {q:TwoP} {kv:Nat → Value} {RR:Bool → StM → EndM → Prop} {W2:World} {Q:Exit → Act → World → Prop} {ops:Array Oper} {a0:Act} {ds:List Nat} {n:Nat} (ok:q.Ok) {j:Bool} {o:Oper} {t1 t2 k1 k2:Nat} {nv:Value} (hi:q.c j < n) (hd:o.dst=some (q.s j)) (hg:o.guard=none)
  (ho:o.op=.call { callee:=.value (.func 17),args:=#[.tmp t1,.tmp t2,.const nv],argTypes:=#[25,41,3] })
  (haw:awaitsB o.after.toList [k1,k2] n=true) (hk1:(k1,t1) ∈ q.known) (hk2:(k2,t2) ∈ q.known) (hds:t1 ∈ ds ∧ t2 ∈ ds)
  (hcall:∀ W,Below W2.heap.size W2 W → Calls Tryz.prog 17 #[kv t1,kv t2,nv] W fun e w' => ∃ v s en,e=.returned v ∧ RR j s en ∧ TraceAt W.heap.size w' v s en ∧ Below W.heap.size W w') :
  StepOk Tryz.prog ops Q a0 ds (RunsF n q kv RR W2) (q.c j) o:=by
 intro L e w a hL haf hF hin hout K hK
 rw [if_pos (by unfold Region.wanted;rw [hg])]
 have hdone:∀ k ∈ [k1,k2],maskB n L k=true:=fun k hk => by
  obtain ⟨hkn,x,hx,hb,rfl⟩:=awaits_spec haw k hk
  exact mask_of (haf x hx hb) hkn
 have e1:a.eval (.tmp t1)=kv t1:=(hin t1 hds.1).trans (hF.known _ hk1 (hdone k1 (by simp)))
 have e2:a.eval (.tmp t2)=kv t2:=(hin t2 hds.2).trans (hF.known _ hk2 (hdone k2 (by simp)))
 obtain ⟨dst,op,ty,pos,af,g⟩:=o
 subst hd ho
 unfold Oper.wp
 rw [call_runC a.eval w (q.s j) t1 t2 _ _ _ pos af g ty e1 e2 rfl rfl]
 refine (hcall w hF.below).mono ?_
 rintro en w' ⟨v,s,en,rfl,hr,ht,hb⟩
 refine hK _ _ ?_
 unfold RunsF
 rw [mask_upd hi]
 exact hF.ran ok (by unfold maskB;rw [hL];rfl) hr ht hb
end Go.Proofs.YtglbepdjahddmaaGreat
