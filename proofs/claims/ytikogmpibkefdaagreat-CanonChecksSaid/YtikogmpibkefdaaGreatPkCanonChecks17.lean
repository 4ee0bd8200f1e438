/- What CanonChecks rests on, part 17: CPlain, CNest, CCheck, CAwake, LHas. -/
import Derived.Test.YtikogmpibkefdaaGreatPkCanonChecks16
import Derived.BigQuiet
import Derived.Deep.QuietTactic

namespace Go.Proofs.YtikogmpibkefdaaGreat
open Go.RowKit Go.Maps
theorem ints_head {w:World} {B m c p:Nat} {A:Option Addr} {l:List Nat} (h:Ints w B (.slice A m c) (l.map fun (x:Nat) => (x:Int))) (hl:l=[p]):∃ b off,A=some ⟨b,off,none⟩ ∧ b < B ∧ w.cell? ⟨b,off,none⟩=some (.int .i64 (p:Int)):=by
 subst hl
 obtain ⟨A',c',e,_,hat⟩:=h
 injection e with e1 e2 e3
 subst e1
 obtain ⟨b,off,e,hb,hc⟩:=hat 0 (by simp)
 exact ⟨b,off,e,hb,hc⟩
theorem entries_lt {bs:List BlockM} {x:LpM} {p:Nat} (h:entriesM bs x=[p]):p < bs.length:=by
 have h1:p ∈ entriesM bs x:=by rw [h];simp
 unfold entriesM at h1
 exact predsTo_lt (List.mem_filter.1 h1).1
set_option maxRecDepth 100000 in
set_option maxHeartbeats 8000000 in
theorem plainA (bs:List BlockM) (x:LpM) (n lo gp hd m1 m2 c c1 c2 B:Nat) (A A1 A2:Option Addr) (vs:List Value) (p0 p1 p2 lv v3 v4:Value) (w:World) (hN:Lists w lo gp bs.length vs (predsAt bs bs.length bs.length 0)) (hbv:BlocksR w B (.slice A n c) bs) (hB:B ≤ w.heap.size)
  (hi:Ints w w.heap.size (.slice A1 m1 c1) (x.blocks.map fun (x:Nat) => (x:Int))) (hi3:Ints w w.heap.size v3 (x.exits.map fun (x:Nat) => (x:Int))) (hm1:m1=x.blocks.length) (hm2:m2=x.latches.length) (hr:x.blocks.Pairwise (· < ·)) (hl:x.blocks.length ≤ 512) (hn5:n ≤ 512) (hn:n=bs.length) (hd0:hd=x.head) (hh:hd < n) (hex:∀ e ∈ x.exits,e < n) (hne:(entriesM bs x).length ≠ 1) :
  Calls Tryz.prog 66 #[.agg #[p0,p1,p2,.slice A n c,lv,.slice (some ⟨gp,0,none⟩) n n],.agg #[.int .i64 (hd:Int),.slice A1 m1 c1,.slice A2 m2 c2,v3,v4]] w fun e w' => e=.returned (.bool false) ∧ Below w.heap.size w w':=by
 obtain ⟨W,hW⟩:∃ W,W=(w.alloc (.cells #[p0,p1,p2,.slice A n c,lv,.slice (some ⟨gp,0,none⟩) n n] 107)).alloc (.cells #[.int .i64 (hd:Int),.slice A1 m1 c1,.slice A2 m2 c2,v3,v4] 112):=⟨_,rfl⟩
 have HBW:Hid (Below w.heap.size w W):=by show Below _ _ _;rw [hW];exact ((Below.refl _ w).alloc (Nat.le_refl _) _).alloc (by simp) _
 have hx1:W.heap[w.heap.size]?=some (.cells #[p0,p1,p2,.slice A n c,lv,.slice (some ⟨gp,0,none⟩) n n] 107 (0,0)):=by
  rw [hW,Below.heap_alloc _ _ _ (by simp)]
  exact heap_alloc_new w _
 have hx2:W.heap[w.heap.size + 1]?=some (.cells #[.int .i64 (hd:Int),.slice A1 m1 c1,.slice A2 m2 c2,v3,v4] 112 (0,0)):=by
  rw [hW]
  have:=heap_alloc_new (w.alloc (.cells #[p0,p1,p2,.slice A n c,lv,.slice (some ⟨gp,0,none⟩) n n] 107)) (.cells #[.int .i64 (hd:Int),.slice A1 m1 c1,.slice A2 m2 c2,v3,v4] 112)
  simpa using this
 have HX1:=hideI hx1
 have HX2:=hideI hx2
 have hiW:=(hi.keep HBW.out).more HBW.out.size
 have HLB:Hid (LpBox W (w.heap.size + 1) x):=⟨⟨A1,c1,.int .i64 (hd:Int),.slice A2 m2 c2,v3,v4,by rw [← hm1];exact hx2,by rw [← hm1];exact hiW⟩⟩
 have HNW:=hideI (hN.kept HBW.out)
 have HEN:=hideI (cEntries_any bs x n lo gp m1 c1 A1 vs p0 p1 p2 (.slice A n c) lv (.slice A2 m2 c2) v3 v4 W HNW.out hiW hm1 hr hl hn5 hn (by omega))
 rw [← hd0] at HEN
 have HR:=hideI hr
 have HL:=hideI hl
 have HW0:=hideI hW
 have HN:=hideI hn
 have HM2:=hideI hm2
 have HBV:=hideI (hbv.keeps (Keeps.of_below (HBW.out.mono hB)))
 have HE3:=hideI ((hi3.keep HBW.out).more HBW.out.size)
 have HEX:=hideI hex
 have hwW:w.heap.size + 1 < W.heap.size:=lt_of_heap hx2
 have hqs:=row_cells hx1 rfl
 have q0:=hqs 0
 have q1:=hqs 1
 have q2:=hqs 2
 have q3:=hqs 3
 have q4:=hqs 4
 have q5:=hqs 5
 have hls:=row_cells hx2 rfl
 have l0:=hls 0
 have l1:=hls 1
 have l2:=hls 2
 have l3:=hls 3
 have l4:=hls 4
 clear hqs hls hN hbv hi hi3 hm1 hm2 hr hl hn hex hW hx1 hx2 hiW hd0
 obtain ⟨ne,hne0⟩:∃ ne,ne=(entriesM bs x).length:=⟨_,rfl⟩
 have HNE:=hideI hne0
 have hnb:((ne:Int) == 1)=false:=beq_eq_false_iff_ne.2 (by omega)
 clear hne hne0
 go_enter Tryz.func66,Tryz.ntmps66
 go_upto_region 1 with fail
 rw [← HW0.out]
 go_upto_region 4 with (go_at_call 112;go_must (refine HEN.out.mono ?_);rintro e w1 ⟨v,rfl,hie,hb⟩;have HIE:=hideI hie;have HB1:=hideI hb;(obtain ⟨Ae,ce,rfl,_,_⟩:=hie);rw [List.length_map,← HNE.out];clear hb q0 q1 q2 q3 q4 q5 l0 l1 l2 l3 l4)
 obtain ⟨w2,hw2⟩:∃ w2:World,w2=w1.alloc (.cells #[.func (.func 113) #[] #[.pointer (some ⟨w.heap.size + 1,0,none⟩)]] 177):=⟨_,rfl⟩
 rw [← hw2]
 have hwl:W.heap.size ≤ w1.heap.size:=HB1.out.size
 have HK2:Hid (Below w1.heap.size w1 w2):=by show Below _ _ _;rw [hw2];exact (Below.refl _ w1).alloc (Nat.le_refl _) _
 have HB2:Hid (Below W.heap.size W w2):=HB1.out.trans (HK2.out.mono hwl)
 have HF2:Hid (w2.heap[w1.heap.size]?=some (.cells #[.func (.func 113) #[] #[.pointer (some ⟨w.heap.size + 1,0,none⟩)]] 177 (0,0))):=by
  show _=_
  rw [hw2]
  exact heap_alloc_new w1 _
 have HB0:Hid (Below w.heap.size w w2):=HBW.out.trans (HB2.out.mono HBW.out.size)
 clear hw2
 go_quiet (fail)
 go_wp2
 go_ret
 exact ⟨rfl,HB0.out.os,HB0.out.tape,HB0.out.output,HB0.out.size,HB0.out.block⟩
set_option maxRecDepth 100000 in
set_option maxHeartbeats 8000000 in
theorem plainB_no (bs:List BlockM) (x:LpM) (n lo gp hd m1 m2 c c1 c2 B:Nat) (A A1 A2:Option Addr) (vs:List Value) (p0 p1 p2 lv v3 v4:Value) (w:World) (hN:Lists w lo gp bs.length vs (predsAt bs bs.length bs.length 0)) (hbv:BlocksR w B (.slice A n c) bs) (hB:B ≤ w.heap.size)
  (hi:Ints w w.heap.size (.slice A1 m1 c1) (x.blocks.map fun (x:Nat) => (x:Int))) (hi3:Ints w w.heap.size v3 (x.exits.map fun (x:Nat) => (x:Int))) (hm1:m1=x.blocks.length) (hm2:m2=x.latches.length) (hr:x.blocks.Pairwise (· < ·)) (hl:x.blocks.length ≤ 512) (hn5:n ≤ 512) (hn:n=bs.length) (hd0:hd=x.head) (hh:hd < n) (hex:∀ e ∈ x.exits,e < n) (p:Nat) (q:BlockM) (hp1:entriesM bs x=[p]) (hq:bs[p]?=some q) (hop:q.term.op ≠ 1) :
  Calls Tryz.prog 66 #[.agg #[p0,p1,p2,.slice A n c,lv,.slice (some ⟨gp,0,none⟩) n n],.agg #[.int .i64 (hd:Int),.slice A1 m1 c1,.slice A2 m2 c2,v3,v4]] w fun e w' => e=.returned (.bool false) ∧ Below w.heap.size w w':=by
 obtain ⟨W,hW⟩:∃ W,W=(w.alloc (.cells #[p0,p1,p2,.slice A n c,lv,.slice (some ⟨gp,0,none⟩) n n] 107)).alloc (.cells #[.int .i64 (hd:Int),.slice A1 m1 c1,.slice A2 m2 c2,v3,v4] 112):=⟨_,rfl⟩
 have HBW:Hid (Below w.heap.size w W):=by show Below _ _ _;rw [hW];exact ((Below.refl _ w).alloc (Nat.le_refl _) _).alloc (by simp) _
 have hx1:W.heap[w.heap.size]?=some (.cells #[p0,p1,p2,.slice A n c,lv,.slice (some ⟨gp,0,none⟩) n n] 107 (0,0)):=by
  rw [hW,Below.heap_alloc _ _ _ (by simp)]
  exact heap_alloc_new w _
 have hx2:W.heap[w.heap.size + 1]?=some (.cells #[.int .i64 (hd:Int),.slice A1 m1 c1,.slice A2 m2 c2,v3,v4] 112 (0,0)):=by
  rw [hW]
  have:=heap_alloc_new (w.alloc (.cells #[p0,p1,p2,.slice A n c,lv,.slice (some ⟨gp,0,none⟩) n n] 107)) (.cells #[.int .i64 (hd:Int),.slice A1 m1 c1,.slice A2 m2 c2,v3,v4] 112)
  simpa using this
 have HX1:=hideI hx1
 have HX2:=hideI hx2
 have hiW:=(hi.keep HBW.out).more HBW.out.size
 have HLB:Hid (LpBox W (w.heap.size + 1) x):=⟨⟨A1,c1,.int .i64 (hd:Int),.slice A2 m2 c2,v3,v4,by rw [← hm1];exact hx2,by rw [← hm1];exact hiW⟩⟩
 have HNW:=hideI (hN.kept HBW.out)
 have HEN:=hideI (cEntries_any bs x n lo gp m1 c1 A1 vs p0 p1 p2 (.slice A n c) lv (.slice A2 m2 c2) v3 v4 W HNW.out hiW hm1 hr hl hn5 hn (by omega))
 rw [← hd0] at HEN
 have HR:=hideI hr
 have HL:=hideI hl
 have HW0:=hideI hW
 have HN:=hideI hn
 have HM2:=hideI hm2
 have HBV:=hideI (hbv.keeps (Keeps.of_below (HBW.out.mono hB)))
 have HE3:=hideI ((hi3.keep HBW.out).more HBW.out.size)
 have HEX:=hideI hex
 have hwW:w.heap.size + 1 < W.heap.size:=lt_of_heap hx2
 have hqs:=row_cells hx1 rfl
 have q0:=hqs 0
 have q1:=hqs 1
 have q2:=hqs 2
 have q3:=hqs 3
 have q4:=hqs 4
 have q5:=hqs 5
 have hls:=row_cells hx2 rfl
 have l0:=hls 0
 have l1:=hls 1
 have l2:=hls 2
 have l3:=hls 3
 have l4:=hls 4
 clear hqs hls hN hbv hi hi3 hm1 hm2 hr hl hn hex hW hx1 hx2 hiW hd0
 have HP1:=hideI hp1
 have hpn:p < n:=by rw [HN.out];exact entries_lt hp1
 have HJ:Hid (jumpB bs p=true ↔ q.term.op=1):=by
  show _ ↔ _
  unfold jumpB
  rw [hq]
  simp
 obtain ⟨Ab,cb,eb,_,hat⟩:=HBV.out
 injection eb with eb1 eb2 eb3
 subst eb1
 obtain ⟨bb,ob,_,_,_,rfl,hbbB,_,_,hct,_⟩:=hat p q hq
 have hbb:bb < W.heap.size:=Nat.lt_of_lt_of_le hbbB (Nat.le_trans hB HBW.out.size)
 have HCT:=hideI hct
 have hob:(q.term.op == 1)=false:=beq_eq_false_iff_ne.2 hop
 clear hop hp1 hq hat eb2 eb3 hct
 go_enter Tryz.func66,Tryz.ntmps66
 go_upto_region 1 with fail
 rw [← HW0.out]
 go_upto_region 4 with (go_at_call 112;go_must (refine HEN.out.mono ?_);rintro e w1 ⟨v,rfl,hie,hb⟩;have HIE:=hideI hie;have HB1:=hideI hb;(obtain ⟨Ae,ce,rfl,_,_⟩:=hie);rw [show (List.map (fun (x:Nat) => (x:Int)) (entriesM bs x)).length=1 from (by rw [HP1.out];rfl)];clear hb q0 q1 q2 q3 q4 q5 l0 l1 l2 l3 l4)
 obtain ⟨w2,hw2⟩:∃ w2:World,w2=w1.alloc (.cells #[.func (.func 113) #[] #[.pointer (some ⟨w.heap.size + 1,0,none⟩)]] 177):=⟨_,rfl⟩
 rw [← hw2]
 have hwl:W.heap.size ≤ w1.heap.size:=HB1.out.size
 have HK2:Hid (Below w1.heap.size w1 w2):=by show Below _ _ _;rw [hw2];exact (Below.refl _ w1).alloc (Nat.le_refl _) _
 have HB2:Hid (Below W.heap.size W w2):=HB1.out.trans (HK2.out.mono hwl)
 have HF2:Hid (w2.heap[w1.heap.size]?=some (.cells #[.func (.func 113) #[] #[.pointer (some ⟨w.heap.size + 1,0,none⟩)]] 177 (0,0))):=by
  show _=_
  rw [hw2]
  exact heap_alloc_new w1 _
 have HB0:Hid (Below w.heap.size w w2):=HBW.out.trans (HB2.out.mono HBW.out.size)
 clear hw2
 obtain ⟨be,oe,rfl,hbe,hce⟩:=ints_head HIE.out HP1.out
 have HS:Hid (∀ W':World,Below w2.heap.size w2 W' → W'.cell? ⟨w.heap.size,3,none⟩=some (.slice (some ⟨bb,ob,none⟩) n c) ∧ W'.cell? ⟨be,oe,none⟩=some (.int .i64 (p:Int)) ∧ W'.cell? ⟨bb,ob + p * 6 + 2,none⟩=some (.int .i64 q.term.op) ∧ W'.cell? ⟨w.heap.size + 1,2,none⟩=some (.slice A2 m2 c2) ∧ W'.cell? ⟨w.heap.size + 1,3,none⟩=some v3):=fun W' hW' => by
  have hb2:Below W.heap.size W W':=HB2.out.trans (hW'.mono HB2.out.size)
  have hb1:Below w1.heap.size w1 W':=HK2.out.trans (hW'.mono HK2.out.size)
  have hx1:=row_cells HX1.out (hb2.block _ (by omega))
  have hx2:=row_cells HX2.out (hb2.block _ hwW)
  exact ⟨hx1 3,(hb1.cell (p:=⟨be,oe,none⟩) hbe).trans hce,(hb2.cell (p:=⟨bb,ob + p * 6 + 2,none⟩) hbb).trans HCT.out,hx2 2,hx2 3⟩
 have hs2:=HS.out w2 (Below.refl _ _)
 obtain ⟨s1,s2,s3,s4,s5⟩:=hs2
 clear hce
 go_quiet (fail)
 go_wp2
 go_ret
 exact ⟨rfl,HB0.out.os,HB0.out.tape,HB0.out.output,HB0.out.size,HB0.out.block⟩
set_option maxRecDepth 100000 in
set_option maxHeartbeats 8000000 in
theorem plainC_no (bs:List BlockM) (x:LpM) (n lo gp hd m1 m2 c c1 c2 B:Nat) (A A1 A2:Option Addr) (vs:List Value) (p0 p1 p2 lv v3 v4:Value) (w:World) (hN:Lists w lo gp bs.length vs (predsAt bs bs.length bs.length 0)) (hbv:BlocksR w B (.slice A n c) bs) (hB:B ≤ w.heap.size)
  (hi:Ints w w.heap.size (.slice A1 m1 c1) (x.blocks.map fun (x:Nat) => (x:Int))) (hi3:Ints w w.heap.size v3 (x.exits.map fun (x:Nat) => (x:Int))) (hm1:m1=x.blocks.length) (hm2:m2=x.latches.length) (hr:x.blocks.Pairwise (· < ·)) (hl:x.blocks.length ≤ 512) (hn5:n ≤ 512) (hn:n=bs.length) (hd0:hd=x.head) (hh:hd < n) (hex:∀ e ∈ x.exits,e < n) (p:Nat) (q:BlockM) (hp1:entriesM bs x=[p]) (hq:bs[p]?=some q) (hop:q.term.op=1) (hm:m2 ≠ 1) :
  Calls Tryz.prog 66 #[.agg #[p0,p1,p2,.slice A n c,lv,.slice (some ⟨gp,0,none⟩) n n],.agg #[.int .i64 (hd:Int),.slice A1 m1 c1,.slice A2 m2 c2,v3,v4]] w fun e w' => e=.returned (.bool false) ∧ Below w.heap.size w w':=by
 obtain ⟨W,hW⟩:∃ W,W=(w.alloc (.cells #[p0,p1,p2,.slice A n c,lv,.slice (some ⟨gp,0,none⟩) n n] 107)).alloc (.cells #[.int .i64 (hd:Int),.slice A1 m1 c1,.slice A2 m2 c2,v3,v4] 112):=⟨_,rfl⟩
 have HBW:Hid (Below w.heap.size w W):=by show Below _ _ _;rw [hW];exact ((Below.refl _ w).alloc (Nat.le_refl _) _).alloc (by simp) _
 have hx1:W.heap[w.heap.size]?=some (.cells #[p0,p1,p2,.slice A n c,lv,.slice (some ⟨gp,0,none⟩) n n] 107 (0,0)):=by
  rw [hW,Below.heap_alloc _ _ _ (by simp)]
  exact heap_alloc_new w _
 have hx2:W.heap[w.heap.size + 1]?=some (.cells #[.int .i64 (hd:Int),.slice A1 m1 c1,.slice A2 m2 c2,v3,v4] 112 (0,0)):=by
  rw [hW]
  have:=heap_alloc_new (w.alloc (.cells #[p0,p1,p2,.slice A n c,lv,.slice (some ⟨gp,0,none⟩) n n] 107)) (.cells #[.int .i64 (hd:Int),.slice A1 m1 c1,.slice A2 m2 c2,v3,v4] 112)
  simpa using this
 have HX1:=hideI hx1
 have HX2:=hideI hx2
 have hiW:=(hi.keep HBW.out).more HBW.out.size
 have HLB:Hid (LpBox W (w.heap.size + 1) x):=⟨⟨A1,c1,.int .i64 (hd:Int),.slice A2 m2 c2,v3,v4,by rw [← hm1];exact hx2,by rw [← hm1];exact hiW⟩⟩
 have HNW:=hideI (hN.kept HBW.out)
 have HEN:=hideI (cEntries_any bs x n lo gp m1 c1 A1 vs p0 p1 p2 (.slice A n c) lv (.slice A2 m2 c2) v3 v4 W HNW.out hiW hm1 hr hl hn5 hn (by omega))
 rw [← hd0] at HEN
 have HR:=hideI hr
 have HL:=hideI hl
 have HW0:=hideI hW
 have HN:=hideI hn
 have HM2:=hideI hm2
 have HBV:=hideI (hbv.keeps (Keeps.of_below (HBW.out.mono hB)))
 have HE3:=hideI ((hi3.keep HBW.out).more HBW.out.size)
 have HEX:=hideI hex
 have hwW:w.heap.size + 1 < W.heap.size:=lt_of_heap hx2
 have hqs:=row_cells hx1 rfl
 have q0:=hqs 0
 have q1:=hqs 1
 have q2:=hqs 2
 have q3:=hqs 3
 have q4:=hqs 4
 have q5:=hqs 5
 have hls:=row_cells hx2 rfl
 have l0:=hls 0
 have l1:=hls 1
 have l2:=hls 2
 have l3:=hls 3
 have l4:=hls 4
 clear hqs hls hN hbv hi hi3 hm1 hm2 hr hl hn hex hW hx1 hx2 hiW hd0
 have HP1:=hideI hp1
 have hpn:p < n:=by rw [HN.out];exact entries_lt hp1
 have HJ:Hid (jumpB bs p=true ↔ q.term.op=1):=by
  show _ ↔ _
  unfold jumpB
  rw [hq]
  simp
 obtain ⟨Ab,cb,eb,_,hat⟩:=HBV.out
 injection eb with eb1 eb2 eb3
 subst eb1
 obtain ⟨bb,ob,_,_,_,rfl,hbbB,_,_,hct,_⟩:=hat p q hq
 have hbb:bb < W.heap.size:=Nat.lt_of_lt_of_le hbbB (Nat.le_trans hB HBW.out.size)
 rw [hop] at hct
 have HCT:=hideI hct
 have hmb:((m2:Int) == 1)=false:=beq_eq_false_iff_ne.2 (by omega)
 clear hop hm hp1 hq hat eb2 eb3 hct
 go_enter Tryz.func66,Tryz.ntmps66
 go_upto_region 1 with fail
 rw [← HW0.out]
 go_upto_region 4 with (go_at_call 112;go_must (refine HEN.out.mono ?_);rintro e w1 ⟨v,rfl,hie,hb⟩;have HIE:=hideI hie;have HB1:=hideI hb;(obtain ⟨Ae,ce,rfl,_,_⟩:=hie);rw [show (List.map (fun (x:Nat) => (x:Int)) (entriesM bs x)).length=1 from (by rw [HP1.out];rfl)];clear hb q0 q1 q2 q3 q4 q5 l0 l1 l2 l3 l4)
 obtain ⟨w2,hw2⟩:∃ w2:World,w2=w1.alloc (.cells #[.func (.func 113) #[] #[.pointer (some ⟨w.heap.size + 1,0,none⟩)]] 177):=⟨_,rfl⟩
 rw [← hw2]
 have hwl:W.heap.size ≤ w1.heap.size:=HB1.out.size
 have HK2:Hid (Below w1.heap.size w1 w2):=by show Below _ _ _;rw [hw2];exact (Below.refl _ w1).alloc (Nat.le_refl _) _
 have HB2:Hid (Below W.heap.size W w2):=HB1.out.trans (HK2.out.mono hwl)
 have HF2:Hid (w2.heap[w1.heap.size]?=some (.cells #[.func (.func 113) #[] #[.pointer (some ⟨w.heap.size + 1,0,none⟩)]] 177 (0,0))):=by
  show _=_
  rw [hw2]
  exact heap_alloc_new w1 _
 have HB0:Hid (Below w.heap.size w w2):=HBW.out.trans (HB2.out.mono HBW.out.size)
 clear hw2
 obtain ⟨be,oe,rfl,hbe,hce⟩:=ints_head HIE.out HP1.out
 have HS:Hid (∀ W':World,Below w2.heap.size w2 W' → W'.cell? ⟨w.heap.size,3,none⟩=some (.slice (some ⟨bb,ob,none⟩) n c) ∧ W'.cell? ⟨be,oe,none⟩=some (.int .i64 (p:Int)) ∧ W'.cell? ⟨bb,ob + p * 6 + 2,none⟩=some (.int .i64 1) ∧ W'.cell? ⟨w.heap.size + 1,2,none⟩=some (.slice A2 m2 c2) ∧ W'.cell? ⟨w.heap.size + 1,3,none⟩=some v3):=fun W' hW' => by
  have hb2:Below W.heap.size W W':=HB2.out.trans (hW'.mono HB2.out.size)
  have hb1:Below w1.heap.size w1 W':=HK2.out.trans (hW'.mono HK2.out.size)
  have hx1:=row_cells HX1.out (hb2.block _ (by omega))
  have hx2:=row_cells HX2.out (hb2.block _ hwW)
  exact ⟨hx1 3,(hb1.cell (p:=⟨be,oe,none⟩) hbe).trans hce,(hb2.cell (p:=⟨bb,ob + p * 6 + 2,none⟩) hbb).trans HCT.out,hx2 2,hx2 3⟩
 have hs2:=HS.out w2 (Below.refl _ _)
 obtain ⟨s1,s2,s3,s4,s5⟩:=hs2
 clear hce
 go_quiet (fail)
 go_wp2
 go_ret
 exact ⟨rfl,HB0.out.os,HB0.out.tape,HB0.out.output,HB0.out.size,HB0.out.block⟩
set_option maxRecDepth 100000 in
set_option maxHeartbeats 8000000 in
theorem plainD (bs:List BlockM) (x:LpM) (n lo gp hd m1 c c1 c2 B:Nat) (A A1 A2:Option Addr) (vs:List Value) (p0 p1 p2 lv v3 v4:Value) (w:World) (hN:Lists w lo gp bs.length vs (predsAt bs bs.length bs.length 0)) (hbv:BlocksR w B (.slice A n c) bs) (hB:B ≤ w.heap.size)
  (hi:Ints w w.heap.size (.slice A1 m1 c1) (x.blocks.map fun (x:Nat) => (x:Int))) (hi3:Ints w w.heap.size v3 (x.exits.map fun (x:Nat) => (x:Int))) (hm1:m1=x.blocks.length) (hm2:1=x.latches.length) (hr:x.blocks.Pairwise (· < ·)) (hl:x.blocks.length ≤ 512) (hn5:n ≤ 512) (hn:n=bs.length) (hd0:hd=x.head) (hh:hd < n) (hex:∀ e ∈ x.exits,e < n) (p:Nat) (q:BlockM) (hp1:entriesM bs x=[p]) (hq:bs[p]?=some q) (hop:q.term.op=1) :
  Calls Tryz.prog 66 #[.agg #[p0,p1,p2,.slice A n c,lv,.slice (some ⟨gp,0,none⟩) n n],.agg #[.int .i64 (hd:Int),.slice A1 m1 c1,.slice A2 1 c2,v3,v4]] w fun e w' => e=.returned (.bool (!(x.exits.any (sharedB bs x)))) ∧ Below w.heap.size w w':=by
 obtain ⟨W,hW⟩:∃ W,W=(w.alloc (.cells #[p0,p1,p2,.slice A n c,lv,.slice (some ⟨gp,0,none⟩) n n] 107)).alloc (.cells #[.int .i64 (hd:Int),.slice A1 m1 c1,.slice A2 1 c2,v3,v4] 112):=⟨_,rfl⟩
 have HBW:Hid (Below w.heap.size w W):=by show Below _ _ _;rw [hW];exact ((Below.refl _ w).alloc (Nat.le_refl _) _).alloc (by simp) _
 have hx1:W.heap[w.heap.size]?=some (.cells #[p0,p1,p2,.slice A n c,lv,.slice (some ⟨gp,0,none⟩) n n] 107 (0,0)):=by
  rw [hW,Below.heap_alloc _ _ _ (by simp)]
  exact heap_alloc_new w _
 have hx2:W.heap[w.heap.size + 1]?=some (.cells #[.int .i64 (hd:Int),.slice A1 m1 c1,.slice A2 1 c2,v3,v4] 112 (0,0)):=by
  rw [hW]
  have:=heap_alloc_new (w.alloc (.cells #[p0,p1,p2,.slice A n c,lv,.slice (some ⟨gp,0,none⟩) n n] 107)) (.cells #[.int .i64 (hd:Int),.slice A1 m1 c1,.slice A2 1 c2,v3,v4] 112)
  simpa using this
 have HX1:=hideI hx1
 have HX2:=hideI hx2
 have hiW:=(hi.keep HBW.out).more HBW.out.size
 have HLB:Hid (LpBox W (w.heap.size + 1) x):=⟨⟨A1,c1,.int .i64 (hd:Int),.slice A2 1 c2,v3,v4,by rw [← hm1];exact hx2,by rw [← hm1];exact hiW⟩⟩
 have HNW:=hideI (hN.kept HBW.out)
 have HEN:=hideI (cEntries_any bs x n lo gp m1 c1 A1 vs p0 p1 p2 (.slice A n c) lv (.slice A2 1 c2) v3 v4 W HNW.out hiW hm1 hr hl hn5 hn (by omega))
 rw [← hd0] at HEN
 have HR:=hideI hr
 have HL:=hideI hl
 have HW0:=hideI hW
 have HN:=hideI hn
 have HM2:=hideI hm2
 have HBV:=hideI (hbv.keeps (Keeps.of_below (HBW.out.mono hB)))
 have HE3:=hideI ((hi3.keep HBW.out).more HBW.out.size)
 have HEX:=hideI hex
 have hwW:w.heap.size + 1 < W.heap.size:=lt_of_heap hx2
 have hqs:=row_cells hx1 rfl
 have q0:=hqs 0
 have q1:=hqs 1
 have q2:=hqs 2
 have q3:=hqs 3
 have q4:=hqs 4
 have q5:=hqs 5
 have hls:=row_cells hx2 rfl
 have l0:=hls 0
 have l1:=hls 1
 have l2:=hls 2
 have l3:=hls 3
 have l4:=hls 4
 clear hqs hls hN hbv hi hi3 hm1 hm2 hr hl hn hex hW hx1 hx2 hiW hd0
 have HP1:=hideI hp1
 have hpn:p < n:=by rw [HN.out];exact entries_lt hp1
 have HJ:Hid (jumpB bs p=true ↔ q.term.op=1):=by
  show _ ↔ _
  unfold jumpB
  rw [hq]
  simp
 obtain ⟨Ab,cb,eb,_,hat⟩:=HBV.out
 injection eb with eb1 eb2 eb3
 subst eb1
 obtain ⟨bb,ob,_,_,_,rfl,hbbB,_,_,hct,_⟩:=hat p q hq
 have hbb:bb < W.heap.size:=Nat.lt_of_lt_of_le hbbB (Nat.le_trans hB HBW.out.size)
 rw [hop] at hct
 have HCT:=hideI hct
 clear hop hp1 hq hat eb2 eb3 hct
 go_enter Tryz.func66,Tryz.ntmps66
 go_upto_region 1 with fail
 rw [← HW0.out]
 go_upto_region 4 with (go_at_call 112;go_must (refine HEN.out.mono ?_);rintro e w1 ⟨v,rfl,hie,hb⟩;have HIE:=hideI hie;have HB1:=hideI hb;(obtain ⟨Ae,ce,rfl,_,_⟩:=hie);rw [show (List.map (fun (x:Nat) => (x:Int)) (entriesM bs x)).length=1 from (by rw [HP1.out];rfl)];clear hb q0 q1 q2 q3 q4 q5 l0 l1 l2 l3 l4)
 obtain ⟨w2,hw2⟩:∃ w2:World,w2=w1.alloc (.cells #[.func (.func 113) #[] #[.pointer (some ⟨w.heap.size + 1,0,none⟩)]] 177):=⟨_,rfl⟩
 rw [← hw2]
 have hwl:W.heap.size ≤ w1.heap.size:=HB1.out.size
 have HK2:Hid (Below w1.heap.size w1 w2):=by show Below _ _ _;rw [hw2];exact (Below.refl _ w1).alloc (Nat.le_refl _) _
 have HB2:Hid (Below W.heap.size W w2):=HB1.out.trans (HK2.out.mono hwl)
 have HF2:Hid (w2.heap[w1.heap.size]?=some (.cells #[.func (.func 113) #[] #[.pointer (some ⟨w.heap.size + 1,0,none⟩)]] 177 (0,0))):=by
  show _=_
  rw [hw2]
  exact heap_alloc_new w1 _
 have HB0:Hid (Below w.heap.size w w2):=HBW.out.trans (HB2.out.mono HBW.out.size)
 clear hw2
 obtain ⟨be,oe,rfl,hbe,hce⟩:=ints_head HIE.out HP1.out
 have HS:Hid (∀ W':World,Below w2.heap.size w2 W' → W'.cell? ⟨w.heap.size,3,none⟩=some (.slice (some ⟨bb,ob,none⟩) n c) ∧ W'.cell? ⟨be,oe,none⟩=some (.int .i64 (p:Int)) ∧ W'.cell? ⟨bb,ob + p * 6 + 2,none⟩=some (.int .i64 1) ∧ W'.cell? ⟨w.heap.size + 1,2,none⟩=some (.slice A2 1 c2) ∧ W'.cell? ⟨w.heap.size + 1,3,none⟩=some v3):=fun W' hW' => by
  have hb2:Below W.heap.size W W':=HB2.out.trans (hW'.mono HB2.out.size)
  have hb1:Below w1.heap.size w1 W':=HK2.out.trans (hW'.mono HK2.out.size)
  have hx1:=row_cells HX1.out (hb2.block _ (by omega))
  have hx2:=row_cells HX2.out (hb2.block _ hwW)
  exact ⟨hx1 3,(hb1.cell (p:=⟨be,oe,none⟩) hbe).trans hce,(hb2.cell (p:=⟨bb,ob + p * 6 + 2,none⟩) hbb).trans HCT.out,hx2 2,hx2 3⟩
 have hS0:=HS.out w2 (Below.refl _ _)
 have HC:Hid (Calls Tryz.prog 116 #[v3,.func (.func 115) #[] #[.pointer (some ⟨w.heap.size,0,none⟩),.pointer (some ⟨w1.heap.size,0,none⟩)]] w2.drew fun e w' => e=.returned (.bool (x.exits.any (sharedB bs x))) ∧ Below w2.drew.heap.size w2.drew w'):=by
  have h3:Ints w2.drew w2.drew.heap.size v3 (x.exits.map fun (x:Nat) => (x:Int)):=(HE3.out.keep HB2.out).more HB2.out.size
  refine hasSh_any x.exits w2.drew.heap.size w.heap.size w1.heap.size v3 (sharedB bs x) w2.drew h3 (Nat.le_refl _) fun W' e he hW' => ?_
  have hb:Below w2.heap.size w2 W':=⟨hW'.os,hW'.tape,hW'.output,hW'.size,hW'.block⟩
  have hb2:Below W.heap.size W W':=HB2.out.trans (hb.mono HB2.out.size)
  have hNB:NestBox W' lo w.heap.size gp vs bs:=⟨⟨p0,p1,p2,.slice (some ⟨bb,ob,none⟩) n c,lv,by rw [← HN.out];exact (hb2.block _ (by omega)).trans HX1.out⟩,HNW.out.kept hb2⟩
  exact cShared_any bs x lo w.heap.size w1.heap.size (w.heap.size + 1) gp e vs W' hNB (HLB.out.kept hb2) HR.out HL.out (by rw [← HN.out];exact hn5) (by rw [← HN.out];exact HEX.out e he) ((hb.block _ (lt_of_heap HF2.out)).trans HF2.out)
 clear hce
 refine wp_region_late (by kernel_rfl) (fun W' => W'.cell? ⟨w.heap.size,3,none⟩=some (.slice (some ⟨bb,ob,none⟩) n c) ∧ W'.cell? ⟨be,oe,none⟩=some (.int .i64 (p:Int)) ∧ W'.cell? ⟨bb,ob + p * 6 + 2,none⟩=some (.int .i64 1) ∧ W'.cell? ⟨w.heap.size + 1,2,none⟩=some (.slice A2 1 c2) ∧ W'.cell? ⟨w.heap.size + 1,3,none⟩=some v3) [] ?_
 refine wpAnyT_quiet (i:=0) (v:=?_) rfl (by kernel_rfl) (by kernel_rfl) (by kernel_rfl) (fun _ _ _ h => h) (Or.inl ⟨by rfl,?_⟩) ?_
 rotate_left
 ·(intro w;go_simp;try with_reducible rfl)
 try simp only [Act.put,List.setIfInBounds_toArray,List.set_cons_zero,List.set_cons_succ]
 refine wpAnyT_quiet (i:=1) (v:=?_) rfl (by kernel_rfl) (by kernel_rfl) (by kernel_rfl) (fun _ _ _ h => h) (Or.inl ⟨by rfl,?_⟩) ?_
 rotate_left
 ·(intro w;go_simp;try with_reducible rfl)
 try simp only [Act.put,List.setIfInBounds_toArray,List.set_cons_zero,List.set_cons_succ]
 refine wpAnyT_quiet (i:=2) (v:=?_) rfl (by kernel_rfl) (by kernel_rfl) (by kernel_rfl) (fun _ _ _ h => h) (Or.inl ⟨by rfl,?_⟩) ?_
 rotate_left
 ·(intro w;go_simp;try with_reducible rfl)
 try simp only [Act.put,List.setIfInBounds_toArray,List.set_cons_zero,List.set_cons_succ]
 refine wpAnyT_quiet (i:=3) (v:=?_) rfl (by kernel_rfl) (by kernel_rfl) (by kernel_rfl) (fun _ _ _ h => h) (Or.inl ⟨by rfl,?_⟩) ?_
 rotate_left
 ·(intro w;go_simp;try with_reducible rfl)
 try simp only [Act.put,List.setIfInBounds_toArray,List.set_cons_zero,List.set_cons_succ]
 refine wpAnyT_quiet (i:=4) (v:=?_) rfl (by kernel_rfl) (by kernel_rfl) (by kernel_rfl) (fun _ _ _ h => h) (Or.inl ⟨by rfl,?_⟩) ?_
 rotate_left
 ·(intro w;go_simp;try with_reducible rfl)
 try simp only [Act.put,List.setIfInBounds_toArray,List.set_cons_zero,List.set_cons_succ]
 refine wpAnyT_quiet (i:=5) (v:=?_) rfl (by kernel_rfl) (by kernel_rfl) (by kernel_rfl) (fun _ _ _ h => h) (Or.inl ⟨by rfl,?_⟩) ?_
 rotate_left
 ·(intro w;go_simp;try with_reducible rfl)
 try simp only [Act.put,List.setIfInBounds_toArray,List.set_cons_zero,List.set_cons_succ]
 refine wpAnyT_take [] (i:=6) (v:=?_) rfl (by kernel_rfl) (by kernel_rfl) (by kernel_rfl) (by kernel_rfl) (by kernel_rfl) (by kernel_rfl) (fun _ _ _ h => h) hS0 (Or.inl ⟨by rfl,?_⟩) ?_
 rotate_left
 ·(intro w hSw;go_split_ands;go_simp;try with_reducible rfl)
 try simp only [Act.put,List.setIfInBounds_toArray,List.set_cons_zero,List.set_cons_succ]
 refine wpAnyT_quiet (i:=7) (v:=?_) rfl (by kernel_rfl) (by kernel_rfl) (by kernel_rfl) (fun _ _ _ h => h) (Or.inl ⟨by rfl,?_⟩) ?_
 rotate_left
 ·(intro w;go_simp;try with_reducible rfl)
 try simp only [Act.put,List.setIfInBounds_toArray,List.set_cons_zero,List.set_cons_succ]
 refine wpAnyT_quiet (i:=8) (v:=?_) rfl (by kernel_rfl) (by kernel_rfl) (by kernel_rfl) (fun _ _ _ h => h) (Or.inl ⟨by rfl,?_⟩) ?_
 rotate_left
 ·(intro w;go_simp;try with_reducible rfl)
 try simp only [Act.put,List.setIfInBounds_toArray,List.set_cons_zero,List.set_cons_succ]
 refine wpAnyT_take [] (i:=9) (v:=?_) rfl (by kernel_rfl) (by kernel_rfl) (by kernel_rfl) (by kernel_rfl) (by kernel_rfl) (by kernel_rfl) (fun _ _ _ h => h) hS0 (Or.inl ⟨by rfl,?_⟩) ?_
 rotate_left
 ·(intro w hSw;go_split_ands;go_simp;try with_reducible rfl)
 try simp only [Act.put,List.setIfInBounds_toArray,List.set_cons_zero,List.set_cons_succ]
 refine wpAnyT_quiet (i:=10) (v:=?_) rfl (by kernel_rfl) (by kernel_rfl) (by kernel_rfl) (fun _ _ _ h => h) (Or.inl ⟨by rfl,?_⟩) ?_
 rotate_left
 ·(intro w;go_simp;try with_reducible rfl)
 try simp only [Act.put,List.setIfInBounds_toArray,List.set_cons_zero,List.set_cons_succ]
 refine wpAnyT_quiet (i:=11) (v:=?_) rfl (by kernel_rfl) (by kernel_rfl) (by kernel_rfl) (fun _ _ _ h => h) (Or.inl ⟨by rfl,?_⟩) ?_
 rotate_left
 ·(intro w;go_simp;try with_reducible rfl)
 try simp only [Act.put,List.setIfInBounds_toArray,List.set_cons_zero,List.set_cons_succ]
 refine wpAnyT_quiet (i:=12) (v:=?_) rfl (by kernel_rfl) (by kernel_rfl) (by kernel_rfl) (fun _ _ _ h => h) (Or.inl ⟨by rfl,?_⟩) ?_
 rotate_left
 ·(intro w;go_simp;try with_reducible rfl)
 try simp only [Act.put,List.setIfInBounds_toArray,List.set_cons_zero,List.set_cons_succ]
 refine wpAnyT_take [] (i:=13) (v:=?_) rfl (by kernel_rfl) (by kernel_rfl) (by kernel_rfl) (by kernel_rfl) (by kernel_rfl) (by kernel_rfl) (fun _ _ _ h => h) hS0 (Or.inl ⟨by rfl,?_⟩) ?_
 rotate_left
 ·(intro w hSw;go_split_ands;go_simp;try with_reducible rfl)
 try simp only [Act.put,List.setIfInBounds_toArray,List.set_cons_zero,List.set_cons_succ]
 refine wpAnyT_quiet (i:=14) (v:=?_) rfl (by kernel_rfl) (by kernel_rfl) (by kernel_rfl) (fun _ _ _ h => h) (Or.inl ⟨by rfl,?_⟩) ?_
 rotate_left
 ·(intro w;go_simp;try with_reducible rfl)
 try simp only [Act.put,List.setIfInBounds_toArray,List.set_cons_zero,List.set_cons_succ]
 refine wpAnyT_quiet (i:=15) (v:=?_) rfl (by kernel_rfl) (by kernel_rfl) (by kernel_rfl) (fun _ _ _ h => h) (Or.inl ⟨by rfl,?_⟩) ?_
 rotate_left
 ·(intro w;go_simp;try with_reducible rfl)
 try simp only [Act.put,List.setIfInBounds_toArray,List.set_cons_zero,List.set_cons_succ]
 refine wpAnyT_quiet (i:=16) (v:=?_) rfl (by kernel_rfl) (by kernel_rfl) (by kernel_rfl) (fun _ _ _ h => h) (Or.inl ⟨by rfl,?_⟩) ?_
 rotate_left
 ·(intro w;go_simp;try with_reducible rfl)
 try simp only [Act.put,List.setIfInBounds_toArray,List.set_cons_zero,List.set_cons_succ]
 refine wpAnyT_quiet (i:=17) (v:=?_) rfl (by kernel_rfl) (by kernel_rfl) (by kernel_rfl) (fun _ _ _ h => h) (Or.inl ⟨by rfl,?_⟩) ?_
 rotate_left
 ·(intro w;go_simp;try with_reducible rfl)
 try simp only [Act.put,List.setIfInBounds_toArray,List.set_cons_zero,List.set_cons_succ]
 refine wpAnyT_take [] (i:=18) (v:=?_) rfl (by kernel_rfl) (by kernel_rfl) (by kernel_rfl) (by kernel_rfl) (by kernel_rfl) (by kernel_rfl) (fun _ _ _ h => h) hS0 (Or.inl ⟨by rfl,?_⟩) ?_
 rotate_left
 ·(intro w hSw;go_split_ands;go_simp;try with_reducible rfl)
 try simp only [Act.put,List.setIfInBounds_toArray,List.set_cons_zero,List.set_cons_succ]
 refine wpAnyT_quiet (i:=19) (v:=?_) rfl (by kernel_rfl) (by kernel_rfl) (by kernel_rfl) (fun _ _ _ h => h) (Or.inl ⟨by rfl,?_⟩) ?_
 rotate_left
 ·(intro w;go_simp;try with_reducible rfl)
 try simp only [Act.put,List.setIfInBounds_toArray,List.set_cons_zero,List.set_cons_succ]
 refine wpAnyT_quiet (i:=20) (v:=?_) rfl (by kernel_rfl) (by kernel_rfl) (by kernel_rfl) (fun _ _ _ h => h) (Or.inl ⟨by rfl,?_⟩) ?_
 rotate_left
 ·(intro w;go_simp;try with_reducible rfl)
 try simp only [Act.put,List.setIfInBounds_toArray,List.set_cons_zero,List.set_cons_succ]
 refine wpAnyT_quiet (i:=21) (v:=?_) rfl (by kernel_rfl) (by kernel_rfl) (by kernel_rfl) (fun _ _ _ h => h) (Or.inl ⟨by rfl,?_⟩) ?_
 rotate_left
 ·(intro w;go_simp;try with_reducible rfl)
 try simp only [Act.put,List.setIfInBounds_toArray,List.set_cons_zero,List.set_cons_succ]
 refine wpAnyT_quiet (i:=22) (v:=?_) rfl (by kernel_rfl) (by kernel_rfl) (by kernel_rfl) (fun _ _ _ h => h) (Or.inl ⟨by rfl,?_⟩) ?_
 rotate_left
 ·(intro w;go_simp;try with_reducible rfl)
 try simp only [Act.put,List.setIfInBounds_toArray,List.set_cons_zero,List.set_cons_succ]
 refine wpAnyT_quiet (i:=23) (v:=?_) rfl (by kernel_rfl) (by kernel_rfl) (by kernel_rfl) (fun _ _ _ h => h) (Or.inl ⟨by rfl,?_⟩) ?_
 rotate_left
 ·(intro w;go_simp;try with_reducible rfl)
 try simp only [Act.put,List.setIfInBounds_toArray,List.set_cons_zero,List.set_cons_succ]
 refine wpAnyT_take [] (i:=24) (v:=?_) rfl (by kernel_rfl) (by kernel_rfl) (by kernel_rfl) (by kernel_rfl) (by kernel_rfl) (by kernel_rfl) (fun _ _ _ h => h) hS0 (Or.inl ⟨by rfl,?_⟩) ?_
 rotate_left
 ·(intro w hSw;go_split_ands;go_simp;try with_reducible rfl)
 try simp only [Act.put,List.setIfInBounds_toArray,List.set_cons_zero,List.set_cons_succ]
 refine wpAnyT_quiet (i:=25) (v:=?_) rfl (by kernel_rfl) (by kernel_rfl) (by kernel_rfl) (fun _ _ _ h => h) (Or.inl ⟨by rfl,?_⟩) ?_
 rotate_left
 ·(intro w;go_simp;try with_reducible rfl)
 try simp only [Act.put,List.setIfInBounds_toArray,List.set_cons_zero,List.set_cons_succ]
 refine wpAnyT_ready (rs:=[26]) (by kernel_rfl) (by simp) ?_
 refine AllReadyT.cons rfl (fun K hK => ?_) ?_
 ·-- 26 the call
  go_simp
  refine HC.out.mono ?_
  rintro e w3 ⟨rfl,hb3d⟩
  have HB3:Hid (Below w2.heap.size w2 w3):=hideI ⟨hb3d.os,hb3d.tape,hb3d.output,hb3d.size,hb3d.block⟩
  clear hb3d
  refine hK.out _ _ (fun _ _ => HS.out _ HB3.out) ?_
  clear hK K
  try simp only [Act.put,List.setIfInBounds_toArray,List.set_cons_zero,List.set_cons_succ]
  refine wpAnyT_quiet (i:=27) (v:=?_) rfl (by kernel_rfl) (by kernel_rfl) (by kernel_rfl) (fun _ _ _ h => h) (Or.inl ⟨by rfl,?_⟩) ?_
  rotate_left
  ·(intro w;go_simp;try with_reducible rfl)
  try simp only [Act.put,List.setIfInBounds_toArray,List.set_cons_zero,List.set_cons_succ]
  refine wpAnyT_quiet (i:=28) (v:=?_) rfl (by kernel_rfl) (by kernel_rfl) (by kernel_rfl) (fun _ _ _ h => h) (Or.inl ⟨by rfl,?_⟩) ?_
  rotate_left
  ·(intro w;go_simp;try with_reducible rfl)
  try simp only [Act.put,List.setIfInBounds_toArray,List.set_cons_zero,List.set_cons_succ]
  refine wpAnyT_quiet (i:=29) (v:=?_) rfl (by kernel_rfl) (by kernel_rfl) (by kernel_rfl) (fun _ _ _ h => h) (Or.inl ⟨by rfl,?_⟩) ?_
  rotate_left
  ·(intro w;go_simp;try with_reducible rfl)
  try simp only [Act.put,List.setIfInBounds_toArray,List.set_cons_zero,List.set_cons_succ]
  refine wpAnyT_done (by kernel_rfl) ?_ _
  go_wp2_with fail
  go_ret
  exact ⟨rfl,HB0.out.trans (HB3.out.mono HB0.out.size)⟩
 ·exact AllReadyT.nil
theorem plain_any (bs:List BlockM) (x:LpM) (n lo gp hd m1 m2 c c1 c2 B:Nat) (A A1 A2:Option Addr) (vs:List Value) (p0 p1 p2 lv v3 v4:Value) (w:World) (hN:Lists w lo gp bs.length vs (predsAt bs bs.length bs.length 0)) (hbv:BlocksR w B (.slice A n c) bs) (hB:B ≤ w.heap.size)
  (hi:Ints w w.heap.size (.slice A1 m1 c1) (x.blocks.map fun (x:Nat) => (x:Int))) (hi3:Ints w w.heap.size v3 (x.exits.map fun (x:Nat) => (x:Int))) (hm1:m1=x.blocks.length) (hm2:m2=x.latches.length) (hr:x.blocks.Pairwise (· < ·)) (hl:x.blocks.length ≤ 512) (hn5:n ≤ 512) (hn:n=bs.length) (hd0:hd=x.head) (hh:hd < n) (hex:∀ e ∈ x.exits,e < n) :
  Calls Tryz.prog 66 #[.agg #[p0,p1,p2,.slice A n c,lv,.slice (some ⟨gp,0,none⟩) n n],.agg #[.int .i64 (hd:Int),.slice A1 m1 c1,.slice A2 m2 c2,v3,v4]] w fun e w' => e=.returned (.bool (plainB bs x)) ∧ Below w.heap.size w w':=by
 by_cases hne:(entriesM bs x).length=1
 ·obtain ⟨p,hp⟩:∃ p,entriesM bs x=[p]:=List.length_eq_one_iff.1 hne
  have hpn:=entries_lt hp
  have hq:bs[p]?=some bs[p]:=List.getElem?_eq_getElem hpn
  rw [plain_one hp]
  have hj:jumpB bs p=(bs[p].term.op == 1):=by unfold jumpB;rw [hq]
  rw [hj,← hm2]
  by_cases hop:bs[p].term.op=1
  ·by_cases h2:m2=1
   ·subst h2
    rw [hop]
    exact plainD bs x n lo gp hd m1 c c1 c2 B A A1 A2 vs p0 p1 p2 lv v3 v4 w hN hbv hB hi hi3 hm1 hm2 hr hl hn5 hn hd0 hh hex p _ hp hq hop
   ·have e:(bs[p].term.op == 1 && m2 == 1 && !(x.exits.any (sharedB bs x)))=false:=by simp [h2]
    rw [e]
    exact plainC_no bs x n lo gp hd m1 m2 c c1 c2 B A A1 A2 vs p0 p1 p2 lv v3 v4 w hN hbv hB hi hi3 hm1 hm2 hr hl hn5 hn hd0 hh hex p _ hp hq hop h2
  ·have e:(bs[p].term.op == 1 && m2 == 1 && !(x.exits.any (sharedB bs x)))=false:=by simp [hop]
   rw [e]
   exact plainB_no bs x n lo gp hd m1 m2 c c1 c2 B A A1 A2 vs p0 p1 p2 lv v3 v4 w hN hbv hB hi hi3 hm1 hm2 hr hl hn5 hn hd0 hh hex p _ hp hq hop
 ·rw [plain_no hne]
  exact plainA bs x n lo gp hd m1 m2 c c1 c2 B A A1 A2 vs p0 p1 p2 lv v3 v4 w hN hbv hB hi hi3 hm1 hm2 hr hl hn5 hn hd0 hh hex hne
end Go.Proofs.YtikogmpibkefdaaGreat

namespace Go.Proofs.YtikogmpibkefdaaGreat
open Go.RowKit Go.Maps
def CNestPost (f:FuncM) (pv bv:Value) (w:World) (e:Ending) (w':World):Prop :=
 (∃ x y:Int,CheckIs f (x,y) ∧ y ≠ 0 ∧ e=.returned (.tuple #[.agg #[.slice none 0 0,.int .i64 0,.int .i64 0,.slice none 0 0,.slice none 0 0,.slice none 0 0],.int .i64 y]) ∧ Below w.heap.size w w') ∨
 (∃ (o:List Nat) (pl:Nat → Nat) (par:Nat → Option Nat) (D L:Nat → Nat → Bool) (lv:Value) (gp:Nat) (vs:List Value),LoopsOf f o pl par D L ∧ e=.returned (.tuple #[.agg #[pv,.int .i64 f.arrays,.int .i64 f.cells,bv,lv,.slice (some ⟨gp,0,none⟩) f.blocks.length f.blocks.length],.int .i64 0]) ∧ LoopsR w' w.heap.size lv (loopsM f.blocks D L) ∧ Lists w' w.heap.size gp f.blocks.length vs (predsAt f.blocks f.blocks.length f.blocks.length 0) ∧ Below w.heap.size w w')
set_option maxRecDepth 100000 in
set_option maxHeartbeats 4000000 in
theorem cNest_any (f:FuncM) (B:Nat) (pv bv:Value) (w:World) (hpv:Ints w B pv f.params) (hbv:BlocksR w B bv f.blocks) (hB:B ≤ w.heap.size) (hid:∀ u ∈ usesM f,I64 u.1) :
  Calls Tryz.prog 63 #[.agg #[pv,.int .i64 f.arrays,.int .i64 f.cells,bv]] w (CNestPost f pv bv w):=by
 have HP:=hideI hpv
 have HBL:=hideI hbv
 have HID:=hideI hid
 obtain ⟨P,pc,rfl,_⟩:=hpv
 obtain ⟨A,c,rfl,hbm,_⟩:=hbv
 obtain ⟨W,hW⟩:∃ W:World,W=(w.alloc (.cells #[.slice P f.params.length pc,.int .i64 f.arrays,.int .i64 f.cells,.slice A f.blocks.length c] 25)).alloc (.cells #[.slice none 0 0,.int .i64 0,.int .i64 0,.slice none 0 0,.slice none 0 0,.slice none 0 0] 107):=⟨_,rfl⟩
 have HB0:Hid (Below w.heap.size w W):=by show Below _ _ _;rw [hW];exact ((Below.refl _ w).alloc (Nat.le_refl _) _).alloc (by simp) _
 have hx1:W.heap[w.heap.size]?=some (.cells #[.slice P f.params.length pc,.int .i64 f.arrays,.int .i64 f.cells,.slice A f.blocks.length c] 25 (0,0)):=by
  rw [hW,Below.heap_alloc _ _ _ (by simp)]
  exact heap_alloc_new w _
 have hx2:W.heap[w.heap.size + 1]?=some (.cells #[.slice none 0 0,.int .i64 0,.int .i64 0,.slice none 0 0,.slice none 0 0,.slice none 0 0] 107 (0,0)):=by
  rw [hW]
  have:=heap_alloc_new (w.alloc (.cells #[.slice P f.params.length pc,.int .i64 f.arrays,.int .i64 f.cells,.slice A f.blocks.length c] 25)) (.cells #[.slice none 0 0,.int .i64 0,.int .i64 0,.slice none 0 0,.slice none 0 0,.slice none 0 0] 107)
  simpa using this
 have HX1:=hideI hx1
 have HX2:=hideI hx2
 have hBW:B ≤ W.heap.size:=Nat.le_trans hB HB0.out.size
 have HT:=hideI (lForest_any f B _ _ W (HP.out.keeps (Keeps.of_below (HB0.out.mono hB))) (HBL.out.keeps (Keeps.of_below (HB0.out.mono hB))) hBW HID.out)
 have HW0:=hideI hW
 have hwW:w.heap.size + 1 < W.heap.size:=lt_of_heap hx2
 have hqs:=row_cells hx1 rfl
 have q0:=hqs 0
 have q1:=hqs 1
 have q2:=hqs 2
 have q3:=hqs 3
 have hns:=row_cells hx2 rfl
 have n0:=hns 0
 have n1:=hns 1
 have n2:=hns 2
 have n3:=hns 3
 have n4:=hns 4
 have n5:=hns 5
 have fr:=free_rowN hx2 rfl
 have f0:=fr 0
 have f1:=fr 1
 have f2:=fr 2
 have f3:=fr 3
 have f4:=fr 4
 have f5:=fr 5
 clear hid hW hx1 hx2 hqs hns fr
 by_cases hst:∃ o,StrictM f o
 ·obtain ⟨o0,hst⟩:=hst
  have HST:=hideI hst
  clear hst
  go_enter Tryz.func63,Tryz.ntmps63
  go_upto_region 1 with fail
  rw [← HW0.out]
  go_wp2_with (first
   | (go_at_call 110;go_must (refine HT.out.mono ?_);rintro e w1 (⟨x,y,hci,hy,_⟩ | ⟨o,pl,par,D,L,lv,hk,rfl,hlp,hbk⟩);(exact absurd (Prod.mk.inj (HST.out.check hci)).2 hy);(obtain ⟨Av,cv,rfl⟩:∃ A c,lv=.slice A (loopsM f.blocks D L).length c:=(by obtain ⟨cs,h1,_⟩:=hlp.ex;exact own_sl h1));have HK:=hideI hk;have HLP:=hideI hlp;have HB1:=hideI hbk;have hx1:=(hbk.block _ (by omega:w.heap.size < W.heap.size)).trans HX1.out;have hx2:=(hbk.block _ hwW).trans HX2.out;clear q0 q1 q2 q3 n0 n1 n2 n3 n4 n5 f0 f1 f2 f3 f4 f5;have hqs:=row_cells hx1 rfl;have q0:=hqs 0;have q1:=hqs 1;have q2:=hqs 2;have q3:=hqs 3;have hns:=row_cells hx2 rfl;have n0:=hns 0;have n1:=hns 1;have n2:=hns 2;have n3:=hns 3;have n4:=hns 4;have n5:=hns 5;have fr:=free_rowN hx2 rfl;have f0:=fr 0;have f1:=fr 1;have f2:=fr 2;have f3:=fr 3;have f4:=fr 4;have f5:=fr 5;clear hqs hns fr hx1 hx2;clear hk hlp hbk)
   | (go_at_call 111;go_must (refine (gPreds_any f B _ _ w1 (HP.out.keeps (Keeps.of_below ((HB0.out.trans (HB1.out.mono HB0.out.size)).mono hB))) (HBL.out.keeps (Keeps.of_below ((HB0.out.trans (HB1.out.mono HB0.out.size)).mono hB))) (Nat.le_trans hBW HB1.out.size) HID.out).mono ?_);rintro e w2 (⟨h0,_⟩ | ⟨_,g,vs,rfl,hls,hb2⟩);(exact absurd HST.out.look h0);have hbk:=HB1.out.trans (hb2.mono HB1.out.size);have HLS:=hideI (hls.mono HB1.out.size);have HLP2:=hideI (HLP.out.kept hb2);have HB2:=hideI hbk;have hx1:=(hbk.block _ (by omega:w.heap.size < W.heap.size)).trans HX1.out;have hx2:=(hbk.block _ hwW).trans HX2.out;clear q0 q1 q2 q3 n0 n1 n2 n3 n4 n5 f0 f1 f2 f3 f4 f5;have hqs:=row_cells hx1 rfl;have q0:=hqs 0;have q1:=hqs 1;have q2:=hqs 2;have q3:=hqs 3;have hns:=row_cells hx2 rfl;have n0:=hns 0;have n1:=hns 1;have n2:=hns 2;have n3:=hns 3;have n4:=hns 4;have n5:=hns 5;have fr:=free_rowN hx2 rfl;have f0:=fr 0;have f1:=fr 1;have f2:=fr 2;have f3:=fr 3;have f4:=fr 4;have f5:=fr 5;clear hqs hns fr hx1 hx2;clear hls hb2 hbk))
  refine bodyPost_ret (v:=.tuple #[.agg #[.slice P f.params.length pc,.int .i64 f.arrays,.int .i64 f.cells,.slice A f.blocks.length c,.slice Av (loopsM f.blocks D L).length cv,.slice (some ⟨g,0,none⟩) f.blocks.length f.blocks.length],.int .i64 0]) (by simp [results,Tryz.results63,go_sem,n0,n1,n2,n3,n4,n5]) rfl (.inr ⟨o,pl,par,D,L,_,g,vs,HK.out,rfl,?_,?_,?_⟩)
  ·exact LoopsR.mono ((((((HLP2.out.other hwW _).other hwW _).other hwW _).other hwW _).other hwW _).other hwW _) HB0.out.size
  ·exact Lists.mono ((((((HLS.out.other hwW _).other hwW _).other hwW _).other hwW _).other hwW _).other hwW _) HB0.out.size
  ·exact ((((((HB0.out.trans (HB2.out.mono HB0.out.size)).setCell (by simp) _).setCell (by simp) _).setCell (by simp) _).setCell (by simp) _).setCell (by simp) _).setCell (by simp) _
 ·have HNG:Hid (∀ o,StrictM f o → False):=fun o h => hst ⟨o,h⟩
  clear hst
  go_enter Tryz.func63,Tryz.ntmps63
  go_upto_region 1 with fail
  rw [← HW0.out]
  go_wp2_with (go_at_call 110;go_must (refine HT.out.mono ?_);rintro e w1 (⟨x1,y1,hci,hy1,rfl,hbk⟩ | ⟨o,pl,par,D,L,lv,hk,_⟩);rotate_left;(exact (HNG.out o hk.strict).elim);have hy:(y1 != 0)=true:=(by rw [bne_iff_ne];exact hy1);have HCI:=hideI hci;have HY:=hideI hy1;have HB1:=hideI hbk;have hx1:=(hbk.block _ (by omega:w.heap.size < W.heap.size)).trans HX1.out;have hx2:=(hbk.block _ hwW).trans HX2.out;clear q0 q1 q2 q3 n0 n1 n2 n3 n4 n5 f0 f1 f2 f3 f4 f5;have hqs:=row_cells hx1 rfl;have q0:=hqs 0;have q1:=hqs 1;have q2:=hqs 2;have q3:=hqs 3;have hns:=row_cells hx2 rfl;have n0:=hns 0;have n1:=hns 1;have n2:=hns 2;have n3:=hns 3;have n4:=hns 4;have n5:=hns 5;have fr:=free_rowN hx2 rfl;have f0:=fr 0;have f1:=fr 1;have f2:=fr 2;have f3:=fr 3;have f4:=fr 4;have f5:=fr 5;clear hqs hns fr hx1 hx2;clear hbk hci hy1)
  refine bodyPost_ret (v:=.tuple #[.agg #[.slice none 0 0,.int .i64 0,.int .i64 0,.slice none 0 0,.slice none 0 0,.slice none 0 0],.int .i64 y1]) (by simp [results,Tryz.results63,go_sem,n0,n1,n2,n3,n4,n5]) rfl (.inl ⟨x1,y1,HCI.out,HY.out,rfl,?_⟩)
  exact ((((((HB0.out.trans (HB1.out.mono HB0.out.size)).setCell (by simp) _).setCell (by simp) _).setCell (by simp) _).setCell (by simp) _).setCell (by simp) _).setCell (by simp) _
end Go.Proofs.YtikogmpibkefdaaGreat

namespace Go.Proofs.YtikogmpibkefdaaGreat
open Go.RowKit Go.Maps
structure LpGood (n:Nat) (x:LpM):Prop where
 rise:x.blocks.Pairwise (· < ·)
 blocks:x.blocks.length ≤ 512
 latches:x.latches.length ≤ 512
 exits:x.exits.length ≤ 512
 exin:∀ e ∈ x.exits,e < n
 head:x.head < n
structure NestAt (w:World) (lo B q gp n c:Nat) (A:Option Addr) (p0 p1 p2 lv:Value) (vs:List Value) (bs:List BlockM):Prop where
 box:w.heap[q]?=some (.cells #[p0,p1,p2,.slice A n c,lv,.slice (some ⟨gp,0,none⟩) n n] 107 (0,0))
 preds:Lists w lo gp bs.length vs (predsAt bs bs.length bs.length 0)
 blocks:BlocksR w B (.slice A n c) bs
 le:B ≤ w.heap.size
 n_:n=bs.length
 n5:n ≤ 512
theorem NestAt.kept {w w':World} {lo B q gp n c:Nat} {A:Option Addr} {p0 p1 p2 lv:Value} {vs:List Value} {bs:List BlockM} (h:NestAt w lo B q gp n c A p0 p1 p2 lv vs bs) (hb:Below w.heap.size w w'):NestAt w' lo B q gp n c A p0 p1 p2 lv vs bs :=
 ⟨(hb.block _ (lt_of_heap h.box)).trans h.box,h.preds.kept hb,h.blocks.keeps (Keeps.of_below (hb.mono h.le)),Nat.le_trans h.le hb.size,h.n_,h.n5⟩
set_option maxRecDepth 100000 in
set_option maxHeartbeats 4000000 in
theorem cFn_any (bs:List BlockM) (x:LpM) (lo B q gp n c:Nat) (A:Option Addr) (vs:List Value) (p0 p1 p2 lv b1 b2 b3:Value) (w:World) (hN:NestAt w lo B q gp n c A p0 p1 p2 lv vs bs) (hg:LpGood n x) (s1:Ints w w.heap.size b1 (x.blocks.map fun (x:Nat) => (x:Int))) (s2:∃ A2 c2,b2=.slice A2 x.latches.length c2) (s3:Ints w w.heap.size b3 (x.exits.map fun (x:Nat) => (x:Int))) (v4:Value) :
  Calls Tryz.prog 65 #[.agg #[.int .i64 (x.head:Int),b1,b2,b3,v4],.pointer (some ⟨q,0,none⟩)] w fun e w' => e=.returned (.bool (!plainB bs x)) ∧ Below w.heap.size w w':=by
 have s1':=s1
 obtain ⟨A1,c1,rfl,_,_⟩:=s1
 obtain ⟨A2,c2,rfl⟩:=s2
 rw [List.length_map] at s1' ⊢
 obtain ⟨hd,hhd⟩:∃ hd,hd=x.head:=⟨_,rfl⟩
 obtain ⟨m1,hm1⟩:∃ m1,m1=x.blocks.length:=⟨_,rfl⟩
 obtain ⟨m2,hm2⟩:∃ m2,m2=x.latches.length:=⟨_,rfl⟩
 rw [← hm1] at s1' ⊢
 rw [← hm2,← hhd]
 obtain ⟨A3,c3,rfl⟩:∃ A3 c3,b3=.slice A3 x.exits.length c3:=by obtain ⟨A3,c3,e,_⟩:=s3;rw [List.length_map] at e;exact ⟨A3,c3,e⟩
 obtain ⟨m3,hm3⟩:∃ m3,m3=x.exits.length:=⟨_,rfl⟩
 rw [← hm3] at s3 ⊢
 obtain ⟨W,hW⟩:∃ W,W=w.alloc (.cells #[.int .i64 (hd:Int),.slice A1 m1 c1,.slice A2 m2 c2,.slice A3 m3 c3,v4] 112):=⟨_,rfl⟩
 have HBW:Hid (Below w.heap.size w W):=by show Below _ _ _;rw [hW];exact (Below.refl _ w).alloc (Nat.le_refl _) _
 have hNW:=hN.kept HBW.out
 have HC:=hideI (plain_any bs x n lo gp hd m1 m2 c c1 c2 B A A1 A2 vs p0 p1 p2 lv (.slice A3 m3 c3) v4 W hNW.preds hNW.blocks hNW.le ((s1'.keep HBW.out).more HBW.out.size) ((s3.keep HBW.out).more HBW.out.size) hm1 hm2 hg.rise hg.blocks hN.n5 hN.n_ hhd (by rw [hhd];exact hg.head) hg.exin)
 have hx1:=row_cells hNW.box rfl
 have q0:=hx1 0
 have q1:=hx1 1
 have q2:=hx1 2
 have q3:=hx1 3
 have q4:=hx1 4
 have q5:=hx1 5
 have HW0:=hideI hW
 clear hx1 hNW hN hg s1' s3 hhd hm1 hm2 hm3 hW
 go_enter Tryz.func65,Tryz.ntmps65
 go_upto_region 1 with fail
 rw [← HW0.out]
 have hx2:=row_cells (by rw [HW0.out];exact heap_alloc_new w _:W.heap[w.heap.size]?=some (.cells #[.int .i64 (hd:Int),.slice A1 m1 c1,.slice A2 m2 c2,.slice A3 m3 c3,v4] 112 (0,0))) rfl
 have l0:=hx2 0
 have l1:=hx2 1
 have l2:=hx2 2
 have l3:=hx2 3
 have l4:=hx2 4
 clear hx2
 go_wp2_with (go_at_call 66;go_must (refine HC.out.mono ?_);rintro e w1 ⟨rfl,hb⟩;have HB:=hideI hb;clear hb)
 go_ret
 exact ⟨rfl,HBW.out.trans (HB.out.mono HBW.out.size)⟩
set_option maxRecDepth 100000 in
set_option maxHeartbeats 4000000 in
theorem idxLp_any (bs:List BlockM) (ls:List LpM) (lo B q gp n c base:Nat) (A:Option Addr) (vs:List Value) (p0 p1 p2 lv lw:Value) (w:World) (hN:NestAt w lo B q gp n c A p0 p1 p2 lv vs bs) (hls:LoopsR w base lw ls) (hg:∀ x ∈ ls,LpGood n x) (hlen:ls.length ≤ 512) :
  Calls Tryz.prog 64 #[lw,.func (.func 65) #[] #[.pointer (some ⟨q,0,none⟩)]] w fun e w' => ∃ r,e=.returned (.int .i64 r) ∧ FirstBy (fun x => !plainB bs x) ls r ∧ Below w.heap.size w w':=by
 have HNA:=hideI hN
 have HLW:=hideI hls
 have HGD:=hideI hg
 obtain ⟨Av,cv,rfl⟩:∃ A c,lw=.slice A ls.length c:=by obtain ⟨cs,h1,_⟩:=hls.ex;exact own_sl h1
 obtain ⟨m,hm⟩:∃ m,m=ls.length:=⟨_,rfl⟩
 have HM:=hideI hm
 rw [← hm] at hlen ⊢
 clear hN hls hg hm
 go_enter Tryz.func64,Tryz.ntmps64
 go_wp2
 go_loopg [5,8] m (fun gg _ s8 wr => ∃ kk:Nat,kk ≤ m ∧ m - kk ≤ gg ∧ s8=.int .i64 kk ∧ Hid (Below w.heap.size w wr) ∧ Hid (∀ j y,j < kk → ls[j]?=some y → (!plainB bs y)=false))
 case atStart => exact ⟨0,Nat.zero_le _,by omega,rfl,Below.refl _ w,fun j y h => absurd h (Nat.not_lt_zero _)⟩
 case round =>
  obtain ⟨k,hk,hgg,rfl,HBr,HA⟩:=hrel
  by_cases hlt:k < m
  ·obtain ⟨x,hxk⟩:∃ x,ls[k]?=some x:=⟨_,List.getElem?_eq_getElem (by have:=HM.out;omega)⟩
   obtain ⟨g,cap0,b1,b2,b3,hv,hgb,hgl,k0,k1,k2,k3,k4,s1,s2,s3,_⟩:=HLW.out.cells hxk
   injection hv with e1 _ e3
   subst e1 e3
   have GD:=HGD.out x (List.mem_of_getElem? hxk)
   have r0:=(HBr.out.cell (p:=⟨g,k * 5,none⟩) hgl).trans k0
   have r1:=(HBr.out.cell (p:=⟨g,k * 5 + 1,none⟩) hgl).trans k1
   have r2:=(HBr.out.cell (p:=⟨g,k * 5 + 2,none⟩) hgl).trans k2
   have r3:=(HBr.out.cell (p:=⟨g,k * 5 + 3,none⟩) hgl).trans k3
   have r4:=(HBr.out.cell (p:=⟨g,k * 5 + 4,none⟩) hgl).trans k4
   have i1:=((s1.ints (by have:=GD.blocks;omega)).keep HBr.out).more HBr.out.size
   have i3:=((s3.ints (by have:=GD.exits;omega)).keep HBr.out).more HBr.out.size
   obtain ⟨A2,c2,e2⟩:=own_sl s2.1
   have HC:=hideI (cFn_any bs x lo B q gp n c A vs p0 p1 p2 lv b1 b2 b3 wr (HNA.out.kept HBr.out) GD i1 ⟨A2,c2,e2⟩ i3 (.int .i64 x.parent))
   have HXK:=hideI hxk
   have o1:=own_sl s1.1
   have o3:=own_sl s3.1
   obtain ⟨_,_,rfl⟩:=o1
   obtain ⟨_,_,rfl⟩:=o3
   subst e2
   obtain ⟨hd,hhd⟩:∃ hd,hd=x.head:=⟨_,rfl⟩
   obtain ⟨pr,hpr⟩:∃ pr,pr=x.parent:=⟨_,rfl⟩
   obtain ⟨m1,hm1⟩:∃ m1,m1=x.blocks.length:=⟨_,rfl⟩
   obtain ⟨m2,hm2⟩:∃ m2,m2=x.latches.length:=⟨_,rfl⟩
   obtain ⟨m3,hm3⟩:∃ m3,m3=x.exits.length:=⟨_,rfl⟩
   rw [← hhd] at r0 HC
   rw [← hpr] at r4 HC
   rw [← hm1] at r1 HC
   rw [← hm2] at r2 HC
   rw [← hm3] at r3 HC
   clear hxk k0 k1 k2 k3 k4 s1 s2 s3 GD i1 i3 hhd hpr hm1 hm2 hm3
   cases hq:!plainB bs x with
   | true =>
    rw [hq] at HC
    have HQ:=hideI hq
    clear hq
    go_wp2_with (go_at_call 65;refine HC.out.mono ?_;rintro e w' ⟨rfl,hb'⟩)
    go_ret
    exact ⟨_,rfl,.inr ⟨k,x,rfl,HXK.out,HQ.out,HA.out⟩,HBr.out.trans (hb'.mono HBr.out.size)⟩
   | false =>
    rw [hq] at HC
    have HQ:=hideI hq
    clear hq
    go_wp2_with (go_at_call 65;refine HC.out.mono ?_;rintro e w' ⟨rfl,hb'⟩)
    go_roundg (m - (k + 1))
    case measure => omega
    case rel =>
     refine ⟨k + 1,by omega,by omega,by go_num,HBr.out.trans (hb'.mono HBr.out.size),fun j y hj hy => ?_⟩
     by_cases e:j=k
     ·subst e
      have h1:=HXK.out
      rw [hy] at h1
      cases h1
      exact HQ.out
     ·exact HA.out j y (by omega) hy
  ·have hkn:k=m:=by omega
   subst hkn
   go_wp2
   go_ret
   refine ⟨_,rfl,.inl ⟨rfl,fun x hx => ?_⟩,HBr.out⟩
   obtain ⟨j,hj⟩:=List.getElem?_of_mem hx
   exact HA.out j x (by have:=(List.getElem?_eq_some_iff.1 hj).1;have:=HM.out;omega) hj
def CCheckPost (f:FuncM) (w:World) (e:Ending) (w':World):Prop :=
 (∃ x y:Int,CheckIs f (x,y) ∧ y ≠ 0 ∧ e=.returned (.tuple #[.int .i64 0,.int .i64 y]) ∧ Below w.heap.size w w') ∨
 (∃ (o:List Nat) (pl:Nat → Nat) (par:Nat → Option Nat) (D L:Nat → Nat → Bool),LoopsOf f o pl par D L ∧
  (((∀ x ∈ loopsM f.blocks D L,plainB f.blocks x=true) ∧ e=.returned (.tuple #[.int .i64 0,.int .i64 0])) ∨
   ∃ (k:Nat) (x:LpM),(loopsM f.blocks D L)[k]?=some x ∧ plainB f.blocks x=false ∧ (∀ j y,j < k → (loopsM f.blocks D L)[j]?=some y → plainB f.blocks y=true) ∧ e=.returned (.tuple #[.int .i64 (x.head:Int),.int .i64 11])) ∧ Below w.heap.size w w')
theorem loops_good {bs:List BlockM} {D L:Nat → Nat → Bool} (hn:bs.length ≤ 512):∀ x ∈ loopsM bs D L,LpGood bs.length x:=by
 intro x hx
 obtain ⟨i,hi⟩:=List.getElem?_of_mem hx
 have X:=loops_at hi
 have R:=loops_rising hn x hx
 refine ⟨R.1,R.2,?_,?_,?_,X.head_lt⟩
 ·rw [X.latches]
  exact Nat.le_trans (List.length_filter_le _ _) (Nat.le_trans (predsTo_len _ _ _) hn)
 ·rw [X.exits]
  refine Nat.le_trans (List.length_filter_le _ _) ?_
  simpa using hn
 ·rw [X.exits]
  intro e he
  simpa using (List.mem_filter.1 he).1
set_option maxRecDepth 100000 in
set_option maxHeartbeats 800000 in
theorem cCheck_any (f:FuncM) (B:Nat) (pv bv:Value) (w:World) (hpv:Ints w B pv f.params) (hbv:BlocksR w B bv f.blocks) (hB:B ≤ w.heap.size) (hid:∀ u ∈ usesM f,I64 u.1) :
  Calls Tryz.prog 28 #[.agg #[pv,.int .i64 f.arrays,.int .i64 f.cells,bv]] w (CCheckPost f w):=by
 have HP:=hideI hpv
 have HBL:=hideI hbv
 obtain ⟨P,pc,rfl,_⟩:=hpv
 obtain ⟨A,c,rfl,hbm,_⟩:=hbv
 obtain ⟨W,hW⟩:∃ W:World,W=w.alloc (.cells #[.slice P f.params.length pc,.int .i64 f.arrays,.int .i64 f.cells,.slice A f.blocks.length c] 25):=⟨_,rfl⟩
 have HB0:Hid (Below w.heap.size w W):=by show Below _ _ _;rw [hW];exact (Below.refl _ w).alloc (Nat.le_refl _) _
 have hx1:W.heap[w.heap.size]?=some (.cells #[.slice P f.params.length pc,.int .i64 f.arrays,.int .i64 f.cells,.slice A f.blocks.length c] 25 (0,0)):=by
  rw [hW]
  exact heap_alloc_new w _
 have HT:=hideI (cNest_any f B _ _ W (HP.out.keeps (Keeps.of_below (HB0.out.mono hB))) (HBL.out.keeps (Keeps.of_below (HB0.out.mono hB))) (Nat.le_trans hB HB0.out.size) hid)
 have HBW:=hideI (HBL.out.keeps (Keeps.of_below (HB0.out.mono hB)))
 have HW0:=hideI hW
 have hqs:=row_cells hx1 rfl
 have q0:=hqs 0
 have q1:=hqs 1
 have q2:=hqs 2
 have q3:=hqs 3
 clear hid hW hx1 hqs
 by_cases hst:∃ o,StrictM f o
 ·obtain ⟨o0,hst⟩:=hst
  have HST:=hideI hst
  have HN5:=hideI (look_some_block hst.look).2
  clear hst
  go_enter Tryz.func28,Tryz.ntmps28
  go_upto_region 1 with fail
  rw [← HW0.out]
  go_upto_region 4 with (go_at_call 63;go_must (refine HT.out.mono ?_);rintro e w1 (⟨x,y,hci,hy,_⟩ | ⟨o,pl,par,D,L,lv,gp,vs,hk,rfl,hlp,hls,hb⟩);(exact absurd (Prod.mk.inj (HST.out.check hci)).2 hy);(obtain ⟨Av,cv,rfl⟩:∃ A c,lv=.slice A (loopsM f.blocks D L).length c:=(by obtain ⟨cs,h1,_⟩:=hlp.ex;exact own_sl h1));have HK:=hideI hk;have HLP:=hideI hlp;have HLS:=hideI hls;have HB1:=hideI hb;clear hk hlp hls hb q0 q1 q2 q3)
  obtain ⟨w2,hw2⟩:∃ w2:World,w2=w1.alloc (.cells #[.slice P f.params.length pc,.int .i64 f.arrays,.int .i64 f.cells,.slice A f.blocks.length c,.slice Av (loopsM f.blocks D L).length cv,.slice (some ⟨gp,0,none⟩) f.blocks.length f.blocks.length] 107):=⟨_,rfl⟩
  rw [← hw2]
  have hX2:w2.heap[w1.heap.size]?=some (.cells #[.slice P f.params.length pc,.int .i64 f.arrays,.int .i64 f.cells,.slice A f.blocks.length c,.slice Av (loopsM f.blocks D L).length cv,.slice (some ⟨gp,0,none⟩) f.blocks.length f.blocks.length] 107 (0,0)):=by
   rw [hw2]
   exact heap_alloc_new w1 _
  have HX2:=hideI hX2
  have HK2:Hid (Below w1.heap.size w1 w2):=by show Below _ _ _;rw [hw2];exact (Below.refl _ w1).alloc (Nat.le_refl _) _
  have HNA:Hid (NestAt w2 W.heap.size B w1.heap.size gp f.blocks.length c A (.slice P f.params.length pc) (.int .i64 f.arrays) (.int .i64 f.cells) (.slice Av (loopsM f.blocks D L).length cv) vs f.blocks) :=
   ⟨hX2,HLS.out.kept HK2.out,(HBW.out.keeps (Keeps.of_below (HB1.out.mono (Nat.le_trans hB HB0.out.size)))).keeps (Keeps.of_below (HK2.out.mono (Nat.le_trans (Nat.le_trans hB HB0.out.size) HB1.out.size))),Nat.le_trans (Nat.le_trans (Nat.le_trans hB HB0.out.size) HB1.out.size) HK2.out.size,rfl,HN5.out⟩
  have HL2:=hideI (HLP.out.kept HK2.out)
  have HB2:Hid (Below w.heap.size w w2):=(HB0.out.trans (HB1.out.mono HB0.out.size)).trans (HK2.out.mono (Nat.le_trans HB0.out.size HB1.out.size))
  have HIX:=hideI (idxLp_any f.blocks (loopsM f.blocks D L) W.heap.size B w1.heap.size gp f.blocks.length c W.heap.size A vs _ _ _ _ _ w2 HNA.out HL2.out (loops_good HN5.out) (Nat.le_trans loops_len HN5.out))
  obtain ⟨m,hm⟩:∃ m,m=(loopsM f.blocks D L).length:=⟨_,rfl⟩
  have HM:=hideI hm
  rw [← hm] at HIX hX2
  have hqs:=row_cells hX2 rfl
  have q4:=hqs 4
  clear hqs hX2 hw2 hm
  by_cases hall:∀ x ∈ loopsM f.blocks D L,plainB f.blocks x=true
  ·have HALL:=hideI hall
   clear hall
   go_wp2_with (go_at_call 64;go_must (refine HIX.out.mono ?_);rintro e w3 ⟨r,rfl,hr,hb⟩;obtain rfl:r=-1:=hr.one (.inl ⟨rfl,fun x hx => by show (!plainB f.blocks x)=false;rw [HALL.out x hx];rfl⟩);have HB3:=hideI hb;clear hr hb q4)
   go_ret2
   exact .inr ⟨o,pl,par,D,L,HK.out,.inl ⟨HALL.out,rfl⟩,HB2.out.trans (HB3.out.mono HB2.out.size)⟩
  ·have hne:¬ ∀ x ∈ loopsM f.blocks D L,(!plainB f.blocks x)=false:=fun h => hall fun x hx => by simpa using h x hx
   obtain ⟨k,x,hk,hx,hbf⟩:=first_some hne
   have hkm:k < m:=by rw [HM.out];exact (List.getElem?_eq_some_iff.1 hk).1
   obtain ⟨g,cap0,b1,b2,b3,hv,hgb,hgl,k0,_⟩:=HL2.out.cells hk
   injection hv with e1 _ e3
   subst e1 e3
   have HF:Hid (FirstBy (fun x => !plainB f.blocks x) (loopsM f.blocks D L) (k:Int)):=.inr ⟨k,x,rfl,hk,hx,hbf⟩
   have HC0:=hideI k0
   have hnk:¬ ((k:Int) < 0):=by omega
   have HKX:=hideI hk
   have HXF:=hideI hx
   have HBF:=hideI hbf
   clear hall hne hk hx hbf k0
   go_wp2_with (go_at_call 64;go_must (refine HIX.out.mono ?_);rintro e w3 ⟨r,rfl,hr,hb⟩;obtain rfl:=hr.one HF.out;have HB3:=hideI hb;have hqs:=row_cells ((hb.block _ (lt_of_heap HX2.out)).trans HX2.out) rfl;have q4':=hqs 4;have c0:=(hb.cell (p:=⟨g,k * 5,none⟩) hgl).trans HC0.out;rw [← HM.out] at q4';clear hr hb q4 hqs)
   go_ret2
   exact .inr ⟨o,pl,par,D,L,HK.out,.inr ⟨k,x,HKX.out,by simpa using HXF.out,fun j y hj hy => by simpa using HBF.out j y hj hy,rfl⟩,HB2.out.trans (HB3.out.mono HB2.out.size)⟩
 ·have HNG:Hid (∀ o,StrictM f o → False):=fun o h => hst ⟨o,h⟩
  clear hst
  go_enter Tryz.func28,Tryz.ntmps28
  go_upto_region 1 with fail
  rw [← HW0.out]
  go_wp2_with (go_at_call 63;go_must (refine HT.out.mono ?_);rintro e w1 (⟨x1,y1,hci,hy1,rfl,hb⟩ | ⟨o,pl,par,D,L,lv,gp,vs,hk,_⟩);rotate_left;(exact (HNG.out o hk.strict).elim);have hy:(y1 != 0)=true:=(by rw [bne_iff_ne];exact hy1);have HCI:=hideI hci;have HY:=hideI hy1;have HB1:=hideI hb;clear hb hci hy1)
  go_ret2
  exact .inl ⟨x1,y1,HCI.out,HY.out,rfl,(HB0.out.trans (HB1.out.mono HB0.out.size)).alloc (Nat.le_trans HB0.out.size HB1.out.size) _⟩
end Go.Proofs.YtikogmpibkefdaaGreat

namespace Go.Proofs.YtikogmpibkefdaaGreat
open Go.RowKit Go.Maps
set_option maxRecDepth 100000 in
set_option maxHeartbeats 2000000 in
theorem simpNone_any (f:FuncM) (B:Nat) (pv bv:Value) (w:World) (hpv:Ints w B pv f.params) (hbv:BlocksR w B bv f.blocks) (hB:B ≤ w.heap.size) (hid:∀ u ∈ usesM f,I64 u.1) (hr:∀ x ∈ idsOut f,0 ≤ x ∧ x ≤ 1048575) (hst:∃ o,StrictM f o) (hf:FnFits f) (hone:f.blocks.length=1) (hpr:predsTo f.blocks f.blocks.length 0=[]) (hnl:∀ D L,loopsM f.blocks D L=[]) :
  Calls Tryz.prog 32 #[.agg #[pv,.int .i64 f.arrays,.int .i64 f.cells,bv]] w fun e w' => ∃ (P:Option Addr) (pc:Nat) (A:Option Addr) (c:Nat),e=.returned (.tuple #[.agg #[.slice P f.params.length pc,.int .i64 f.arrays,.int .i64 f.cells,.slice A f.blocks.length c],.int .i64 0]) ∧ Below w.heap.size w w':=by
 have HP:=hideI hpv
 have HBL:=hideI hbv
 have HID:=hideI hid
 obtain ⟨P,pc,rfl,_⟩:=hpv
 obtain ⟨A,c,rfl,_⟩:=hbv
 obtain ⟨o0,hst⟩:=hst
 have HST:=hideI hst
 obtain ⟨W,hW⟩:∃ W:World,W=(w.alloc (.cells #[.slice P f.params.length pc,.int .i64 f.arrays,.int .i64 f.cells,.slice A f.blocks.length c] 25)).alloc (.cells #[.slice none 0 0,.int .i64 0,.int .i64 0,.slice none 0 0] 25):=⟨_,rfl⟩
 have HB0:Hid (Below w.heap.size w W):=by show Below _ _ _;rw [hW];exact ((Below.refl _ w).alloc (Nat.le_refl _) _).alloc (by simp) _
 have hx1:W.heap[w.heap.size]?=some (.cells #[.slice P f.params.length pc,.int .i64 f.arrays,.int .i64 f.cells,.slice A f.blocks.length c] 25 (0,0)):=by
  rw [hW,Below.heap_alloc _ _ _ (by simp)]
  exact heap_alloc_new w _
 have hx2:W.heap[w.heap.size + 1]?=some (.cells #[.slice none 0 0,.int .i64 0,.int .i64 0,.slice none 0 0] 25 (0,0)):=by
  rw [hW]
  have:=heap_alloc_new (w.alloc (.cells #[.slice P f.params.length pc,.int .i64 f.arrays,.int .i64 f.cells,.slice A f.blocks.length c] 25)) (.cells #[.slice none 0 0,.int .i64 0,.int .i64 0,.slice none 0 0] 25)
  simpa using this
 have HX2:=hideI hx2
 have hwW:w.heap.size + 1 < W.heap.size:=lt_of_heap hx2
 have hBW:B ≤ W.heap.size:=Nat.le_trans hB HB0.out.size
 have hk:Keeps B w W:=Keeps.of_below (HB0.out.mono hB)
 have HPW:=hideI (HP.out.keeps hk)
 have HBV:=hideI (HBL.out.keeps hk)
 have HT:=hideI (cNest_any f B _ _ W HPW.out HBV.out hBW hid)
 have HW0:=hideI hW
 have HR:=hideI hr
 have HF:=hideI hf
 have HONE:=hideI hone
 have HPR:=hideI hpr
 have HNL:=hideI hnl
 have hqs:=row_cells hx1 rfl
 have q0:=hqs 0
 have q1:=hqs 1
 have q2:=hqs 2
 have q3:=hqs 3
 clear hid hW hx1 hx2 hqs hr hf hone hpr hnl hst hk
 go_enter Tryz.func32,Tryz.ntmps32
 go_upto_region 1 with fail
 rw [← HW0.out]
 go_upto_region 4 with (go_at_call 63;go_must (refine HT.out.mono ?_);rintro e w1 (⟨x,y,hci,hy,_⟩ | ⟨o,pl,par,D,L,lv,gp,vs,hk,rfl,hlp,hls,hb⟩);(exact absurd (Prod.mk.inj (HST.out.check hci)).2 hy);(obtain ⟨Av,cv,rfl⟩:∃ A c,lv=.slice A 0 c:=(by obtain ⟨cs,h1,_⟩:=hlp.ex;rw [HNL.out D L] at h1;exact own_sl h1));have HLS:=hideI hls;have HB1:=hideI hb;clear hk hlp hls hb q0 q1 q2 q3)
 obtain ⟨w2,hw2⟩:∃ w2:World,w2=w1.alloc (.cells #[.slice P f.params.length pc,.int .i64 f.arrays,.int .i64 f.cells,.slice A f.blocks.length c,.slice Av 0 cv,.slice (some ⟨gp,0,none⟩) f.blocks.length f.blocks.length] 107):=⟨_,rfl⟩
 rw [← hw2]
 have hX2:w2.heap[w1.heap.size]?=some (.cells #[.slice P f.params.length pc,.int .i64 f.arrays,.int .i64 f.cells,.slice A f.blocks.length c,.slice Av 0 cv,.slice (some ⟨gp,0,none⟩) f.blocks.length f.blocks.length] 107 (0,0)):=by
  rw [hw2]
  exact heap_alloc_new w1 _
 have HK2:Hid (Below w1.heap.size w1 w2):=by show Below _ _ _;rw [hw2];exact (Below.refl _ w1).alloc (Nat.le_refl _) _
 have HB2:Hid (Below W.heap.size W w2):=HB1.out.trans (HK2.out.mono HB1.out.size)
 have HSH:=hideI (shapedNone_any f B W.heap.size gp pc c cv P A Av vs w2 (HPW.out.keeps (Keeps.of_below (HB2.out.mono hBW))) (HBV.out.keeps (Keeps.of_below (HB2.out.mono hBW))) (Nat.le_trans hBW HB2.out.size) (HLS.out.kept HK2.out) HID.out HR.out HST.out.look HF.out HONE.out HPR.out)
 have hqs:=row_cells hX2 rfl
 have q0:=hqs 0
 have q1:=hqs 1
 have q2:=hqs 2
 have q3:=hqs 3
 have q4:=hqs 4
 have q5:=hqs 5
 clear hqs hX2 hw2
 go_upto_region 5 with (go_at_call 73;go_must (refine HSH.out.mono ?_);rintro e w3 ⟨v1,base,P1,pc1,A1,c1,rfl,e1,e2,ho,hlo,hb⟩;have HE1:=hideI e1;have HE2:=hideI e2;have HOW:=hideI ho;have HB3:=hideI (HB2.out.trans (hb.mono HB2.out.size));clear e1 e2 ho hlo hb q0 q1 q2 q3 q4 q5)
 obtain ⟨w4,hw4⟩:∃ w4:World,w4=w3.alloc (.cells #[.slice P1 f.params.length pc1,.int .i64 f.arrays,.int .i64 f.cells,.slice A1 f.blocks.length c1] 25):=⟨_,rfl⟩
 rw [← hw4]
 have hX4:w4.heap[w3.heap.size]?=some (.cells #[.slice P1 f.params.length pc1,.int .i64 f.arrays,.int .i64 f.cells,.slice A1 f.blocks.length c1] 25 (0,0)):=by
  rw [hw4]
  exact heap_alloc_new w3 _
 have HX4:=hideI hX4
 have hK4:Below w3.heap.size w3 w4:=by rw [hw4];exact (Below.refl _ w3).alloc (Nat.le_refl _) _
 have HB4:Hid (Below W.heap.size W w4):=HB3.out.trans (hK4.mono HB3.out.size)
 have hrd:=OwnG.rd (HOW.out.below hK4) (look_small HST.out.look)
 have hi1:=hrd.params
 have hb1:=hrd.blocks HF.out
 rw [HE1.out] at hi1
 rw [HE2.out] at hb1
 have h0:=check_any f w4.heap.size _ _ w4 hi1 hb1 (Nat.le_refl _) HID.out
 rw [HST.out.look] at h0
 have HCK:=hideI h0
 have hqs:=row_cells hX4 rfl
 have q0:=hqs 0
 have q1:=hqs 1
 have q2:=hqs 2
 have q3:=hqs 3
 clear hqs hX4 hw4 hK4 hrd hi1 hb1 h0
 go_wp2_with (go_at_call 60;go_must (refine HCK.out.mono ?_);rintro e w5 ⟨rfl,hb⟩;have HB5:=hideI (HB4.out.trans (hb.mono HB4.out.size));have hxx:=row_cells ((hb.block _ (lt_of_heap HX4.out)).trans HX4.out) rfl;clear q0 q1 q2 q3;have q0:=hxx 0;have q1:=hxx 1;have q2:=hxx 2;have q3:=hxx 3;have hx2:=(HB5.out.block _ hwW).trans HX2.out;have hns:=row_cells hx2 rfl;have n0:=hns 0;have n1:=hns 1;have n2:=hns 2;have n3:=hns 3;have fr:=free_rowN hx2 rfl;have f0:=fr 0;have f1:=fr 1;have f2:=fr 2;have f3:=fr 3;clear hns fr hx2 hxx hb)
 refine bodyPost_ret (v:=.tuple #[.agg #[.slice P1 f.params.length pc1,.int .i64 f.arrays,.int .i64 f.cells,.slice A1 f.blocks.length c1],.int .i64 0]) (by simp [results,Tryz.results32,go_sem,n0,n1,n2,n3]) rfl ⟨P1,pc1,A1,c1,rfl,?_⟩
 exact ((((HB0.out.trans (HB5.out.mono HB0.out.size)).setCell (by simp) _).setCell (by simp) _).setCell (by simp) _).setCell (by simp) _
theorem awake_fits:FnFits awakeF:=by
 refine ⟨fun b hb p hp => ?_,fun b hb x hx => ?_,fun b hb => ?_⟩
 ·simp [awakeF] at hb
  subst hb
  simp at hp
 ·simp [awakeF] at hb
  subst hb
  simp at hx
  subst hx
  exact ⟨by unfold I64;decide,by unfold I64;decide,by unfold I64;decide⟩
 ·simp [awakeF] at hb
  subst hb
  exact ⟨by unfold I64;decide,by unfold I64;decide,by unfold I64;decide⟩
theorem awake_ids10:idsOut awakeF=[0]:=by
 unfold idsOut idsS
 rw [awake_look]
 simp
theorem awake_idsOut:∀ x ∈ idsOut awakeF,0 ≤ x ∧ x ≤ 1048575:=by
 intro x hx
 rw [awake_ids10] at hx
 simp at hx
 omega
theorem awake_simplify (w:World):Calls Tryz.prog 32 #[.agg #[.slice none 0 0,.int .i64 0,.int .i64 0,.slice (some ⟨w.heap.size + 1,0,none⟩) 1 1]] (awakeMade w) fun e w' => ∃ (P:Option Addr) (pc:Nat) (A:Option Addr) (c:Nat),e=.returned (.tuple #[.agg #[.slice P 0 pc,.int .i64 0,.int .i64 0,.slice A 1 c],.int .i64 0]) ∧ Below w.heap.size w w':=by
 obtain ⟨h1,h2,h3⟩:=awakeMade_facts w
 refine (simpNone_any awakeF (w.heap.size + 2) (.slice none 0 0) _ (awakeMade w) (Ints.nil _ _) h1 (by omega) awake_uses awake_idsOut awake_strict awake_fits rfl (by decide) (fun D L => awake_loops)).mono ?_
 rintro e w1 ⟨P,pc,A,c,rfl,hb⟩
 exact ⟨P,pc,A,c,rfl,h3.trans (hb.mono (by omega))⟩
theorem awake_check10 (w:World):Calls Tryz.prog 28 #[.agg #[.slice none 0 0,.int .i64 0,.int .i64 0,.slice (some ⟨w.heap.size + 1,0,none⟩) 1 1]] (awakeMade w) fun e w' => e=.returned (.tuple #[.int .i64 0,.int .i64 0]) ∧ Below w.heap.size w w':=by
 obtain ⟨h1,h2,h3⟩:=awakeMade_facts w
 refine (cCheck_any awakeF (w.heap.size + 2) (.slice none 0 0) _ (awakeMade w) (Ints.nil _ _) h1 (by omega) awake_uses).mono ?_
 rintro e w1 (⟨x,y,hc,hy,_⟩ | ⟨o,pl,par,D,L,hk,h,hb⟩)
 ·exact absurd (Prod.mk.inj (awake_check9 hc)).2 hy
 ·rw [awake_loops] at h
  rcases h with ⟨_,rfl⟩ | ⟨k,x,hx,_⟩
  ·exact ⟨rfl,h3.trans (hb.mono (by omega))⟩
  ·cases hx
set_option maxRecDepth 100000 in
set_option maxHeartbeats 1000000 in
theorem awake10_any (w:World):Calls Tryz.prog 30 #[] w fun e w' => e=.returned (.bool true) ∧ Below w.heap.size w w':=by
 have HI:=hideI (awake_check10 w)
 have HD:Hid (∀ w,_):=hideI (fun w => awake_simplify w)
 unfold awakeMade at HI
 go_enter Tryz.func30,Tryz.ntmps30
 go_wp2_with (first
  | (go_at_call 28;go_must (refine HI.out.mono ?_);rintro e w1 ⟨rfl,hb⟩;have HB1:=hideI hb;have HDW:=hideI (HD.out w1);unfold awakeMade at HDW;clear hb)
  | (go_at_call 32;go_must (refine HDW.out.mono ?_);rintro e w2 ⟨P,pc,A,c,rfl,hb⟩;have HB2:=hideI (HB1.out.trans (hb.mono HB1.out.size));clear hb))
 go_ret
 exact ⟨rfl,HB2.out.alloc HB2.out.size _⟩
end Go.Proofs.YtikogmpibkefdaaGreat

namespace Go.Proofs.YtikogmpibkefdaaGreat
open Go.RowKit
theorem has_at {w:World} {B:Nat} {v:Value} {l:List Nat} {p:Nat} {r:Bool} (hi:Ints w B v (l.map fun (x:Nat) => (x:Int))) (hr:decide (p ∈ l)=r) (a:Nat) :
  Calls Tryz.prog 25 #[v,.int .i64 (p:Int)] (w.drewN a) fun e w' => e=.returned (.bool r) ∧ w'=w.drewN a:=by
 have hi2:Ints (w.drewN a) B v (l.map fun (x:Nat) => (x:Int)):=hi
 have h1:=has_any _ B v (p:Int) (w.drewN a) hi2
 have e:decide ((p:Int) ∈ l.map fun (x:Nat) => (x:Int))=r:=by rw [← hr];simp only [mem_nat]
 rw [e] at h1
 exact h1.mono fun _ _ ⟨a,b⟩ => ⟨a,b.symm⟩
end Go.Proofs.YtikogmpibkefdaaGreat
