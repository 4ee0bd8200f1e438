/- What CanonChecks rests on, part 17: CPlain, InLeast, InNest, CNest. -/
import Derived.Test.YtaehbgppfahdeaaGreatPkCanonChecks16
import Derived.BigQuiet
import Derived.Deep.QuietTactic

namespace Go.Proofs.YtaehbgppfahdeaaGreat
open Go.RowKit Go.Maps
theorem ints_head {w:World} {B m c p:Nat} {A:Option Addr} {l:List Nat} (h:Ints w B (.slice A m c) (l.map fun (x:Nat) => (x:Int))) (hl:l=[p]):∃ b off,A=some ⟨b,off,none⟩ ∧ b < B ∧ w.cell? ⟨b,off,none⟩=some (.int .i64 (p:Int)):=by
 subst hl
 obtain ⟨A',c',e,_,hat⟩:=h
 injection e with e1 e2 e3
 subst e1
 obtain ⟨b,off,e,hb,hc⟩:=hat 0 (by simp)
 exact ⟨b,off,e,hb,hc⟩
theorem entries_lt {bs:List BlockM} {x:LpM} {p:Nat} (h:entriesM bs x=[p]):p < bs.length:=by
 have h1:p ∈ entriesM bs x:=by rw [h];simp
 unfold entriesM at h1
 exact predsTo_lt (List.mem_filter.1 h1).1
set_option maxRecDepth 100000 in
set_option maxHeartbeats 8000000 in
theorem plainA (bs:List BlockM) (x:LpM) (n lo gp hd m1 m2 c c1 c2 B:Nat) (A A1 A2:Option Addr) (vs:List Value) (p0 p1 p2 lv lm v3 v4:Value) (w:World) (hN:Lists w lo gp bs.length vs (predsAt bs bs.length bs.length 0)) (hbv:BlocksR w B (.slice A n c) bs) (hB:B ≤ w.heap.size)
  (hi:Ints w w.heap.size (.slice A1 m1 c1) (x.blocks.map fun (x:Nat) => (x:Int))) (hi3:Ints w w.heap.size v3 (x.exits.map fun (x:Nat) => (x:Int))) (hm1:m1=x.blocks.length) (hm2:m2=x.latches.length) (hr:x.blocks.Pairwise (· < ·)) (hl:x.blocks.length ≤ 512) (hn5:n ≤ 512) (hn:n=bs.length) (hd0:hd=x.head) (hh:hd < n) (hex:∀ e ∈ x.exits,e < n) (hne:(entriesM bs x).length ≠ 1) :
  Calls Tryz.prog 42 #[.agg #[p0,p1,p2,.slice A n c,lv,lm,.slice (some ⟨gp,0,none⟩) n n],.agg #[.int .i64 (hd:Int),.slice A1 m1 c1,.slice A2 m2 c2,v3,v4]] w fun e w' => e=.returned (.bool false) ∧ Below w.heap.size w w':=by
 obtain ⟨W,hW⟩:∃ W,W=(w.alloc (.cells #[p0,p1,p2,.slice A n c,lv,lm,.slice (some ⟨gp,0,none⟩) n n] 83)).alloc (.cells #[.int .i64 (hd:Int),.slice A1 m1 c1,.slice A2 m2 c2,v3,v4] 88):=⟨_,rfl⟩
 have HBW:Hid (Below w.heap.size w W):=by show Below _ _ _;rw [hW];exact ((Below.refl _ w).alloc (Nat.le_refl _) _).alloc (by simp) _
 have hx1:W.heap[w.heap.size]?=some (.cells #[p0,p1,p2,.slice A n c,lv,lm,.slice (some ⟨gp,0,none⟩) n n] 83 (0,0)):=by
  rw [hW,Below.heap_alloc _ _ _ (by simp)]
  exact heap_alloc_new w _
 have hx2:W.heap[w.heap.size + 1]?=some (.cells #[.int .i64 (hd:Int),.slice A1 m1 c1,.slice A2 m2 c2,v3,v4] 88 (0,0)):=by
  rw [hW]
  have:=heap_alloc_new (w.alloc (.cells #[p0,p1,p2,.slice A n c,lv,lm,.slice (some ⟨gp,0,none⟩) n n] 83)) (.cells #[.int .i64 (hd:Int),.slice A1 m1 c1,.slice A2 m2 c2,v3,v4] 88)
  simpa using this
 have HX1:=hideI hx1
 have HX2:=hideI hx2
 have hiW:=(hi.keep HBW.out).more HBW.out.size
 have HLB:Hid (LpBox W (w.heap.size + 1) x):=⟨⟨A1,c1,.int .i64 (hd:Int),.slice A2 m2 c2,v3,v4,by rw [← hm1];exact hx2,by rw [← hm1];exact hiW⟩⟩
 have HNW:=hideI (hN.kept HBW.out)
 have HEN:=hideI (cEntries_any bs x n lo gp m1 c1 A1 vs p0 p1 p2 (.slice A n c) lv lm (.slice A2 m2 c2) v3 v4 W HNW.out hiW hm1 hr hl hn5 hn (by omega))
 rw [← hd0] at HEN
 have HR:=hideI hr
 have HL:=hideI hl
 have HW0:=hideI hW
 have HN:=hideI hn
 have HM2:=hideI hm2
 have HBV:=hideI (hbv.keeps (Keeps.of_below (HBW.out.mono hB)))
 have HE3:=hideI ((hi3.keep HBW.out).more HBW.out.size)
 have HEX:=hideI hex
 have hwW:w.heap.size + 1 < W.heap.size:=lt_of_heap hx2
 have hqs:=row_cells hx1 rfl
 have q0:=hqs 0
 have q1:=hqs 1
 have q2:=hqs 2
 have q3:=hqs 3
 have q4:=hqs 4
 have q5:=hqs 5
 have q6:=hqs 6
 have hls:=row_cells hx2 rfl
 have l0:=hls 0
 have l1:=hls 1
 have l2:=hls 2
 have l3:=hls 3
 have l4:=hls 4
 clear hqs hls hN hbv hi hi3 hm1 hm2 hr hl hn hex hW hx1 hx2 hiW hd0
 obtain ⟨ne,hne0⟩:∃ ne,ne=(entriesM bs x).length:=⟨_,rfl⟩
 have HNE:=hideI hne0
 have hnb:((ne:Int) == 1)=false:=beq_eq_false_iff_ne.2 (by omega)
 clear hne hne0
 go_enter Tryz.func42,Tryz.ntmps42
 go_upto_region 1 with fail
 rw [← HW0.out]
 go_upto_region 4 with (go_at_call 75;go_must (refine HEN.out.mono ?_);rintro e w1 ⟨v,rfl,hie,hb⟩;have HIE:=hideI hie;have HB1:=hideI hb;(obtain ⟨Ae,ce,rfl,_,_⟩:=hie);rw [List.length_map,← HNE.out];clear hb q0 q1 q2 q3 q4 q5 q6 l0 l1 l2 l3 l4)
 obtain ⟨w2,hw2⟩:∃ w2:World,w2=w1.alloc (.cells #[.func (.func 76) #[] #[.pointer (some ⟨w.heap.size + 1,0,none⟩)]] 148):=⟨_,rfl⟩
 rw [← hw2]
 have hwl:W.heap.size ≤ w1.heap.size:=HB1.out.size
 have HK2:Hid (Below w1.heap.size w1 w2):=by show Below _ _ _;rw [hw2];exact (Below.refl _ w1).alloc (Nat.le_refl _) _
 have HB2:Hid (Below W.heap.size W w2):=HB1.out.trans (HK2.out.mono hwl)
 have HF2:Hid (w2.heap[w1.heap.size]?=some (.cells #[.func (.func 76) #[] #[.pointer (some ⟨w.heap.size + 1,0,none⟩)]] 148 (0,0))):=by
  show _=_
  rw [hw2]
  exact heap_alloc_new w1 _
 have HB0:Hid (Below w.heap.size w w2):=HBW.out.trans (HB2.out.mono HBW.out.size)
 clear hw2
 go_quiet (fail)
 go_wp2
 go_ret
 exact ⟨rfl,HB0.out.os,HB0.out.tape,HB0.out.output,HB0.out.size,HB0.out.block⟩
set_option maxRecDepth 100000 in
set_option maxHeartbeats 8000000 in
theorem plainB_no (bs:List BlockM) (x:LpM) (n lo gp hd m1 m2 c c1 c2 B:Nat) (A A1 A2:Option Addr) (vs:List Value) (p0 p1 p2 lv lm v3 v4:Value) (w:World) (hN:Lists w lo gp bs.length vs (predsAt bs bs.length bs.length 0)) (hbv:BlocksR w B (.slice A n c) bs) (hB:B ≤ w.heap.size)
  (hi:Ints w w.heap.size (.slice A1 m1 c1) (x.blocks.map fun (x:Nat) => (x:Int))) (hi3:Ints w w.heap.size v3 (x.exits.map fun (x:Nat) => (x:Int))) (hm1:m1=x.blocks.length) (hm2:m2=x.latches.length) (hr:x.blocks.Pairwise (· < ·)) (hl:x.blocks.length ≤ 512) (hn5:n ≤ 512) (hn:n=bs.length) (hd0:hd=x.head) (hh:hd < n) (hex:∀ e ∈ x.exits,e < n) (p:Nat) (q:BlockM) (hp1:entriesM bs x=[p]) (hq:bs[p]?=some q) (hop:q.term.op ≠ 1) :
  Calls Tryz.prog 42 #[.agg #[p0,p1,p2,.slice A n c,lv,lm,.slice (some ⟨gp,0,none⟩) n n],.agg #[.int .i64 (hd:Int),.slice A1 m1 c1,.slice A2 m2 c2,v3,v4]] w fun e w' => e=.returned (.bool false) ∧ Below w.heap.size w w':=by
 obtain ⟨W,hW⟩:∃ W,W=(w.alloc (.cells #[p0,p1,p2,.slice A n c,lv,lm,.slice (some ⟨gp,0,none⟩) n n] 83)).alloc (.cells #[.int .i64 (hd:Int),.slice A1 m1 c1,.slice A2 m2 c2,v3,v4] 88):=⟨_,rfl⟩
 have HBW:Hid (Below w.heap.size w W):=by show Below _ _ _;rw [hW];exact ((Below.refl _ w).alloc (Nat.le_refl _) _).alloc (by simp) _
 have hx1:W.heap[w.heap.size]?=some (.cells #[p0,p1,p2,.slice A n c,lv,lm,.slice (some ⟨gp,0,none⟩) n n] 83 (0,0)):=by
  rw [hW,Below.heap_alloc _ _ _ (by simp)]
  exact heap_alloc_new w _
 have hx2:W.heap[w.heap.size + 1]?=some (.cells #[.int .i64 (hd:Int),.slice A1 m1 c1,.slice A2 m2 c2,v3,v4] 88 (0,0)):=by
  rw [hW]
  have:=heap_alloc_new (w.alloc (.cells #[p0,p1,p2,.slice A n c,lv,lm,.slice (some ⟨gp,0,none⟩) n n] 83)) (.cells #[.int .i64 (hd:Int),.slice A1 m1 c1,.slice A2 m2 c2,v3,v4] 88)
  simpa using this
 have HX1:=hideI hx1
 have HX2:=hideI hx2
 have hiW:=(hi.keep HBW.out).more HBW.out.size
 have HLB:Hid (LpBox W (w.heap.size + 1) x):=⟨⟨A1,c1,.int .i64 (hd:Int),.slice A2 m2 c2,v3,v4,by rw [← hm1];exact hx2,by rw [← hm1];exact hiW⟩⟩
 have HNW:=hideI (hN.kept HBW.out)
 have HEN:=hideI (cEntries_any bs x n lo gp m1 c1 A1 vs p0 p1 p2 (.slice A n c) lv lm (.slice A2 m2 c2) v3 v4 W HNW.out hiW hm1 hr hl hn5 hn (by omega))
 rw [← hd0] at HEN
 have HR:=hideI hr
 have HL:=hideI hl
 have HW0:=hideI hW
 have HN:=hideI hn
 have HM2:=hideI hm2
 have HBV:=hideI (hbv.keeps (Keeps.of_below (HBW.out.mono hB)))
 have HE3:=hideI ((hi3.keep HBW.out).more HBW.out.size)
 have HEX:=hideI hex
 have hwW:w.heap.size + 1 < W.heap.size:=lt_of_heap hx2
 have hqs:=row_cells hx1 rfl
 have q0:=hqs 0
 have q1:=hqs 1
 have q2:=hqs 2
 have q3:=hqs 3
 have q4:=hqs 4
 have q5:=hqs 5
 have q6:=hqs 6
 have hls:=row_cells hx2 rfl
 have l0:=hls 0
 have l1:=hls 1
 have l2:=hls 2
 have l3:=hls 3
 have l4:=hls 4
 clear hqs hls hN hbv hi hi3 hm1 hm2 hr hl hn hex hW hx1 hx2 hiW hd0
 have HP1:=hideI hp1
 have hpn:p < n:=by rw [HN.out];exact entries_lt hp1
 have HJ:Hid (jumpB bs p=true ↔ q.term.op=1):=by
  show _ ↔ _
  unfold jumpB
  rw [hq]
  simp
 obtain ⟨Ab,cb,eb,_,hat⟩:=HBV.out
 injection eb with eb1 eb2 eb3
 subst eb1
 obtain ⟨bb,ob,_,_,_,rfl,hbbB,_,_,hct,_⟩:=hat p q hq
 have hbb:bb < W.heap.size:=Nat.lt_of_lt_of_le hbbB (Nat.le_trans hB HBW.out.size)
 have HCT:=hideI hct
 have hob:(q.term.op == 1)=false:=beq_eq_false_iff_ne.2 hop
 clear hop hp1 hq hat eb2 eb3 hct
 go_enter Tryz.func42,Tryz.ntmps42
 go_upto_region 1 with fail
 rw [← HW0.out]
 go_upto_region 4 with (go_at_call 75;go_must (refine HEN.out.mono ?_);rintro e w1 ⟨v,rfl,hie,hb⟩;have HIE:=hideI hie;have HB1:=hideI hb;(obtain ⟨Ae,ce,rfl,_,_⟩:=hie);rw [show (List.map (fun (x:Nat) => (x:Int)) (entriesM bs x)).length=1 from (by rw [HP1.out];rfl)];clear hb q0 q1 q2 q3 q4 q5 q6 l0 l1 l2 l3 l4)
 obtain ⟨w2,hw2⟩:∃ w2:World,w2=w1.alloc (.cells #[.func (.func 76) #[] #[.pointer (some ⟨w.heap.size + 1,0,none⟩)]] 148):=⟨_,rfl⟩
 rw [← hw2]
 have hwl:W.heap.size ≤ w1.heap.size:=HB1.out.size
 have HK2:Hid (Below w1.heap.size w1 w2):=by show Below _ _ _;rw [hw2];exact (Below.refl _ w1).alloc (Nat.le_refl _) _
 have HB2:Hid (Below W.heap.size W w2):=HB1.out.trans (HK2.out.mono hwl)
 have HF2:Hid (w2.heap[w1.heap.size]?=some (.cells #[.func (.func 76) #[] #[.pointer (some ⟨w.heap.size + 1,0,none⟩)]] 148 (0,0))):=by
  show _=_
  rw [hw2]
  exact heap_alloc_new w1 _
 have HB0:Hid (Below w.heap.size w w2):=HBW.out.trans (HB2.out.mono HBW.out.size)
 clear hw2
 obtain ⟨be,oe,rfl,hbe,hce⟩:=ints_head HIE.out HP1.out
 have HS:Hid (∀ W':World,Below w2.heap.size w2 W' → W'.cell? ⟨w.heap.size,3,none⟩=some (.slice (some ⟨bb,ob,none⟩) n c) ∧ W'.cell? ⟨be,oe,none⟩=some (.int .i64 (p:Int)) ∧ W'.cell? ⟨bb,ob + p * 6 + 2,none⟩=some (.int .i64 q.term.op) ∧ W'.cell? ⟨w.heap.size + 1,2,none⟩=some (.slice A2 m2 c2) ∧ W'.cell? ⟨w.heap.size + 1,3,none⟩=some v3):=fun W' hW' => by
  have hb2:Below W.heap.size W W':=HB2.out.trans (hW'.mono HB2.out.size)
  have hb1:Below w1.heap.size w1 W':=HK2.out.trans (hW'.mono HK2.out.size)
  have hx1:=row_cells HX1.out (hb2.block _ (by omega))
  have hx2:=row_cells HX2.out (hb2.block _ hwW)
  exact ⟨hx1 3,(hb1.cell (p:=⟨be,oe,none⟩) hbe).trans hce,(hb2.cell (p:=⟨bb,ob + p * 6 + 2,none⟩) hbb).trans HCT.out,hx2 2,hx2 3⟩
 have hs2:=HS.out w2 (Below.refl _ _)
 obtain ⟨s1,s2,s3,s4,s5⟩:=hs2
 clear hce
 go_quiet (fail)
 go_wp2
 go_ret
 exact ⟨rfl,HB0.out.os,HB0.out.tape,HB0.out.output,HB0.out.size,HB0.out.block⟩
set_option maxRecDepth 100000 in
set_option maxHeartbeats 8000000 in
theorem plainC_no (bs:List BlockM) (x:LpM) (n lo gp hd m1 m2 c c1 c2 B:Nat) (A A1 A2:Option Addr) (vs:List Value) (p0 p1 p2 lv lm v3 v4:Value) (w:World) (hN:Lists w lo gp bs.length vs (predsAt bs bs.length bs.length 0)) (hbv:BlocksR w B (.slice A n c) bs) (hB:B ≤ w.heap.size)
  (hi:Ints w w.heap.size (.slice A1 m1 c1) (x.blocks.map fun (x:Nat) => (x:Int))) (hi3:Ints w w.heap.size v3 (x.exits.map fun (x:Nat) => (x:Int))) (hm1:m1=x.blocks.length) (hm2:m2=x.latches.length) (hr:x.blocks.Pairwise (· < ·)) (hl:x.blocks.length ≤ 512) (hn5:n ≤ 512) (hn:n=bs.length) (hd0:hd=x.head) (hh:hd < n) (hex:∀ e ∈ x.exits,e < n) (p:Nat) (q:BlockM) (hp1:entriesM bs x=[p]) (hq:bs[p]?=some q) (hop:q.term.op=1) (hm:m2 ≠ 1) :
  Calls Tryz.prog 42 #[.agg #[p0,p1,p2,.slice A n c,lv,lm,.slice (some ⟨gp,0,none⟩) n n],.agg #[.int .i64 (hd:Int),.slice A1 m1 c1,.slice A2 m2 c2,v3,v4]] w fun e w' => e=.returned (.bool false) ∧ Below w.heap.size w w':=by
 obtain ⟨W,hW⟩:∃ W,W=(w.alloc (.cells #[p0,p1,p2,.slice A n c,lv,lm,.slice (some ⟨gp,0,none⟩) n n] 83)).alloc (.cells #[.int .i64 (hd:Int),.slice A1 m1 c1,.slice A2 m2 c2,v3,v4] 88):=⟨_,rfl⟩
 have HBW:Hid (Below w.heap.size w W):=by show Below _ _ _;rw [hW];exact ((Below.refl _ w).alloc (Nat.le_refl _) _).alloc (by simp) _
 have hx1:W.heap[w.heap.size]?=some (.cells #[p0,p1,p2,.slice A n c,lv,lm,.slice (some ⟨gp,0,none⟩) n n] 83 (0,0)):=by
  rw [hW,Below.heap_alloc _ _ _ (by simp)]
  exact heap_alloc_new w _
 have hx2:W.heap[w.heap.size + 1]?=some (.cells #[.int .i64 (hd:Int),.slice A1 m1 c1,.slice A2 m2 c2,v3,v4] 88 (0,0)):=by
  rw [hW]
  have:=heap_alloc_new (w.alloc (.cells #[p0,p1,p2,.slice A n c,lv,lm,.slice (some ⟨gp,0,none⟩) n n] 83)) (.cells #[.int .i64 (hd:Int),.slice A1 m1 c1,.slice A2 m2 c2,v3,v4] 88)
  simpa using this
 have HX1:=hideI hx1
 have HX2:=hideI hx2
 have hiW:=(hi.keep HBW.out).more HBW.out.size
 have HLB:Hid (LpBox W (w.heap.size + 1) x):=⟨⟨A1,c1,.int .i64 (hd:Int),.slice A2 m2 c2,v3,v4,by rw [← hm1];exact hx2,by rw [← hm1];exact hiW⟩⟩
 have HNW:=hideI (hN.kept HBW.out)
 have HEN:=hideI (cEntries_any bs x n lo gp m1 c1 A1 vs p0 p1 p2 (.slice A n c) lv lm (.slice A2 m2 c2) v3 v4 W HNW.out hiW hm1 hr hl hn5 hn (by omega))
 rw [← hd0] at HEN
 have HR:=hideI hr
 have HL:=hideI hl
 have HW0:=hideI hW
 have HN:=hideI hn
 have HM2:=hideI hm2
 have HBV:=hideI (hbv.keeps (Keeps.of_below (HBW.out.mono hB)))
 have HE3:=hideI ((hi3.keep HBW.out).more HBW.out.size)
 have HEX:=hideI hex
 have hwW:w.heap.size + 1 < W.heap.size:=lt_of_heap hx2
 have hqs:=row_cells hx1 rfl
 have q0:=hqs 0
 have q1:=hqs 1
 have q2:=hqs 2
 have q3:=hqs 3
 have q4:=hqs 4
 have q5:=hqs 5
 have q6:=hqs 6
 have hls:=row_cells hx2 rfl
 have l0:=hls 0
 have l1:=hls 1
 have l2:=hls 2
 have l3:=hls 3
 have l4:=hls 4
 clear hqs hls hN hbv hi hi3 hm1 hm2 hr hl hn hex hW hx1 hx2 hiW hd0
 have HP1:=hideI hp1
 have hpn:p < n:=by rw [HN.out];exact entries_lt hp1
 have HJ:Hid (jumpB bs p=true ↔ q.term.op=1):=by
  show _ ↔ _
  unfold jumpB
  rw [hq]
  simp
 obtain ⟨Ab,cb,eb,_,hat⟩:=HBV.out
 injection eb with eb1 eb2 eb3
 subst eb1
 obtain ⟨bb,ob,_,_,_,rfl,hbbB,_,_,hct,_⟩:=hat p q hq
 have hbb:bb < W.heap.size:=Nat.lt_of_lt_of_le hbbB (Nat.le_trans hB HBW.out.size)
 rw [hop] at hct
 have HCT:=hideI hct
 have hmb:((m2:Int) == 1)=false:=beq_eq_false_iff_ne.2 (by omega)
 clear hop hm hp1 hq hat eb2 eb3 hct
 go_enter Tryz.func42,Tryz.ntmps42
 go_upto_region 1 with fail
 rw [← HW0.out]
 go_upto_region 4 with (go_at_call 75;go_must (refine HEN.out.mono ?_);rintro e w1 ⟨v,rfl,hie,hb⟩;have HIE:=hideI hie;have HB1:=hideI hb;(obtain ⟨Ae,ce,rfl,_,_⟩:=hie);rw [show (List.map (fun (x:Nat) => (x:Int)) (entriesM bs x)).length=1 from (by rw [HP1.out];rfl)];clear hb q0 q1 q2 q3 q4 q5 q6 l0 l1 l2 l3 l4)
 obtain ⟨w2,hw2⟩:∃ w2:World,w2=w1.alloc (.cells #[.func (.func 76) #[] #[.pointer (some ⟨w.heap.size + 1,0,none⟩)]] 148):=⟨_,rfl⟩
 rw [← hw2]
 have hwl:W.heap.size ≤ w1.heap.size:=HB1.out.size
 have HK2:Hid (Below w1.heap.size w1 w2):=by show Below _ _ _;rw [hw2];exact (Below.refl _ w1).alloc (Nat.le_refl _) _
 have HB2:Hid (Below W.heap.size W w2):=HB1.out.trans (HK2.out.mono hwl)
 have HF2:Hid (w2.heap[w1.heap.size]?=some (.cells #[.func (.func 76) #[] #[.pointer (some ⟨w.heap.size + 1,0,none⟩)]] 148 (0,0))):=by
  show _=_
  rw [hw2]
  exact heap_alloc_new w1 _
 have HB0:Hid (Below w.heap.size w w2):=HBW.out.trans (HB2.out.mono HBW.out.size)
 clear hw2
 obtain ⟨be,oe,rfl,hbe,hce⟩:=ints_head HIE.out HP1.out
 have HS:Hid (∀ W':World,Below w2.heap.size w2 W' → W'.cell? ⟨w.heap.size,3,none⟩=some (.slice (some ⟨bb,ob,none⟩) n c) ∧ W'.cell? ⟨be,oe,none⟩=some (.int .i64 (p:Int)) ∧ W'.cell? ⟨bb,ob + p * 6 + 2,none⟩=some (.int .i64 1) ∧ W'.cell? ⟨w.heap.size + 1,2,none⟩=some (.slice A2 m2 c2) ∧ W'.cell? ⟨w.heap.size + 1,3,none⟩=some v3):=fun W' hW' => by
  have hb2:Below W.heap.size W W':=HB2.out.trans (hW'.mono HB2.out.size)
  have hb1:Below w1.heap.size w1 W':=HK2.out.trans (hW'.mono HK2.out.size)
  have hx1:=row_cells HX1.out (hb2.block _ (by omega))
  have hx2:=row_cells HX2.out (hb2.block _ hwW)
  exact ⟨hx1 3,(hb1.cell (p:=⟨be,oe,none⟩) hbe).trans hce,(hb2.cell (p:=⟨bb,ob + p * 6 + 2,none⟩) hbb).trans HCT.out,hx2 2,hx2 3⟩
 have hs2:=HS.out w2 (Below.refl _ _)
 obtain ⟨s1,s2,s3,s4,s5⟩:=hs2
 clear hce
 go_quiet (fail)
 go_wp2
 go_ret
 exact ⟨rfl,HB0.out.os,HB0.out.tape,HB0.out.output,HB0.out.size,HB0.out.block⟩
set_option maxRecDepth 100000 in
set_option maxHeartbeats 8000000 in
theorem plainD (bs:List BlockM) (x:LpM) (n lo gp hd m1 c c1 c2 B:Nat) (A A1 A2:Option Addr) (vs:List Value) (p0 p1 p2 lv lm v3 v4:Value) (w:World) (hN:Lists w lo gp bs.length vs (predsAt bs bs.length bs.length 0)) (hbv:BlocksR w B (.slice A n c) bs) (hB:B ≤ w.heap.size)
  (hi:Ints w w.heap.size (.slice A1 m1 c1) (x.blocks.map fun (x:Nat) => (x:Int))) (hi3:Ints w w.heap.size v3 (x.exits.map fun (x:Nat) => (x:Int))) (hm1:m1=x.blocks.length) (hm2:1=x.latches.length) (hr:x.blocks.Pairwise (· < ·)) (hl:x.blocks.length ≤ 512) (hn5:n ≤ 512) (hn:n=bs.length) (hd0:hd=x.head) (hh:hd < n) (hex:∀ e ∈ x.exits,e < n) (p:Nat) (q:BlockM) (hp1:entriesM bs x=[p]) (hq:bs[p]?=some q) (hop:q.term.op=1) :
  Calls Tryz.prog 42 #[.agg #[p0,p1,p2,.slice A n c,lv,lm,.slice (some ⟨gp,0,none⟩) n n],.agg #[.int .i64 (hd:Int),.slice A1 m1 c1,.slice A2 1 c2,v3,v4]] w fun e w' => e=.returned (.bool (!(x.exits.any (sharedB bs x)))) ∧ Below w.heap.size w w':=by
 obtain ⟨W,hW⟩:∃ W,W=(w.alloc (.cells #[p0,p1,p2,.slice A n c,lv,lm,.slice (some ⟨gp,0,none⟩) n n] 83)).alloc (.cells #[.int .i64 (hd:Int),.slice A1 m1 c1,.slice A2 1 c2,v3,v4] 88):=⟨_,rfl⟩
 have HBW:Hid (Below w.heap.size w W):=by show Below _ _ _;rw [hW];exact ((Below.refl _ w).alloc (Nat.le_refl _) _).alloc (by simp) _
 have hx1:W.heap[w.heap.size]?=some (.cells #[p0,p1,p2,.slice A n c,lv,lm,.slice (some ⟨gp,0,none⟩) n n] 83 (0,0)):=by
  rw [hW,Below.heap_alloc _ _ _ (by simp)]
  exact heap_alloc_new w _
 have hx2:W.heap[w.heap.size + 1]?=some (.cells #[.int .i64 (hd:Int),.slice A1 m1 c1,.slice A2 1 c2,v3,v4] 88 (0,0)):=by
  rw [hW]
  have:=heap_alloc_new (w.alloc (.cells #[p0,p1,p2,.slice A n c,lv,lm,.slice (some ⟨gp,0,none⟩) n n] 83)) (.cells #[.int .i64 (hd:Int),.slice A1 m1 c1,.slice A2 1 c2,v3,v4] 88)
  simpa using this
 have HX1:=hideI hx1
 have HX2:=hideI hx2
 have hiW:=(hi.keep HBW.out).more HBW.out.size
 have HLB:Hid (LpBox W (w.heap.size + 1) x):=⟨⟨A1,c1,.int .i64 (hd:Int),.slice A2 1 c2,v3,v4,by rw [← hm1];exact hx2,by rw [← hm1];exact hiW⟩⟩
 have HNW:=hideI (hN.kept HBW.out)
 have HEN:=hideI (cEntries_any bs x n lo gp m1 c1 A1 vs p0 p1 p2 (.slice A n c) lv lm (.slice A2 1 c2) v3 v4 W HNW.out hiW hm1 hr hl hn5 hn (by omega))
 rw [← hd0] at HEN
 have HR:=hideI hr
 have HL:=hideI hl
 have HW0:=hideI hW
 have HN:=hideI hn
 have HM2:=hideI hm2
 have HBV:=hideI (hbv.keeps (Keeps.of_below (HBW.out.mono hB)))
 have HE3:=hideI ((hi3.keep HBW.out).more HBW.out.size)
 have HEX:=hideI hex
 have hwW:w.heap.size + 1 < W.heap.size:=lt_of_heap hx2
 have hqs:=row_cells hx1 rfl
 have q0:=hqs 0
 have q1:=hqs 1
 have q2:=hqs 2
 have q3:=hqs 3
 have q4:=hqs 4
 have q5:=hqs 5
 have q6:=hqs 6
 have hls:=row_cells hx2 rfl
 have l0:=hls 0
 have l1:=hls 1
 have l2:=hls 2
 have l3:=hls 3
 have l4:=hls 4
 clear hqs hls hN hbv hi hi3 hm1 hm2 hr hl hn hex hW hx1 hx2 hiW hd0
 have HP1:=hideI hp1
 have hpn:p < n:=by rw [HN.out];exact entries_lt hp1
 have HJ:Hid (jumpB bs p=true ↔ q.term.op=1):=by
  show _ ↔ _
  unfold jumpB
  rw [hq]
  simp
 obtain ⟨Ab,cb,eb,_,hat⟩:=HBV.out
 injection eb with eb1 eb2 eb3
 subst eb1
 obtain ⟨bb,ob,_,_,_,rfl,hbbB,_,_,hct,_⟩:=hat p q hq
 have hbb:bb < W.heap.size:=Nat.lt_of_lt_of_le hbbB (Nat.le_trans hB HBW.out.size)
 rw [hop] at hct
 have HCT:=hideI hct
 clear hop hp1 hq hat eb2 eb3 hct
 go_enter Tryz.func42,Tryz.ntmps42
 go_upto_region 1 with fail
 rw [← HW0.out]
 go_upto_region 4 with (go_at_call 75;go_must (refine HEN.out.mono ?_);rintro e w1 ⟨v,rfl,hie,hb⟩;have HIE:=hideI hie;have HB1:=hideI hb;(obtain ⟨Ae,ce,rfl,_,_⟩:=hie);rw [show (List.map (fun (x:Nat) => (x:Int)) (entriesM bs x)).length=1 from (by rw [HP1.out];rfl)];clear hb q0 q1 q2 q3 q4 q5 q6 l0 l1 l2 l3 l4)
 obtain ⟨w2,hw2⟩:∃ w2:World,w2=w1.alloc (.cells #[.func (.func 76) #[] #[.pointer (some ⟨w.heap.size + 1,0,none⟩)]] 148):=⟨_,rfl⟩
 rw [← hw2]
 have hwl:W.heap.size ≤ w1.heap.size:=HB1.out.size
 have HK2:Hid (Below w1.heap.size w1 w2):=by show Below _ _ _;rw [hw2];exact (Below.refl _ w1).alloc (Nat.le_refl _) _
 have HB2:Hid (Below W.heap.size W w2):=HB1.out.trans (HK2.out.mono hwl)
 have HF2:Hid (w2.heap[w1.heap.size]?=some (.cells #[.func (.func 76) #[] #[.pointer (some ⟨w.heap.size + 1,0,none⟩)]] 148 (0,0))):=by
  show _=_
  rw [hw2]
  exact heap_alloc_new w1 _
 have HB0:Hid (Below w.heap.size w w2):=HBW.out.trans (HB2.out.mono HBW.out.size)
 clear hw2
 obtain ⟨be,oe,rfl,hbe,hce⟩:=ints_head HIE.out HP1.out
 have HS:Hid (∀ W':World,Below w2.heap.size w2 W' → W'.cell? ⟨w.heap.size,3,none⟩=some (.slice (some ⟨bb,ob,none⟩) n c) ∧ W'.cell? ⟨be,oe,none⟩=some (.int .i64 (p:Int)) ∧ W'.cell? ⟨bb,ob + p * 6 + 2,none⟩=some (.int .i64 1) ∧ W'.cell? ⟨w.heap.size + 1,2,none⟩=some (.slice A2 1 c2) ∧ W'.cell? ⟨w.heap.size + 1,3,none⟩=some v3):=fun W' hW' => by
  have hb2:Below W.heap.size W W':=HB2.out.trans (hW'.mono HB2.out.size)
  have hb1:Below w1.heap.size w1 W':=HK2.out.trans (hW'.mono HK2.out.size)
  have hx1:=row_cells HX1.out (hb2.block _ (by omega))
  have hx2:=row_cells HX2.out (hb2.block _ hwW)
  exact ⟨hx1 3,(hb1.cell (p:=⟨be,oe,none⟩) hbe).trans hce,(hb2.cell (p:=⟨bb,ob + p * 6 + 2,none⟩) hbb).trans HCT.out,hx2 2,hx2 3⟩
 have hS0:=HS.out w2 (Below.refl _ _)
 have HC:Hid (Calls Tryz.prog 79 #[v3,.func (.func 78) #[] #[.pointer (some ⟨w.heap.size,0,none⟩),.pointer (some ⟨w1.heap.size,0,none⟩)]] w2.drew fun e w' => e=.returned (.bool (x.exits.any (sharedB bs x))) ∧ Below w2.drew.heap.size w2.drew w'):=by
  have h3:Ints w2.drew w2.drew.heap.size v3 (x.exits.map fun (x:Nat) => (x:Int)):=(HE3.out.keep HB2.out).more HB2.out.size
  refine hasSh_any x.exits w2.drew.heap.size w.heap.size w1.heap.size v3 (sharedB bs x) w2.drew h3 (Nat.le_refl _) fun W' e he hW' => ?_
  have hb:Below w2.heap.size w2 W':=⟨hW'.os,hW'.tape,hW'.output,hW'.size,hW'.block⟩
  have hb2:Below W.heap.size W W':=HB2.out.trans (hb.mono HB2.out.size)
  have hNB:NestBox W' lo w.heap.size gp vs bs:=⟨⟨p0,p1,p2,.slice (some ⟨bb,ob,none⟩) n c,lv,lm,by rw [← HN.out];exact (hb2.block _ (by omega)).trans HX1.out⟩,HNW.out.kept hb2⟩
  exact cShared_any bs x lo w.heap.size w1.heap.size (w.heap.size + 1) gp e vs W' hNB (HLB.out.kept hb2) HR.out HL.out (by rw [← HN.out];exact hn5) (by rw [← HN.out];exact HEX.out e he) ((hb.block _ (lt_of_heap HF2.out)).trans HF2.out)
 clear hce
 refine wp_region_late (by kernel_rfl) (fun W' => W'.cell? ⟨w.heap.size,3,none⟩=some (.slice (some ⟨bb,ob,none⟩) n c) ∧ W'.cell? ⟨be,oe,none⟩=some (.int .i64 (p:Int)) ∧ W'.cell? ⟨bb,ob + p * 6 + 2,none⟩=some (.int .i64 1) ∧ W'.cell? ⟨w.heap.size + 1,2,none⟩=some (.slice A2 1 c2) ∧ W'.cell? ⟨w.heap.size + 1,3,none⟩=some v3) [] ?_
 refine wpAnyT_quiet (i:=0) (v:=?_) rfl (by kernel_rfl) (by kernel_rfl) (by kernel_rfl) (fun _ _ _ h => h) (Or.inl ⟨by rfl,?_⟩) ?_
 rotate_left
 ·(intro w;go_simp;try with_reducible rfl)
 try simp only [Act.put,List.setIfInBounds_toArray,List.set_cons_zero,List.set_cons_succ]
 refine wpAnyT_quiet (i:=1) (v:=?_) rfl (by kernel_rfl) (by kernel_rfl) (by kernel_rfl) (fun _ _ _ h => h) (Or.inl ⟨by rfl,?_⟩) ?_
 rotate_left
 ·(intro w;go_simp;try with_reducible rfl)
 try simp only [Act.put,List.setIfInBounds_toArray,List.set_cons_zero,List.set_cons_succ]
 refine wpAnyT_quiet (i:=2) (v:=?_) rfl (by kernel_rfl) (by kernel_rfl) (by kernel_rfl) (fun _ _ _ h => h) (Or.inl ⟨by rfl,?_⟩) ?_
 rotate_left
 ·(intro w;go_simp;try with_reducible rfl)
 try simp only [Act.put,List.setIfInBounds_toArray,List.set_cons_zero,List.set_cons_succ]
 refine wpAnyT_quiet (i:=3) (v:=?_) rfl (by kernel_rfl) (by kernel_rfl) (by kernel_rfl) (fun _ _ _ h => h) (Or.inl ⟨by rfl,?_⟩) ?_
 rotate_left
 ·(intro w;go_simp;try with_reducible rfl)
 try simp only [Act.put,List.setIfInBounds_toArray,List.set_cons_zero,List.set_cons_succ]
 refine wpAnyT_quiet (i:=4) (v:=?_) rfl (by kernel_rfl) (by kernel_rfl) (by kernel_rfl) (fun _ _ _ h => h) (Or.inl ⟨by rfl,?_⟩) ?_
 rotate_left
 ·(intro w;go_simp;try with_reducible rfl)
 try simp only [Act.put,List.setIfInBounds_toArray,List.set_cons_zero,List.set_cons_succ]
 refine wpAnyT_quiet (i:=5) (v:=?_) rfl (by kernel_rfl) (by kernel_rfl) (by kernel_rfl) (fun _ _ _ h => h) (Or.inl ⟨by rfl,?_⟩) ?_
 rotate_left
 ·(intro w;go_simp;try with_reducible rfl)
 try simp only [Act.put,List.setIfInBounds_toArray,List.set_cons_zero,List.set_cons_succ]
 refine wpAnyT_take [] (i:=6) (v:=?_) rfl (by kernel_rfl) (by kernel_rfl) (by kernel_rfl) (by kernel_rfl) (by kernel_rfl) (by kernel_rfl) (fun _ _ _ h => h) hS0 (Or.inl ⟨by rfl,?_⟩) ?_
 rotate_left
 ·(intro w hSw;go_split_ands;go_simp;try with_reducible rfl)
 try simp only [Act.put,List.setIfInBounds_toArray,List.set_cons_zero,List.set_cons_succ]
 refine wpAnyT_quiet (i:=7) (v:=?_) rfl (by kernel_rfl) (by kernel_rfl) (by kernel_rfl) (fun _ _ _ h => h) (Or.inl ⟨by rfl,?_⟩) ?_
 rotate_left
 ·(intro w;go_simp;try with_reducible rfl)
 try simp only [Act.put,List.setIfInBounds_toArray,List.set_cons_zero,List.set_cons_succ]
 refine wpAnyT_quiet (i:=8) (v:=?_) rfl (by kernel_rfl) (by kernel_rfl) (by kernel_rfl) (fun _ _ _ h => h) (Or.inl ⟨by rfl,?_⟩) ?_
 rotate_left
 ·(intro w;go_simp;try with_reducible rfl)
 try simp only [Act.put,List.setIfInBounds_toArray,List.set_cons_zero,List.set_cons_succ]
 refine wpAnyT_take [] (i:=9) (v:=?_) rfl (by kernel_rfl) (by kernel_rfl) (by kernel_rfl) (by kernel_rfl) (by kernel_rfl) (by kernel_rfl) (fun _ _ _ h => h) hS0 (Or.inl ⟨by rfl,?_⟩) ?_
 rotate_left
 ·(intro w hSw;go_split_ands;go_simp;try with_reducible rfl)
 try simp only [Act.put,List.setIfInBounds_toArray,List.set_cons_zero,List.set_cons_succ]
 refine wpAnyT_quiet (i:=10) (v:=?_) rfl (by kernel_rfl) (by kernel_rfl) (by kernel_rfl) (fun _ _ _ h => h) (Or.inl ⟨by rfl,?_⟩) ?_
 rotate_left
 ·(intro w;go_simp;try with_reducible rfl)
 try simp only [Act.put,List.setIfInBounds_toArray,List.set_cons_zero,List.set_cons_succ]
 refine wpAnyT_quiet (i:=11) (v:=?_) rfl (by kernel_rfl) (by kernel_rfl) (by kernel_rfl) (fun _ _ _ h => h) (Or.inl ⟨by rfl,?_⟩) ?_
 rotate_left
 ·(intro w;go_simp;try with_reducible rfl)
 try simp only [Act.put,List.setIfInBounds_toArray,List.set_cons_zero,List.set_cons_succ]
 refine wpAnyT_quiet (i:=12) (v:=?_) rfl (by kernel_rfl) (by kernel_rfl) (by kernel_rfl) (fun _ _ _ h => h) (Or.inl ⟨by rfl,?_⟩) ?_
 rotate_left
 ·(intro w;go_simp;try with_reducible rfl)
 try simp only [Act.put,List.setIfInBounds_toArray,List.set_cons_zero,List.set_cons_succ]
 refine wpAnyT_take [] (i:=13) (v:=?_) rfl (by kernel_rfl) (by kernel_rfl) (by kernel_rfl) (by kernel_rfl) (by kernel_rfl) (by kernel_rfl) (fun _ _ _ h => h) hS0 (Or.inl ⟨by rfl,?_⟩) ?_
 rotate_left
 ·(intro w hSw;go_split_ands;go_simp;try with_reducible rfl)
 try simp only [Act.put,List.setIfInBounds_toArray,List.set_cons_zero,List.set_cons_succ]
 refine wpAnyT_quiet (i:=14) (v:=?_) rfl (by kernel_rfl) (by kernel_rfl) (by kernel_rfl) (fun _ _ _ h => h) (Or.inl ⟨by rfl,?_⟩) ?_
 rotate_left
 ·(intro w;go_simp;try with_reducible rfl)
 try simp only [Act.put,List.setIfInBounds_toArray,List.set_cons_zero,List.set_cons_succ]
 refine wpAnyT_quiet (i:=15) (v:=?_) rfl (by kernel_rfl) (by kernel_rfl) (by kernel_rfl) (fun _ _ _ h => h) (Or.inl ⟨by rfl,?_⟩) ?_
 rotate_left
 ·(intro w;go_simp;try with_reducible rfl)
 try simp only [Act.put,List.setIfInBounds_toArray,List.set_cons_zero,List.set_cons_succ]
 refine wpAnyT_quiet (i:=16) (v:=?_) rfl (by kernel_rfl) (by kernel_rfl) (by kernel_rfl) (fun _ _ _ h => h) (Or.inl ⟨by rfl,?_⟩) ?_
 rotate_left
 ·(intro w;go_simp;try with_reducible rfl)
 try simp only [Act.put,List.setIfInBounds_toArray,List.set_cons_zero,List.set_cons_succ]
 refine wpAnyT_quiet (i:=17) (v:=?_) rfl (by kernel_rfl) (by kernel_rfl) (by kernel_rfl) (fun _ _ _ h => h) (Or.inl ⟨by rfl,?_⟩) ?_
 rotate_left
 ·(intro w;go_simp;try with_reducible rfl)
 try simp only [Act.put,List.setIfInBounds_toArray,List.set_cons_zero,List.set_cons_succ]
 refine wpAnyT_take [] (i:=18) (v:=?_) rfl (by kernel_rfl) (by kernel_rfl) (by kernel_rfl) (by kernel_rfl) (by kernel_rfl) (by kernel_rfl) (fun _ _ _ h => h) hS0 (Or.inl ⟨by rfl,?_⟩) ?_
 rotate_left
 ·(intro w hSw;go_split_ands;go_simp;try with_reducible rfl)
 try simp only [Act.put,List.setIfInBounds_toArray,List.set_cons_zero,List.set_cons_succ]
 refine wpAnyT_quiet (i:=19) (v:=?_) rfl (by kernel_rfl) (by kernel_rfl) (by kernel_rfl) (fun _ _ _ h => h) (Or.inl ⟨by rfl,?_⟩) ?_
 rotate_left
 ·(intro w;go_simp;try with_reducible rfl)
 try simp only [Act.put,List.setIfInBounds_toArray,List.set_cons_zero,List.set_cons_succ]
 refine wpAnyT_quiet (i:=20) (v:=?_) rfl (by kernel_rfl) (by kernel_rfl) (by kernel_rfl) (fun _ _ _ h => h) (Or.inl ⟨by rfl,?_⟩) ?_
 rotate_left
 ·(intro w;go_simp;try with_reducible rfl)
 try simp only [Act.put,List.setIfInBounds_toArray,List.set_cons_zero,List.set_cons_succ]
 refine wpAnyT_quiet (i:=21) (v:=?_) rfl (by kernel_rfl) (by kernel_rfl) (by kernel_rfl) (fun _ _ _ h => h) (Or.inl ⟨by rfl,?_⟩) ?_
 rotate_left
 ·(intro w;go_simp;try with_reducible rfl)
 try simp only [Act.put,List.setIfInBounds_toArray,List.set_cons_zero,List.set_cons_succ]
 refine wpAnyT_quiet (i:=22) (v:=?_) rfl (by kernel_rfl) (by kernel_rfl) (by kernel_rfl) (fun _ _ _ h => h) (Or.inl ⟨by rfl,?_⟩) ?_
 rotate_left
 ·(intro w;go_simp;try with_reducible rfl)
 try simp only [Act.put,List.setIfInBounds_toArray,List.set_cons_zero,List.set_cons_succ]
 refine wpAnyT_quiet (i:=23) (v:=?_) rfl (by kernel_rfl) (by kernel_rfl) (by kernel_rfl) (fun _ _ _ h => h) (Or.inl ⟨by rfl,?_⟩) ?_
 rotate_left
 ·(intro w;go_simp;try with_reducible rfl)
 try simp only [Act.put,List.setIfInBounds_toArray,List.set_cons_zero,List.set_cons_succ]
 refine wpAnyT_take [] (i:=24) (v:=?_) rfl (by kernel_rfl) (by kernel_rfl) (by kernel_rfl) (by kernel_rfl) (by kernel_rfl) (by kernel_rfl) (fun _ _ _ h => h) hS0 (Or.inl ⟨by rfl,?_⟩) ?_
 rotate_left
 ·(intro w hSw;go_split_ands;go_simp;try with_reducible rfl)
 try simp only [Act.put,List.setIfInBounds_toArray,List.set_cons_zero,List.set_cons_succ]
 refine wpAnyT_quiet (i:=25) (v:=?_) rfl (by kernel_rfl) (by kernel_rfl) (by kernel_rfl) (fun _ _ _ h => h) (Or.inl ⟨by rfl,?_⟩) ?_
 rotate_left
 ·(intro w;go_simp;try with_reducible rfl)
 try simp only [Act.put,List.setIfInBounds_toArray,List.set_cons_zero,List.set_cons_succ]
 refine wpAnyT_ready (rs:=[26]) (by kernel_rfl) (by simp) ?_
 refine AllReadyT.cons rfl (fun K hK => ?_) ?_
 ·-- 26 the call
  go_simp
  refine HC.out.mono ?_
  rintro e w3 ⟨rfl,hb3d⟩
  have HB3:Hid (Below w2.heap.size w2 w3):=hideI ⟨hb3d.os,hb3d.tape,hb3d.output,hb3d.size,hb3d.block⟩
  clear hb3d
  refine hK.out _ _ (fun _ _ => HS.out _ HB3.out) ?_
  clear hK K
  try simp only [Act.put,List.setIfInBounds_toArray,List.set_cons_zero,List.set_cons_succ]
  refine wpAnyT_quiet (i:=27) (v:=?_) rfl (by kernel_rfl) (by kernel_rfl) (by kernel_rfl) (fun _ _ _ h => h) (Or.inl ⟨by rfl,?_⟩) ?_
  rotate_left
  ·(intro w;go_simp;try with_reducible rfl)
  try simp only [Act.put,List.setIfInBounds_toArray,List.set_cons_zero,List.set_cons_succ]
  refine wpAnyT_quiet (i:=28) (v:=?_) rfl (by kernel_rfl) (by kernel_rfl) (by kernel_rfl) (fun _ _ _ h => h) (Or.inl ⟨by rfl,?_⟩) ?_
  rotate_left
  ·(intro w;go_simp;try with_reducible rfl)
  try simp only [Act.put,List.setIfInBounds_toArray,List.set_cons_zero,List.set_cons_succ]
  refine wpAnyT_quiet (i:=29) (v:=?_) rfl (by kernel_rfl) (by kernel_rfl) (by kernel_rfl) (fun _ _ _ h => h) (Or.inl ⟨by rfl,?_⟩) ?_
  rotate_left
  ·(intro w;go_simp;try with_reducible rfl)
  try simp only [Act.put,List.setIfInBounds_toArray,List.set_cons_zero,List.set_cons_succ]
  refine wpAnyT_done (by kernel_rfl) ?_ _
  go_wp2_with fail
  go_ret
  exact ⟨rfl,HB0.out.trans (HB3.out.mono HB0.out.size)⟩
 ·exact AllReadyT.nil
theorem plain_any (bs:List BlockM) (x:LpM) (n lo gp hd m1 m2 c c1 c2 B:Nat) (A A1 A2:Option Addr) (vs:List Value) (p0 p1 p2 lv lm v3 v4:Value) (w:World) (hN:Lists w lo gp bs.length vs (predsAt bs bs.length bs.length 0)) (hbv:BlocksR w B (.slice A n c) bs) (hB:B ≤ w.heap.size)
  (hi:Ints w w.heap.size (.slice A1 m1 c1) (x.blocks.map fun (x:Nat) => (x:Int))) (hi3:Ints w w.heap.size v3 (x.exits.map fun (x:Nat) => (x:Int))) (hm1:m1=x.blocks.length) (hm2:m2=x.latches.length) (hr:x.blocks.Pairwise (· < ·)) (hl:x.blocks.length ≤ 512) (hn5:n ≤ 512) (hn:n=bs.length) (hd0:hd=x.head) (hh:hd < n) (hex:∀ e ∈ x.exits,e < n) :
  Calls Tryz.prog 42 #[.agg #[p0,p1,p2,.slice A n c,lv,lm,.slice (some ⟨gp,0,none⟩) n n],.agg #[.int .i64 (hd:Int),.slice A1 m1 c1,.slice A2 m2 c2,v3,v4]] w fun e w' => e=.returned (.bool (plainB bs x)) ∧ Below w.heap.size w w':=by
 by_cases hne:(entriesM bs x).length=1
 ·obtain ⟨p,hp⟩:∃ p,entriesM bs x=[p]:=List.length_eq_one_iff.1 hne
  have hpn:=entries_lt hp
  have hq:bs[p]?=some bs[p]:=List.getElem?_eq_getElem hpn
  rw [plain_one hp]
  have hj:jumpB bs p=(bs[p].term.op == 1):=by unfold jumpB;rw [hq]
  rw [hj,← hm2]
  by_cases hop:bs[p].term.op=1
  ·by_cases h2:m2=1
   ·subst h2
    rw [hop]
    exact plainD bs x n lo gp hd m1 c c1 c2 B A A1 A2 vs p0 p1 p2 lv lm v3 v4 w hN hbv hB hi hi3 hm1 hm2 hr hl hn5 hn hd0 hh hex p _ hp hq hop
   ·have e:(bs[p].term.op == 1 && m2 == 1 && !(x.exits.any (sharedB bs x)))=false:=by simp [h2]
    rw [e]
    exact plainC_no bs x n lo gp hd m1 m2 c c1 c2 B A A1 A2 vs p0 p1 p2 lv lm v3 v4 w hN hbv hB hi hi3 hm1 hm2 hr hl hn5 hn hd0 hh hex p _ hp hq hop h2
  ·have e:(bs[p].term.op == 1 && m2 == 1 && !(x.exits.any (sharedB bs x)))=false:=by simp [hop]
   rw [e]
   exact plainB_no bs x n lo gp hd m1 m2 c c1 c2 B A A1 A2 vs p0 p1 p2 lv lm v3 v4 w hN hbv hB hi hi3 hm1 hm2 hr hl hn5 hn hd0 hh hex p _ hp hq hop
 ·rw [plain_no hne]
  exact plainA bs x n lo gp hd m1 m2 c c1 c2 B A A1 A2 vs p0 p1 p2 lv lm v3 v4 w hN hbv hB hi hi3 hm1 hm2 hr hl hn5 hn hd0 hh hex hne
end Go.Proofs.YtaehbgppfahdeaaGreat

namespace Go.Proofs.YtaehbgppfahdeaaGreat
open Go.RowKit Go.Maps
def bestM (ls:List LpM) (b:Nat):Nat → Int
 | 0 => -1
 | i + 1 => match ls[i]? with
  | none => bestM ls b i
  | some x => if b ∈ x.blocks ∧ (bestM ls b i=-1 ∨ x.blocks.length < (ls.getD (bestM ls b i).toNat noLp).blocks.length) then (i:Int) else bestM ls b i
structure BestOf (ls:List LpM) (b i:Nat) (x:LpM) (m:Nat):Prop where
 lt:m < i
 at_:ls[m]?=some x
 mem:b ∈ x.blocks
 least:∀ k y,k < i → ls[k]?=some y → b ∈ y.blocks → x.blocks.length ≤ y.blocks.length
theorem best_is (ls:List LpM) (b:Nat):∀ i,(bestM ls b i=-1 ∧ ∀ k y,k < i → ls[k]?=some y → b ∉ y.blocks) ∨ ∃ (m:Nat) (x:LpM),bestM ls b i=(m:Int) ∧ BestOf ls b i x m:=by
 intro i
 induction i with
 | zero => exact .inl ⟨rfl,fun k y h => by omega⟩
 | succ i ih =>
  unfold bestM
  cases hx:ls[i]? with
  | none =>
   simp only
   rcases ih with ⟨h1,h2⟩ | ⟨m,x,h1,h2⟩
   ·refine .inl ⟨h1,fun k y hk hy => h2 k y ?_ hy⟩
    by_cases e:k=i
    ·subst e;rw [hx] at hy;cases hy
    ·omega
   ·refine .inr ⟨m,x,h1,⟨by have:=h2.lt;omega,h2.at_,h2.mem,fun k y hk hy hb => h2.least k y ?_ hy hb⟩⟩
    by_cases e:k=i
    ·subst e;rw [hx] at hy;cases hy
    ·omega
  | some x =>
   simp only
   split
   ·rename_i hc
    refine .inr ⟨i,x,rfl,⟨by omega,hx,hc.1,fun k y hk hy hb => ?_⟩⟩
    by_cases e:k=i
    ·subst e;rw [hx] at hy;cases hy;exact Nat.le_refl _
    ·rcases ih with ⟨h1,h2⟩ | ⟨m,z,h1,h2⟩
     ·exact absurd hb (h2 k y (by omega) hy)
     ·have h3:=h2.least k y (by omega) hy hb
      rcases hc.2 with h4 | h4
      ·rw [h1] at h4;omega
      ·rw [h1,Int.toNat_natCast,List.getD_eq_getElem?_getD,h2.at_] at h4
       simp only [Option.getD_some] at h4
       omega
   ·rename_i hc
    rcases ih with ⟨h1,h2⟩ | ⟨m,z,h1,h2⟩
    ·refine .inl ⟨h1,fun k y hk hy hb => ?_⟩
     by_cases e:k=i
     ·subst e;rw [hx] at hy;cases hy;exact hc ⟨hb,.inl h1⟩
     ·exact h2 k y (by omega) hy hb
    ·refine .inr ⟨m,z,h1,⟨by have:=h2.lt;omega,h2.at_,h2.mem,fun k y hk hy hb => ?_⟩⟩
     by_cases e:k=i
     ·subst e
      rw [hx] at hy
      cases hy
      have h4:¬ x.blocks.length < z.blocks.length:=fun h => hc ⟨hb,.inr (by rw [h1,Int.toNat_natCast,List.getD_eq_getElem?_getD,h2.at_];simpa using h)⟩
      omega
     ·exact h2.least k y (by omega) hy hb
def leastAt (ls:List LpM) (i:Nat) (c:List Nat) (j b:Nat):Int:=if b ∈ c.take j then bestM ls b (i + 1) else bestM ls b i
def leastR (n:Nat) (ls:List LpM) (i:Nat) (c:List Nat) (j:Nat):List Value:=(List.range n).map fun b => .int .i64 (leastAt ls i c j b)
theorem leastR_at {n i j b:Nat} {ls:List LpM} {c:List Nat} (h:b < n):(leastR n ls i c j)[b]?=some (.int .i64 (leastAt ls i c j b)):=by
 unfold leastR
 rw [List.getElem?_map,List.getElem?_eq_getElem (by simpa using h)]
 simp
theorem leastR_begin {n i:Nat} {ls:List LpM} {c c':List Nat}:leastR n ls i c 0=leastR n ls i c' 0:=by
 unfold leastR leastAt
 simp
theorem leastR_start {n:Nat} {ls:List LpM}:leastR n ls 0 [] 0=List.replicate n (.int .i64 (-1)):=by
 unfold leastR leastAt
 apply List.ext_getElem?
 intro i
 by_cases hi:i < n
 ·rw [List.getElem?_map,List.getElem?_eq_getElem (by simpa using hi),List.getElem?_replicate,if_pos hi]
  simp [bestM]
 ·rw [List.getElem?_eq_none (by simp;omega),List.getElem?_eq_none (by simp;omega)]
theorem take_new {c:List Nat} {j t:Nat} (ht:c[j]?=some t) (hc:c.Pairwise (· < ·)):t ∉ c.take j:=by
 intro hm
 obtain ⟨k,hk⟩:=List.getElem?_of_mem hm
 rw [List.getElem?_take] at hk
 split at hk
 ·rename_i hkj
  have h1:=List.getElem?_eq_some_iff.1 hk
  have h2:=List.getElem?_eq_some_iff.1 ht
  have h3:=List.pairwise_iff_getElem.1 hc k j h1.1 h2.1 hkj
  rw [h1.2,h2.2] at h3
  omega
 ·cases hk
theorem leastAt_new {i j t:Nat} {ls:List LpM} {c:List Nat} (ht:c[j]?=some t) (hc:c.Pairwise (· < ·)):leastAt ls i c j t=bestM ls t i:=by
 unfold leastAt
 rw [if_neg (take_new ht hc)]
theorem leastR_step {n i j t:Nat} {ls:List LpM} {c:List Nat} (ht:c[j]?=some t):(leastR n ls i c j).set t (.int .i64 (bestM ls t (i + 1)))=leastR n ls i c (j + 1):=by
 apply List.ext_getElem?
 intro b
 by_cases hb:b < n
 ·have hm:b ∈ c.take (j + 1) ↔ b ∈ c.take j ∨ b=t:=by rw [List.take_add_one,ht];simp
  by_cases e:t=b
  ·subst e
   rw [List.getElem?_set_self (by unfold leastR;simpa using hb),leastR_at hb]
   unfold leastAt
   rw [if_pos (hm.2 (.inr rfl))]
  ·rw [List.getElem?_set_ne e,leastR_at hb,leastR_at hb]
   unfold leastAt
   have:b ∈ c.take (j + 1) ↔ b ∈ c.take j:=by rw [hm];exact ⟨fun h => h.resolve_right (fun x => e x.symm),.inl⟩
   simp only [this]
 ·rw [List.getElem?_eq_none (by rw [List.length_set];unfold leastR;simp;omega),List.getElem?_eq_none (by unfold leastR;simp;omega)]
theorem leastR_keep {n i j t:Nat} {ls:List LpM} {c:List Nat} (ht:c[j]?=some t) (hc:c.Pairwise (· < ·)) (htn:t < n) (hs:bestM ls t (i + 1)=bestM ls t i):leastR n ls i c j=leastR n ls i c (j + 1):=by
 rw [← leastR_step (n:=n) ht,hs]
 apply List.ext_getElem?
 intro b
 by_cases e:t=b
 ·subst e
  rw [List.getElem?_set_self (by unfold leastR;simpa using htn),leastR_at htn,leastAt_new ht hc]
 ·rw [List.getElem?_set_ne e]
theorem leastR_next {n i:Nat} {ls:List LpM} {x:LpM} {c:List Nat} {j:Nat} (hx:ls[i]?=some x) (hc:c=x.blocks) (hj:c.length ≤ j):leastR n ls i c j=leastR n ls (i + 1) [] 0:=by
 unfold leastR
 apply List.map_congr_left
 intro b _
 congr 1
 unfold leastAt
 rw [List.take_of_length_le hj]
 subst hc
 rw [if_neg (show b ∉ ([]:List Nat).take 0 by simp)]
 by_cases h:b ∈ x.blocks
 ·rw [if_pos h]
 ·rw [if_neg h]
  show _=bestM ls b (i + 1)
  conv => rhs;unfold bestM
  rw [hx]
  simp only
  rw [if_neg (fun e => h e.1)]
def LeastPost (n:Nat) (ls:List LpM) (w:World) (e:Ending) (w':World):Prop :=
 ∃ g:Nat,e=.returned (.slice (some ⟨g,0,none⟩) n n) ∧ w'.ownsRow w.heap.size 3 1 (.slice (some ⟨g,0,none⟩) n n) n (leastR n ls ls.length [] 0) ∧ Below w.heap.size w w'
set_option maxRecDepth 100000 in
set_option maxHeartbeats 8000000 in
theorem leastOf_any (ls:List LpM) (n base:Nat) (lv:Value) (w:World) (hls:LoopsR w base lv ls) (hr:Rising ls) (hlen:ls.length ≤ 512) (hn0:0 < n) (hn5:n ≤ 512) (hin:∀ x ∈ ls,∀ b ∈ x.blocks,b < n) :
  Calls Tryz.prog 123 #[lv,.int .i64 n] w (LeastPost n ls w):=by
 have HR:=hideI hr
 have HIN:=hideI hin
 obtain ⟨Av,cv,rfl⟩:∃ A c,lv=.slice A ls.length c:=by obtain ⟨cs,h1,_⟩:=hls.ex;exact own_sl h1
 have HLW:=hideI hls
 obtain ⟨W2,hW2⟩:∃ W2:World,W2=w.alloc (.cells #[.int .i64 (-1)] 3):=⟨_,rfl⟩
 have HB2:Hid (Below w.heap.size w W2):=by show Below _ _ _;rw [hW2];exact (Below.refl _ _).alloc (Nat.le_refl _) _
 have HREP:Hid (Calls Tryz.prog 147 #[.slice (some ⟨w.heap.size,0,none⟩) 1 1,.int .i64 n] W2 (RepPost (-1) n W2)):=by
  rw [hW2]
  exact hideI (repeat_any (-1) n w.heap.size _ hn0 (by omega) (row_cells (heap_alloc_new w _) rfl 0) (by simp))
 have HW2:=hideI hW2
 clear hls hr hin hW2
 go_enter Tryz.func123,Tryz.ntmps123
 go_wp2_with fail
 rw [← HW2.out]
 go_wp2_with (go_at_call 147;go_must (refine HREP.out.mono ?_);rintro e w3 ⟨gi,rfl,hrep,hb3⟩;have HB3:Hid (Below w.heap.size w w3):=hideI (HB2.out.trans (hb3.mono HB2.out.size));have HREP3:=hideI hrep;clear hrep hb3)
 have HO1:Hid (w3.ownsRow W2.heap.size 3 1 (.slice (some ⟨gi,0,none⟩) n n) n (leastR n ls 0 [] 0)):=by
  show World.ownsRow _ _ _ _ _ _ _
  rw [leastR_start]
  exact HREP3.out
 have hgw:w.heap.size < gi:=by
  have h1:=(HREP3.out.lt gi rfl).1
  have h2:W2.heap.size=w.heap.size + 1:=by rw [HW2.out];simp
  omega
 have hbW2:w.heap.size ≤ W2.heap.size:=HB2.out.size
 clear HREP3
 go_loopw [15] (fun u wr => ∃ i:Nat,i ≤ ls.length ∧ u=.int .i64 i ∧ Hid (wr.ownsRow W2.heap.size 3 1 (.slice (some ⟨gi,0,none⟩) n n) n (leastR n ls i [] 0)) ∧ Hid (Below w.heap.size w wr)) (fun u _ => ls.length - (intOf u).toNat)
 case atStart => exact ⟨0,Nat.zero_le _,rfl,HO1,HB3⟩
 case round =>
  clear HO1
  obtain ⟨i,hi,rfl,HO,HBr⟩:=hrel
  by_cases hlt:i < ls.length
  ·obtain ⟨x,hx⟩:∃ x,ls[i]?=some x:=⟨_,List.getElem?_eq_getElem hlt⟩
   have HX:=hideI hx
   obtain ⟨g,cap0,b1,b2,b3,hv,hgb,hgl,k0,k1,k2,k3,k4,s1,s2,s3,_⟩:=HLW.out.cells hx
   injection hv with hv1 hv2 hv3
   subst hv1 hv3
   clear hv2
   have r0:=(HBr.out.cell (p:=⟨g,i * 5,none⟩) hgl).trans k0
   have r1:=(HBr.out.cell (p:=⟨g,i * 5 + 1,none⟩) hgl).trans k1
   have r2:=(HBr.out.cell (p:=⟨g,i * 5 + 2,none⟩) hgl).trans k2
   have r3:=(HBr.out.cell (p:=⟨g,i * 5 + 3,none⟩) hgl).trans k3
   have r4:=(HBr.out.cell (p:=⟨g,i * 5 + 4,none⟩) hgl).trans k4
   clear k0 k1 k2 k3 k4
   have HRX:=hideI (HR.out x (List.mem_of_getElem? hx))
   have HINX:=hideI (HIN.out x (List.mem_of_getElem? hx))
   obtain ⟨A1,c1,rfl⟩:=own_sl s1.1
   obtain ⟨A2,c2,rfl⟩:=own_sl s2.1
   obtain ⟨A3,c3,rfl⟩:=own_sl s3.1
   obtain ⟨PA,pc2,e1,_,hpx⟩:=s1.ints (by have:=HRX.out.2;omega)
   rw [List.length_map] at e1 hpx
   injection e1 with e1 _ e3
   subst e1 e3
   have HPX:=hideI hpx
   obtain ⟨cb,hcb⟩:∃ cb,cb=x.blocks:=⟨_,rfl⟩
   have HCB:=hideI hcb
   obtain ⟨wa,hwa⟩:∃ wa:World,wa=wr.alloc (.cells #[.int .i64 (x.head:Int),.slice A1 cb.length c1,.slice A2 x.latches.length c2,.slice A3 x.exits.length c3,.int .i64 x.parent] 88):=⟨_,rfl⟩
   have HBA:Hid (Below wr.heap.size wr wa):=by show Below _ _ _;rw [hwa];exact (Below.refl _ _).alloc (Nat.le_refl _) _
   have HBWA:Hid (Below w.heap.size w wa):=HBr.out.trans (HBA.out.mono HBr.out.size)
   have HWA:=hideI hwa
   have hxa:wa.heap[wr.heap.size]?=some (.cells #[.int .i64 (x.head:Int),.slice A1 cb.length c1,.slice A2 x.latches.length c2,.slice A3 x.exits.length c3,.int .i64 x.parent] 88 (0,0)):=by rw [hwa];exact heap_alloc_new wr _
   obtain ⟨Y,hY⟩:∃ Y,Y=wr.heap.size:=⟨_,rfl⟩
   have HY:=hideI hY
   have HXA:Hid (wa.heap[Y]?=some (.cells #[.int .i64 (x.head:Int),.slice A1 cb.length c1,.slice A2 x.latches.length c2,.slice A3 x.exits.length c3,.int .i64 x.parent] 88 (0,0))):=hideI (by rw [hY];exact hxa)
   have hgiY:gi < Y:=by rw [hY];exact (HO.out.lt gi rfl).2
   have hca:=row_cells HXA.out rfl
   have a1:=hca 1
   have HOA:Hid (wa.ownsRow W2.heap.size 3 1 (.slice (some ⟨gi,0,none⟩) n n) n (leastR n ls i cb 0)):=by
    show World.ownsRow _ _ _ _ _ _ _
    rw [leastR_begin (c':=[])]
    exact own_kept_below HO.out HBA.out (fun k hk => (HO.out.lt k hk).2)
   rw [← hcb] at HPX HRX HINX r1
   have hcl:cb.length ≤ 512:=HRX.out.2
   clear hwa hca hx s1 s2 s3 hpx hcb hxa HO
   go_upto_region 5 with fail
   rw [← HWA.out]
   rw [← HY.out]
   clear hY
   go_wp2
   clear r0 r1 r2 r3 r4 a1
   obtain ⟨wo,rfl⟩:∃ wo:World,wo=wr:=⟨_,rfl⟩
   go_loopw [23] (fun u wr2 => ∃ j:Nat,j ≤ cb.length ∧ u=.int .i64 j ∧ Hid (wr2.ownsRow W2.heap.size 3 1 (.slice (some ⟨gi,0,none⟩) n n) n (leastR n ls i cb j)) ∧ Hid (Below w.heap.size w wr2) ∧ Hid (wr2.heap[Y]?=some (.cells #[.int .i64 (x.head:Int),.slice A1 cb.length c1,.slice A2 x.latches.length c2,.slice A3 x.exits.length c3,.int .i64 x.parent] 88 (0,0)))) (fun u _ => cb.length - (intOf u).toNat)
   case atStart => exact ⟨0,Nat.zero_le _,rfl,HOA,HBWA,HXA⟩
   case round =>
    clear HOA
    obtain ⟨j,hj,rfl,HO2,HB2r,HXr⟩:=hrel
    by_cases hltj:j < cb.length
    ·obtain ⟨t,ht⟩:∃ t,cb[j]?=some t:=⟨_,List.getElem?_eq_getElem hltj⟩
     have htl:=HINX.out t (List.mem_of_getElem? ht)
     have HT:=hideI ht
     obtain ⟨pb,po,rfl,hpb,d0⟩:=HPX.out j hltj
     rw [List.getElem?_map,ht] at d0
     simp only [Option.map_some,Option.getD_some] at d0
     have d1:=(HB2r.out.cell (p:=⟨pb,po + j,none⟩) hpb).trans d0
     have hca:=row_cells HXr.out rfl
     have a1:=hca 1
     have h1:wr.cell? ⟨gi,t,none⟩=some (.int .i64 (bestM ls t i)):=by rw [World.ownsRow.cellAt HO2.out t (by omega),leastR_at htl,leastAt_new ht HRX.out.1]
     have f1:wr.frozen? ⟨gi,t,none⟩=false:=World.ownsRow.frozenAt HO2.out t
     have hgil:=(HO2.out.lt gi rfl).2
     have HTOOK:Hid (bestM ls t (i + 1)=(i:Int) → (wr.setCell ⟨gi,t,none⟩ (.int .i64 (i:Int))).ownsRow W2.heap.size 3 1 (.slice (some ⟨gi,0,none⟩) n n) n (leastR n ls i cb (j + 1)) ∧ Below w.heap.size w (wr.setCell ⟨gi,t,none⟩ (.int .i64 (i:Int))) ∧ (wr.setCell ⟨gi,t,none⟩ (.int .i64 (i:Int))).heap[Y]?=some (.cells #[.int .i64 (x.head:Int),.slice (some ⟨pb,po,none⟩) cb.length c1,.slice A2 x.latches.length c2,.slice A3 x.exits.length c3,.int .i64 x.parent] 88 (0,0))):=hideI (fun e => by
      have hst:=(World.ownsRow.stored HO2.out t (.int .i64 (i:Int))).1
      rw [← e,leastR_step ht,e] at hst
      exact ⟨hst,HB2r.out.setCell (by simp;omega) _,(heap_setCell_other wr ⟨gi,t,none⟩ Y _ (by simp;omega)).trans HXr.out⟩)
     have HKEEP:Hid (bestM ls t (i + 1)=bestM ls t i → wr.ownsRow W2.heap.size 3 1 (.slice (some ⟨gi,0,none⟩) n n) n (leastR n ls i cb (j + 1))):=hideI (fun e => by
      rw [← leastR_keep ht HRX.out.1 htl e]
      exact HO2.out)
     have htx:t ∈ x.blocks:=by rw [← HCB.out];exact List.mem_of_getElem? ht
     have hsucc:bestM ls t (i + 1)=if t ∈ x.blocks ∧ (bestM ls t i=-1 ∨ x.blocks.length < (ls.getD (bestM ls t i).toNat noLp).blocks.length) then (i:Int) else bestM ls t i:=by
      conv => lhs;unfold bestM
      rw [HX.out]
     rcases best_is ls t i with ⟨h2,_⟩ | ⟨m,z,h2,hz⟩
     ·have HE:=hideI (HTOOK.out (by rw [hsucc,if_pos ⟨htx,.inl h2⟩]))
      rw [h2] at h1
      clear hsucc h2 htx ht d0 hca HTOOK HKEEP
      go_wp2_with fail
      go_quiet (fail)
      go_wp2
      go_roundw
      case rel => exact ⟨j + 1,by omega,by go_num,hideI HE.out.1,hideI ⟨HE.out.2.1.os,HE.out.2.1.tape,HE.out.2.1.output,HE.out.2.1.size,HE.out.2.1.block⟩,hideI HE.out.2.2⟩
      case measure => simp [intOf];omega
     ·have hml:m < ls.length:=by have:=hz.lt;omega
      obtain ⟨g',cap',z1,z2,z3,hv',_,hgl',_,y1,_,_,_,sz,_,_,_⟩:=HLW.out.cells hz.at_
      injection hv' with hv1' hv2' hv3'
      injection hv1' with hv1'
      injection hv1' with hv1' hv4'
      subst hv1'
      clear hv2' hv4'
      have l1:=(HB2r.out.cell (p:=⟨g,m * 5 + 1,none⟩) hgl').trans y1
      obtain ⟨A4,c4,rfl⟩:=own_sl sz.1
      obtain ⟨nz,hnz⟩:∃ nz,nz=z.blocks.length:=⟨_,rfl⟩
      rw [← hnz] at l1
      have hnz5:nz ≤ 512:=by rw [hnz];exact (HR.out z (List.mem_of_getElem? hz.at_)).2
      have hm1:((m:Int) == -1)=false:=by rw [beq_eq_false_iff_ne];omega
      have hgd:(ls.getD (bestM ls t i).toNat noLp).blocks.length=nz:=by rw [h2,Int.toNat_natCast,List.getD_eq_getElem?_getD,hz.at_,hnz];rfl
      rw [hgd,← HCB.out] at hsucc
      rw [← HCB.out] at htx
      rw [h2] at h1
      by_cases hlz:cb.length < nz
      ·have HE:=hideI (HTOOK.out (by rw [hsucc,if_pos ⟨htx,.inr hlz⟩]))
       clear hsucc h2 htx ht d0 hca HTOOK HKEEP hz hv3' y1 sz hnz hgd
       go_wp2_with fail
       go_quiet (fail)
       go_wp2
       go_roundw
       case rel => exact ⟨j + 1,by omega,by go_num,hideI HE.out.1,hideI ⟨HE.out.2.1.os,HE.out.2.1.tape,HE.out.2.1.output,HE.out.2.1.size,HE.out.2.1.block⟩,hideI HE.out.2.2⟩
       case measure => simp [intOf];omega
      ·have HE:=hideI (HKEEP.out (by rw [hsucc,if_neg (fun e => e.2.elim (fun e => by rw [h2] at e;omega) hlz)]))
       clear hsucc h2 htx ht d0 hca HTOOK HKEEP hz hv3' y1 sz hnz hgd
       go_wp2_with fail
       go_quiet (fail)
       go_wp2
       go_roundw
       case rel => exact ⟨j + 1,by omega,by go_num,hideI HE.out,hideI ⟨HB2r.out.os,HB2r.out.tape,HB2r.out.output,HB2r.out.size,HB2r.out.block⟩,HXr⟩
       case measure => simp [intOf];omega
    ·have HN:=hideI (leastR_next (n:=n) (j:=j) HX.out HCB.out (by omega))
     rw [HN.out] at HO2
     go_wp2
     go_roundw
     case rel => exact ⟨i + 1,by omega,by go_num,HO2,HB2r⟩
     case measure => simp [intOf];omega
  ·have hil:i=ls.length:=by omega
   subst hil
   go_wp2
   go_ret
   exact ⟨_,rfl,World.ownsRow.mono HO.out hbW2,HBr.out⟩
end Go.Proofs.YtaehbgppfahdeaaGreat

namespace Go.Proofs.YtaehbgppfahdeaaGreat
open Go.RowKit Go.Maps
def InNestPost (f:FuncM) (w:World) (e:Ending) (w':World):Prop :=
 (∃ x y:Int,CheckIs f (x,y) ∧ y ≠ 0 ∧ e=.returned (.tuple #[.agg #[.slice none 0 0,.slice none 0 0],.int .i64 y]) ∧ Below w.heap.size w w') ∨
 (∃ (o:List Nat) (pl:Nat → Nat) (par:Nat → Option Nat) (D L:Nat → Nat → Bool) (lv:Value) (gl:Nat),LoopsOf f o pl par D L ∧ e=.returned (.tuple #[.agg #[lv,.slice (some ⟨gl,0,none⟩) f.blocks.length f.blocks.length],.int .i64 0]) ∧ LoopsR w' w.heap.size lv (loopsM f.blocks D L) ∧ w'.ownsRow w.heap.size 3 1 (.slice (some ⟨gl,0,none⟩) f.blocks.length f.blocks.length) f.blocks.length (leastR f.blocks.length (loopsM f.blocks D L) (loopsM f.blocks D L).length [] 0) ∧ Below w.heap.size w w')
set_option maxRecDepth 100000 in
set_option maxHeartbeats 4000000 in
theorem inNest_any (f:FuncM) (B:Nat) (pv bv:Value) (w:World) (hpv:Ints w B pv f.params) (hbv:BlocksR w B bv f.blocks) (hB:B ≤ w.heap.size) (hid:∀ u ∈ usesM f,I64 u.1) :
  Calls Tryz.prog 73 #[.agg #[pv,.int .i64 f.arrays,.int .i64 f.cells,bv]] w (InNestPost f w):=by
 have HP:=hideI hpv
 have HBL:=hideI hbv
 have HID:=hideI hid
 obtain ⟨P,pc,rfl,_⟩:=hpv
 obtain ⟨A,c,rfl,hbm,_⟩:=hbv
 obtain ⟨W,hW⟩:∃ W:World,W=(w.alloc (.cells #[.slice P f.params.length pc,.int .i64 f.arrays,.int .i64 f.cells,.slice A f.blocks.length c] 25)).alloc (.cells #[.slice none 0 0,.slice none 0 0] 81):=⟨_,rfl⟩
 have HB0:Hid (Below w.heap.size w W):=by show Below _ _ _;rw [hW];exact ((Below.refl _ w).alloc (Nat.le_refl _) _).alloc (by simp) _
 have hx1:W.heap[w.heap.size]?=some (.cells #[.slice P f.params.length pc,.int .i64 f.arrays,.int .i64 f.cells,.slice A f.blocks.length c] 25 (0,0)):=by
  rw [hW,Below.heap_alloc _ _ _ (by simp)]
  exact heap_alloc_new w _
 have hx2:W.heap[w.heap.size + 1]?=some (.cells #[.slice none 0 0,.slice none 0 0] 81 (0,0)):=by
  rw [hW]
  have:=heap_alloc_new (w.alloc (.cells #[.slice P f.params.length pc,.int .i64 f.arrays,.int .i64 f.cells,.slice A f.blocks.length c] 25)) (.cells #[.slice none 0 0,.slice none 0 0] 81)
  simpa using this
 have HX1:=hideI hx1
 have HX2:=hideI hx2
 have hBW:B ≤ W.heap.size:=Nat.le_trans hB HB0.out.size
 have HT:=hideI (lForest_any f B _ _ W (HP.out.keeps (Keeps.of_below (HB0.out.mono hB))) (HBL.out.keeps (Keeps.of_below (HB0.out.mono hB))) hBW HID.out)
 have HW0:=hideI hW
 have hwW:w.heap.size + 1 < W.heap.size:=lt_of_heap hx2
 have hqs:=row_cells hx1 rfl
 have q0:=hqs 0
 have q1:=hqs 1
 have q2:=hqs 2
 have q3:=hqs 3
 have hns:=row_cells hx2 rfl
 have n0:=hns 0
 have n1:=hns 1
 have fr:=free_rowN hx2 rfl
 have f0:=fr 0
 have f1:=fr 1
 clear hid hW hx1 hx2 hqs hns fr
 by_cases hst:∃ o,StrictM f o
 ·obtain ⟨o0,hst⟩:=hst
  have HST:=hideI hst
  have HN5:=hideI (look_some_block hst.look)
  clear hst
  go_enter Tryz.func73,Tryz.ntmps73
  go_upto_region 1 with fail
  rw [← HW0.out]
  go_wp2_with (first
   | (go_at_call 122;go_must (refine HT.out.mono ?_);rintro e w1 (⟨x,y,hci,hy,_⟩ | ⟨o,pl,par,D,L,lv,hk,rfl,hlp,hbk⟩);(exact absurd (Prod.mk.inj (HST.out.check hci)).2 hy);(obtain ⟨Av,cv,rfl⟩:∃ A c,lv=.slice A (loopsM f.blocks D L).length c:=(by obtain ⟨cs,h1,_⟩:=hlp.ex;exact own_sl h1));have HK:=hideI hk;have HLP:=hideI hlp;have HB1:=hideI hbk;have HLO:=hideI (leastOf_any (loopsM f.blocks D L) f.blocks.length W.heap.size _ w1 hlp (loops_rising HN5.out.2) (Nat.le_trans loops_len HN5.out.2) HN5.out.1 HN5.out.2 loops_blocks);have hx1:=(hbk.block _ (by omega:w.heap.size < W.heap.size)).trans HX1.out;have hx2:=(hbk.block _ hwW).trans HX2.out;clear q0 q1 q2 q3 n0 n1 f0 f1;have hqs:=row_cells hx1 rfl;have q0:=hqs 0;have q1:=hqs 1;have q2:=hqs 2;have q3:=hqs 3;have hns:=row_cells hx2 rfl;have n0:=hns 0;have n1:=hns 1;have fr:=free_rowN hx2 rfl;have f0:=fr 0;have f1:=fr 1;clear hqs hns fr hx1 hx2;clear hk hlp hbk)
   | (go_at_call 123;go_must (refine HLO.out.mono ?_);rintro e w2 ⟨gl,rfl,hown,hb2⟩;have hbk:=HB1.out.trans (hb2.mono HB1.out.size);have HOW:=hideI (World.ownsRow.mono hown HB1.out.size);have HLP2:=hideI (HLP.out.kept hb2);have HB2:=hideI hbk;have hx1:=(hbk.block _ (by omega:w.heap.size < W.heap.size)).trans HX1.out;have hx2:=(hbk.block _ hwW).trans HX2.out;clear q0 q1 q2 q3 n0 n1 f0 f1;have hqs:=row_cells hx1 rfl;have q0:=hqs 0;have q1:=hqs 1;have q2:=hqs 2;have q3:=hqs 3;have hns:=row_cells hx2 rfl;have n0:=hns 0;have n1:=hns 1;have fr:=free_rowN hx2 rfl;have f0:=fr 0;have f1:=fr 1;clear hqs hns fr hx1 hx2;clear hown hb2 hbk))
  refine bodyPost_ret (v:=.tuple #[.agg #[.slice Av (loopsM f.blocks D L).length cv,.slice (some ⟨gl,0,none⟩) f.blocks.length f.blocks.length],.int .i64 0]) (by simp [results,Tryz.results73,go_sem,n0,n1]) rfl (.inr ⟨o,pl,par,D,L,_,gl,HK.out,rfl,?_,?_,?_⟩)
  ·exact LoopsR.mono ((HLP2.out.other hwW _).other hwW _) HB0.out.size
  ·have hne:(Value.slice (some ⟨gl,0,none⟩) f.blocks.length f.blocks.length).ownBlock ≠ some (w.heap.size + 1):=fun e => by have:=(HOW.out.lt _ e).1;omega
   exact World.ownsRow.mono (ownsRow_setCell_other (ownsRow_setCell_other HOW.out (a:=⟨w.heap.size + 1,0,none⟩) hne _) (a:=⟨w.heap.size + 1,1,none⟩) hne _) HB0.out.size
  ·exact (((HB0.out.trans (HB2.out.mono HB0.out.size))).setCell (by simp) _).setCell (by simp) _
 ·have HNG:Hid (∀ o,StrictM f o → False):=fun o h => hst ⟨o,h⟩
  clear hst
  go_enter Tryz.func73,Tryz.ntmps73
  go_upto_region 1 with fail
  rw [← HW0.out]
  go_wp2_with (go_at_call 122;go_must (refine HT.out.mono ?_);rintro e w1 (⟨x1,y1,hci,hy1,rfl,hbk⟩ | ⟨o,pl,par,D,L,lv,hk,_⟩);rotate_left;(exact (HNG.out o hk.strict).elim);have hy:(y1 != 0)=true:=(by rw [bne_iff_ne];exact hy1);have HCI:=hideI hci;have HY:=hideI hy1;have HB1:=hideI hbk;have hx1:=(hbk.block _ (by omega:w.heap.size < W.heap.size)).trans HX1.out;have hx2:=(hbk.block _ hwW).trans HX2.out;clear q0 q1 q2 q3 n0 n1 f0 f1;have hqs:=row_cells hx1 rfl;have q0:=hqs 0;have q1:=hqs 1;have q2:=hqs 2;have q3:=hqs 3;have hns:=row_cells hx2 rfl;have n0:=hns 0;have n1:=hns 1;have fr:=free_rowN hx2 rfl;have f0:=fr 0;have f1:=fr 1;clear hqs hns fr hx1 hx2;clear hbk hci hy1)
  refine bodyPost_ret (v:=.tuple #[.agg #[.slice none 0 0,.slice none 0 0],.int .i64 y1]) (by simp [results,Tryz.results73,go_sem,n0,n1]) rfl (.inl ⟨x1,y1,HCI.out,HY.out,rfl,?_⟩)
  exact (((HB0.out.trans (HB1.out.mono HB0.out.size))).setCell (by simp) _).setCell (by simp) _
end Go.Proofs.YtaehbgppfahdeaaGreat

namespace Go.Proofs.YtaehbgppfahdeaaGreat
open Go.RowKit Go.Maps
def CNestPost (f:FuncM) (pv bv:Value) (w:World) (e:Ending) (w':World):Prop :=
 (∃ x y:Int,CheckIs f (x,y) ∧ y ≠ 0 ∧ e=.returned (.tuple #[.agg #[.slice none 0 0,.int .i64 0,.int .i64 0,.slice none 0 0,.slice none 0 0,.slice none 0 0,.slice none 0 0],.int .i64 y]) ∧ Below w.heap.size w w') ∨
 (∃ (o:List Nat) (pl:Nat → Nat) (par:Nat → Option Nat) (D L:Nat → Nat → Bool) (lv lm:Value) (gp:Nat) (vs:List Value),LoopsOf f o pl par D L ∧ e=.returned (.tuple #[.agg #[pv,.int .i64 f.arrays,.int .i64 f.cells,bv,lv,lm,.slice (some ⟨gp,0,none⟩) f.blocks.length f.blocks.length],.int .i64 0]) ∧ LoopsR w' w.heap.size lv (loopsM f.blocks D L) ∧ (∃ gl,lm=.slice (some ⟨gl,0,none⟩) f.blocks.length f.blocks.length ∧ w'.ownsRow w.heap.size 3 1 lm f.blocks.length (leastR f.blocks.length (loopsM f.blocks D L) (loopsM f.blocks D L).length [] 0)) ∧ Lists w' w.heap.size gp f.blocks.length vs (predsAt f.blocks f.blocks.length f.blocks.length 0) ∧ Below w.heap.size w w')
set_option maxRecDepth 100000 in
set_option maxHeartbeats 4000000 in
theorem cNest_any (f:FuncM) (B:Nat) (pv bv:Value) (w:World) (hpv:Ints w B pv f.params) (hbv:BlocksR w B bv f.blocks) (hB:B ≤ w.heap.size) (hid:∀ u ∈ usesM f,I64 u.1) :
  Calls Tryz.prog 39 #[.agg #[pv,.int .i64 f.arrays,.int .i64 f.cells,bv]] w (CNestPost f pv bv w):=by
 have HP:=hideI hpv
 have HBL:=hideI hbv
 have HID:=hideI hid
 obtain ⟨P,pc,rfl,_⟩:=hpv
 obtain ⟨A,c,rfl,hbm,_⟩:=hbv
 obtain ⟨W,hW⟩:∃ W:World,W=(w.alloc (.cells #[.slice P f.params.length pc,.int .i64 f.arrays,.int .i64 f.cells,.slice A f.blocks.length c] 25)).alloc (.cells #[.slice none 0 0,.int .i64 0,.int .i64 0,.slice none 0 0,.slice none 0 0,.slice none 0 0,.slice none 0 0] 83):=⟨_,rfl⟩
 have HB0:Hid (Below w.heap.size w W):=by show Below _ _ _;rw [hW];exact ((Below.refl _ w).alloc (Nat.le_refl _) _).alloc (by simp) _
 have hx1:W.heap[w.heap.size]?=some (.cells #[.slice P f.params.length pc,.int .i64 f.arrays,.int .i64 f.cells,.slice A f.blocks.length c] 25 (0,0)):=by
  rw [hW,Below.heap_alloc _ _ _ (by simp)]
  exact heap_alloc_new w _
 have hx2:W.heap[w.heap.size + 1]?=some (.cells #[.slice none 0 0,.int .i64 0,.int .i64 0,.slice none 0 0,.slice none 0 0,.slice none 0 0,.slice none 0 0] 83 (0,0)):=by
  rw [hW]
  have:=heap_alloc_new (w.alloc (.cells #[.slice P f.params.length pc,.int .i64 f.arrays,.int .i64 f.cells,.slice A f.blocks.length c] 25)) (.cells #[.slice none 0 0,.int .i64 0,.int .i64 0,.slice none 0 0,.slice none 0 0,.slice none 0 0,.slice none 0 0] 83)
  simpa using this
 have HX1:=hideI hx1
 have HX2:=hideI hx2
 have hBW:B ≤ W.heap.size:=Nat.le_trans hB HB0.out.size
 have HT:=hideI (inNest_any f B _ _ W (HP.out.keeps (Keeps.of_below (HB0.out.mono hB))) (HBL.out.keeps (Keeps.of_below (HB0.out.mono hB))) hBW HID.out)
 have HW0:=hideI hW
 have hwW:w.heap.size + 1 < W.heap.size:=lt_of_heap hx2
 have hqs:=row_cells hx1 rfl
 have q0:=hqs 0
 have q1:=hqs 1
 have q2:=hqs 2
 have q3:=hqs 3
 have hns:=row_cells hx2 rfl
 have n0:=hns 0
 have n1:=hns 1
 have n2:=hns 2
 have n3:=hns 3
 have n4:=hns 4
 have n5:=hns 5
 have n6:=hns 6
 have fr:=free_rowN hx2 rfl
 have f0:=fr 0
 have f1:=fr 1
 have f2:=fr 2
 have f3:=fr 3
 have f4:=fr 4
 have f5:=fr 5
 have f6:=fr 6
 clear hid hW hx1 hx2 hqs hns fr
 by_cases hst:∃ o,StrictM f o
 ·obtain ⟨o0,hst⟩:=hst
  have HST:=hideI hst
  clear hst
  go_enter Tryz.func39,Tryz.ntmps39
  go_upto_region 1 with fail
  rw [← HW0.out]
  go_upto_region 2 with (go_at_call 73;go_must (refine HT.out.mono ?_);rintro e w1 (⟨x,y,hci,hy,_⟩ | ⟨o,pl,par,D,L,lv,gl,hk,rfl,hlp,hle,hbk⟩);(exact absurd (Prod.mk.inj (HST.out.check hci)).2 hy);(obtain ⟨Av,cv,rfl⟩:∃ A c,lv=.slice A (loopsM f.blocks D L).length c:=(by obtain ⟨cs,h1,_⟩:=hlp.ex;exact own_sl h1));have HK:=hideI hk;have HLP0:=hideI hlp;have HLE0:=hideI hle;have HB0':=hideI hbk;clear hk hlp hle hbk)
  obtain ⟨w1a,hw1a⟩:∃ w1a:World,w1a=w1.alloc (.cells #[.slice Av (loopsM f.blocks D L).length cv,.slice (some ⟨gl,0,none⟩) f.blocks.length f.blocks.length] 81):=⟨_,rfl⟩
  rw [← hw1a]
  have hk1:Below w1.heap.size w1 w1a:=by rw [hw1a];exact (Below.refl _ w1).alloc (Nat.le_refl _) _
  have hX4:w1a.heap[w1.heap.size]?=some (.cells #[.slice Av (loopsM f.blocks D L).length cv,.slice (some ⟨gl,0,none⟩) f.blocks.length f.blocks.length] 81 (0,0)):=by rw [hw1a];exact heap_alloc_new w1 _
  obtain ⟨Y,hY⟩:∃ Y,Y=w1.heap.size:=⟨_,rfl⟩
  have hbk:Below W.heap.size W w1a:=HB0'.out.trans (hk1.mono HB0'.out.size)
  have HLP:=hideI (HLP0.out.kept hk1)
  have HLE:=hideI (own_kept_below HLE0.out hk1 (fun k hk => (HLE0.out.lt k hk).2))
  rw [← hY] at hX4 ⊢
  have HX4:=hideI hX4
  have hY1:Y < w1a.heap.size:=lt_of_heap hX4
  have HB1:=hideI hbk
  have HPR:=hideI (gPreds_any f B _ _ w1a (HP.out.keeps (Keeps.of_below ((HB0.out.trans (HB1.out.mono HB0.out.size)).mono hB))) (HBL.out.keeps (Keeps.of_below ((HB0.out.trans (HB1.out.mono HB0.out.size)).mono hB))) (Nat.le_trans hBW HB1.out.size) HID.out)
  have hx1:=(hbk.block _ (by omega:w.heap.size < W.heap.size)).trans HX1.out
  have hx2:=(hbk.block _ hwW).trans HX2.out
  clear q0 q1 q2 q3 n0 n1 n2 n3 n4 n5 n6 f0 f1 f2 f3 f4 f5 f6
  have hqs:=row_cells hx1 rfl
  have q0:=hqs 0
  have q1:=hqs 1
  have q2:=hqs 2
  have q3:=hqs 3
  have hns:=row_cells hx2 rfl
  have n0:=hns 0
  have n1:=hns 1
  have n2:=hns 2
  have n3:=hns 3
  have n4:=hns 4
  have n5:=hns 5
  have n6:=hns 6
  have fr:=free_rowN hx2 rfl
  have f0:=fr 0
  have f1:=fr 1
  have f2:=fr 2
  have f3:=fr 3
  have f4:=fr 4
  have f5:=fr 5
  have f6:=fr 6
  clear hqs hns fr hx1 hx2
  have hys:=row_cells hX4 rfl
  have y0:=hys 0
  have y1:=hys 1
  clear hbk hw1a hk1 hX4 hY hys
  go_wp2_with (go_at_call 74;go_must (refine HPR.out.mono ?_);rintro e w2 (⟨h0,_⟩ | ⟨_,g,vs,rfl,hls,hb2⟩);(exact absurd HST.out.look h0);have hbk:=HB1.out.trans (hb2.mono HB1.out.size);have HLS:=hideI (hls.mono HB1.out.size);have HLP2:=hideI (HLP.out.kept hb2);have HLE2:=hideI (own_kept_below HLE.out hb2 (fun k hk => (HLE.out.lt k hk).2));have HB2:=hideI hbk;have hys:=row_cells ((hb2.block _ hY1).trans HX4.out) rfl;clear y0 y1;have y0:=hys 0;have y1:=hys 1;clear hys;have hx1:=(hbk.block _ (by omega:w.heap.size < W.heap.size)).trans HX1.out;have hx2:=(hbk.block _ hwW).trans HX2.out;clear q0 q1 q2 q3 n0 n1 n2 n3 n4 n5 n6 f0 f1 f2 f3 f4 f5 f6;have hqs:=row_cells hx1 rfl;have q0:=hqs 0;have q1:=hqs 1;have q2:=hqs 2;have q3:=hqs 3;have hns:=row_cells hx2 rfl;have n0:=hns 0;have n1:=hns 1;have n2:=hns 2;have n3:=hns 3;have n4:=hns 4;have n5:=hns 5;have n6:=hns 6;have fr:=free_rowN hx2 rfl;have f0:=fr 0;have f1:=fr 1;have f2:=fr 2;have f3:=fr 3;have f4:=fr 4;have f5:=fr 5;have f6:=fr 6;clear hqs hns fr hx1 hx2;clear hls hb2 hbk)
  refine bodyPost_ret (v:=.tuple #[.agg #[.slice P f.params.length pc,.int .i64 f.arrays,.int .i64 f.cells,.slice A f.blocks.length c,.slice Av (loopsM f.blocks D L).length cv,.slice (some ⟨gl,0,none⟩) f.blocks.length f.blocks.length,.slice (some ⟨g,0,none⟩) f.blocks.length f.blocks.length],.int .i64 0]) (by simp [results,Tryz.results39,go_sem,n0,n1,n2,n3,n4,n5,n6]) rfl (.inr ⟨o,pl,par,D,L,_,_,g,vs,HK.out,rfl,?_,⟨gl,rfl,?_⟩,?_,?_⟩)
  ·exact LoopsR.mono ((((((((HLP2.out.other hwW _).other hwW _).other hwW _).other hwW _).other hwW _).other hwW _).other hwW _)) HB0.out.size
  ·have hne:(Value.slice (some ⟨gl,0,none⟩) f.blocks.length f.blocks.length).ownBlock ≠ some (w.heap.size + 1):=fun e => by have:=(HLE2.out.lt _ e).1;omega
   exact World.ownsRow.mono (ownsRow_setCell_other (ownsRow_setCell_other (ownsRow_setCell_other (ownsRow_setCell_other (ownsRow_setCell_other (ownsRow_setCell_other (ownsRow_setCell_other HLE2.out (a:=⟨w.heap.size + 1,0,none⟩) hne _) (a:=⟨w.heap.size + 1,1,none⟩) hne _) (a:=⟨w.heap.size + 1,2,none⟩) hne _) (a:=⟨w.heap.size + 1,3,none⟩) hne _) (a:=⟨w.heap.size + 1,4,none⟩) hne _) (a:=⟨w.heap.size + 1,5,none⟩) hne _) (a:=⟨w.heap.size + 1,6,none⟩) hne _) HB0.out.size
  ·exact Lists.mono ((((((((HLS.out.other hwW _).other hwW _).other hwW _).other hwW _).other hwW _).other hwW _).other hwW _)) HB0.out.size
  ·exact ((((((((HB0.out.trans (HB2.out.mono HB0.out.size))).setCell (by simp) _).setCell (by simp) _).setCell (by simp) _).setCell (by simp) _).setCell (by simp) _).setCell (by simp) _).setCell (by simp) _
 ·have HNG:Hid (∀ o,StrictM f o → False):=fun o h => hst ⟨o,h⟩
  clear hst
  go_enter Tryz.func39,Tryz.ntmps39
  go_upto_region 1 with fail
  rw [← HW0.out]
  go_upto_region 2 with (go_at_call 73;go_must (refine HT.out.mono ?_);rintro e w1 (⟨x1,y1,hci,hy1,rfl,hbk⟩ | ⟨o,pl,par,D,L,lv,gl,hk,_⟩);rotate_left;(exact (HNG.out o hk.strict).elim);have hy:(y1 != 0)=true:=(by rw [bne_iff_ne];exact hy1);have HCI:=hideI hci;have HY:=hideI hy1;have HB1:=hideI hbk;have hx1:=(hbk.block _ (by omega:w.heap.size < W.heap.size)).trans HX1.out;have hx2:=(hbk.block _ hwW).trans HX2.out;clear q0 q1 q2 q3 n0 n1 n2 n3 n4 n5 n6 f0 f1 f2 f3 f4 f5 f6;have hqs:=row_cells hx1 rfl;have q0:=hqs 0;have q1:=hqs 1;have q2:=hqs 2;have q3:=hqs 3;have hns:=row_cells hx2 rfl;have n0:=hns 0;have n1:=hns 1;have n2:=hns 2;have n3:=hns 3;have n4:=hns 4;have n5:=hns 5;have n6:=hns 6;have fr:=free_rowN hx2 rfl;have f0:=fr 0;have f1:=fr 1;have f2:=fr 2;have f3:=fr 3;have f4:=fr 4;have f5:=fr 5;have f6:=fr 6;clear hqs hns fr hx1 hx2;clear hbk hci hy1)
  obtain ⟨w1a,hw1a⟩:∃ w1a:World,w1a=w1.alloc (.cells #[.slice none 0 0,.slice none 0 0] 81):=⟨_,rfl⟩
  rw [← hw1a]
  have hk1:Below w1.heap.size w1 w1a:=by rw [hw1a];exact (Below.refl _ w1).alloc (Nat.le_refl _) _
  have hbk:Below W.heap.size W w1a:=HB1.out.trans (hk1.mono HB1.out.size)
  have HB1a:=hideI hbk
  have hx1:=(hbk.block _ (by omega:w.heap.size < W.heap.size)).trans HX1.out
  have hx2:=(hbk.block _ hwW).trans HX2.out
  clear q0 q1 q2 q3 n0 n1 n2 n3 n4 n5 n6 f0 f1 f2 f3 f4 f5 f6
  have hqs:=row_cells hx1 rfl
  have q0:=hqs 0
  have q1:=hqs 1
  have q2:=hqs 2
  have q3:=hqs 3
  have hns:=row_cells hx2 rfl
  have n0:=hns 0
  have n1:=hns 1
  have n2:=hns 2
  have n3:=hns 3
  have n4:=hns 4
  have n5:=hns 5
  have n6:=hns 6
  have fr:=free_rowN hx2 rfl
  have f0:=fr 0
  have f1:=fr 1
  have f2:=fr 2
  have f3:=fr 3
  have f4:=fr 4
  have f5:=fr 5
  have f6:=fr 6
  clear hqs hns fr hx1 hx2
  clear hbk hw1a hk1
  go_wp2
  refine bodyPost_ret (v:=.tuple #[.agg #[.slice none 0 0,.int .i64 0,.int .i64 0,.slice none 0 0,.slice none 0 0,.slice none 0 0,.slice none 0 0],.int .i64 y1]) (by simp [results,Tryz.results39,go_sem,n0,n1,n2,n3,n4,n5,n6]) rfl (.inl ⟨x1,y1,HCI.out,HY.out,rfl,?_⟩)
  exact ((((((((HB0.out.trans (HB1a.out.mono HB0.out.size))).setCell (by simp) _).setCell (by simp) _).setCell (by simp) _).setCell (by simp) _).setCell (by simp) _).setCell (by simp) _).setCell (by simp) _
end Go.Proofs.YtaehbgppfahdeaaGreat
