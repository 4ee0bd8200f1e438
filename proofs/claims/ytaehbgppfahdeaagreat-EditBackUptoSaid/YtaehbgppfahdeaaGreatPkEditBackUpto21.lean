/- What EditBackUpto rests on, part 21: RefCheck5, RStrictC, OrderEx, RefTypeOf, RRepl. -/
import Derived.Test.YtaehbgppfahdeaaGreatPkEditBackUpto20

namespace Go.Proofs.YtaehbgppfahdeaaGreat
open Go.RowKit Go.Maps
theorem grid_over (bs:List BlockM) (o:List Nat):∃ G:Nat → Nat → Bool,∀ a b,G a b=true ↔ OverP bs o a b :=
 ⟨fun a b => @decide _ (Classical.propDecidable (OverP bs o a b)),fun _ _ => @decide_eq_true_iff _ (Classical.propDecidable _)⟩
theorem flat5:∀ (rows:List (List Int)),(∀ r ∈ rows,r.length=5) → ∀ (i j:Nat) (r:List Int),rows[i]?=some r → j < 5 → (rows.flatten.map (Value.int .i64))[i * 5 + j]?=some (.int .i64 (r.getD j 0))
 | [],_,i,j,r,h,_ => by simp at h
 | s :: rows,h5,0,j,r,h,hj => by
  simp at h
  subst h
  have h6:=h5 s (List.mem_cons_self ..)
  rw [List.flatten_cons,List.map_append,List.getElem?_append_left (by simp;omega),Nat.zero_mul,Nat.zero_add,List.getElem?_map,List.getD_eq_getElem?_getD,List.getElem?_eq_getElem (by omega)]
  rfl
 | s :: rows,h5,i + 1,j,r,h,hj => by
  have h6:=h5 s (List.mem_cons_self ..)
  rw [List.flatten_cons,List.map_append,List.getElem?_append_right (by simp;omega)]
  have e:(i + 1) * 5 + j - (s.map (Value.int .i64)).length=i * 5 + j:=by rw [List.length_map,h6];omega
  rw [e]
  exact flat5 rows (fun r hr => h5 r (List.mem_cons_of_mem _ hr)) i j r (by simpa using h) hj
theorem RU5.at {w:World} {base:Nat} {v:Value} {us:List (Int × Int)} {rows:List (List Int)} (h:RU5 w base v us rows):∃ A c,v=.slice A rows.length c ∧ ∀ (i:Nat) (r:List Int),rows[i]?=some r → ∃ g,A=some ⟨g,0,none⟩ ∧ g < w.heap.size ∧ ∀ j,j < 5 → w.cell? ⟨g,i * 5 + j,none⟩=some (.int .i64 (r.getD j 0)):=by
 obtain ⟨h1,h2,h3⟩:=h
 have hl:us.length=rows.length:=by rw [← h1,List.length_map]
 have h3':=h3
 rw [hl] at h3'
 rcases h3'.2 with ⟨rfl,h⟩ | ⟨g,cap,cur,rfl,_⟩
 ·have h0:rows.length=0:=by simpa using h
  refine ⟨none,0,by rw [h0],fun i r hr => ?_⟩
  have:=(List.getElem?_eq_some_iff.1 hr).1
  omega
 ·refine ⟨_,_,rfl,fun i r hr => ⟨g,rfl,(h3'.lt g rfl).2,fun j hj => ?_⟩⟩
  have hi:=(List.getElem?_eq_some_iff.1 hr).1
  rw [World.ownsRow.cellAt h3' (i * 5 + j) (by omega)]
  exact flat5 rows h2 i j r hr hj
theorem lists_ints {bs:List BlockM} {w w':World} {g gp:Nat} {vs:List Value} (h:Lists w g gp bs.length vs (predsAt bs bs.length bs.length 0)) (hb:Below w.heap.size w w') (hn5:bs.length ≤ 512) {b:Nat} (hb':b < bs.length) :
  ∃ v,w'.cell? ⟨gp,b,none⟩=some v ∧ Ints w' w'.heap.size v (predsI bs b):=by
 obtain ⟨v,hv⟩:∃ v,vs[b]?=some v:=⟨_,List.getElem?_eq_getElem (by rw [h.vl];exact hb')⟩
 have hl:(predsAt bs bs.length bs.length 0)[b]?=some (predsTo bs bs.length b):=by rw [predsAt_at hb'];simp
 have ho:=own_kept_below (h.own b v _ hv hl) hb (fun k hk => ((h.own b v _ hv hl).lt k hk).2)
 have hR:=own_kept_below h.row hb (fun k hk => (h.row.lt k hk).2)
 exact ⟨v,by rw [World.ownsRow.cellAt hR b (by omega)];exact hv,nat_ints ho (by have:=predsTo_len bs bs.length b;omega)⟩
set_option maxRecDepth 100000 in
set_option maxHeartbeats 2000000 in
theorem refStrict_no (f:FuncM) (B:Nat) (pv bv:Value) (w:World) (hpv:Ints w B pv f.params) (hbv:BlocksR w B bv f.blocks) (hB:B ≤ w.heap.size) (h0:(lookM f).1 ≠ 0) :
  Calls Tryz.prog 17 #[.agg #[pv,.int .i64 f.arrays,.int .i64 f.cells,bv]] w fun e w' => e=.returned (.tuple #[.int .i64 0,.int .i64 (lookM f).1]) ∧ Below w.heap.size w w':=by
 have HP:=hideI hpv
 have HBL:=hideI hbv
 obtain ⟨P,pc,rfl,_⟩:=hpv
 obtain ⟨A,c,rfl,_,_⟩:=hbv
 have hb:((lookM f).1 != 0)=true:=by simpa using h0
 have HB0:Hid (Below w.heap.size w (w.alloc (.cells #[.slice P f.params.length pc,.int .i64 f.arrays,.int .i64 f.cells,.slice A f.blocks.length c] 25))):=(Below.refl _ w).alloc (Nat.le_refl _) _
 clear h0
 go_enter Tryz.func17,Tryz.ntmps17
 go_wp2_with (go_at_call 43;go_must (refine (refCheck_any f B _ _ _ (HP.out.keeps (Keeps.of_below (HB0.out.mono hB))) (HBL.out.keeps (Keeps.of_below (HB0.out.mono hB))) (by simp;omega)).mono ?_);rintro e w1 ⟨rfl,hb1⟩;have HB1:=hideI (HB0.out.trans (hb1.mono (by simp)));clear hb1)
 go_ret2
 exact ⟨rfl,HB1.out⟩
set_option maxRecDepth 100000 in
set_option maxHeartbeats 16000000 in
theorem refStrict_yes (f:FuncM) (o:List Nat) (B:Nat) (pv bv:Value) (w:World) (hpv:Ints w B pv f.params) (hbv:BlocksR w B bv f.blocks) (hB:B ≤ w.heap.size) (hid:∀ u ∈ usesM f,I64 u.1) (h0:(lookM f).1=0) (ho:OrderIs f.blocks o) :
  Calls Tryz.prog 17 #[.agg #[pv,.int .i64 f.arrays,.int .i64 f.cells,bv]] w (FaultPost f.blocks.length (· ∈ o) (phisR f) (usesPR f o) w):=by
 have HP:=hideI hpv
 have HBL:=hideI hbv
 have H0:=hideI h0
 have HO:=hideI ho
 have hnb:=look_some_block h0
 have hn0:=hnb.1
 have hn5:=hnb.2
 have HIN:=hideI (look_ends h0)
 have HFEW:=hideI (look_few h0)
 have HFEWV:=hideI (look_fewv h0)
 have HFO:=hideI (look_form h0)
 have HPH:=hideI (look_phi h0)
 have HROW:=hideI (fun r => row_is h0 hid (r:=r))
 have HLF:=hideI (Placed.last_first (placed_nodup h0))
 obtain ⟨G,hG⟩:=grid_over f.blocks o
 have HG:=hideI hG
 obtain ⟨P,pc,rfl,hpm,_⟩:=hpv
 obtain ⟨A,c,rfl,hbm,_⟩:=hbv
 obtain ⟨W,hW⟩:∃ W:World,W=w.alloc (.cells #[.slice P f.params.length pc,.int .i64 f.arrays,.int .i64 f.cells,.slice A f.blocks.length c] 25):=⟨_,rfl⟩
 have HBW:Hid (Below w.heap.size w W):=by show Below _ _ _;rw [hW];exact (Below.refl _ _).alloc (Nat.le_refl _) _
 have HXW:Hid (W.heap[w.heap.size]?=some (.cells #[.slice P f.params.length pc,.int .i64 f.arrays,.int .i64 f.cells,.slice A f.blocks.length c] 25 (0,0))):=by show _=_;rw [hW];exact heap_alloc_new w _
 have hwW:w.heap.size < W.heap.size:=lt_of_heap HXW.out
 have HW0:=hideI hW
 have G0:Hid (∀ W2,Below W.heap.size W W2 → (∀ o,W2.cell? ⟨w.heap.size,o,none⟩=(#[.slice P f.params.length pc,.int .i64 f.arrays,.int .i64 f.cells,.slice A f.blocks.length c]:Array Value)[o]?) ∧ Ints W2 B (.slice P f.params.length pc) f.params ∧ BlocksR W2 B (.slice A f.blocks.length c) f.blocks ∧ B ≤ W2.heap.size ∧ Below w.heap.size w W2):=hideI (fun W2 h2 => by
  have h3:Below w.heap.size w W2:=HBW.out.trans (h2.mono HBW.out.size)
  exact ⟨row_cells HXW.out (h2.block _ hwW),HP.out.keeps (Keeps.of_below (h3.mono hB)),HBL.out.keeps (Keeps.of_below (h3.mono hB)),Nat.le_trans hB h3.size,h3⟩)
 obtain ⟨hx,_,_⟩:=G0.out W (Below.refl _ _)
 have q0:=hx 0
 have q1:=hx 1
 have q2:=hx 2
 have q3:=hx 3
 clear hid h0 ho hG hW hx hnb
 go_enter Tryz.func17,Tryz.ntmps17
 go_upto_region 1 with fail
 rw [← HW0.out]
 clear HW0
 go_wp2_with (first
  | (go_at_call 43;go_must (refine (refCheck_any f B _ _ _ (G0.out _ (Below.refl _ _)).2.1 (G0.out _ (Below.refl _ _)).2.2.1 (G0.out _ (Below.refl _ _)).2.2.2.1).mono ?_);rw [H0.out];rintro e w1 ⟨rfl,hb1⟩;have HB1:Hid (Below W.heap.size W w1):=hideI hb1;clear hb1 q0 q1 q2 q3;(obtain ⟨hx,_,_⟩:=G0.out _ HB1.out);have q0:=hx 0;have q1:=hx 1;have q2:=hx 2;have q3:=hx 3;clear hx)
  | (go_at_call 44;go_must (refine (refWithout_all f.blocks B _ _ _ _ (-1) _ (G0.out _ HB1.out).2.2.1 (G0.out _ HB1.out).2.2.2.1 hn0 hn5 HIN.out).mono ?_);rintro e w2 ⟨S0,gA,rfl,hS,hown,hb2⟩;have HS0:Hid (∀ x,x ∈ S0 ↔ x ∈ o):=hideI (fun x => (hS x).trans (HO.out.reach x).symm);have HOA:=hideI hown;have HB2:Hid (Below W.heap.size W w2):=hideI (HB1.out.trans (hb2.mono HB1.out.size));clear hS hown hb2 q0 q1 q2 q3;(obtain ⟨hx,_,_⟩:=G0.out _ HB2.out);have q0:=hx 0;have q1:=hx 1;have q2:=hx 2;have q3:=hx 3;clear hx))
 clear q0 q1 q2 q3
 go_loopw [6] (fun u wr => ∃ k:Nat,k ≤ f.blocks.length ∧ u=.int .i64 k ∧ Hid (∀ a,a < k → a ∈ o) ∧ wr=w2) (fun u _ => f.blocks.length - (intOf u).toNat)
 case atStart => exact ⟨0,Nat.zero_le _,rfl,hideI (fun a h => by omega),rfl⟩
 case round =>
  obtain ⟨k,hk,rfl,HAk,hw⟩:=hrel
  obtain rfl:=hw.symm
  by_cases hlt:k < f.blocks.length
  ·have c1:w2.cell? ⟨gA,k,none⟩=some (.bool (decide (k ∈ S0))):=by rw [World.ownsRow.cellAt HOA.out k (by omega),marks_at hlt]
   have HKO:Hid (k ∈ S0 ↔ k ∈ o):=hideI (HS0.out k)
   have HLT:=hideI hlt
   cases hd:decide (k ∈ S0)
   ·have HBAD:Hid (¬ (k ∈ o)):=hideI (fun h => of_decide_eq_false hd (HKO.out.2 h))
    rw [hd] at c1
    clear hd
    go_wp2
    go_ret2
    exact ⟨_,_,rfl,.inl ⟨k,⟨HLT.out,HBAD.out,HAk.out⟩,rfl⟩,(G0.out _ HB2.out).2.2.2.2⟩
   ·have HOK:Hid (k ∈ o):=hideI (HKO.out.1 (of_decide_eq_true hd))
    rw [hd] at c1
    clear hd
    go_wp2
    go_roundw
    case rel => exact ⟨k + 1,by omega,by go_num,hideI (upto_succ HAk.out HOK.out),by first | rfl | trivial⟩
    case measure => simp [intOf];omega
  ·have HALL:Hid (∀ b,b < f.blocks.length → b ∈ o):=hideI (fun b hb => HAk.out b (by omega))
   (obtain ⟨hx,_,_⟩:=G0.out _ HB2.out);have q0:=hx 0;have q1:=hx 1;have q2:=hx 2;have q3:=hx 3;clear hx
   go_wp2_with (go_at_call 45;go_must (refine (refPreds_any f.blocks B _ _ _ _ _ (G0.out _ HB2.out).2.2.1 (G0.out _ HB2.out).2.2.2.1 hn5 HIN.out).mono ?_);rintro e w3 ⟨gp,pvs,rfl,hls,hb3⟩;have HPL:=hideI hls;have HB3:Hid (Below W.heap.size W w3):=hideI (HB2.out.trans (hb3.mono HB2.out.size));clear hls hb3 q0 q1 q2 q3)
   have hgp:gp < w3.heap.size:=(HPL.out.lt).2
   go_loopw [8] (fun u wr => ∃ k:Nat,k ≤ f.blocks.length ∧ u=.int .i64 k ∧ Hid (∀ a,a < k → phisR f a) ∧ Hid (Below w3.heap.size w3 wr)) (fun u _ => f.blocks.length - (intOf u).toNat)
   case atStart => exact ⟨0,Nat.zero_le _,rfl,hideI (fun a h => by omega),hideI (Below.refl _ _)⟩
   case round =>
    obtain ⟨k,hk,rfl,HPk,HBr⟩:=hrel
    have HBWr:Hid (Below W.heap.size W wr):=hideI (HB3.out.trans (HBr.out.mono HB3.out.size))
    by_cases hlt:k < f.blocks.length
    ·obtain ⟨q,hq⟩:∃ q,f.blocks[k]?=some q:=⟨_,List.getElem?_eq_getElem hlt⟩
     have HLT:=hideI hlt
     have HGr:Hid (∀ W2,Below wr.heap.size wr W2 → Below W.heap.size W W2 ∧ Below w3.heap.size w3 W2):=hideI (fun W2 h2 => ⟨HBWr.out.trans (h2.mono HBWr.out.size),HBr.out.trans (h2.mono HBr.out.size)⟩)
     obtain ⟨A',c',e0,_,hbx⟩:=(G0.out _ HBWr.out).2.2.1
     cases e0
     have hBr:=(G0.out _ HBWr.out).2.2.2.1
     obtain ⟨b1,off,qpv,qcv,qtv,rfl,hb1,x0,x1,x2,x3,x4,x5,hqp,hqc,hqt,_⟩:=hbx k q hq
     obtain ⟨v,hv,hvi⟩:=lists_ints HPL.out HBr.out hn5 hlt
     have HXB:Hid (∀ W2,Below wr.heap.size wr W2 → W2.cell? ⟨b1,off + k * 6,none⟩=some qpv ∧ W2.cell? ⟨b1,off + k * 6 + 1,none⟩=some qcv ∧ W2.cell? ⟨b1,off + k * 6 + 2,none⟩=some (.int .i64 q.term.op) ∧ W2.cell? ⟨b1,off + k * 6 + 3,none⟩=some (.int .i64 q.term.val) ∧ W2.cell? ⟨b1,off + k * 6 + 4,none⟩=some qtv ∧ W2.cell? ⟨b1,off + k * 6 + 5,none⟩=some (.int .i64 q.term.n) ∧ W2.cell? ⟨gp,k,none⟩=some v):=hideI (fun W2 h2 => ⟨(h2.cell (p:=⟨b1,off + k * 6,none⟩) (by show b1 < _;omega)).trans x0,(h2.cell (p:=⟨b1,off + k * 6 + 1,none⟩) (by show b1 < _;omega)).trans x1,(h2.cell (p:=⟨b1,off + k * 6 + 2,none⟩) (by show b1 < _;omega)).trans x2,(h2.cell (p:=⟨b1,off + k * 6 + 3,none⟩) (by show b1 < _;omega)).trans x3,(h2.cell (p:=⟨b1,off + k * 6 + 4,none⟩) (by show b1 < _;omega)).trans x4,(h2.cell (p:=⟨b1,off + k * 6 + 5,none⟩) (by show b1 < _;omega)).trans x5,(h2.cell (p:=⟨gp,k,none⟩) (by show gp < _;have:=HBr.out.size;omega)).trans hv⟩)
     have HS:Hid (∀ W2,Below wr.heap.size wr W2 → (∀ o,W2.cell? ⟨w.heap.size,o,none⟩=(#[.slice P f.params.length pc,.int .i64 f.arrays,.int .i64 f.cells,.slice (some ⟨b1,off,none⟩) f.blocks.length c]:Array Value)[o]?) ∧ W2.cell? ⟨b1,off + k * 6,none⟩=some qpv ∧ W2.cell? ⟨b1,off + k * 6 + 1,none⟩=some qcv ∧ W2.cell? ⟨b1,off + k * 6 + 2,none⟩=some (.int .i64 q.term.op) ∧ W2.cell? ⟨b1,off + k * 6 + 3,none⟩=some (.int .i64 q.term.val) ∧ W2.cell? ⟨b1,off + k * 6 + 4,none⟩=some qtv ∧ W2.cell? ⟨b1,off + k * 6 + 5,none⟩=some (.int .i64 q.term.n) ∧ W2.cell? ⟨gp,k,none⟩=some v):=hideI (fun W2 h2 => ⟨(G0.out _ (HGr.out _ h2).1).1,HXB.out _ h2⟩)
     obtain ⟨CA,cc,hqc',_⟩:=hqc
     obtain ⟨TA,tc,hqt',_⟩:=hqt
     obtain ⟨PA,pc2,hqp',hqp2⟩:=hqp
     have HQP:=hideI (show PhisR wr B qpv q.phis from ⟨PA,pc2,hqp',hqp2⟩)
     have HVI:=hideI hvi
     obtain ⟨VA,vc,hv',_⟩:=hvi
     subst hqc' hqt' hqp' hv'
     have hc:∀ W2,Below wr.heap.size wr W2 → Calls Tryz.prog 46 #[.agg #[.slice PA q.phis.length pc2,.slice CA q.code.length cc,.int .i64 q.term.op,.int .i64 q.term.val,.slice TA q.term.to.length tc,.int .i64 q.term.n],.slice VA (predsI f.blocks k).length vc] W2 fun e w' => e=.returned (.bool (q.phis.all fun p => justR p.fr (predsI f.blocks k))) ∧ Below W2.heap.size W2 w':=fun W2 h2 =>
      refPhis_any q (predsI f.blocks k) W2.heap.size _ _ _ _ _ _ _ W2 (PhisR.more' (HQP.out.keeps (Keeps.of_below (h2.mono hBr))) (Nat.le_trans hBr h2.size)) ((HVI.out.keeps (Keeps.of_below h2)).more h2.size) (Nat.le_refl _) (Nat.le_trans (predsI_len _ _) hn5) _ _ _ rfl _ _ _ rfl
     obtain ⟨z,hz⟩:∃ z:Bool,z=q.phis.all fun p => justR p.fr (predsI f.blocks k):=⟨_,rfl⟩
     have HZ:Hid (z=true ↔ phisR f k):=hideI (by
      rw [hz,show (q.phis.all fun p => justR p.fr (predsI f.blocks k))=phisFitR f.blocks k q from rfl,phisFitR_eq H0.out hq]
      exact ⟨fun e q' hq' => by rw [hq] at hq';cases hq';exact e,fun h => h q hq⟩)
     rw [← hz] at hc
     have HC:=hideI hc
     (obtain ⟨hx,d0,d1,d2,d3,d4,d5,d6⟩:=HS.out _ (Below.refl _ _));have q3:=hx 3
     clear hz hc hq hbx x0 x1 x2 x3 x4 x5 hv hqp2
     cases z
     ·have HBAD:Hid (¬ phisR f k):=hideI (fun h => Bool.noConfusion (HZ.out.2 h))
      go_wp2
      go_region_held3 (fun W2 => (∀ o,W2.cell? ⟨w.heap.size,o,none⟩=(#[.slice P f.params.length pc,.int .i64 f.arrays,.int .i64 f.cells,.slice (some ⟨b1,off,none⟩) f.blocks.length c]:Array Value)[o]?) ∧ W2.cell? ⟨b1,off + k * 6,none⟩=some (.slice PA q.phis.length pc2) ∧ W2.cell? ⟨b1,off + k * 6 + 1,none⟩=some (.slice CA q.code.length cc) ∧ W2.cell? ⟨b1,off + k * 6 + 2,none⟩=some (.int .i64 q.term.op) ∧ W2.cell? ⟨b1,off + k * 6 + 3,none⟩=some (.int .i64 q.term.val) ∧ W2.cell? ⟨b1,off + k * 6 + 4,none⟩=some (.slice TA q.term.to.length tc) ∧ W2.cell? ⟨b1,off + k * 6 + 5,none⟩=some (.int .i64 q.term.n) ∧ W2.cell? ⟨gp,k,none⟩=some (.slice VA (predsI f.blocks k).length vc)) (first | (with_reducible exact HS.out _ hfb4) | go_keep)
       (first
        | (go_at_call 46;(with_reducible refine (HC.out _ (drew1_below (Below.refl _ _))).mono ?_);rintro e w4 ⟨rfl,hb4⟩;have hfb4:=(drew1_below (Below.refl wr.heap.size wr)).trans hb4))
      go_wp2
      go_ret2
      exact ⟨_,_,rfl,.inr (.inl ⟨HALL.out,k,⟨HLT.out,HBAD.out,HPk.out⟩,rfl⟩),(G0.out _ (HGr.out _ hfb4).1).2.2.2.2⟩
     ·have HOK:Hid (phisR f k):=hideI (HZ.out.1 rfl)
      go_wp2
      go_region_held3 (fun W2 => (∀ o,W2.cell? ⟨w.heap.size,o,none⟩=(#[.slice P f.params.length pc,.int .i64 f.arrays,.int .i64 f.cells,.slice (some ⟨b1,off,none⟩) f.blocks.length c]:Array Value)[o]?) ∧ W2.cell? ⟨b1,off + k * 6,none⟩=some (.slice PA q.phis.length pc2) ∧ W2.cell? ⟨b1,off + k * 6 + 1,none⟩=some (.slice CA q.code.length cc) ∧ W2.cell? ⟨b1,off + k * 6 + 2,none⟩=some (.int .i64 q.term.op) ∧ W2.cell? ⟨b1,off + k * 6 + 3,none⟩=some (.int .i64 q.term.val) ∧ W2.cell? ⟨b1,off + k * 6 + 4,none⟩=some (.slice TA q.term.to.length tc) ∧ W2.cell? ⟨b1,off + k * 6 + 5,none⟩=some (.int .i64 q.term.n) ∧ W2.cell? ⟨gp,k,none⟩=some (.slice VA (predsI f.blocks k).length vc)) (first | (with_reducible exact HS.out _ hfb4) | go_keep)
       (first
        | (go_at_call 46;(with_reducible refine (HC.out _ (drew1_below (Below.refl _ _))).mono ?_);rintro e w4 ⟨rfl,hb4⟩;have hfb4:=(drew1_below (Below.refl wr.heap.size wr)).trans hb4))
      go_wp2
      go_roundw
      case rel => exact ⟨k + 1,by omega,by go_num,hideI (upto_succ HPk.out HOK.out),hideI (HGr.out _ hfb4).2⟩
      case measure => simp [intOf];omega
    ·have HPALL:Hid (∀ b,b < f.blocks.length → phisR f b):=hideI (fun b hb => HPk.out b (by omega))
     (obtain ⟨hx,_,_⟩:=G0.out _ HBWr.out);have q0:=hx 0;have q1:=hx 1;have q2:=hx 2;have q3:=hx 3;clear hx
     obtain ⟨rs,hrs⟩:∃ rs,rs=rowsTo f.blocks f.blocks.length:=⟨_,rfl⟩
     have HRS:=hideI hrs
     clear hrs
     go_wp2_with (first
      | (go_at_call 47;go_must (refine (refOver_any f.blocks o G B _ _ _ _ _ (G0.out _ HBWr.out).2.2.1 (G0.out _ HBWr.out).2.2.2.1 hn0 hn5 HIN.out HO.out HG.out).mono ?_);rintro e w5 ⟨gvv,rfl,hgr,hb5⟩;(obtain ⟨gv,gc,rfl,hgv⟩:=id hgr);have HGR:=hideI hgr;have HB5:Hid (Below W.heap.size W w5):=hideI (HBWr.out.trans (hb5.mono HBWr.out.size));clear hgr hb5 hgv q0 q1 q2 q3;(obtain ⟨hx,_,_⟩:=G0.out _ HB5.out);have q0:=hx 0;have q1:=hx 1;have q2:=hx 2;have q3:=hx 3;clear hx)
      | (go_at_call 15;go_must (refine (refUses5_any f.blocks B _ _ _ _ _ (G0.out _ HB5.out).2.2.1 (G0.out _ HB5.out).2.2.2.1 HFEW.out hn5 HFO.out HPH.out).mono ?_);rintro e w6 ⟨v6,rfl,hru,hb6⟩;rw [← HRS.out] at hru;(obtain ⟨A6,c6,rfl,hat⟩:=RU5.at hru);have HAT:=hideI hat;have hrl:rs.length ≤ 3000000:=(by rw [show rs.length=(f.blocks.flatMap usesBlock).length by rw [← hru.1,List.length_map]];exact HFEW.out);have HGR6:=hideI (HGR.out.kept hb6);have HB6:Hid (Below W.heap.size W w6):=hideI (HB5.out.trans (hb6.mono HB5.out.size));clear hru hat hb6 q0 q1 q2 q3))
     go_loopw [11] (fun u wr => ∃ i:Nat,i ≤ rs.length ∧ u=.int .i64 i ∧ Hid (∀ (j:Nat) (s:List Int),j < i → rs[j]?=some s → okRow f o s) ∧ Hid (Below w6.heap.size w6 wr)) (fun u _ => rs.length - (intOf u).toNat)
     case atStart => exact ⟨0,Nat.zero_le _,rfl,hideI (fun j s h => by omega),hideI (Below.refl _ _)⟩
     case round =>
      obtain ⟨i,hi,rfl,HRi,HBr6⟩:=hrel
      by_cases hlt:i < rs.length
      ·obtain ⟨r,hr⟩:∃ r,rs[i]?=some r:=⟨_,List.getElem?_eq_getElem hlt⟩
       have HR:=hideI hr
       have HB6r:Hid (Below W.heap.size W wr):=hideI (HB6.out.trans (HBr6.out.mono HB6.out.size))
       obtain ⟨g6,rfl,hg6,hcell⟩:=HAT.out i r hr
       have hri:=HROW.out r (by rw [← HRS.out];exact List.mem_of_getElem? hr)
       obtain ⟨hi64,mb,ma,hlast,hmb⟩:=hri.known
       obtain ⟨bn,hbn,hbl⟩:=hri.blk
       obtain ⟨fn,hfn,hfl⟩:=hri.frm
       have HOKR:Hid (okRow f o r ↔ if r.getD 3 0 < 0 then OverP f.blocks o mb fn else if mb=bn then ma < r.getD 3 0 else OverP f.blocks o mb bn):=hideI (by
        unfold okRow
        rw [hbn,hfn]
        simp only [Int.toNat_natCast]
        constructor
        ·intro h
         have h2:=h (mb,ma) hlast
         by_cases hc:mb=bn
         ·subst hc
          simpa using h2
         ·have hc2:¬ ((mb:Int)=(bn:Int)):=by omega
          simpa [hc,hc2] using h2
        ·intro h m hm
         rw [hlast] at hm
         cases hm
         by_cases hc:mb=bn
         ·subst hc
          simpa using h
         ·have hc2:¬ ((mb:Int)=(bn:Int)):=by omega
          simpa [hc,hc2] using h)
       have HFIRST:Hid ((placedM f).first (r.getD 0 0)=some (mb,ma)):=hideI (by rw [← HLF.out];exact hlast)
       have e0:=(HBr6.out.cell (p:=⟨g6,i * 5 + 0,none⟩) hg6).trans (hcell 0 (by decide))
       have e1:=(HBr6.out.cell (p:=⟨g6,i * 5 + 1,none⟩) hg6).trans (hcell 1 (by decide))
       have e2:=(HBr6.out.cell (p:=⟨g6,i * 5 + 2,none⟩) hg6).trans (hcell 2 (by decide))
       have e3:=(HBr6.out.cell (p:=⟨g6,i * 5 + 3,none⟩) hg6).trans (hcell 3 (by decide))
       have e4:=(HBr6.out.cell (p:=⟨g6,i * 5 + 4,none⟩) hg6).trans (hcell 4 (by decide))
       rw [hbn] at e2
       rw [hfn] at e4
       rw [Nat.add_zero] at e0
       obtain ⟨id,hid⟩:∃ id,id=r.getD 0 0:=⟨_,rfl⟩
       obtain ⟨ty,hty⟩:∃ ty,ty=r.getD 1 0:=⟨_,rfl⟩
       obtain ⟨a,ha⟩:∃ a,a=r.getD 3 0:=⟨_,rfl⟩
       rw [← hid] at e0 HFIRST
       rw [← hty] at e1
       rw [← ha] at e3 HOKR
       have HHB:Hid (r.getD 2 0=(bn:Int)):=hideI hbn
       obtain ⟨W7,hW7⟩:∃ W7:World,W7=wr.alloc (.cells #[.int .i64 id,.int .i64 ty,.int .i64 bn,.int .i64 a,.int .i64 fn] 39):=⟨_,rfl⟩
       have HW7:=hideI hW7
       have HB7:Hid (Below wr.heap.size wr W7):=by show Below _ _ _;rw [hW7];exact (Below.refl _ _).alloc (Nat.le_refl _) _
       have HX7:Hid (W7.heap[wr.heap.size]?=some (.cells #[.int .i64 id,.int .i64 ty,.int .i64 bn,.int .i64 a,.int .i64 fn] 39 (0,0))):=by show _=_;rw [hW7];exact heap_alloc_new wr _
       have hw7:=lt_of_heap HX7.out
       have HG7:Hid (∀ W2,Below W7.heap.size W7 W2 → Below W.heap.size W W2 ∧ Below w6.heap.size w6 W2):=hideI (fun W2 h2 => by
        have h3:=HB7.out.trans (h2.mono HB7.out.size)
        exact ⟨HB6r.out.trans (h3.mono HB6r.out.size),HBr6.out.trans (h3.mono HBr6.out.size)⟩)
       have HDEF:Hid (Calls Tryz.prog 48 #[.agg #[.slice P f.params.length pc,.int .i64 f.arrays,.int .i64 f.cells,.slice A f.blocks.length c],.int .i64 id] W7 fun e w' => e=.returned (.tuple #[.int .i64 (mb:Int),.int .i64 ma,.bool true]) ∧ Below W7.heap.size W7 w'):=hideI (by
        have hg:=G0.out _ (HG7.out _ (Below.refl _ _)).1
        refine (refDef_any f B _ _ id _ hg.2.1 hg.2.2.1 hg.2.2.2.1 HFEWV.out hn5).mono ?_
        rintro e w' ⟨⟨v,hv,rfl⟩ | ⟨hbad,_⟩,hb⟩
        ·rw [HFIRST.out] at hv
         cases hv
         exact ⟨rfl,hb⟩
        ·rw [HFIRST.out] at hbad
         cases hbad)
       have HGRD:Hid (∀ W2,Below W7.heap.size W7 W2 → ∃ ga,W2.cell? ⟨gv,mb,none⟩=some (.slice (some ⟨ga,0,none⟩) f.blocks.length f.blocks.length) ∧ W2.cell? ⟨ga,bn,none⟩=some (.bool (G mb bn)) ∧ W2.cell? ⟨ga,fn,none⟩=some (.bool (G mb fn))):=hideI (fun W2 h2 => by
        obtain ⟨gv2,c2,e,_,h4⟩:=HGR6.out.kept (HG7.out _ h2).2
        cases e
        obtain ⟨ga,_,h5,h6⟩:=h4 mb hmb
        exact ⟨ga,h5,h6 bn hbl,h6 fn hfl⟩)
       (obtain ⟨hx,_,_⟩:=G0.out _ HB6r.out);have q0:=hx 0;have q1:=hx 1;have q2:=hx 2;have q3:=hx 3;clear hx
       have hl0:w.heap.size < wr.heap.size:=by have:=HB6r.out.size;omega
       have hl6:g6 < wr.heap.size:=by have:=HBr6.out.size;omega
       clear hW7 hcell hi64 hlast hri hr hbn hfn hid hty ha
       by_cases hna:a < 0
       ·obtain ⟨z,hz⟩:∃ z:Bool,z=G mb fn:=⟨_,rfl⟩
        have HZ:Hid (z=true ↔ okRow f o r):=hideI (by rw [HOKR.out,if_pos hna,hz];exact HG.out mb fn)
        rw [← hz] at HGRD
        clear hz HOKR
        cases z
        ·have HBAD:Hid (¬ okRow f o r):=hideI (fun h => Bool.noConfusion (HZ.out.2 h))
         go_wp2_with (go_at_call 48;(go_must (rw [← HW7.out]));go_must (refine HDEF.out.mono ?_);rintro e w8 ⟨rfl,hb8⟩;(obtain ⟨ga,k1,k2,k3⟩:=HGRD.out _ hb8);(have hy:=row_cells HX7.out (hb8.block _ hw7));have y0:=hy 0;have y1:=hy 1;have y2:=hy 2;have y3:=hy 3;have y4:=hy 4;have HB8:=hideI hb8;clear hb8 hy q0 q1 q2 q3 e0 e1 e2 e3 e4)
         go_quiet (fail)
         go_wp2
         go_quiet (fail)
         go_wp2
         go_ret2
         obtain ⟨bx,hbx1,hbx2⟩:=rows_bad H0.out HALL.out (by rw [← HRS.out];exact HR.out) (fun j s hj hs => HRi.out j s hj (by rw [HRS.out];exact hs)) HBAD.out
         rw [HHB.out] at hbx2
         exact ⟨_,_,rfl,.inr (.inr (.inl ⟨HALL.out,HPALL.out,bx,hbx1,by rw [hbx2]⟩)),(G0.out _ (HG7.out _ (drew_below HB8.out _)).1).2.2.2.2⟩
        ·have HOK:Hid (okRow f o r):=hideI (HZ.out.1 rfl)
         go_wp2_with (go_at_call 48;(go_must (rw [← HW7.out]));go_must (refine HDEF.out.mono ?_);rintro e w8 ⟨rfl,hb8⟩;(obtain ⟨ga,k1,k2,k3⟩:=HGRD.out _ hb8);(have hy:=row_cells HX7.out (hb8.block _ hw7));have y0:=hy 0;have y1:=hy 1;have y2:=hy 2;have y3:=hy 3;have y4:=hy 4;have HB8:=hideI hb8;clear hb8 hy q0 q1 q2 q3 e0 e1 e2 e3 e4)
         go_quiet (fail)
         go_wp2
         go_quiet (fail)
         go_wp2
         go_roundw
         case rel =>
          refine ⟨i + 1,by omega,by go_num,hideI (fun j s hj hs => ?_),hideI (HG7.out _ (drew_below HB8.out _)).2⟩
          rcases Nat.lt_or_ge j i with h | h
          ·exact HRi.out j s h hs
          ·have:j=i:=by omega
           subst this
           rw [HR.out] at hs
           cases hs
           exact HOK.out
         case measure => simp [intOf];omega
       ·by_cases hmm:mb=bn
        ·subst hmm
         obtain ⟨z,hz⟩:∃ z:Bool,z=decide (ma < a):=⟨_,rfl⟩
         have HZ:Hid (z=true ↔ okRow f o r):=hideI (by rw [HOKR.out,if_neg hna,if_pos rfl,hz,decide_eq_true_iff])
         clear HOKR
         by_cases hlm:ma < a
         ·have HOK:Hid (okRow f o r):=hideI (HZ.out.1 (by rw [hz];exact decide_eq_true hlm))
          clear HZ hz
          go_wp2_with (go_at_call 48;(go_must (rw [← HW7.out]));go_must (refine HDEF.out.mono ?_);rintro e w8 ⟨rfl,hb8⟩;(obtain ⟨ga,k1,k2,k3⟩:=HGRD.out _ hb8);(have hy:=row_cells HX7.out (hb8.block _ hw7));have y0:=hy 0;have y1:=hy 1;have y2:=hy 2;have y3:=hy 3;have y4:=hy 4;have HB8:=hideI hb8;clear hb8 hy q0 q1 q2 q3 e0 e1 e2 e3 e4)
          go_quiet (fail)
          go_wp2
          go_roundw
          case rel =>
           refine ⟨i + 1,by omega,by go_num,hideI (fun j s hj hs => ?_),hideI (HG7.out _ (drew_below HB8.out _)).2⟩
           rcases Nat.lt_or_ge j i with h | h
           ·exact HRi.out j s h hs
           ·have:j=i:=by omega
            subst this
            rw [HR.out] at hs
            cases hs
            exact HOK.out
          case measure => simp [intOf];omega
         ·have HBAD:Hid (¬ okRow f o r):=hideI (fun h => by have:=HZ.out.2 h;rw [hz] at this;exact hlm (of_decide_eq_true this))
          have hnd:(!decide (ma < a))=true:=by rw [decide_eq_false hlm];rfl
          clear HZ hz
          go_wp2_with (go_at_call 48;(go_must (rw [← HW7.out]));go_must (refine HDEF.out.mono ?_);rintro e w8 ⟨rfl,hb8⟩;(obtain ⟨ga,k1,k2,k3⟩:=HGRD.out _ hb8);(have hy:=row_cells HX7.out (hb8.block _ hw7));have y0:=hy 0;have y1:=hy 1;have y2:=hy 2;have y3:=hy 3;have y4:=hy 4;have HB8:=hideI hb8;clear hb8 hy q0 q1 q2 q3 e0 e1 e2 e3 e4)
          go_quiet (fail)
          go_wp2
          go_ret2
          obtain ⟨bx,hbx1,hbx2⟩:=rows_bad H0.out HALL.out (by rw [← HRS.out];exact HR.out) (fun j s hj hs => HRi.out j s hj (by rw [HRS.out];exact hs)) HBAD.out
          rw [HHB.out] at hbx2
          exact ⟨_,_,rfl,.inr (.inr (.inl ⟨HALL.out,HPALL.out,bx,hbx1,by rw [hbx2]⟩)),(G0.out _ (HG7.out _ (drew_below HB8.out _)).1).2.2.2.2⟩
        ·obtain ⟨z,hz⟩:∃ z:Bool,z=G mb bn:=⟨_,rfl⟩
         have HZ:Hid (z=true ↔ okRow f o r):=hideI (by rw [HOKR.out,if_neg hna,if_neg hmm,hz];exact HG.out mb bn)
         have hmb2:((mb:Int) == (bn:Int))=false:=beq_eq_false_iff_ne.2 (by omega)
         rw [← hz] at HGRD
         clear hz HOKR hmm
         cases z
         ·have HBAD:Hid (¬ okRow f o r):=hideI (fun h => Bool.noConfusion (HZ.out.2 h))
          go_wp2_with (go_at_call 48;(go_must (rw [← HW7.out]));go_must (refine HDEF.out.mono ?_);rintro e w8 ⟨rfl,hb8⟩;(obtain ⟨ga,k1,k2,k3⟩:=HGRD.out _ hb8);(have hy:=row_cells HX7.out (hb8.block _ hw7));have y0:=hy 0;have y1:=hy 1;have y2:=hy 2;have y3:=hy 3;have y4:=hy 4;have HB8:=hideI hb8;clear hb8 hy q0 q1 q2 q3 e0 e1 e2 e3 e4)
          go_quiet (fail)
          go_wp2
          go_ret2
          obtain ⟨bx,hbx1,hbx2⟩:=rows_bad H0.out HALL.out (by rw [← HRS.out];exact HR.out) (fun j s hj hs => HRi.out j s hj (by rw [HRS.out];exact hs)) HBAD.out
          rw [HHB.out] at hbx2
          exact ⟨_,_,rfl,.inr (.inr (.inl ⟨HALL.out,HPALL.out,bx,hbx1,by rw [hbx2]⟩)),(G0.out _ (HG7.out _ (drew_below HB8.out _)).1).2.2.2.2⟩
         ·have HOK:Hid (okRow f o r):=hideI (HZ.out.1 rfl)
          go_wp2_with (go_at_call 48;(go_must (rw [← HW7.out]));go_must (refine HDEF.out.mono ?_);rintro e w8 ⟨rfl,hb8⟩;(obtain ⟨ga,k1,k2,k3⟩:=HGRD.out _ hb8);(have hy:=row_cells HX7.out (hb8.block _ hw7));have y0:=hy 0;have y1:=hy 1;have y2:=hy 2;have y3:=hy 3;have y4:=hy 4;have HB8:=hideI hb8;clear hb8 hy q0 q1 q2 q3 e0 e1 e2 e3 e4)
          go_quiet (fail)
          go_wp2
          go_roundw
          case rel =>
           refine ⟨i + 1,by omega,by go_num,hideI (fun j s hj hs => ?_),hideI (HG7.out _ (drew_below HB8.out _)).2⟩
           rcases Nat.lt_or_ge j i with h | h
           ·exact HRi.out j s h hs
           ·have:j=i:=by omega
            subst this
            rw [HR.out] at hs
            cases hs
            exact HOK.out
          case measure => simp [intOf];omega
      ·have HEND:Hid (∀ b,b < f.blocks.length → usesPR f o b):=hideI (rows_good H0.out HALL.out (fun s hs => by
        rw [← HRS.out] at hs
        obtain ⟨j,hj⟩:=List.getElem?_of_mem hs
        exact HRi.out j s (by have:=(List.getElem?_eq_some_iff.1 hj).1;omega) hj))
       have HBe:=hideI (G0.out _ (HB6.out.trans (HBr6.out.mono HB6.out.size))).2.2.2.2
       go_wp2
       go_ret2
       exact ⟨_,_,rfl,.inr (.inr (.inr ⟨HALL.out,HPALL.out,HEND.out,rfl⟩)),HBe.out⟩
end Go.Proofs.YtaehbgppfahdeaaGreat

namespace Go.Proofs.YtaehbgppfahdeaaGreat
open Go.RowKit Go.Maps
end Go.Proofs.YtaehbgppfahdeaaGreat

namespace Go.Proofs.YtaehbgppfahdeaaGreat
open Go.RowKit
theorem visit_exists {succ:Nat → List Nat} {n:Nat} (hs:∀ b,∀ t ∈ succ b,t < n):∀ (k:Nat) (l bg dn:List Nat),bg.Nodup → (∀ x ∈ bg,x < n) → (∀ x ∈ l,x < n) → n ≤ bg.length + k → ∃ bg' dn',Visit succ l (bg,dn) (bg',dn'):=by
 intro k
 induction k with
 | zero =>
  intro l
  induction l with
  | nil => exact fun bg dn _ _ _ _ => ⟨bg,dn,.nil _⟩
  | cons t r ih =>
   intro bg dn h1 h2 h3 h4
   by_cases ht:t ∈ bg
   ·obtain ⟨b,d,v⟩:=ih bg dn h1 h2 (fun x hx => h3 x (List.mem_cons_of_mem _ hx)) h4
    exact ⟨b,d,.skip ht v⟩
   ·have:=below_len n (t :: bg) (List.nodup_cons.2 ⟨ht,h1⟩) (fun x hx => by rcases List.mem_cons.1 hx with rfl | hx;exact h3 _ (List.mem_cons_self ..);exact h2 x hx)
    rw [List.length_cons] at this
    omega
 | succ k ihk =>
  intro l
  induction l with
  | nil => exact fun bg dn _ _ _ _ => ⟨bg,dn,.nil _⟩
  | cons t r ih =>
   intro bg dn h1 h2 h3 h4
   by_cases ht:t ∈ bg
   ·obtain ⟨b,d,v⟩:=ih bg dn h1 h2 (fun x hx => h3 x (List.mem_cons_of_mem _ hx)) h4
    exact ⟨b,d,.skip ht v⟩
   ·have hb:∀ x ∈ t :: bg,x < n:=fun x hx => by rcases List.mem_cons.1 hx with rfl | hx;exact h3 _ (List.mem_cons_self ..);exact h2 x hx
    obtain ⟨b1,d1,v1⟩:=ihk (succ t) (t :: bg) dn (List.nodup_cons.2 ⟨ht,h1⟩) hb (hs t) (by rw [List.length_cons];omega)
    obtain ⟨new,d⟩:=v1.did
    have hnew:∀ x ∈ new,x < n:=fun x hx => by
     obtain ⟨i,hi⟩:=List.getElem?_of_mem hx
     rcases d.from_ i x hi with h | ⟨_,y,_,_,h⟩
     ·exact hs t x h
     ·exact hs y x h
    have hlen:=d.len
    simp only [List.length_cons] at hlen
    obtain ⟨b2,d2,v2⟩:=ih b1 (d1 ++ [t]) (d.keepsNodup (List.nodup_cons.2 ⟨ht,h1⟩)) (fun x hx => by
     rcases (d.begun x).1 hx with h | h
     ·exact hb x h
     ·exact hnew x h) (fun x hx => h3 x (List.mem_cons_of_mem _ hx)) (by omega)
    exact ⟨b2,d2,.go ht v1 v2⟩
theorem order_exists {f:FuncM} (h0:(lookM f).1=0):∃ o,OrderIs f.blocks o:=by
 have hin:=look_ends h0
 have hnb:=(look_some_block h0).1
 have hs:∀ b,∀ t ∈ succM f.blocks b,t < f.blocks.length:=fun b t ht => by
  unfold succM at ht
  split at ht
  ·rename_i q hq
   obtain ⟨x,hx,rfl⟩:=List.mem_map.1 ht
   have:=hin q (List.mem_of_getElem? hq) x hx
   omega
  ·cases ht
 obtain ⟨bg,dn,v⟩:=visit_exists hs f.blocks.length (succM f.blocks 0) [0] [] (by simp) (fun x hx => by simp at hx;omega) (hs 0) (by omega)
 exact ⟨_,bg,dn,v,rfl⟩
end Go.Proofs.YtaehbgppfahdeaaGreat

namespace Go.Proofs.YtaehbgppfahdeaaGreat
open Go.RowKit
end Go.Proofs.YtaehbgppfahdeaaGreat

namespace Go.Proofs.YtaehbgppfahdeaaGreat
open Go.RowKit
def RReplOk (f:FuncM) (old now:Int) (w:World) (e:Ending) (w':World):Prop :=
 ∃ (V:Vals) (P:Option Addr) (pc:Nat) (A:Option Addr) (c:Nat),e=.returned (.tuple #[.agg #[.slice P f.params.length pc,.int .i64 f.arrays,.int .i64 f.cells,.slice A f.blocks.length c],.int .i64 0]) ∧ V .params=.slice P f.params.length pc ∧ V .blocks=.slice A f.blocks.length c ∧ OwnG w' w.heap.size (rowOf (mapF (toM [(old,now)]) f) V) V (EE f f.blocks.length) ∧ Below w.heap.size w w'
end Go.Proofs.YtaehbgppfahdeaaGreat
