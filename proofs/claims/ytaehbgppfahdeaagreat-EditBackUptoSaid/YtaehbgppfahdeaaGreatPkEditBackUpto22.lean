/- What EditBackUpto rests on, part 22: RRepE, TypeOf, EReplaced, EReplace, EBackM, EMapR, EReplM, RefIs5, BulkG. -/
import Derived.Test.YtaehbgppfahdeaaGreatPkEditBackUpto21

namespace Go.Proofs.YtaehbgppfahdeaaGreat
open Go.RowKit
def RErr (y:Int) (w:World) (e:Ending) (w':World):Prop :=
 e=.returned (.tuple #[.agg #[.slice none 0 0,.int .i64 0,.int .i64 0,.slice none 0 0],.int .i64 y]) ∧ Below w.heap.size w w'
end Go.Proofs.YtaehbgppfahdeaaGreat

namespace Go.Proofs.YtaehbgppfahdeaaGreat
open Go.RowKit Go.Maps
set_option maxHeartbeats 1000000 in
theorem typeOf_any (f:FuncM) (B:Nat) (pv bv:Value) (id:Int) (w:World) (hpv:Ints w B pv f.params) (hbv:BlocksR w B bv f.blocks) (hB:B ≤ w.heap.size) (hid:∀ u ∈ usesM f,I64 u.1) (hi:I64 id) :
  Calls Tryz.prog 28 #[.agg #[pv,.int .i64 f.arrays,.int .i64 f.cells,bv],.int .i64 id] w fun e w' => e=.returned (.tuple #[.int .i64 (typeOut f id).1,.int .i64 (typeOut f id).2]) ∧ Below w.heap.size w w':=by
 have HP:=hideI hpv
 have HB:=hideI hbv
 have HID:=hideI hid
 have HI:=hideI hi
 obtain ⟨P,pc,rfl,_⟩:=hpv
 obtain ⟨A,c,rfl,_⟩:=hbv
 have hk:Keeps B w (w.alloc (.cells #[.slice P f.params.length pc,.int .i64 f.arrays,.int .i64 f.cells,.slice A f.blocks.length c] 25)):=(Keeps.refl w).alloc hB _
 have HL:=hideI (lookAt_any f B _ _ _ (HP.out.keeps hk) (HB.out.keeps hk) (by simp;omega) HID.out)
 clear hid hk hi
 go_enter Tryz.func28,Tryz.ntmps28
 go_wp2_with fail
 refine HL.out.mono ?_
 rintro e w1 ⟨hb1,h | h⟩
 ·obtain ⟨h0,M,hM,rfl,hm⟩:=h
  have H0:=hideI h0
  have HB1:=hideI (below_one (hb1.mono (by simp)))
  obtain ⟨D,hown,hD,hwd,hat⟩:=hm
  have hh:=MapIs.has hat id
  have ha:=hat id (.lit (.int .i64 0))
  have HA:=hideI ha
  clear hb1 h0 ha hwd hat
  cases hd:(lookM f).2.at id with
  | none =>
   rw [hd] at hh
   have HD:=hideI hd
   clear hd
   go_wp2_with (at_lookup;refine wpList_lookup_own_ok_int _ rfl _ _ 127 rfl 3 3 .i64 lawInt Tryz.underlying127 Tryz.underlying3 (zeroInt _) M _ D rfl (hown.alloc _) _ _ rfl (keyOf_int_mk Tryz.underlying3 HI.out) ?_;intro c1 hat1 hwc1)
   go_ret2
   exact ⟨by rw [typeOut_none H0.out HD.out];rfl,HB1.out.alloc HB1.out.size _⟩
  | some t =>
   rw [hd] at hh
   have HD:=hideI hd
   rw [hd] at HA
   clear hd
   go_wp2_with (at_lookup;refine wpList_lookup_own_ok_int _ rfl _ _ 127 rfl 3 3 .i64 lawInt Tryz.underlying127 Tryz.underlying3 (zeroInt _) M _ D rfl (hown.alloc _) _ _ rfl (keyOf_int_mk Tryz.underlying3 HI.out) ?_;intro c1 hat1 hwc1;rw [HA.out] at hat1;injection hat1 with hat1;injection hat1 with _ hat1;subst hat1)
   go_ret2
   exact ⟨by rw [typeOut_some H0.out HD.out];rfl,HB1.out.alloc HB1.out.size _⟩
 ·obtain ⟨h0,rfl⟩:=h
  have HB1:=hideI (below_one (hb1.mono (by simp)))
  have hb:((lookM f).1 != 0)=true:=by simpa using h0
  have H0:=hideI h0
  clear hb1 h0
  go_wp2
  go_ret2
  exact ⟨by rw [typeOut_err H0.out];rfl,HB1.out.alloc HB1.out.size _⟩
end Go.Proofs.YtaehbgppfahdeaaGreat

namespace Go.Proofs.YtaehbgppfahdeaaGreat
open Go.RowKit Go.Maps
set_option maxRecDepth 100000 in
set_option maxHeartbeats 2000000 in
theorem changeUses_any (f:FuncM) (val:Vals) (base qo qn g n cap:Nat) (old now:Int) (w:World) (hown:OwnG w base (rowOf f val) val (EE f f.blocks.length)) (hv:val .blocks=.slice (some ⟨g,0,none⟩) n cap) (hn:n=f.blocks.length) (h1:w.cell? ⟨qo,0,none⟩=some (.int .i64 old)) (h2:w.cell? ⟨qn,0,none⟩=some (.int .i64 now)) (hq:qo < w.heap.size ∧ qn < w.heap.size) (hfar:∀ t,EE f f.blocks.length t → (val t).ownBlock ≠ some qo ∧ (val t).ownBlock ≠ some qn) (hbase:base ≤ w.heap.size) (hs:SmallF f) (hn5:n ≤ 512) (hfr:∀ b ∈ f.blocks,∀ p ∈ b.phis,p.vals.length ≤ p.fr.length) :
  Calls Tryz.prog 65 #[.slice (some ⟨g,0,none⟩) n cap,.func (.func 66) #[] #[.pointer (some ⟨qo,0,none⟩),.pointer (some ⟨qn,0,none⟩)]] w fun e w' => e=.returned (.tuple #[]) ∧ OwnG w' base (rowOf (mapF (replM old now) f) val) val (EE f f.blocks.length) ∧ Below base w w' ∧ FarK val (EE f f.blocks.length) w w':=by
 obtain ⟨W,hW⟩:∃ W:World,W=w.alloc (.cells #[.func (.func 66) #[] #[.pointer (some ⟨qo,0,none⟩),.pointer (some ⟨qn,0,none⟩)]] 134):=⟨_,rfl⟩
 have hbW:Below w.heap.size w W:=by rw [hW];exact (Below.refl _ w).alloc (Nat.le_refl _) _
 have hx:W.heap[w.heap.size]?=some (.cells #[.func (.func 66) #[] #[.pointer (some ⟨qo,0,none⟩),.pointer (some ⟨qn,0,none⟩)]] 134 (0,0)):=by
  rw [hW]
  exact heap_alloc_new w _
 have hr:ReplAt W w.heap.size qo qn old now:=⟨row_cells hx rfl 0,(hbW.cell (p:=⟨qo,0,none⟩) hq.1).trans h1,(hbW.cell (p:=⟨qn,0,none⟩) hq.2).trans h2⟩
 have hwW:=lt_of_heap hx
 have HEU:=hideI (eachUse_any f val base w.heap.size qo qn g n cap old now W (hown.below hbW) hv hn hr ⟨hwW,by omega,by omega⟩ (fun t ht => ⟨fun e => by have:=(hown.lt ht e).2;omega,(hfar t ht).1,(hfar t ht).2⟩) (Nat.le_trans hbase hbW.size) hs hn5 hfr)
 have HBW:=hideI hbW
 have HW0:=hideI hW
 clear hown hv hn h1 h2 hfar hs hr hx hW hbW hfr
 go_enter Tryz.func65,Tryz.ntmps65
 go_upto_region 1 with fail
 rw [← HW0.out]
 go_wp2_with (go_at_call 114;go_must (refine HEU.out.mono ?_);rintro e w1 ⟨rfl,ho,hb,hfk⟩;have HO:=hideI ho;have HB:=hideI hb;have HFK:=hideI hfk;clear ho hb hfk)
 go_end0
 exact ⟨rfl,HO.out,(HBW.out.mono hbase).trans HB.out,⟨HFK.out.os.trans HBW.out.os,HFK.out.tape.trans HBW.out.tape,HFK.out.output.trans HBW.out.output,Nat.le_trans HBW.out.size HFK.out.size,fun b hl hn => (HFK.out.block b (Nat.lt_of_lt_of_le hl HBW.out.size) hn).trans (HBW.out.block b hl)⟩⟩
def ReplPost (f:FuncM) (h:Int → Int) (w:World) (e:Ending) (w':World):Prop :=
 ∃ (v1:Vals) (base:Nat) (P:Option Addr) (pc:Nat) (A:Option Addr) (c:Nat),e=.returned (.agg #[.slice P f.params.length pc,.int .i64 f.arrays,.int .i64 f.cells,.slice A f.blocks.length c]) ∧ v1 .params=.slice P f.params.length pc ∧ v1 .blocks=.slice A f.blocks.length c ∧ OwnG w' base (rowOf (mapF h f) v1) v1 (EE f f.blocks.length) ∧ w.heap.size ≤ base ∧ Below w.heap.size w w'
set_option maxRecDepth 100000 in
set_option maxHeartbeats 4000000 in
theorem replaced_any (f:FuncM) (B:Nat) (pv bv:Value) (old now:Int) (w:World) (hpv:Ints w B pv f.params) (hbv:BlocksR w B bv f.blocks) (hB:B ≤ w.heap.size) (h0:(lookM f).1=0) :
  Calls Tryz.prog 29 #[.agg #[pv,.int .i64 f.arrays,.int .i64 f.cells,bv],.int .i64 old,.int .i64 now] w (ReplPost f (replM old now) w):=by
 have HP:=hideI hpv
 have HBL:=hideI hbv
 obtain ⟨P,pc,rfl,_⟩:=hpv
 obtain ⟨A,c,rfl,_⟩:=hbv
 obtain ⟨W,hW⟩:∃ W:World,W=(((w.alloc (.cells #[.slice P f.params.length pc,.int .i64 f.arrays,.int .i64 f.cells,.slice A f.blocks.length c] 25)).alloc (.cells #[.int .i64 old] 3)).alloc (.cells #[.int .i64 now] 3)).alloc (.cells #[.slice none 0 0,.int .i64 0,.int .i64 0,.slice none 0 0] 25):=⟨_,rfl⟩
 have hsz:W.heap.size=w.heap.size + 4:=by rw [hW];simp
 have HB0:Hid (Below w.heap.size w W):=by show Below _ _ _;rw [hW];exact ((((Below.refl _ w).alloc (Nat.le_refl _) _).alloc (by simp) _).alloc (by simp;omega) _).alloc (by simp;omega) _
 have hx0:W.heap[w.heap.size]?=some (.cells #[.slice P f.params.length pc,.int .i64 f.arrays,.int .i64 f.cells,.slice A f.blocks.length c] 25 (0,0)):=by
  rw [hW,Below.heap_alloc _ _ _ (by simp;omega),Below.heap_alloc _ _ _ (by simp;omega),Below.heap_alloc _ _ _ (by simp)]
  exact heap_alloc_new w _
 have hx1:W.heap[w.heap.size + 1]?=some (.cells #[.int .i64 old] 3 (0,0)):=by
  rw [hW,Below.heap_alloc _ _ _ (by simp),Below.heap_alloc _ _ _ (by simp)]
  have:=heap_alloc_new (w.alloc (.cells #[.slice P f.params.length pc,.int .i64 f.arrays,.int .i64 f.cells,.slice A f.blocks.length c] 25)) (.cells #[.int .i64 old] 3)
  simpa using this
 have hx2:W.heap[w.heap.size + 2]?=some (.cells #[.int .i64 now] 3 (0,0)):=by
  rw [hW,Below.heap_alloc _ _ _ (by simp)]
  have:=heap_alloc_new ((w.alloc (.cells #[.slice P f.params.length pc,.int .i64 f.arrays,.int .i64 f.cells,.slice A f.blocks.length c] 25)).alloc (.cells #[.int .i64 old] 3)) (.cells #[.int .i64 now] 3)
  simpa using this
 have hx3:W.heap[w.heap.size + 3]?=some (.cells #[.slice none 0 0,.int .i64 0,.int .i64 0,.slice none 0 0] 25 (0,0)):=by
  rw [hW]
  have:=heap_alloc_new (((w.alloc (.cells #[.slice P f.params.length pc,.int .i64 f.arrays,.int .i64 f.cells,.slice A f.blocks.length c] 25)).alloc (.cells #[.int .i64 old] 3)).alloc (.cells #[.int .i64 now] 3)) (.cells #[.slice none 0 0,.int .i64 0,.int .i64 0,.slice none 0 0] 25)
  simpa using this
 have HX1:=hideI hx1
 have HX2:=hideI hx2
 have HX3:=hideI hx3
 have hk:Keeps B w W:=Keeps.of_below (HB0.out.mono hB)
 have HFR:=hideI (fresh_any f B _ _ W (HP.out.keeps hk) (HBL.out.keeps hk) (by omega) h0)
 have HSM:=hideI (look_small h0)
 have HFR2:Hid (∀ b ∈ f.blocks,∀ p ∈ b.phis,p.vals.length ≤ p.fr.length):=hideI fun b hb p hp => by
  have h:=((formed_all (look_formed h0)).1 b hb).1 p hp
  unfold phiB at h
  simp only [Bool.and_eq_true,beq_iff_eq] at h
  exact Nat.le_of_eq h.2.1
 have HNB:=hideI (look_some_block h0)
 have HW0:=hideI hW
 have hqs:=row_cells hx0 rfl
 have q0:=hqs 0
 have q1:=hqs 1
 have q2:=hqs 2
 have q3:=hqs 3
 clear hqs hx0 hx1 hx2 hx3 hW hk h0
 go_enter Tryz.func29,Tryz.ntmps29
 go_upto_region 1 with fail
 rw [← HW0.out]
 go_upto_region 2 with (go_at_call 64;go_must (refine HFR.out.mono ?_);rintro e w1 ⟨v1,rfl,ho,hb⟩;(obtain ⟨P1,pc1,hp1⟩:=own_slice (ho.rows .params _ (.inl rfl) rfl));(obtain ⟨g1,c1,hg1,_⟩:=ho.slice (tp:=.blocks) (.inr (.inl rfl)) rfl (by have:=HNB.out.1;exact this));have hp2:v1 .params=.slice P1 f.params.length pc1:=hp1;rw [hp2,hg1];have HP1:=hideI hp2;have HG1:=hideI hg1;have HO1:=hideI ho;have HB1:=hideI hb;clear ho hb hp1 hp2 hg1 q0 q1 q2 q3)
 obtain ⟨w2,hw2⟩:∃ w2:World,w2=w1.alloc (.cells #[.slice P1 f.params.length pc1,.int .i64 f.arrays,.int .i64 f.cells,.slice (some ⟨g1,0,none⟩) f.blocks.length c1] 25):=⟨_,rfl⟩
 rw [← hw2]
 have hb2:Below w1.heap.size w1 w2:=by rw [hw2];exact (Below.refl _ w1).alloc (Nat.le_refl _) _
 have hx4:w2.heap[w1.heap.size]?=some (.cells #[.slice P1 f.params.length pc1,.int .i64 f.arrays,.int .i64 f.cells,.slice (some ⟨g1,0,none⟩) f.blocks.length c1] 25 (0,0)):=by
  rw [hw2]
  exact heap_alloc_new w1 _
 have HX4:=hideI hx4
 have HB2:Hid (Below W.heap.size W w2):=HB1.out.trans (hb2.mono HB1.out.size)
 have HO2:=hideI (HO1.out.below hb2)
 have hbl:=HO1.out.lt (t:=.blocks) (.inr (.inl rfl)) (by rw [HG1.out];rfl)
 have HLT:Hid (∀ t,EE f f.blocks.length t → ∀ g0,(v1 t).ownBlock=some g0 → w.heap.size + 6 ≤ g0 ∧ g0 < w1.heap.size):=hideI fun t ht g0 e => by
  have:=HO1.out.lt ht e
  omega
 have HCU:=hideI (changeUses_any f v1 (W.heap.size + 2) (w.heap.size + 1) (w.heap.size + 1 + 1) g1 f.blocks.length c1 old now w2 HO2.out HG1.out rfl
  (row_cells ((HB2.out.block _ (by omega)).trans HX1.out) rfl 0) (row_cells ((HB2.out.block (w.heap.size + 2) (by omega)).trans HX2.out) rfl 0) (by have:=HB2.out.size;omega)
  (fun t ht => ⟨fun e => by have:=(HLT.out t ht _ e).1;omega,fun e => by have:=(HLT.out t ht _ e).1;omega⟩) (by have:=hb2.size;omega) HSM.out HNB.out.2 HFR2.out)
 have hqs:=row_cells hx4 rfl
 have q3:=hqs 3
 clear hqs hx4 hw2 hb2
 go_wp2_with (go_at_call 65;go_must (refine HCU.out.mono ?_);rintro e w3 ⟨rfl,ho,hb,hfk⟩;have HO3:=hideI ho;have HB3:=hideI hb;have hfar4:w3.heap[w1.heap.size]?=_:=(hfk.block _ (lt_of_heap HX4.out) (fun t ht e => (by have:=(HLT.out t ht _ e).2;omega))).trans HX4.out;have hqs:=row_cells hfar4 rfl;have q0:=hqs 0;have q1:=hqs 1;have q2:=hqs 2;clear q3;have q3:=hqs 3;have hx3:=(hb.block (w.heap.size + 3) (by omega)).trans ((HB2.out.block (w.heap.size + 3) (by omega)).trans HX3.out);have hx3':w3.heap[w.heap.size + 1 + 1 + 1]?=_:=hx3;have hns:=row_cells hx3' rfl;have n0:=hns 0;have n1:=hns 1;have n2:=hns 2;have n3:=hns 3;have fr:=free_rowN hx3' rfl;have f0:=fr 0;have f1:=fr 1;have f2:=fr 2;have f3:=fr 3;clear hqs hns fr hx3 hx3' hfar4 ho hb hfk)
 have hno:∀ t,EE f f.blocks.length t → (v1 t).ownBlock ≠ some (w.heap.size + 1 + 1 + 1):=fun t ht e => by
  have:=(HLT.out t ht _ e).1
  omega
 refine bodyPost_ret (v:=.agg #[.slice P1 f.params.length pc1,.int .i64 f.arrays,.int .i64 f.cells,.slice (some ⟨g1,0,none⟩) f.blocks.length c1]) (by simp [results,Tryz.results29,go_sem,n0,n1,n2,n3]) rfl ⟨v1,W.heap.size + 2,P1,pc1,_,c1,rfl,HP1.out,HG1.out,?_,by omega,?_⟩
 ·exact (((OwnG.other HO3.out hno).other hno).other hno).other hno
 ·have hb:Below w.heap.size w w3:=HB0.out.trans ((HB2.out.mono HB0.out.size).trans (HB3.out.mono (by omega)))
  exact (((hb.setCell (by simp;omega) _).setCell (by simp;omega) _).setCell (by simp;omega) _).setCell (by simp;omega) _
end Go.Proofs.YtaehbgppfahdeaaGreat

namespace Go.Proofs.YtaehbgppfahdeaaGreat
open Go.RowKit Go.Maps
def replErr (f:FuncM) (old now:Int):Int :=
 if (typeOut f old).2 ≠ 0 then (typeOut f old).2 else if (typeOut f now).2 ≠ 0 then (typeOut f now).2 else if (typeOut f old).1 ≠ (typeOut f now).1 then 3 else 0
def zeroFE:Value:=.agg #[.slice none 0 0,.int .i64 0,.int .i64 0,.slice none 0 0]
def EReplPost (f:FuncM) (old now:Int) (w:World) (e:Ending) (w':World):Prop :=
 (∃ x y:Int,CheckIs f (x,y) ∧ y ≠ 0 ∧ e=.returned (.tuple #[zeroFE,.int .i64 y]) ∧ Below w.heap.size w w') ∨
 ((∃ o,StrictM f o) ∧ replErr f old now ≠ 0 ∧ e=.returned (.tuple #[zeroFE,.int .i64 (replErr f old now)]) ∧ Below w.heap.size w w') ∨
 ((∃ o,StrictM f o) ∧ replErr f old now=0 ∧ ∃ (v1:Vals) (base:Nat) (P:Option Addr) (pc:Nat) (A:Option Addr) (c:Nat),e=.returned (.tuple #[.agg #[.slice P f.params.length pc,.int .i64 f.arrays,.int .i64 f.cells,.slice A f.blocks.length c],.int .i64 0]) ∧ v1 .params=.slice P f.params.length pc ∧ v1 .blocks=.slice A f.blocks.length c ∧ OwnG w' base (rowOf (mapF (replM old now) f) v1) v1 (EE f f.blocks.length) ∧ w.heap.size ≤ base ∧ Below w.heap.size w w')
set_option maxRecDepth 100000 in
set_option maxHeartbeats 4000000 in
theorem eReplace_any (f:FuncM) (B:Nat) (pv bv:Value) (old now:Int) (w:World) (hpv:Ints w B pv f.params) (hbv:BlocksR w B bv f.blocks) (hB:B ≤ w.heap.size) (hid:∀ u ∈ usesM f,I64 u.1) (ho:I64 old) (hn:I64 now) :
  Calls Tryz.prog 9 #[.agg #[pv,.int .i64 f.arrays,.int .i64 f.cells,bv],.int .i64 old,.int .i64 now] w (EReplPost f old now w):=by
 have HP:=hideI hpv
 have HBL:=hideI hbv
 obtain ⟨P,pc,rfl,_⟩:=hpv
 obtain ⟨A,c,rfl,_⟩:=hbv
 obtain ⟨W,hW⟩:∃ W:World,W=(w.alloc (.cells #[.slice P f.params.length pc,.int .i64 f.arrays,.int .i64 f.cells,.slice A f.blocks.length c] 25)).alloc (.cells #[.slice none 0 0,.int .i64 0,.int .i64 0,.slice none 0 0] 25):=⟨_,rfl⟩
 have HB0:Hid (Below w.heap.size w W):=by show Below _ _ _;rw [hW];exact ((Below.refl _ w).alloc (Nat.le_refl _) _).alloc (by simp) _
 have hx1:W.heap[w.heap.size]?=some (.cells #[.slice P f.params.length pc,.int .i64 f.arrays,.int .i64 f.cells,.slice A f.blocks.length c] 25 (0,0)):=by
  rw [hW,Below.heap_alloc _ _ _ (by simp)]
  exact heap_alloc_new w _
 have hx2:W.heap[w.heap.size + 1]?=some (.cells #[.slice none 0 0,.int .i64 0,.int .i64 0,.slice none 0 0] 25 (0,0)):=by
  rw [hW]
  have:=heap_alloc_new (w.alloc (.cells #[.slice P f.params.length pc,.int .i64 f.arrays,.int .i64 f.cells,.slice A f.blocks.length c] 25)) (.cells #[.slice none 0 0,.int .i64 0,.int .i64 0,.slice none 0 0] 25)
  simpa using this
 have hwW:w.heap.size + 1 < W.heap.size:=lt_of_heap hx2
 have hBW:B ≤ W.heap.size:=Nat.le_trans hB HB0.out.size
 have HG:Hid (∀ W',Below W.heap.size W W' → (Ints W' B (.slice P f.params.length pc) f.params ∧ BlocksR W' B (.slice A f.blocks.length c) f.blocks ∧ B ≤ W'.heap.size) ∧
   (∀ r u,[Value.slice P f.params.length pc,.int .i64 f.arrays,.int .i64 f.cells,.slice A f.blocks.length c][r]?=some u → W'.cell? ⟨w.heap.size,r,none⟩=some u) ∧
   (∀ r u,[Value.slice none 0 0,.int .i64 0,.int .i64 0,.slice none 0 0][r]?=some u → W'.cell? ⟨w.heap.size + 1,r,none⟩=some u) ∧ ∀ r,W'.frozen? ⟨w.heap.size + 1,r,none⟩=false):=hideI fun W' hW' => by
  have hk:Keeps B w W':=Keeps.of_below ((HB0.out.trans (hW'.mono HB0.out.size)).mono hB)
  have h1:=row_cells ((hW'.block _ (by omega)).trans hx1) rfl
  have h2:=(hW'.block _ hwW).trans hx2
  refine ⟨⟨HP.out.keeps hk,HBL.out.keeps hk,Nat.le_trans hBW hW'.size⟩,fun r u hu => (h1 r).trans ?_,fun r u hu => (row_cells h2 rfl r).trans ?_,free_rowN h2 rfl⟩
  ·simpa using hu
  ·simpa using hu
 have HID:=hideI hid
 have HW0:=hideI hW
 have HO:=hideI ho
 have HNW:=hideI hn
 obtain ⟨g1,g2,_⟩:=HG.out W (Below.refl _ _)
 have q0:=g2 0 _ rfl
 have q1:=g2 1 _ rfl
 have q2:=g2 2 _ rfl
 have q3:=g2 3 _ rfl
 have HSC:=hideI (sCheck_any f B _ _ W g1.1 g1.2.1 g1.2.2 hid)
 clear hid hW hx1 hx2 g1 g2 ho hn
 by_cases hst:∃ o,StrictM f o
 ·obtain ⟨o0,hst⟩:=hst
  have HST:=hideI hst
  clear hst
  have hi6:∀ a,I64 (typeOut f a).2 ∨ True:=fun _ => .inr trivial
  clear hi6
  obtain ⟨t1,ht1⟩:∃ t1,t1=(typeOut f old).1:=⟨_,rfl⟩
  obtain ⟨e1,he1⟩:∃ e1,e1=(typeOut f old).2:=⟨_,rfl⟩
  obtain ⟨t2,ht2⟩:∃ t2,t2=(typeOut f now).1:=⟨_,rfl⟩
  obtain ⟨e2,he2⟩:∃ e2,e2=(typeOut f now).2:=⟨_,rfl⟩
  have HRE:Hid (replErr f old now=if e1 ≠ 0 then e1 else if e2 ≠ 0 then e2 else if t1 ≠ t2 then 3 else 0):=hideI (by unfold replErr;rw [ht1,he1,ht2,he2])
  have HTT1:Hid (∀ w',B ≤ w'.heap.size → Ints w' B (.slice P f.params.length pc) f.params → BlocksR w' B (.slice A f.blocks.length c) f.blocks → Calls Tryz.prog 28 #[.agg #[.slice P f.params.length pc,.int .i64 f.arrays,.int .i64 f.cells,.slice A f.blocks.length c],.int .i64 old] w' fun e w2 => e=.returned (.tuple #[.int .i64 t1,.int .i64 e1]) ∧ Below w'.heap.size w' w2):=hideI fun w' h1 h2 h3 => by
   rw [ht1,he1]
   exact typeOf_any f B _ _ old w' h2 h3 h1 HID.out HO.out
  have HTT2:Hid (∀ w',B ≤ w'.heap.size → Ints w' B (.slice P f.params.length pc) f.params → BlocksR w' B (.slice A f.blocks.length c) f.blocks → Calls Tryz.prog 28 #[.agg #[.slice P f.params.length pc,.int .i64 f.arrays,.int .i64 f.cells,.slice A f.blocks.length c],.int .i64 now] w' fun e w2 => e=.returned (.tuple #[.int .i64 t2,.int .i64 e2]) ∧ Below w'.heap.size w' w2):=hideI fun w' h1 h2 h3 => by
   rw [ht2,he2]
   exact typeOf_any f B _ _ now w' h2 h3 h1 HID.out HNW.out
  clear ht1 he1 ht2 he2
  by_cases hE1:e1=0
  ·subst hE1
   by_cases hE2:e2=0
   ·subst hE2
    by_cases hE3:t1=t2
    ·subst hE3
     have htt:(t1 != t1)=false:=by simp
     have HR0:Hid (replErr f old now=0):=hideI (by rw [HRE.out];simp)
     go_enter Tryz.func9,Tryz.ntmps9
     go_upto_region 1 with fail
     rw [← HW0.out]
     go_wp2_with (first
      | (go_at_call 27;go_must (refine HSC.out.mono ?_);rintro e w1 ⟨x,y,rfl,hci,hb⟩;obtain ⟨rfl,rfl⟩:=Prod.mk.inj (HST.out.check hci);have HB1:=hideI hb;clear q0 q1 q2 q3;obtain ⟨g1,g2,g3,g4⟩:=HG.out _ HB1.out;have q0:=g2 0 _ rfl;have q1:=g2 1 _ rfl;have q2:=g2 2 _ rfl;have q3:=g2 3 _ rfl;have n0:=g3 0 _ rfl;have n1:=g3 1 _ rfl;have n2:=g3 2 _ rfl;have n3:=g3 3 _ rfl;have f0:=g4 0;have f1:=g4 1;have f2:=g4 2;have f3:=g4 3;clear g2 g3 g4;have HT1:=hideI (HTT1.out w1 g1.2.2 g1.1 g1.2.1);clear hci hb g1)
      | (go_at_call 28;refine HT1.out.mono ?_;rintro e w2 ⟨rfl,hb⟩;have HB2:=hideI (HB1.out.trans (hb.mono HB1.out.size));clear q0 q1 q2 q3 n0 n1 n2 n3 f0 f1 f2 f3 HT1;obtain ⟨g1,g2,g3,g4⟩:=HG.out _ HB2.out;have q0:=g2 0 _ rfl;have q1:=g2 1 _ rfl;have q2:=g2 2 _ rfl;have q3:=g2 3 _ rfl;have n0:=g3 0 _ rfl;have n1:=g3 1 _ rfl;have n2:=g3 2 _ rfl;have n3:=g3 3 _ rfl;have f0:=g4 0;have f1:=g4 1;have f2:=g4 2;have f3:=g4 3;clear g2 g3 g4;have HT2:=hideI (HTT2.out w2 g1.2.2 g1.1 g1.2.1);clear hb g1)
      | (go_at_call 28;refine HT2.out.mono ?_;rintro e w3 ⟨rfl,hb⟩;have HB3:=hideI (HB2.out.trans (hb.mono HB2.out.size));clear q0 q1 q2 q3 n0 n1 n2 n3 f0 f1 f2 f3 HT2;obtain ⟨g1,g2,g3,g4⟩:=HG.out _ HB3.out;have q0:=g2 0 _ rfl;have q1:=g2 1 _ rfl;have q2:=g2 2 _ rfl;have q3:=g2 3 _ rfl;have n0:=g3 0 _ rfl;have n1:=g3 1 _ rfl;have n2:=g3 2 _ rfl;have n3:=g3 3 _ rfl;have f0:=g4 0;have f1:=g4 1;have f2:=g4 2;have f3:=g4 3;clear g2 g3 g4;have HRP:=hideI (replaced_any f B _ _ old now w3 g1.1 g1.2.1 g1.2.2 HST.out.look);clear hb g1)
      | (go_at_call 29;go_must (refine HRP.out.mono ?_);rintro e w4 ⟨v1,base,P1,pc1,A1,c1,rfl,hp1,hv1,how,hlo,hb⟩;have HP1:=hideI hp1;have HV1:=hideI hv1;have HOW:=hideI how;have HLO:=hideI hlo;have HB4:=hideI (HB3.out.trans (hb.mono HB3.out.size));clear q0 q1 q2 q3 n0 n1 n2 n3 f0 f1 f2 f3;obtain ⟨g1,g2,g3,g4⟩:=HG.out _ HB4.out;have q0:=g2 0 _ rfl;have q1:=g2 1 _ rfl;have q2:=g2 2 _ rfl;have q3:=g2 3 _ rfl;have n0:=g3 0 _ rfl;have n1:=g3 1 _ rfl;have n2:=g3 2 _ rfl;have n3:=g3 3 _ rfl;have f0:=g4 0;have f1:=g4 1;have f2:=g4 2;have f3:=g4 3;clear g2 g3 g4;clear hp1 hv1 how hlo hb g1))
     have hno:∀ t,EE f f.blocks.length t → (v1 t).ownBlock ≠ some (w.heap.size + 1):=fun t ht e => by
      have h1:=(HOW.out.lt ht e).1
      have h2:=HLO.out
      have h3:=HB3.out.size
      omega
     refine bodyPost_ret (v:=.tuple #[.agg #[.slice P1 f.params.length pc1,.int .i64 f.arrays,.int .i64 f.cells,.slice A1 f.blocks.length c1],.int .i64 0]) (by simp [results,Tryz.results9,go_sem,n0,n1,n2,n3]) rfl (.inr (.inr ⟨⟨o0,HST.out⟩,HR0.out,v1,base,P1,pc1,A1,c1,rfl,HP1.out,HV1.out,?_,?_,?_⟩))
     ·exact (((OwnG.other HOW.out hno).other hno).other hno).other hno
     ·have h1:=HB0.out.size
      have h2:=HB3.out.size
      have h3:=HLO.out
      omega
     ·exact ((((HB0.out.trans (HB4.out.mono HB0.out.size)).setCell (by simp) _).setCell (by simp) _).setCell (by simp) _).setCell (by simp) _
    ·have htt:(t1 != t2)=true:=by rw [bne_iff_ne];exact hE3
     have HR0:Hid (replErr f old now=3):=hideI (by rw [HRE.out];simp [hE3])
     clear hE3
     go_enter Tryz.func9,Tryz.ntmps9
     go_upto_region 1 with fail
     rw [← HW0.out]
     go_wp2_with (first
      | (go_at_call 27;go_must (refine HSC.out.mono ?_);rintro e w1 ⟨x,y,rfl,hci,hb⟩;obtain ⟨rfl,rfl⟩:=Prod.mk.inj (HST.out.check hci);have HB1:=hideI hb;clear q0 q1 q2 q3;obtain ⟨g1,g2,g3,g4⟩:=HG.out _ HB1.out;have q0:=g2 0 _ rfl;have q1:=g2 1 _ rfl;have q2:=g2 2 _ rfl;have q3:=g2 3 _ rfl;have n0:=g3 0 _ rfl;have n1:=g3 1 _ rfl;have n2:=g3 2 _ rfl;have n3:=g3 3 _ rfl;have f0:=g4 0;have f1:=g4 1;have f2:=g4 2;have f3:=g4 3;clear g2 g3 g4;have HT1:=hideI (HTT1.out w1 g1.2.2 g1.1 g1.2.1);clear hci hb g1)
      | (go_at_call 28;refine HT1.out.mono ?_;rintro e w2 ⟨rfl,hb⟩;have HB2:=hideI (HB1.out.trans (hb.mono HB1.out.size));clear q0 q1 q2 q3 n0 n1 n2 n3 f0 f1 f2 f3 HT1;obtain ⟨g1,g2,g3,g4⟩:=HG.out _ HB2.out;have q0:=g2 0 _ rfl;have q1:=g2 1 _ rfl;have q2:=g2 2 _ rfl;have q3:=g2 3 _ rfl;have n0:=g3 0 _ rfl;have n1:=g3 1 _ rfl;have n2:=g3 2 _ rfl;have n3:=g3 3 _ rfl;have f0:=g4 0;have f1:=g4 1;have f2:=g4 2;have f3:=g4 3;clear g2 g3 g4;have HT2:=hideI (HTT2.out w2 g1.2.2 g1.1 g1.2.1);clear hb g1)
      | (go_at_call 28;refine HT2.out.mono ?_;rintro e w3 ⟨rfl,hb⟩;have HB3:=hideI (HB2.out.trans (hb.mono HB2.out.size));clear q0 q1 q2 q3 n0 n1 n2 n3 f0 f1 f2 f3 HT2;obtain ⟨g1,g2,g3,g4⟩:=HG.out _ HB3.out;have q0:=g2 0 _ rfl;have q1:=g2 1 _ rfl;have q2:=g2 2 _ rfl;have q3:=g2 3 _ rfl;have n0:=g3 0 _ rfl;have n1:=g3 1 _ rfl;have n2:=g3 2 _ rfl;have n3:=g3 3 _ rfl;have f0:=g4 0;have f1:=g4 1;have f2:=g4 2;have f3:=g4 3;clear g2 g3 g4;have HRP:=hideI (replaced_any f B _ _ old now w3 g1.1 g1.2.1 g1.2.2 HST.out.look);clear hb g1))
     refine bodyPost_ret (v:=.tuple #[zeroFE,.int .i64 3]) (by simp [results,Tryz.results9,go_sem,n0,n1,n2,n3,zeroFE]) rfl (.inr (.inl ⟨⟨o0,HST.out⟩,by rw [HR0.out];decide,by rw [HR0.out],?_⟩))
     exact ((((HB0.out.trans (HB3.out.mono HB0.out.size)).setCell (by simp) _).setCell (by simp) _).setCell (by simp) _).setCell (by simp) _
   ·have hee:(e2 != 0)=true:=by rw [bne_iff_ne];exact hE2
    have HE2:=hideI hE2
    have HR0:Hid (replErr f old now=e2):=hideI (by rw [HRE.out];simp [hE2])
    clear hE2
    go_enter Tryz.func9,Tryz.ntmps9
    go_upto_region 1 with fail
    rw [← HW0.out]
    go_wp2_with (first
     | (go_at_call 27;go_must (refine HSC.out.mono ?_);rintro e w1 ⟨x,y,rfl,hci,hb⟩;obtain ⟨rfl,rfl⟩:=Prod.mk.inj (HST.out.check hci);have HB1:=hideI hb;clear q0 q1 q2 q3;obtain ⟨g1,g2,g3,g4⟩:=HG.out _ HB1.out;have q0:=g2 0 _ rfl;have q1:=g2 1 _ rfl;have q2:=g2 2 _ rfl;have q3:=g2 3 _ rfl;have n0:=g3 0 _ rfl;have n1:=g3 1 _ rfl;have n2:=g3 2 _ rfl;have n3:=g3 3 _ rfl;have f0:=g4 0;have f1:=g4 1;have f2:=g4 2;have f3:=g4 3;clear g2 g3 g4;have HT1:=hideI (HTT1.out w1 g1.2.2 g1.1 g1.2.1);clear hci hb g1)
     | (go_at_call 28;refine HT1.out.mono ?_;rintro e w2 ⟨rfl,hb⟩;have HB2:=hideI (HB1.out.trans (hb.mono HB1.out.size));clear q0 q1 q2 q3 n0 n1 n2 n3 f0 f1 f2 f3 HT1;obtain ⟨g1,g2,g3,g4⟩:=HG.out _ HB2.out;have q0:=g2 0 _ rfl;have q1:=g2 1 _ rfl;have q2:=g2 2 _ rfl;have q3:=g2 3 _ rfl;have n0:=g3 0 _ rfl;have n1:=g3 1 _ rfl;have n2:=g3 2 _ rfl;have n3:=g3 3 _ rfl;have f0:=g4 0;have f1:=g4 1;have f2:=g4 2;have f3:=g4 3;clear g2 g3 g4;have HT2:=hideI (HTT2.out w2 g1.2.2 g1.1 g1.2.1);clear hb g1)
     | (go_at_call 28;refine HT2.out.mono ?_;rintro e w3 ⟨rfl,hb⟩;have HB3:=hideI (HB2.out.trans (hb.mono HB2.out.size));clear q0 q1 q2 q3 n0 n1 n2 n3 f0 f1 f2 f3 HT2;obtain ⟨g1,g2,g3,g4⟩:=HG.out _ HB3.out;have q0:=g2 0 _ rfl;have q1:=g2 1 _ rfl;have q2:=g2 2 _ rfl;have q3:=g2 3 _ rfl;have n0:=g3 0 _ rfl;have n1:=g3 1 _ rfl;have n2:=g3 2 _ rfl;have n3:=g3 3 _ rfl;have f0:=g4 0;have f1:=g4 1;have f2:=g4 2;have f3:=g4 3;clear g2 g3 g4;have HRP:=hideI (replaced_any f B _ _ old now w3 g1.1 g1.2.1 g1.2.2 HST.out.look);clear hb g1))
    refine bodyPost_ret (v:=.tuple #[zeroFE,.int .i64 e2]) (by simp [results,Tryz.results9,go_sem,n0,n1,n2,n3,zeroFE]) rfl (.inr (.inl ⟨⟨o0,HST.out⟩,by rw [HR0.out];exact HE2.out,by rw [HR0.out],?_⟩))
    exact ((((HB0.out.trans (HB3.out.mono HB0.out.size)).setCell (by simp) _).setCell (by simp) _).setCell (by simp) _).setCell (by simp) _
  ·have hee:(e1 != 0)=true:=by rw [bne_iff_ne];exact hE1
   have HE1:=hideI hE1
   have HR0:Hid (replErr f old now=e1):=hideI (by rw [HRE.out];simp [hE1])
   clear hE1
   go_enter Tryz.func9,Tryz.ntmps9
   go_upto_region 1 with fail
   rw [← HW0.out]
   go_wp2_with (first
    | (go_at_call 27;go_must (refine HSC.out.mono ?_);rintro e w1 ⟨x,y,rfl,hci,hb⟩;obtain ⟨rfl,rfl⟩:=Prod.mk.inj (HST.out.check hci);have HB1:=hideI hb;clear q0 q1 q2 q3;obtain ⟨g1,g2,g3,g4⟩:=HG.out _ HB1.out;have q0:=g2 0 _ rfl;have q1:=g2 1 _ rfl;have q2:=g2 2 _ rfl;have q3:=g2 3 _ rfl;have n0:=g3 0 _ rfl;have n1:=g3 1 _ rfl;have n2:=g3 2 _ rfl;have n3:=g3 3 _ rfl;have f0:=g4 0;have f1:=g4 1;have f2:=g4 2;have f3:=g4 3;clear g2 g3 g4;have HT1:=hideI (HTT1.out w1 g1.2.2 g1.1 g1.2.1);clear hci hb g1)
    | (go_at_call 28;refine HT1.out.mono ?_;rintro e w2 ⟨rfl,hb⟩;have HB2:=hideI (HB1.out.trans (hb.mono HB1.out.size));clear q0 q1 q2 q3 n0 n1 n2 n3 f0 f1 f2 f3 HT1;obtain ⟨g1,g2,g3,g4⟩:=HG.out _ HB2.out;have q0:=g2 0 _ rfl;have q1:=g2 1 _ rfl;have q2:=g2 2 _ rfl;have q3:=g2 3 _ rfl;have n0:=g3 0 _ rfl;have n1:=g3 1 _ rfl;have n2:=g3 2 _ rfl;have n3:=g3 3 _ rfl;have f0:=g4 0;have f1:=g4 1;have f2:=g4 2;have f3:=g4 3;clear g2 g3 g4;have HT2:=hideI (HTT2.out w2 g1.2.2 g1.1 g1.2.1);clear hb g1))
   refine bodyPost_ret (v:=.tuple #[zeroFE,.int .i64 e1]) (by simp [results,Tryz.results9,go_sem,n0,n1,n2,n3,zeroFE]) rfl (.inr (.inl ⟨⟨o0,HST.out⟩,by rw [HR0.out];exact HE1.out,by rw [HR0.out],?_⟩))
   exact ((((HB0.out.trans (HB2.out.mono HB0.out.size)).setCell (by simp) _).setCell (by simp) _).setCell (by simp) _).setCell (by simp) _
 ·have HNG:Hid (∀ o,StrictM f o → False):=fun o h => hst ⟨o,h⟩
  have HST0:Hid (∀ x:Int,¬ CheckIs f (x,0)):=hideI (fun x hx => hst (strict_of hx).2)
  clear hst
  go_enter Tryz.func9,Tryz.ntmps9
  go_upto_region 1 with fail
  rw [← HW0.out]
  go_wp2_with (go_at_call 27;go_must (refine HSC.out.mono ?_);rintro e w1 ⟨x,y,rfl,hci,hb⟩;have hy:y ≠ 0:=(fun e => by subst e;exact HST0.out x hci);have hyb:(y != 0)=true:=(by rw [bne_iff_ne];exact hy);have HCI:=hideI hci;have HY:=hideI hy;have HB1:=hideI hb;clear q0 q1 q2 q3;obtain ⟨g1,g2,g3,g4⟩:=HG.out _ HB1.out;have q0:=g2 0 _ rfl;have q1:=g2 1 _ rfl;have q2:=g2 2 _ rfl;have q3:=g2 3 _ rfl;have n0:=g3 0 _ rfl;have n1:=g3 1 _ rfl;have n2:=g3 2 _ rfl;have n3:=g3 3 _ rfl;have f0:=g4 0;have f1:=g4 1;have f2:=g4 2;have f3:=g4 3;clear g2 g3 g4;clear hci hb g1 hy)
  refine bodyPost_ret (v:=.tuple #[zeroFE,.int .i64 y]) (by simp [results,Tryz.results9,go_sem,n0,n1,n2,n3,zeroFE]) rfl (.inl ⟨x,y,HCI.out,HY.out,rfl,?_⟩)
  exact ((((HB0.out.trans (HB1.out.mono HB0.out.size)).setCell (by simp) _).setCell (by simp) _).setCell (by simp) _).setCell (by simp) _
end Go.Proofs.YtaehbgppfahdeaaGreat

namespace Go.Proofs.YtaehbgppfahdeaaGreat
open Go.RowKit
section
variable {h:Int → Int} {f:FuncM} {b:BlockM}
theorem done_phis:(doneB h b).phis=b.phis.map fun p => { p with vals:=p.vals.map h }:=by
 show b.phis.mapIdx (phiAt h b.phis.length)=_
 apply List.ext_getElem?
 intro j
 rw [List.getElem?_mapIdx,List.getElem?_map]
 cases hj:b.phis[j]? with
 | none => rfl
 | some p =>
  have:=(List.getElem?_eq_some_iff.1 hj).1
  simp [phiAt,this]
theorem done_code:(doneB h b).code=b.code.map fun x => { x with args:=x.args.map h }:=by
 show b.code.mapIdx (insAt h b.code.length)=_
 apply List.ext_getElem?
 intro j
 rw [List.getElem?_mapIdx,List.getElem?_map]
 cases hj:b.code[j]? with
 | none => rfl
 | some p =>
  have:=(List.getElem?_eq_some_iff.1 hj).1
  simp [insAt,this]
theorem mapF_blocks:(mapF h f).blocks=f.blocks.map (doneB h):=by
 show f.blocks.mapIdx (blkAt h f.blocks.length 0 0)=_
 apply List.ext_getElem?
 intro j
 rw [List.getElem?_mapIdx,List.getElem?_map]
 cases hj:f.blocks[j]? with
 | none => rfl
 | some p =>
  have:=(List.getElem?_eq_some_iff.1 hj).1
  simp [blkAt,this]
theorem map_fst_zip {α β:Type} (g:α → α):∀ (l:List α) (m:List β),((l.map g).zip m).map Prod.fst=((l.zip m).map Prod.fst).map g:=by
 intro l
 induction l with
 | nil => intro m;rfl
 | cons a l ih =>
  intro m
  cases m with
  | nil => rfl
  | cons c m => simp only [List.map_cons,List.zip_cons_cons,ih]
theorem done_uses:(usesBlock (doneB h b)).map Prod.fst=((usesBlock b).map Prod.fst).map h:=by
 unfold usesBlock
 rw [done_phis,done_code]
 simp only [List.map_append]
 congr 1
 ·rw [List.flatMap_map,List.map_flatMap,List.map_flatMap,List.map_flatMap]
  congr 1
  funext p
  simp [usesPhi]
 ·congr 1
  ·rw [List.flatMap_map,List.map_flatMap,List.map_flatMap,List.map_flatMap]
   congr 1
   funext x
   exact map_fst_zip h x.args _
  ·show List.map Prod.fst (usesTerm (mapT h b.term))=_
   unfold usesTerm mapT
   by_cases h2:b.term.op=2
   ·simp [h2]
   ·by_cases h3:b.term.op=3
    ·simp [h3]
    ·simp [h2,h3]
theorem uses_map:(usesM (mapF h f)).map Prod.fst=((usesM f).map Prod.fst).map h:=by
 unfold usesM
 rw [mapF_blocks,List.flatMap_map,List.map_flatMap,List.map_flatMap,List.map_flatMap]
 congr 1
 funext b
 exact done_uses
theorem mapF_uses_len:(usesM (mapF h f)).length=(usesM f).length:=by
 have:=congrArg List.length (uses_map (h:=h) (f:=f))
 simpa using this
theorem cntU_ids (x:Int) (us:List (Int × Int)):cntU x us=((us.map Prod.fst).countP fun a => a == x:Nat):=by
 unfold cntU
 rw [List.countP_map]
 rfl
theorem cnt_old {x y:Int} (hxy:x ≠ y):cntU x (usesM (mapF (replM x y) f))=0:=by
 rw [cntU_ids,uses_map,List.countP_map]
 have:∀ l:List Int,l.countP ((fun a => a == x) ∘ replM x y)=0:=by
  intro l
  rw [List.countP_eq_zero]
  intro a _
  unfold replM
  by_cases ha:a=x
  ·simp [ha,Ne.symm hxy]
  ·simp [ha]
 rw [this]
 rfl
theorem cnt_now {x y:Int}:cntU y (usesM (mapF (replM x y) f))=((usesM f).countP fun u => u.1 == x || u.1 == y:Nat):=by
 rw [cntU_ids,uses_map,List.countP_map,show ((usesM f).countP fun u => u.1 == x || u.1 == y)=((usesM f).map Prod.fst).countP fun a => a == x || a == y from by rw [List.countP_map];rfl]
 congr 2
 funext a
 show (replM x y a == y)=_
 unfold replM
 by_cases ha:a=x
 ·simp [ha]
 ·simp [ha]
end
theorem mapF_same (x:Int) (f:FuncM):mapF (replM x x) f=f:=by
 have hid:∀ l:List Int,l.map (replM x x)=l:=fun l => by
  rw [show (replM x x)=id from funext fun a => by unfold replM;split <;> simp_all,List.map_id]
 have hb:∀ b:BlockM,doneB (replM x x) b=b:=fun b => by
  obtain ⟨ps,cs,t⟩:=b
  have h1:=done_phis (h:=replM x x) (b:=⟨ps,cs,t⟩)
  have h2:=done_code (h:=replM x x) (b:=⟨ps,cs,t⟩)
  have h3:(doneB (replM x x) ⟨ps,cs,t⟩).term=t:=by
   show mapT _ t=t
   unfold mapT
   split
   ·show { t with val:=replM x x t.val }=t
    have:replM x x t.val=t.val:=by unfold replM;split <;> simp_all
    rw [this]
   ·rfl
  simp only [hid] at h1 h2
  have e1:ps.map (fun p:PhiM => { p with vals:=p.vals })=ps:=List.map_id ps
  have e2:cs.map (fun p:InstrM => { p with args:=p.args })=cs:=List.map_id cs
  cases hd:doneB (replM x x) ⟨ps,cs,t⟩ with
  | mk a c d =>
   rw [hd] at h1 h2 h3
   simp only at h1 h2 h3
   subst h1 h2 h3
   simp
 obtain ⟨p,a,c,bs⟩:=f
 have h1:=mapF_blocks (h:=replM x x) (f:=⟨p,a,c,bs⟩)
 rw [show (doneB (replM x x))=id from funext hb,List.map_id] at h1
 unfold mapF stF at h1 ⊢
 simp only at h1 ⊢
 rw [h1]
end Go.Proofs.YtaehbgppfahdeaaGreat

namespace Go.Proofs.YtaehbgppfahdeaaGreat
open Go.RowKit
section
variable {h:Int → Int} {f:FuncM} {b:BlockM}
theorem mapF_at {k:Nat} {b':BlockM} (hb:(mapF h f).blocks[k]?=some b'):∃ b,f.blocks[k]?=some b ∧ b'=doneB h b:=by
 rw [mapF_blocks,List.getElem?_map] at hb
 cases hk:f.blocks[k]? with
 | none => rw [hk] at hb;cases hb
 | some b => rw [hk] at hb;exact ⟨b,rfl,(Option.some.inj hb).symm⟩
theorem mapF_mem {b':BlockM} (hb:b' ∈ (mapF h f).blocks):∃ b ∈ f.blocks,b'=doneB h b:=by
 rw [mapF_blocks] at hb
 obtain ⟨b,h1,h2⟩:=List.mem_map.1 hb
 exact ⟨b,h1,h2.symm⟩
theorem mapF_length:(mapF h f).blocks.length=f.blocks.length:=by rw [mapF_blocks,List.length_map]
theorem done_lens:(doneB h b).phis.length=b.phis.length ∧ (doneB h b).code.length=b.code.length:=by
 rw [done_phis,done_code,List.length_map,List.length_map]
 exact ⟨rfl,rfl⟩
theorem mapF_EE {t:Tag} (ht:EE (mapF h f) (mapF h f).blocks.length t):EE f f.blocks.length t:=by
 rcases ht with rfl | rfl | ⟨k,b',hk,hb,hd⟩
 ·exact .inl rfl
 ·exact .inr (.inl rfl)
 ·obtain ⟨b,h1,rfl⟩:=mapF_at hb
  rw [done_lens.1,done_lens.2] at hd
  exact .inr (.inr ⟨k,b,by rwa [mapF_length] at hk,h1,hd⟩)
theorem mapF_small (hs:SmallF f):SmallF (mapF h f):=by
 refine ⟨hs.params,by rw [mapF_length];exact hs.blocks,fun b' hb => ?_⟩
 obtain ⟨b,h1,rfl⟩:=mapF_mem hb
 have hb:=hs.each b h1
 refine ⟨by rw [done_lens.1];exact hb.phis,by rw [done_lens.2];exact hb.code,?_,fun p hp => ?_,fun x hx => ?_⟩
 ·show (mapT h b.term).to.length ≤ _
  rw [(mapT_to b.term).1]
  exact hb.ends
 ·rw [done_phis] at hp
  obtain ⟨p0,hp0,rfl⟩:=List.mem_map.1 hp
  have:=hb.fr p0 hp0
  simpa using this
 ·rw [done_code] at hx
  obtain ⟨x0,hx0,rfl⟩:=List.mem_map.1 hx
  have:=hb.args x0 hx0
  simpa using this
theorem mapF_fits (hf:FnFits f) (hh:∀ x,I64 x → I64 (h x)):FnFits (mapF h f):=by
 refine ⟨fun b' hb p hp => ?_,fun b' hb x hx => ?_,fun b' hb => ?_⟩
 ·obtain ⟨b,h1,rfl⟩:=mapF_mem hb
  rw [done_phis] at hp
  obtain ⟨p0,hp0,rfl⟩:=List.mem_map.1 hp
  exact hf.phi b h1 p0 hp0
 ·obtain ⟨b,h1,rfl⟩:=mapF_mem hb
  rw [done_code] at hx
  obtain ⟨x0,hx0,rfl⟩:=List.mem_map.1 hx
  exact hf.code b h1 x0 hx0
 ·obtain ⟨b,h1,rfl⟩:=mapF_mem hb
  obtain ⟨t1,t2,t3⟩:=hf.term b h1
  show I64 (mapT h b.term).op ∧ I64 (mapT h b.term).val ∧ I64 (mapT h b.term).n
  unfold mapT
  split
  ·exact ⟨t1,hh _ t2,t3⟩
  ·exact ⟨t1,t2,t3⟩
theorem mapF_reads {w:World} {base:Nat} {val:Vals} (ho:OwnG w base (rowOf (mapF h f) val) val (EE f f.blocks.length)) (hs:SmallF f) (hf:FnFits f) (hh:∀ x,I64 x → I64 (h x)) :
  Ints w w.heap.size (val .params) f.params ∧ BlocksR w w.heap.size (val .blocks) (mapF h f).blocks:=by
 have hr:=OwnG.rd (ho.congr (D':=EE (mapF h f) (mapF h f).blocks.length) (fun _ _ => rfl) (fun _ _ => rfl) (fun _ ht => mapF_EE ht)) (mapF_small hs)
 exact ⟨hr.params,hr.blocks (mapF_fits hf hh)⟩
end
end Go.Proofs.YtaehbgppfahdeaaGreat

namespace Go.Proofs.YtaehbgppfahdeaaGreat
open Go.RowKit Go.Maps
theorem typ_facts {f:FuncM} (h0:(lookM f).1=0) (id:Int):(typeOut f id=(0,9) ∧ typeR (valuesM f) id=0) ∨ ∃ t,t ≠ 0 ∧ typeOut f id=(t,0) ∧ typeR (valuesM f) id=t:=by
 have h1:=look_formed h0
 have h2:=formed_eq h1
 cases ha:(lookM f).2.at id with
 | none => exact .inl ⟨typeOut_none h0 ha,by unfold typeR;rw [← h2,ha]⟩
 | some t =>
  refine .inr ⟨t,?_,typeOut_some h0 ha,by unfold typeR;rw [← h2,ha]⟩
  have hm:(id,t) ∈ (lookM f).2 ∨ ∃ k,(k,t) ∈ (lookM f).2:=by
   unfold Defs.at at ha
   obtain ⟨d,hd,e⟩:=Option.map_eq_some_iff.1 ha
   exact .inr ⟨d.1,by rw [← e];exact List.mem_of_find?_eq_some hd⟩
  obtain ⟨k,hk⟩:∃ k,(k,t) ∈ (lookM f).2:=by
   rcases hm with h | h
   ·exact ⟨id,h⟩
   ·exact h
  have:=(formed_all h1).2 _ hk
  rcases isType_cases this with e | e <;> (have e:t=_:=e;omega)
end Go.Proofs.YtaehbgppfahdeaaGreat

namespace Go.Proofs.YtaehbgppfahdeaaGreat
open Go.RowKit Go.Maps
theorem refCheck_all (f:FuncM) (B:Nat) (pv bv:Value) (w:World) (hpv:Ints w B pv f.params) (hbv:BlocksR w B bv f.blocks) (hB:B ≤ w.heap.size) (hid:∀ u ∈ usesM f,I64 u.1) :
  Calls Tryz.prog 17 #[.agg #[pv,.int .i64 f.arrays,.int .i64 f.cells,bv]] w fun e w' => ∃ x y:Int,e=.returned (.tuple #[.int .i64 x,.int .i64 y]) ∧ CheckIs f (x,y) ∧ Below w.heap.size w w':=by
 by_cases h0:(lookM f).1=0
 ·obtain ⟨o,ho⟩:=order_exists h0
  refine (refStrict_yes f o B pv bv w hpv hbv hB hid h0 ho).mono ?_
  rintro e w' ⟨x,y,rfl,hf,hb⟩
  exact ⟨x,y,rfl,.inr ⟨h0,o,ho,hf⟩,hb⟩
 ·refine (refStrict_no f B pv bv w hpv hbv hB h0).mono ?_
  rintro e w' ⟨rfl,hb⟩
  exact ⟨_,_,rfl,.inl ⟨h0,rfl⟩,hb⟩
theorem CheckIs.zero {f:FuncM} {x y:Int} (h:CheckIs f (x,y)):y=0 ↔ CheckIs f (0,0):=by
 constructor
 ·rintro rfl
  rcases h with ⟨h1,h2⟩ | ⟨h0,o,ho,hf⟩
  ·exact absurd (Prod.mk.inj h2).2.symm h1
  ·rcases hf with ⟨b,_,e⟩ | ⟨_,b,_,e⟩ | ⟨_,_,b,_,e⟩ | ⟨a0,a1,a2,e⟩
   ·exact absurd (Prod.mk.inj e).2 (by decide)
   ·exact absurd (Prod.mk.inj e).2 (by decide)
   ·exact absurd (Prod.mk.inj e).2 (by decide)
   ·exact .inr ⟨h0,o,ho,.inr (.inr (.inr ⟨a0,a1,a2,rfl⟩))⟩
 ·intro h2
  exact (Prod.mk.inj (h.one h2)).2
set_option maxRecDepth 100000 in
theorem refIs_any (f:FuncM) (B:Nat) (pv bv:Value) (w:World) (hpv:Ints w B pv f.params) (hbv:BlocksR w B bv f.blocks) (hB:B ≤ w.heap.size) (hid:∀ u ∈ usesM f,I64 u.1) :
  Calls Tryz.prog 14 #[.agg #[pv,.int .i64 f.arrays,.int .i64 f.cells,bv]] w fun e w' => ∃ z:Bool,e=.returned (.bool z) ∧ (z=true ↔ CheckIs f (0,0)) ∧ Below w.heap.size w w':=by
 have HP:=hideI hpv
 have HBL:=hideI hbv
 have HID:=hideI hid
 obtain ⟨P,pc,rfl,_⟩:=hpv
 obtain ⟨A,c,rfl,_,_⟩:=hbv
 have HB1:Hid (Below w.heap.size w (w.alloc (.cells #[.slice P f.params.length pc,.int .i64 f.arrays,.int .i64 f.cells,.slice A f.blocks.length c] 25))):=(Below.refl _ w).alloc (Nat.le_refl _) _
 have HC:Hid (∀ W,Below w.heap.size w W → Calls Tryz.prog 17 #[.agg #[.slice P f.params.length pc,.int .i64 f.arrays,.int .i64 f.cells,.slice A f.blocks.length c]] W fun e w' => ∃ x y:Int,e=.returned (.tuple #[.int .i64 x,.int .i64 y]) ∧ CheckIs f (x,y) ∧ Below W.heap.size W w'):=hideI fun W hW =>
  refCheck_all f B _ _ W (HP.out.keeps (Keeps.of_below (hW.mono hB))) (HBL.out.keeps (Keeps.of_below (hW.mono hB))) (Nat.le_trans hB hW.size) HID.out
 clear hid
 go_enter Tryz.func14,Tryz.ntmps14
 go_wp2_with (first
  | (go_at_call 17;go_must (refine (HC.out _ (by first | exact HB1.out | exact Below.refl _ _)).mono ?_);rintro e w1 ⟨x,y,rfl,hci,hb⟩;have HCI:=hideI hci;have HB2:=hideI hb;clear hb hci))
 go_ret
 refine ⟨_,rfl,?_,?_⟩
 ·rw [beq_iff_eq]
  exact HCI.out.zero
 ·first | exact HB1.out.trans (HB2.out.mono HB1.out.size) | exact HB2.out
end Go.Proofs.YtaehbgppfahdeaaGreat

namespace Go.Proofs.YtaehbgppfahdeaaGreat
open Go.ChangeShapes Go.WideShapes Go.ChangeAt Go.RowKit Go.Deep
section
variable {H:Type} {enc:TypeId × Value → H} {w:World}
theorem bulk_one (d:DataW H):1 ≤ Rows.uptoBulk d:=by
 cases d with
 | lit l => cases l <;> simp [Rows.uptoBulk]
 | nil => simp [Rows.uptoBulk]
 | ptr d => simp [Rows.uptoBulk]
 | slice elems spare => simp [Rows.uptoBulk]
 | agg parts => simp [Rows.uptoBulk]
 | iface t d => simp [Rows.uptoBulk]
 | map entries => simp [Rows.uptoBulk]
 | held h => simp [Rows.uptoBulk]
theorem bulk_part {d:DataW H} {l:List (DataW H)} (h:d ∈ l):Rows.uptoBulk d ≤ Rows.uptoBulkAll l:=by
 induction l with
 | nil => cases h
 | cons x r ih =>
  simp only [Rows.uptoBulkAll]
  cases List.mem_cons.1 h with
  | inl e => subst e;omega
  | inr e => have:=ih e;omega
theorem bulk_length (l:List (DataW H)):l.length ≤ Rows.uptoBulkAll l:=by
 induction l with
 | nil => simp [Rows.uptoBulkAll]
 | cons x r ih => have:=bulk_one x;simp only [Rows.uptoBulkAll,List.length_cons];omega
theorem bulk_slice (es sp:List (DataW H)):es.length ≤ Rows.uptoBulk (.slice es sp):=by
 have:=bulk_length es
 simp only [Rows.uptoBulk]
 omega
theorem bulk_list {t e:TypeId} (ht:Tryz.prog.underlying t=some (.slice e)) {fuel:Nat} {A:Option Addr} {n c:Nat} {x:DataW H × List MemPlace} (h:Rd enc w fuel t [.slice A n c] x):n ≤ Rows.uptoBulk x.1:=by
 rcases open_slice ht h with ⟨hv,_⟩ | ⟨a,len,cap,m,k,D,Pl,hv,_,hl,hm,hmm,hx,hi⟩
 ·injection hv with hv
  injection hv with _ e1 _
  omega
 ·injection hv with hv
  injection hv with _ e1 _
  rw [hx,e1]
  have h2:=bulk_slice ((List.range len).map D) ((List.range (m - len)).map fun j => D (len + j))
  rw [List.length_map,List.length_range] at h2
  exact h2
theorem bulk_ints {w:World} {v:Value} {xs:List Int} {B:Nat} (h:Ints w B v xs) {fuel:Nat} {x:DataW H × List MemPlace} (hr:Rd enc w fuel 22 [v] x):xs.length ≤ Rows.uptoBulk x.1:=by
 obtain ⟨A,c,rfl,_⟩:=h
 exact bulk_list Tryz.underlying22 hr
end
end Go.Proofs.YtaehbgppfahdeaaGreat
