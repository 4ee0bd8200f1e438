/- What EditBackUpto rests on, part 9: SFault, RefPhi, RefFormed, TypesM. -/
import Derived.Test.YtaehbgppfahdeaaGreatPkEditBackUpto8
import Derived.BigQuiet
import Derived.IntWalk

namespace Go.Proofs.YtaehbgppfahdeaaGreat
open Go.RowKit Go.Maps
def FirstBad (n:Nat) (R:Nat → Prop) (b:Nat):Prop:=b < n ∧ ¬ R b ∧ ∀ a,a < b → R a
def FaultIs (n:Nat) (R0 R1 R2:Nat → Prop) (r:Int × Int):Prop :=
 (∃ b:Nat,FirstBad n R0 b ∧ r=((b:Int),4)) ∨ ((∀ b,b < n → R0 b) ∧ ∃ b:Nat,FirstBad n R1 b ∧ r=((b:Int),5)) ∨
 ((∀ b,b < n → R0 b) ∧ (∀ b,b < n → R1 b) ∧ ∃ b:Nat,FirstBad n R2 b ∧ r=((b:Int),6)) ∨ ((∀ b,b < n → R0 b) ∧ (∀ b,b < n → R1 b) ∧ (∀ b,b < n → R2 b) ∧ r=(0,0))
theorem FirstBad.one {n:Nat} {R R':Nat → Prop} (hR:∀ b,b < n → (R b ↔ R' b)) {a b:Nat} (h:FirstBad n R a) (k:FirstBad n R' b):a=b:=by
 rcases Nat.lt_trichotomy a b with h1 | h1 | h1
 ·exact absurd ((hR a h.1).2 (k.2.2 a h1)) h.2.1
 ·exact h1
 ·exact absurd ((hR b k.1).1 (h.2.2 b h1)) k.2.1
theorem FaultIs.one {n:Nat} {R0 R1 R2 S0 S1 S2:Nat → Prop} (h0:∀ b,b < n → (R0 b ↔ S0 b)) (h1:∀ b,b < n → (R1 b ↔ S1 b)) (h2:(∀ b,b < n → R0 b) → ∀ b,b < n → (R2 b ↔ S2 b)) {r s:Int × Int} (h:FaultIs n R0 R1 R2 r) (k:FaultIs n S0 S1 S2 s):r=s:=by
 have t0:(∀ b,b < n → R0 b) ↔ (∀ b,b < n → S0 b):=⟨fun h b hb => (h0 b hb).1 (h b hb),fun h b hb => (h0 b hb).2 (h b hb)⟩
 have t1:(∀ b,b < n → R1 b) ↔ (∀ b,b < n → S1 b):=⟨fun h b hb => (h1 b hb).1 (h b hb),fun h b hb => (h1 b hb).2 (h b hb)⟩
 have no:∀ {R:Nat → Prop} {b:Nat},FirstBad n R b → ¬ ∀ b,b < n → R b:=fun hb ha => hb.2.1 (ha _ hb.1)
 rcases h with ⟨a,ha,rfl⟩ | ⟨a0,a,ha,rfl⟩ | ⟨a0,a1,a,ha,rfl⟩ | ⟨a0,a1,a2,rfl⟩
 ·rcases k with ⟨b,hb,rfl⟩ | ⟨b0,_⟩ | ⟨b0,_⟩ | ⟨b0,_⟩
  ·rw [ha.one h0 hb]
  ·exact absurd (t0.2 b0) (no ha)
  ·exact absurd (t0.2 b0) (no ha)
  ·exact absurd (t0.2 b0) (no ha)
 ·rcases k with ⟨b,hb,rfl⟩ | ⟨b0,b,hb,rfl⟩ | ⟨b0,b1,_⟩ | ⟨b0,b1,_⟩
  ·exact absurd (t0.1 a0) (no hb)
  ·rw [ha.one h1 hb]
  ·exact absurd (t1.2 b1) (no ha)
  ·exact absurd (t1.2 b1) (no ha)
 ·rcases k with ⟨b,hb,rfl⟩ | ⟨b0,b,hb,rfl⟩ | ⟨b0,b1,b,hb,rfl⟩ | ⟨b0,b1,b2,_⟩
  ·exact absurd (t0.1 a0) (no hb)
  ·exact absurd (t1.1 a1) (no hb)
  ·rw [ha.one (h2 a0) hb]
  ·exact absurd (fun b hb => (h2 a0 b hb).2 (b2 b hb)) (no ha)
 ·rcases k with ⟨b,hb,rfl⟩ | ⟨b0,b,hb,rfl⟩ | ⟨b0,b1,b,hb,rfl⟩ | ⟨b0,b1,b2,rfl⟩
  ·exact absurd (t0.1 a0) (no hb)
  ·exact absurd (t1.1 a1) (no hb)
  ·exact absurd (fun b hb => (h2 a0 b hb).1 (a2 b hb)) (no hb)
  ·rfl
theorem upto_succ {R:Nat → Prop} {k:Nat} (h:∀ a,a < k → R a) (hk:R k):∀ a,a < k + 1 → R a:=by
 intro a ha
 rcases Nat.lt_or_ge a k with h1 | h1
 ·exact h a h1
 ·obtain rfl:a=k:=by omega
  exact hk
def FaultPost (n:Nat) (R0 R1 R2:Nat → Prop) (w:World) (e:Ending) (w':World):Prop :=
 ∃ x y:Int,e=.returned (.tuple #[.int .i64 x,.int .i64 y]) ∧ FaultIs n R0 R1 R2 (x,y) ∧ Below w.heap.size w w'
def phisR (f:FuncM) (b:Nat):Prop:=∀ q,f.blocks[b]?=some q → phisFitB f.blocks b q=true
def usesR (f:FuncM) (F L:Nat → Int) (b:Nat):Prop:=∀ q,f.blocks[b]?=some q → UsesFit f F L b q
set_option maxRecDepth 100000 in
set_option maxHeartbeats 8000000 in
theorem fault_any (f:FuncM) (o:List Nat) (par:Nat → Option Nat) (B:Nat) (pv bv:Value) (gF gL gp M:Nat) (F L:Nat → Int) (w:World) (hS:SF w B f bv gF gL gp M F L) (hB:B ≤ w.heap.size) (hn5:f.blocks.length ≤ 512) (hK:UsesKnown f) (hN:Numbered o par F L)
  (P:Option Addr) (pl pc:Nat) (hpv:pv=.slice P pl pc) :
  Calls Tryz.prog 62 #[.agg #[pv,.int .i64 f.arrays,.int .i64 f.cells,bv,.slice (some ⟨gF,0,none⟩) f.blocks.length f.blocks.length,.slice (some ⟨gL,0,none⟩) f.blocks.length f.blocks.length,.slice (some ⟨gp,0,none⟩) f.blocks.length f.blocks.length,.map (some M)]] w
   (FaultPost f.blocks.length (· ∈ o) (phisR f) (usesR f F L) w):=by
 subst hpv
 have HS:=hideI hS
 have HK:=hideI hK
 have HNU:=hideI hN
 obtain ⟨A,c,rfl,hbm,hbx⟩:=hS.blk
 obtain ⟨n,hn⟩:∃ n,n=f.blocks.length:=⟨_,rfl⟩
 have HN:=hideI hn
 rw [← hn] at hn5 hbm ⊢
 clear hn hS hK hN hbx
 go_enter Tryz.func62,Tryz.ntmps62
 go_wp2
 obtain ⟨W1,hW1⟩:∃ W1:World,W1=(w.alloc (.cells #[.slice P pl pc,.int .i64 f.arrays,.int .i64 f.cells,.slice A n c,.slice (some ⟨gF,0,none⟩) n n,.slice (some ⟨gL,0,none⟩) n n,.slice (some ⟨gp,0,none⟩) n n,.map (some M)] 123)).alloc (.cells #[.func (.func 106) #[.agg #[.slice (some ⟨gF,0,none⟩) n n,.slice (some ⟨gL,0,none⟩) n n]] #[],.int .i64 4,.func (.func 107) #[.agg #[.slice P pl pc,.int .i64 f.arrays,.int .i64 f.cells,.slice A n c,.slice (some ⟨gF,0,none⟩) n n,.slice (some ⟨gL,0,none⟩) n n,.slice (some ⟨gp,0,none⟩) n n,.map (some M)]] #[],.int .i64 5,.func (.func 108) #[.agg #[.slice P pl pc,.int .i64 f.arrays,.int .i64 f.cells,.slice A n c,.slice (some ⟨gF,0,none⟩) n n,.slice (some ⟨gL,0,none⟩) n n,.slice (some ⟨gp,0,none⟩) n n,.map (some M)]] #[],.int .i64 6] 174):=⟨_,rfl⟩
 have HB1:Hid (Below w.heap.size w W1):=by rw [hW1];exact hideI (((Below.refl _ w).alloc (Nat.le_refl _) _).alloc (by simp) _)
 have hs1:W1.heap.size=w.heap.size + 2:=by rw [hW1];simp
 have HX0:Hid (W1.heap[w.heap.size]?=some (.cells #[.slice P pl pc,.int .i64 f.arrays,.int .i64 f.cells,.slice A n c,.slice (some ⟨gF,0,none⟩) n n,.slice (some ⟨gL,0,none⟩) n n,.slice (some ⟨gp,0,none⟩) n n,.map (some M)] 123 (0,0))):=by
  rw [hW1,Below.heap_alloc _ _ _ (by simp)]
  exact hideI (heap_alloc_new w _)
 have HX1:Hid (W1.heap[w.heap.size + 1]?=some (.cells #[.func (.func 106) #[.agg #[.slice (some ⟨gF,0,none⟩) n n,.slice (some ⟨gL,0,none⟩) n n]] #[],.int .i64 4,.func (.func 107) #[.agg #[.slice P pl pc,.int .i64 f.arrays,.int .i64 f.cells,.slice A n c,.slice (some ⟨gF,0,none⟩) n n,.slice (some ⟨gL,0,none⟩) n n,.slice (some ⟨gp,0,none⟩) n n,.map (some M)]] #[],.int .i64 5,.func (.func 108) #[.agg #[.slice P pl pc,.int .i64 f.arrays,.int .i64 f.cells,.slice A n c,.slice (some ⟨gF,0,none⟩) n n,.slice (some ⟨gL,0,none⟩) n n,.slice (some ⟨gp,0,none⟩) n n,.map (some M)]] #[],.int .i64 6] 174 (0,0))):=by
  rw [hW1]
  have:=heap_alloc_new (w.alloc (.cells #[.slice P pl pc,.int .i64 f.arrays,.int .i64 f.cells,.slice A n c,.slice (some ⟨gF,0,none⟩) n n,.slice (some ⟨gL,0,none⟩) n n,.slice (some ⟨gp,0,none⟩) n n,.map (some M)] 123)) (.cells #[.func (.func 106) #[.agg #[.slice (some ⟨gF,0,none⟩) n n,.slice (some ⟨gL,0,none⟩) n n]] #[],.int .i64 4,.func (.func 107) #[.agg #[.slice P pl pc,.int .i64 f.arrays,.int .i64 f.cells,.slice A n c,.slice (some ⟨gF,0,none⟩) n n,.slice (some ⟨gL,0,none⟩) n n,.slice (some ⟨gp,0,none⟩) n n,.map (some M)]] #[],.int .i64 5,.func (.func 108) #[.agg #[.slice P pl pc,.int .i64 f.arrays,.int .i64 f.cells,.slice A n c,.slice (some ⟨gF,0,none⟩) n n,.slice (some ⟨gL,0,none⟩) n n,.slice (some ⟨gp,0,none⟩) n n,.map (some M)]] #[],.int .i64 6] 174)
  exact hideI (by simpa using this)
 rw [← hW1]
 have HSW:Hid (∀ W,Below W1.heap.size W1 W → SF W B f (.slice A f.blocks.length c) gF gL gp M F L ∧ Below w.heap.size w W ∧ B ≤ W.heap.size):=hideI (fun W hW => by
  have h1:Below w.heap.size w W:=HB1.out.trans (hW.mono (by rw [hs1];omega))
  have h2:=HS.out.kept (h1.mono hB)
  exact ⟨h2,h1,Nat.le_trans hB h1.size⟩)
 clear hW1 hs1
 go_loopw [19] (fun u wr => ∃ r:Int,(r=0 ∨ r=1 ∨ r=2 ∨ r=3) ∧ u=.int .i64 r ∧ Hid (0 < r → ∀ b,b < n → b ∈ o) ∧ Hid (1 < r → ∀ b,b < n → phisR f b) ∧ Hid (2 < r → ∀ b,b < n → usesR f F L b) ∧ Hid (Below W1.heap.size W1 wr)) (fun u _ => 3 - (intOf u).toNat)
 case atStart => exact ⟨0,.inl rfl,rfl,hideI (fun h => by omega),hideI (fun h => by omega),hideI (fun h => by omega),hideI (Below.refl _ _)⟩
 case round =>
  obtain ⟨r,hr,rfl,HA0,HA1,HA2,HBr⟩:=hrel
  have hwl:W1.heap.size ≤ wr.heap.size:=HBr.out.size
  have hx1:=row_cells HX1.out (HBr.out.block _ (lt_of_heap HX1.out))
  have hx0:=row_cells HX0.out (HBr.out.block _ (lt_of_heap HX0.out))
  have hlx:=lt_of_heap HX1.out
  have hl0:w.heap.size < wr.heap.size:=by omega
  have hl1:w.heap.size + 1 < wr.heap.size:=by omega
  rcases hr with rfl | rfl | rfl | rfl
  ·obtain ⟨W2,hW2⟩:∃ W2:World,W2=wr.alloc (.cells #[.func (.func 106) #[.agg #[.slice (some ⟨gF,0,none⟩) n n,.slice (some ⟨gL,0,none⟩) n n]] #[],.int .i64 4] 174):=⟨_,rfl⟩
   have HB2:Hid (Below W1.heap.size W1 W2):=by rw [hW2];exact hideI (HBr.out.alloc HBr.out.size _)
   have HX2:Hid (W2.heap[wr.heap.size]?=some (.cells #[.func (.func 106) #[.agg #[.slice (some ⟨gF,0,none⟩) n n,.slice (some ⟨gL,0,none⟩) n n]] #[],.int .i64 4] 174 (0,0))):=by rw [hW2];exact hideI (heap_alloc_new wr _)
   have HW2:=hideI hW2
   clear hW2 HA0 HA1 HA2
   go_wp2
   rw [← HW2.out]
   obtain ⟨wo,rfl⟩:∃ wo:World,wo=wr:=⟨_,rfl⟩
   clear hx0 hx1
   go_loopw [27] (fun u wr => ∃ k:Nat,k ≤ n ∧ u=.int .i64 k ∧ Hid (∀ a,a < k → a ∈ o) ∧ Hid (Below W2.heap.size W2 wr)) (fun u _ => n - (intOf u).toNat)
   case atStart => exact ⟨0,Nat.zero_le _,rfl,hideI (fun a h => by omega),hideI (Below.refl _ _)⟩
   case round =>
    obtain ⟨k,hk,rfl,HAk,HBk⟩:=hrel
    have HALL:=hideI (HB2.out.trans (HBk.out.mono HB2.out.size))
    have hx2:=row_cells HX2.out (HBk.out.block _ (lt_of_heap HX2.out))
    have y0:=hx2 0
    have hlx2:=lt_of_heap HX2.out
    clear hx2
    by_cases hlk:k < n
    ·have hk1:k < n:=hlk
     have HC:=hideI (sComeTo_any n gF gL k (F k) wr hn5 hlk (by have:=(HSW.out _ HALL.out).1.hF;have:=(HSW.out _ HALL.out).2.2;omega) ((HSW.out _ HALL.out).1.cF k (by rw [← HN.out];exact hlk)))
     have hres:∃ z:Bool,z=(F k != -1):=⟨_,rfl⟩
     obtain ⟨z,hz⟩:=hres
     rw [← hz] at HC
     have HZ:Hid (z=true ↔ k ∈ o):=by
      refine hideI ?_
      rw [hz,bne_iff_ne,ne_eq,HNU.out.come k,Classical.not_not]
     clear hz
     cases z
     ·have HBAD:Hid (¬ (k ∈ o)):=hideI (fun h => Bool.noConfusion (HZ.out.2 h))
      go_wp2_with (go_at_call 106;go_must (refine HC.out.mono ?_);rintro e w4 ⟨rfl,hb4⟩;have HB4:=hideI hb4;clear hb4)
      have hx3:=row_cells HX2.out ((HB4.out.block _ (Nat.lt_of_lt_of_le hlx2 HBk.out.size)).trans (HBk.out.block _ hlx2))
      have y1:=hx3 1
      clear hx3
      go_quiet (fail)
      go_wp2
      go_ret2
      exact ⟨_,_,rfl,.inl ⟨k,⟨hk1,HBAD.out,HAk.out⟩,rfl⟩,drew_below ((HSW.out _ HALL.out).2.1.trans (HB4.out.mono (HSW.out _ HALL.out).2.1.size)) _⟩
     ·have HOK:Hid (k ∈ o):=hideI (HZ.out.1 rfl)
      go_wp2_with (go_at_call 106;go_must (refine HC.out.mono ?_);rintro e w4 ⟨rfl,hb4⟩;have HB4:=hideI hb4;clear hb4)
      go_roundw
      case rel => exact ⟨k + 1,by omega,by go_num,hideI (upto_succ HAk.out HOK.out),hideI (HBk.out.trans (HB4.out.mono HBk.out.size))⟩
      case measure => simp [intOf];omega
    ·have HEND:Hid (∀ b,b < n → b ∈ o):=hideI (fun b hb => HAk.out b (by omega))
     go_wp2
     go_roundw
     case rel => exact ⟨1,.inr (.inl rfl),by go_num,hideI (fun _ => HEND.out),hideI (fun h => by omega),hideI (fun h => by omega),HALL⟩
     case measure => simp [intOf]
  ·have HP0:=hideI (HA0.out (by omega))
   obtain ⟨W2,hW2⟩:∃ W2:World,W2=wr.alloc (.cells #[.func (.func 107) #[.agg #[.slice P pl pc,.int .i64 f.arrays,.int .i64 f.cells,.slice A n c,.slice (some ⟨gF,0,none⟩) n n,.slice (some ⟨gL,0,none⟩) n n,.slice (some ⟨gp,0,none⟩) n n,.map (some M)]] #[],.int .i64 5] 174):=⟨_,rfl⟩
   have HB2:Hid (Below W1.heap.size W1 W2):=by rw [hW2];exact hideI (HBr.out.alloc HBr.out.size _)
   have HX2:Hid (W2.heap[wr.heap.size]?=some (.cells #[.func (.func 107) #[.agg #[.slice P pl pc,.int .i64 f.arrays,.int .i64 f.cells,.slice A n c,.slice (some ⟨gF,0,none⟩) n n,.slice (some ⟨gL,0,none⟩) n n,.slice (some ⟨gp,0,none⟩) n n,.map (some M)]] #[],.int .i64 5] 174 (0,0))):=by rw [hW2];exact hideI (heap_alloc_new wr _)
   have HW2:=hideI hW2
   clear hW2 HA0 HA1 HA2
   go_wp2
   rw [← HW2.out]
   obtain ⟨wo,rfl⟩:∃ wo:World,wo=wr:=⟨_,rfl⟩
   clear hx0 hx1
   go_loopw [27] (fun u wr => ∃ k:Nat,k ≤ n ∧ u=.int .i64 k ∧ Hid (∀ a,a < k → phisR f a) ∧ Hid (Below W2.heap.size W2 wr)) (fun u _ => n - (intOf u).toNat)
   case atStart => exact ⟨0,Nat.zero_le _,rfl,hideI (fun a h => by omega),hideI (Below.refl _ _)⟩
   case round =>
    obtain ⟨k,hk,rfl,HAk,HBk⟩:=hrel
    have HALL:=hideI (HB2.out.trans (HBk.out.mono HB2.out.size))
    have hx2:=row_cells HX2.out (HBk.out.block _ (lt_of_heap HX2.out))
    have y0:=hx2 0
    have hlx2:=lt_of_heap HX2.out
    clear hx2
    by_cases hlk:k < n
    ·have hk1:k < n:=hlk
     obtain ⟨q,hq⟩:∃ q,f.blocks[k]?=some q:=⟨_,List.getElem?_eq_getElem (by rw [← HN.out];exact hlk)⟩
     have hc:=phisFit_any f B (.slice P pl pc) _ gF gL gp M F L k q wr (HSW.out _ HALL.out).1 (HSW.out _ HALL.out).2.2 (by rw [← HN.out];exact hn5) hq P pl pc rfl
     rw [← HN.out] at hc
     obtain ⟨z,hz⟩:∃ z:Bool,z=phisFitB f.blocks k q:=⟨_,rfl⟩
     rw [← hz] at hc
     have HC:=hideI hc
     have HZ:Hid (z=true ↔ phisR f k):=hideI ⟨fun e q' hq' => by rw [hq] at hq';cases hq';rw [← hz];exact e,fun h => by rw [hz];exact h q hq⟩
     clear hz hc hq
     cases z
     ·have HBAD:Hid (¬ (phisR f k)):=hideI (fun h => Bool.noConfusion (HZ.out.2 h))
      go_wp2_with (go_at_call 107;go_must (refine HC.out.mono ?_);rintro e w4 ⟨rfl,hb4⟩;have HB4:=hideI hb4;clear hb4)
      have hx3:=row_cells HX2.out ((HB4.out.block _ (Nat.lt_of_lt_of_le hlx2 HBk.out.size)).trans (HBk.out.block _ hlx2))
      have y1:=hx3 1
      clear hx3
      go_quiet (fail)
      go_wp2
      go_ret2
      exact ⟨_,_,rfl,.inr (.inl ⟨HP0.out,k,⟨hk1,HBAD.out,HAk.out⟩,rfl⟩),drew_below ((HSW.out _ HALL.out).2.1.trans (HB4.out.mono (HSW.out _ HALL.out).2.1.size)) _⟩
     ·have HOK:Hid (phisR f k):=hideI (HZ.out.1 rfl)
      go_wp2_with (go_at_call 107;go_must (refine HC.out.mono ?_);rintro e w4 ⟨rfl,hb4⟩;have HB4:=hideI hb4;clear hb4)
      go_roundw
      case rel => exact ⟨k + 1,by omega,by go_num,hideI (upto_succ HAk.out HOK.out),hideI (HBk.out.trans (HB4.out.mono HBk.out.size))⟩
      case measure => simp [intOf];omega
    ·have HEND:Hid (∀ b,b < n → phisR f b):=hideI (fun b hb => HAk.out b (by omega))
     go_wp2
     go_roundw
     case rel => exact ⟨2,.inr (.inr (.inl rfl)),by go_num,hideI (fun _ => HP0.out),hideI (fun _ => HEND.out),hideI (fun h => by omega),HALL⟩
     case measure => simp [intOf]
  ·have HP0:=hideI (HA0.out (by omega))
   have HP1:=hideI (HA1.out (by omega))
   obtain ⟨W2,hW2⟩:∃ W2:World,W2=wr.alloc (.cells #[.func (.func 108) #[.agg #[.slice P pl pc,.int .i64 f.arrays,.int .i64 f.cells,.slice A n c,.slice (some ⟨gF,0,none⟩) n n,.slice (some ⟨gL,0,none⟩) n n,.slice (some ⟨gp,0,none⟩) n n,.map (some M)]] #[],.int .i64 6] 174):=⟨_,rfl⟩
   have HB2:Hid (Below W1.heap.size W1 W2):=by rw [hW2];exact hideI (HBr.out.alloc HBr.out.size _)
   have HX2:Hid (W2.heap[wr.heap.size]?=some (.cells #[.func (.func 108) #[.agg #[.slice P pl pc,.int .i64 f.arrays,.int .i64 f.cells,.slice A n c,.slice (some ⟨gF,0,none⟩) n n,.slice (some ⟨gL,0,none⟩) n n,.slice (some ⟨gp,0,none⟩) n n,.map (some M)]] #[],.int .i64 6] 174 (0,0))):=by rw [hW2];exact hideI (heap_alloc_new wr _)
   have HW2:=hideI hW2
   clear hW2 HA0 HA1 HA2
   go_wp2
   rw [← HW2.out]
   obtain ⟨wo,rfl⟩:∃ wo:World,wo=wr:=⟨_,rfl⟩
   clear hx0 hx1
   go_loopw [27] (fun u wr => ∃ k:Nat,k ≤ n ∧ u=.int .i64 k ∧ Hid (∀ a,a < k → usesR f F L a) ∧ Hid (Below W2.heap.size W2 wr)) (fun u _ => n - (intOf u).toNat)
   case atStart => exact ⟨0,Nat.zero_le _,rfl,hideI (fun a h => by omega),hideI (Below.refl _ _)⟩
   case round =>
    obtain ⟨k,hk,rfl,HAk,HBk⟩:=hrel
    have HALL:=hideI (HB2.out.trans (HBk.out.mono HB2.out.size))
    have hx2:=row_cells HX2.out (HBk.out.block _ (lt_of_heap HX2.out))
    have y0:=hx2 0
    have hlx2:=lt_of_heap HX2.out
    clear hx2
    by_cases hlk:k < n
    ·have hk1:k < n:=hlk
     obtain ⟨q,hq⟩:∃ q,f.blocks[k]?=some q:=⟨_,List.getElem?_eq_getElem (by rw [← HN.out];exact hlk)⟩
     have hc:=usesFit_any f B (.slice P pl pc) _ gF gL gp M F L k q wr (HSW.out _ HALL.out).1 (HSW.out _ HALL.out).2.2 (by rw [← HN.out];exact hn5) HK.out hq P pl pc rfl
     rw [← HN.out] at hc
     obtain ⟨z,hz⟩:∃ z:Bool,z=true ↔ usesR f F L k:=by
      by_cases h:usesR f F L k
      ·exact ⟨true,fun _ => h,fun _ => rfl⟩
      ·exact ⟨false,fun e => Bool.noConfusion e,fun e => absurd e h⟩
     have HZ:=hideI hz
     have hz2:∀ r:Bool,(r=true ↔ UsesFit f F L k q) → r=z:=by
      intro r hr
      have h1:usesR f F L k ↔ UsesFit f F L k q:=⟨fun h => h q hq,fun h q' hq' => by rw [hq] at hq';cases hq';exact h⟩
      rw [Bool.eq_iff_iff,hr,hz,h1]
     have HC:=hideI (hc.mono fun e w' (⟨r,h1,h2,h3⟩:UsesPost f F L k q wr e w') => (show e=Ending.returned (.bool z) ∧ Below wr.heap.size wr w' from ⟨by rw [h1,hz2 r h2],h3⟩))
     clear hc hq hz hz2
     cases z
     ·have HBAD:Hid (¬ (usesR f F L k)):=hideI (fun h => Bool.noConfusion (HZ.out.2 h))
      go_wp2_with (go_at_call 108;go_must (refine HC.out.mono ?_);rintro e w4 ⟨rfl,hb4⟩;have HB4:=hideI hb4;clear hb4)
      have hx3:=row_cells HX2.out ((HB4.out.block _ (Nat.lt_of_lt_of_le hlx2 HBk.out.size)).trans (HBk.out.block _ hlx2))
      have y1:=hx3 1
      clear hx3
      go_quiet (fail)
      go_wp2
      go_ret2
      exact ⟨_,_,rfl,.inr (.inr (.inl ⟨HP0.out,HP1.out,k,⟨hk1,HBAD.out,HAk.out⟩,rfl⟩)),drew_below ((HSW.out _ HALL.out).2.1.trans (HB4.out.mono (HSW.out _ HALL.out).2.1.size)) _⟩
     ·have HOK:Hid (usesR f F L k):=hideI (HZ.out.1 rfl)
      go_wp2_with (go_at_call 108;go_must (refine HC.out.mono ?_);rintro e w4 ⟨rfl,hb4⟩;have HB4:=hideI hb4;clear hb4)
      go_roundw
      case rel => exact ⟨k + 1,by omega,by go_num,hideI (upto_succ HAk.out HOK.out),hideI (HBk.out.trans (HB4.out.mono HBk.out.size))⟩
      case measure => simp [intOf];omega
    ·have HEND:Hid (∀ b,b < n → usesR f F L b):=hideI (fun b hb => HAk.out b (by omega))
     go_wp2
     go_roundw
     case rel => exact ⟨3,.inr (.inr (.inr rfl)),by go_num,hideI (fun _ => HP0.out),hideI (fun _ => HP1.out),hideI (fun _ => HEND.out),HALL⟩
     case measure => simp [intOf]
  ·have HP0:=hideI (HA0.out (by omega))
   have HP1:=hideI (HA1.out (by omega))
   have HP2:=hideI (HA2.out (by omega))
   clear hx0 hx1
   go_wp2
   go_ret2
   exact ⟨_,_,rfl,.inr (.inr (.inr ⟨HP0.out,HP1.out,HP2.out,rfl⟩)),(HSW.out _ HBr.out).2.1⟩
end Go.Proofs.YtaehbgppfahdeaaGreat

namespace Go.Proofs.YtaehbgppfahdeaaGreat
open Go.RowKit
theorem once_of {nb:Nat}:∀ (l seen:List Int),l.Nodup → (∀ x ∈ l,0 ≤ x ∧ x ≤ nb - 1) → (∀ x ∈ l,x ∉ seen) → onceB nb seen l=true:=by
 intro l
 induction l with
 | nil => intro seen _ _ _;rfl
 | cons b l ih =>
  intro seen h1 h2 h3
  rw [List.nodup_cons] at h1
  unfold onceB
  simp only [Bool.and_eq_true,Bool.not_eq_true']
  have hb:=h2 b (List.mem_cons_self ..)
  refine ⟨⟨?_,?_⟩,ih _ h1.2 (fun x hx => h2 x (List.mem_cons_of_mem _ hx)) (fun x hx hm => ?_)⟩
  ·unfold withinB
   simp only [Bool.and_eq_true,decide_eq_true_eq]
   exact hb
  ·have:=h3 b (List.mem_cons_self ..)
   simpa using this
  ·rcases List.mem_cons.1 hm with rfl | hm
   ·exact h1.1 hx
   ·exact h3 x (List.mem_cons_of_mem _ hx) hm
def OkTo (nb:Nat) (l:List Int) (k:Nat):Prop:=(l.take k).Nodup ∧ ∀ x ∈ l.take k,0 ≤ x ∧ x ≤ (nb:Int) - 1
theorem okTo_succ {nb k:Nat} {l:List Int} {x:Int} (h:OkTo nb l k) (hx:l[k]?=some x) (h1:0 ≤ x) (h2:x ≤ (nb:Int) - 1) (hd:∀ i,i < k → l[i]? ≠ some x):OkTo nb l (k + 1):=by
 obtain ⟨hk,rfl⟩:=List.getElem?_eq_some_iff.1 hx
 unfold OkTo
 rw [List.take_succ_eq_append_getElem hk]
 refine ⟨?_,fun y hy => ?_⟩
 ·rw [List.nodup_append]
  refine ⟨h.1,by simp,fun a ha b hb => ?_⟩
  simp at hb
  subst hb
  intro e
  subst e
  obtain ⟨i,hi⟩:=List.getElem?_of_mem ha
  rw [List.getElem?_take] at hi
  split at hi
  ·rename_i hik
   exact hd i hik hi
  ·cases hi
 ·rcases List.mem_append.1 hy with hy | hy
  ·exact h.2 y hy
  ·simp at hy
   subst hy
   exact ⟨h1,h2⟩
theorem once_true {nb:Nat} {l:List Int} (h:OkTo nb l l.length):onceB nb [] l=true:=by
 unfold OkTo at h
 rw [List.take_of_length_le (Nat.le_refl _)] at h
 exact once_of l [] h.1 h.2 (fun x _ hx => by cases hx)
theorem once_range {nb k:Nat} {l:List Int} {x:Int} (hx:l[k]?=some x) (h:x < 0 ∨ (nb:Int) ≤ x):onceB nb [] l=false:=by
 cases ho:onceB nb [] l
 ·rfl
 ·have:=(once_nodup l [] ho).2.1 x (List.mem_of_getElem? hx)
  omega
theorem once_twice {nb k j:Nat} {l:List Int} {x:Int} (hx:l[k]?=some x) (hj:l[j]?=some x) (hne:j < k):onceB nb [] l=false:=by
 cases ho:onceB nb [] l
 ·rfl
 ·have h:=(once_nodup l [] ho).1
  obtain ⟨h1,e1⟩:=List.getElem?_eq_some_iff.1 hx
  obtain ⟨h2,e2⟩:=List.getElem?_eq_some_iff.1 hj
  have:=List.pairwise_iff_getElem.1 h j k h2 h1 hne
  rw [e1,e2] at this
  exact absurd rfl this
theorem says_drew {b b':Bool} {w:World} {o o2:Obj} {m:Nat} (h:b=b'):Says b' w (.returned (.bool b)) (((w.alloc o).alloc o2).drewN m):=by
 subst h
 have:Below w.heap.size w ((w.alloc o).alloc o2):=((Below.refl _ w).alloc (Nat.le_refl _) _).alloc (by simp) _
 exact ⟨rfl,⟨this.os,this.tape,this.output,this.size,this.block⟩⟩
set_option maxRecDepth 100000 in
set_option maxHeartbeats 4000000 in
theorem refPhi_any (f:FuncM) (B:Nat) (pv av cv fv vv:Value) (A:Option Addr) (c:Nat) (p:PhiM) (w:World) (hfv:Ints w B fv p.fr) (hvv:Ints w B vv p.vals) (_hB:B ≤ w.heap.size) (_hl:f.blocks.length ≤ 512) :
  Calls Tryz.prog 131 #[.agg #[pv,av,cv,.slice A f.blocks.length c],.agg #[.int .i64 p.id,.int .i64 p.typ,fv,vv]] w (Says (phiB f p) w):=by
 obtain ⟨FA,fc,rfl,hfm,hfx⟩:=hfv
 obtain ⟨VA,vc,rfl,hvm,_⟩:=hvv
 obtain ⟨W2,hW2⟩:∃ W2,W2=(w.alloc (.cells #[pv,av,cv,.slice A f.blocks.length c] 25)).alloc (.cells #[.int .i64 p.id,.int .i64 p.typ,.slice FA p.fr.length fc,.slice VA p.vals.length vc] 76):=⟨_,rfl⟩
 have hbox:W2.heap[w.heap.size]?=some (.cells #[pv,av,cv,.slice A f.blocks.length c] 25 (0,0)):=by
  rw [hW2,Below.heap_alloc _ _ _ (by simp)]
  exact heap_alloc_new w _
 have hbox2:W2.heap[w.heap.size + 1]?=some (.cells #[.int .i64 p.id,.int .i64 p.typ,.slice FA p.fr.length fc,.slice VA p.vals.length vc] 76 (0,0)):=by
  have h:=heap_alloc_new (w.alloc (.cells #[pv,av,cv,.slice A f.blocks.length c] 25)) (.cells #[.int .i64 p.id,.int .i64 p.typ,.slice FA p.fr.length fc,.slice VA p.vals.length vc] 76)
  rw [hW2]
  simpa using h
 have hx1:=row_cells hbox rfl
 have hx2:=row_cells hbox2 rfl
 have HFX:Hid (∀ k,k < p.fr.length → ∃ b off,FA=some ⟨b,off,none⟩ ∧ b < B ∧ W2.cell? ⟨b,off + k,none⟩=some (.int .i64 (p.fr[k]?.getD 0))):=by
  intro k hk
  obtain ⟨b,off,h1,h2,h3⟩:=hfx k hk
  refine ⟨b,off,h1,h2,?_⟩
  rw [← h3]
  refine World.cell?_of_block (a:=⟨b,off + k,none⟩) ?_
  show W2.heap[b]?=w.heap[b]?
  rw [hW2,Below.heap_alloc _ _ _ (by simp;omega),Below.heap_alloc _ _ _ (by omega)]
 have HW2:=hideI hW2
 have hfin:∀ (b b':Bool) (m:Nat),b=b' → Says b' w (.returned (.bool b)) (W2.drewN m):=fun b b' m h => by rw [HW2.out];exact says_drew h
 have HFIN:=hideI hfin
 clear hfx hW2 hfin hbox hbox2
 have htyp:((p.typ != 1)=false ∨ ((p.typ != 1)=true ∧ (p.typ != 2)=false)) ∧ isTypeB p.typ=true ∨ ((p.typ != 1)=true ∧ (p.typ != 2)=true) ∧ isTypeB p.typ=false:=by
  unfold isTypeB
  by_cases h1:p.typ=1
  ·exact .inl ⟨.inl (by simpa using h1),by simp [h1]⟩
  by_cases h2:p.typ=2
  ·exact .inl ⟨.inr ⟨by simpa using h1,by simpa using h2⟩,by simp [h2]⟩
  exact .inr ⟨⟨by simpa using h1,by simpa using h2⟩,by simp [h1,h2]⟩
 rcases htyp with ⟨ht,hT⟩ | ⟨⟨t1,t2⟩,hT⟩
 ·by_cases hlen:p.vals.length=p.fr.length
  ·have hB2:phiB f p=onceB f.blocks.length [] p.fr:=by unfold phiB;rw [hT,hlen];simp
   rw [hB2]
   have hne:((p.fr.length:Int) != (p.vals.length:Int))=false:=by simp;omega
   clear hT hB2 hlen
   rcases ht with t1 | ⟨t1,t2⟩
   all_goals
    go_enter Tryz.func131,Tryz.ntmps131
    go_wp2
    rw [← HW2.out]
    go_loopw [5] (fun i wr => ∃ k m:Nat,k ≤ p.fr.length ∧ i=.int .i64 k ∧ Hid (OkTo f.blocks.length p.fr k) ∧ wr=W2.drewN m) (fun i _ => p.fr.length - (intOf i).toNat)
    case atStart => exact ⟨0,0,Nat.zero_le _,rfl,⟨by simp,by simp⟩,rfl⟩
    case round =>
     obtain ⟨k,m,hk,rfl,hok,rfl⟩:=hrel
     by_cases hlt:k < p.fr.length
     ·obtain ⟨b,off,rfl,hb,hc⟩:=HFX.out k hlt
      obtain ⟨x,hx⟩:∃ x,p.fr[k]?=some x:=⟨_,List.getElem?_eq_getElem hlt⟩
      rw [hx] at hc
      simp only [Option.getD_some] at hc
      have HX:=hideI hx
      clear hx
      cases h0:decide (x < 0)
      ·cases h1:decide ((f.blocks.length:Int) ≤ x)
       ·go_wp2
        go_quiet (fail)
        go_wp2
        go_loopw [6] (fun i wr => ∃ j n:Nat,j ≤ k ∧ i=.int .i64 j ∧ Hid (∀ i,i < j → p.fr[i]? ≠ some x) ∧ wr=W2.drewN n) (fun i _ => k - (intOf i).toNat)
        case atStart => exact ⟨0,m + nq,Nat.zero_le _,rfl,(fun i hi => absurd hi (by omega)),by rw [World.drewN_drewN]⟩
        case round =>
         obtain ⟨j,n,hj,rfl,hd,rfl⟩:=hrel
         by_cases hlj:j < k
         ·obtain ⟨b',off',hbe,hb',hc'⟩:=HFX.out j (by omega)
          obtain ⟨rfl,rfl⟩:b=b' ∧ off=off':=by simpa using hbe
          obtain ⟨y,hy⟩:∃ y,p.fr[j]?=some y:=⟨_,List.getElem?_eq_getElem (by omega)⟩
          rw [hy] at hc'
          simp only [Option.getD_some] at hc'
          have HY:=hideI hy
          clear hy
          cases he:y == x
          ·have HE:=hideI he
           go_wp2
           go_quiet (fail)
           go_wp2
           go_roundw
           case rel =>
            refine ⟨j + 1,_,by omega,by go_num,?_,rfl⟩
            intro i hi
            rcases Nat.lt_or_ge i j with hij | hij
            ·exact hd.out i hij
            ·have hij':i=j:=by omega
             rw [hij',HY.out]
             intro e
             injection e with e
             have:=HE.out
             rw [e] at this
             simp at this
           case measure => simp [intOf];omega
          ·have hyx:y=x:=by simpa using he
           have HYX:=hideI hyx
           clear hyx
           go_wp2
           go_quiet (fail)
           go_wp2
           go_ret
           rw [World.drewN_drewN]
           exact HFIN.out _ _ _ (once_twice HX.out (by rw [HY.out,HYX.out]) hlj).symm
         ·go_wp2
          go_roundw
          case rel => exact ⟨k + 1,n,by omega,by go_num,okTo_succ hok.out HX.out (by have:=of_decide_eq_false h0;omega) (by have:=of_decide_eq_false h1;omega) (fun i hi => hd.out i (by omega)),rfl⟩
          case measure => simp [intOf];omega
       ·go_wp2
        go_quiet (fail)
        go_wp2
        go_ret
        rw [World.drewN_drewN]
        exact HFIN.out _ _ _ (once_range HX.out (.inr (of_decide_eq_true h1))).symm
      ·go_wp2
       go_quiet (fail)
       go_wp2
       go_ret
       rw [World.drewN_drewN]
       exact HFIN.out _ _ _ (once_range HX.out (.inl (of_decide_eq_true h0))).symm
     ·have hfull:=hok.out
      rw [show k=p.fr.length by omega] at hfull
      have HO:=hideI (once_true hfull)
      clear hfull
      go_wp2
      go_ret
      exact HFIN.out _ _ _ HO.out.symm
  ·have hB2:phiB f p=false:=by
    have:(p.vals.length == p.fr.length)=false:=by simpa using hlen
    unfold phiB;rw [hT,this];rfl
   have hne:((p.fr.length:Int) != (p.vals.length:Int))=true:=by simp;omega
   rw [hB2]
   rcases ht with t1 | ⟨t1,t2⟩
   all_goals
    go_enter Tryz.func131,Tryz.ntmps131
    go_wp2
    rw [← HW2.out]
    go_ret
    exact HFIN.out _ _ 0 rfl
 ·have hB2:phiB f p=false:=by unfold phiB;rw [hT];rfl
  rw [hB2]
  go_enter Tryz.func131,Tryz.ntmps131
  go_wp2
  rw [← HW2.out]
  go_ret
  exact HFIN.out _ _ 0 rfl
end Go.Proofs.YtaehbgppfahdeaaGreat

namespace Go.Proofs.YtaehbgppfahdeaaGreat
open Go.RowKit
def mostR (f:FuncM) (kd:Int):Int:=if kd=2 then 1 else if kd=3 then f.arrays - 1 else if kd=4 then f.cells - 1 else 0
def fitsR (f:FuncM) (kd n:Int):Bool:=if kd=1 then true else decide (0 ≤ n) && decide (n ≤ mostR f kd)
def instrR (f:FuncM) (x:InstrM):Bool:=isOp x.op && ((x.args.length == (takesS x.op).length) && (!(makesS x.op == 0 && x.id != -1) && fitsR f (kindS x.op) x.n))
theorem says_two {b b':Bool} {w:World} {o o2:Obj} (h:b=b'):Says b' w (.returned (.bool b)) ((w.alloc o).alloc o2):=by
 subst h
 exact ⟨rfl,((Below.refl _ w).alloc (Nat.le_refl _) _).alloc (by simp) _⟩
theorem fitsR_neg {f:FuncM} {kd n:Int} (h:kd ≠ 1) (hz:decide (0 ≤ n)=false):fitsR f kd n=false:=by
 unfold fitsR
 rw [if_neg h,hz]
 rfl
theorem fitsR_pos {f:FuncM} {kd n:Int} (h:kd ≠ 1) (hz:decide (0 ≤ n)=true):fitsR f kd n=decide (n ≤ mostR f kd):=by
 unfold fitsR
 rw [if_neg h,hz]
 rfl
theorem most2 {f:FuncM}:mostR f 2=1:=rfl
theorem most3 {f:FuncM}:mostR f 3=f.arrays - 1:=rfl
theorem most4 {f:FuncM}:mostR f 4=f.cells - 1:=rfl
theorem most0 {f:FuncM} {kd:Int} (h2:(kd == 2)=false) (h3:(kd == 3)=false) (h4:(kd == 4)=false):mostR f kd=0:=by
 unfold mostR
 rw [if_neg (by simpa using h2),if_neg (by simpa using h3),if_neg (by simpa using h4)]
theorem kind_cases (kd:Int):kd=1 ∨ kd=2 ∨ kd=3 ∨ kd=4 ∨ ((kd == 1)=false ∧ (kd == 2)=false ∧ (kd == 3)=false ∧ (kd == 4)=false):=by
 by_cases h1:kd=1
 ·exact .inl h1
 by_cases h2:kd=2
 ·exact .inr (.inl h2)
 by_cases h3:kd=3
 ·exact .inr (.inr (.inl h3))
 by_cases h4:kd=4
 ·exact .inr (.inr (.inr (.inl h4)))
 exact .inr (.inr (.inr (.inr ⟨by simpa using h1,by simpa using h2,by simpa using h3,by simpa using h4⟩)))
set_option maxRecDepth 100000 in
set_option maxHeartbeats 4000000 in
theorem refInstr_any (f:FuncM) (pv bv:Value) (x:InstrM) (A:Option Addr) (c:Nat) (w:World) (_hl:x.args.length ≤ 140737488351232) (_ha:0 ≤ f.arrays ∧ f.arrays ≤ 8) (_hc:0 ≤ f.cells ∧ f.cells ≤ 64) :
  Calls Tryz.prog 132 #[.agg #[pv,.int .i64 f.arrays,.int .i64 f.cells,bv],.agg #[.int .i64 x.op,.int .i64 x.id,.slice A x.args.length c,.int .i64 x.n]] w (Says (instrR f x) w):=by
 obtain ⟨sb,hsb⟩:∃ sb:ByteArray,sb=⟨(shapeS x.op).1.toArray⟩:=⟨_,rfl⟩
 obtain ⟨mk,hmk⟩:∃ mk,mk=(shapeS x.op).2.1:=⟨_,rfl⟩
 obtain ⟨kd,hkd⟩:∃ kd,kd=(shapeS x.op).2.2.1:=⟨_,rfl⟩
 obtain ⟨ok,hok⟩:∃ ok,ok=(shapeS x.op).2.2.2:=⟨_,rfl⟩
 have hsz:sb.size=(takesS x.op).length:=by rw [hsb];unfold takesS;rw [List.length_map];simp [ByteArray.size]
 have HSH:Hid (shapeV x.op=.tuple #[.string sb,.int .i64 mk,.int .i64 kd,.bool ok]):=by show _=_;rw [hsb,hmk,hkd,hok];rfl
 have hI:instrR f x=(ok && ((x.args.length == sb.size) && (!(mk == 0 && x.id != -1) && fitsR f kd x.n))):=by
  unfold instrR
  rw [← hsz,hmk,hkd,hok]
  rfl
 rw [hI]
 have hs3:sb.size ≤ 3:=by rw [hsb];simpa [ByteArray.size] using shapeS_short x.op
 clear hsb hmk hkd hok hsz hI
 obtain ⟨n,hn⟩:∃ n,n=x.args.length:=⟨_,rfl⟩
 rw [← hn] at _hl ⊢
 clear hn
 cases ok
 ·go_enter Tryz.func132,Tryz.ntmps132
  go_wp2_with (go_at_call 72;refine (shape_any _ _).mono ?_;rintro e w3 ⟨rfl,rfl⟩;rw [HSH.out])
  go_ret
  exact says_two rfl
 ·by_cases hlen:n=sb.size
  ·cases hk:(mk == 0 && x.id != -1)
   ·rw [hlen] at _hl ⊢
    have hmi:(mk == 0)=false ∨ ((mk == 0)=true ∧ (x.id != -1)=false):=by
     cases h1:mk == 0
     ·exact .inl rfl
     ·rw [h1] at hk
      exact .inr ⟨rfl,by simpa using hk⟩
    rcases hmi with h1 | ⟨h1,h2⟩
    all_goals
     rcases kind_cases kd with rfl | rfl | rfl | rfl | ⟨k1,k2,k3,k4⟩
     ·go_enter Tryz.func132,Tryz.ntmps132
      go_wp2_with (go_at_call 72;refine (shape_any _ _).mono ?_;rintro e w3 ⟨rfl,rfl⟩;rw [HSH.out])
      go_ret
      exact says_two (by simp [fitsR])
     all_goals
      cases hz:decide (0 ≤ x.n)
      ·go_enter Tryz.func132,Tryz.ntmps132
       go_wp2_with (go_at_call 72;refine (shape_any _ _).mono ?_;rintro e w3 ⟨rfl,rfl⟩;rw [HSH.out])
       go_ret
       exact says_two (by rw [fitsR_neg (by first | decide | simpa using k1) hz];simp)
      ·go_enter Tryz.func132,Tryz.ntmps132
       go_wp2_with (go_at_call 72;refine (shape_any _ _).mono ?_;rintro e w3 ⟨rfl,rfl⟩;rw [HSH.out])
       go_ret
       exact says_two (by rw [fitsR_pos (by first | decide | simpa using k1) hz];first | (rw [most2];simp) | (rw [most3];simp) | (rw [most4];simp) | (rw [most0 k2 k3 k4];simp))
   ·rw [hlen] at _hl ⊢
    obtain ⟨h1,h2⟩:(mk == 0)=true ∧ (x.id != -1)=true:=by simpa using hk
    go_enter Tryz.func132,Tryz.ntmps132
    go_wp2_with (go_at_call 72;refine (shape_any _ _).mono ?_;rintro e w3 ⟨rfl,rfl⟩;rw [HSH.out])
    go_ret
    exact says_two (by simp)
  ·have hb:(n == sb.size)=false:=by simpa using hlen
   have hne:((n:Int) != (sb.size:Int))=true:=by simp;omega
   go_enter Tryz.func132,Tryz.ntmps132
   go_wp2_with (go_at_call 72;refine (shape_any _ _).mono ?_;rintro e w3 ⟨rfl,rfl⟩;rw [HSH.out])
   go_ret
   exact says_two (by rw [hb];rfl)
end Go.Proofs.YtaehbgppfahdeaaGreat
namespace Go.Proofs.YtaehbgppfahdeaaGreat
open Go.RowKit
def endR (t:TermM):Bool :=
 if t.op=1 then t.to.length == 1 && (t.val == -1 && t.n == 0) else
 if t.op=2 then t.to.length == 2 && t.n == 0 else
 if t.op=3 then t.to.length == 0 && t.n == 0 else
 if t.op=4 then t.to.length == 0 && (t.val == -1 && decide (0 ≤ t.n)) else false
theorem term_all {f:FuncM} {t:TermM} (h:targetsB f.blocks.length t.to=true):termB f t=endR t:=by
 unfold termB
 rw [h]
 rfl
theorem term_bad {f:FuncM} {t:TermM} {k:Nat} {x:Int} (hx:t.to[k]?=some x) (h:x < 1 ∨ (f.blocks.length:Int) ≤ x):termB f t=false:=by
 have h1:targetsB f.blocks.length t.to=false:=by
  cases hh:targetsB f.blocks.length t.to
  ·rfl
  ·unfold targetsB at hh
   have:=within_bd (List.all_eq_true.1 hh x (List.mem_of_getElem? hx))
   omega
 unfold termB
 rw [h1]
 rfl
set_option maxRecDepth 100000 in
set_option maxHeartbeats 4000000 in
theorem refEnd_any (f:FuncM) (B:Nat) (pv av cv tv:Value) (A:Option Addr) (c:Nat) (t:TermM) (w:World) (htv:Ints w B tv t.to) (_hB:B ≤ w.heap.size) (_hl:f.blocks.length ≤ 512) :
  Calls Tryz.prog 133 #[.agg #[pv,av,cv,.slice A f.blocks.length c],.agg #[.int .i64 t.op,.int .i64 t.val,tv,.int .i64 t.n]] w (Says (termB f t) w):=by
 obtain ⟨TA,tc,rfl,htm,htx⟩:=htv
 obtain ⟨W2,hW2⟩:∃ W2,W2=(w.alloc (.cells #[pv,av,cv,.slice A f.blocks.length c] 25)).alloc (.cells #[.int .i64 t.op,.int .i64 t.val,.slice TA t.to.length tc,.int .i64 t.n] 60):=⟨_,rfl⟩
 have hbox:W2.heap[w.heap.size]?=some (.cells #[pv,av,cv,.slice A f.blocks.length c] 25 (0,0)):=by
  rw [hW2,Below.heap_alloc _ _ _ (by simp)]
  exact heap_alloc_new w _
 have hbox2:W2.heap[w.heap.size + 1]?=some (.cells #[.int .i64 t.op,.int .i64 t.val,.slice TA t.to.length tc,.int .i64 t.n] 60 (0,0)):=by
  have h:=heap_alloc_new (w.alloc (.cells #[pv,av,cv,.slice A f.blocks.length c] 25)) (.cells #[.int .i64 t.op,.int .i64 t.val,.slice TA t.to.length tc,.int .i64 t.n] 60)
  rw [hW2]
  simpa using h
 have hx1:=row_cells hbox rfl
 have hx2:=row_cells hbox2 rfl
 have HFX:Hid (∀ k,k < t.to.length → ∃ b off,TA=some ⟨b,off,none⟩ ∧ b < B ∧ W2.cell? ⟨b,off + k,none⟩=some (.int .i64 (t.to[k]?.getD 0))):=by
  intro k hk
  obtain ⟨b,off,h1,h2,h3⟩:=htx k hk
  refine ⟨b,off,h1,h2,?_⟩
  rw [← h3]
  refine World.cell?_of_block (a:=⟨b,off + k,none⟩) ?_
  show W2.heap[b]?=w.heap[b]?
  rw [hW2,Below.heap_alloc _ _ _ (by simp;omega),Below.heap_alloc _ _ _ (by omega)]
 have HW2:=hideI hW2
 have hfin:∀ (b b':Bool) (m:Nat),b=b' → Says b' w (.returned (.bool b)) (W2.drewN m):=fun b b' m h => by rw [HW2.out];exact says_drew h
 have HFIN:=hideI hfin
 clear htx hW2 hfin hbox hbox2
 go_enter Tryz.func133,Tryz.ntmps133
 go_wp2
 rw [← HW2.out]
 go_loopw [5] (fun i wr => ∃ k m:Nat,k ≤ t.to.length ∧ i=.int .i64 k ∧ Hid ((t.to.take k).all (fun b => withinB b 1 (f.blocks.length - 1))=true) ∧ wr=W2.drewN m) (fun i _ => t.to.length - (intOf i).toNat)
 case atStart => exact ⟨0,0,Nat.zero_le _,rfl,by simp [Hid],rfl⟩
 case round =>
  obtain ⟨k,m,hk,rfl,hok,rfl⟩:=hrel
  by_cases hlt:k < t.to.length
  ·obtain ⟨b,off,rfl,hb,hc⟩:=HFX.out k hlt
   obtain ⟨x,hx⟩:∃ x,t.to[k]?=some x:=⟨_,List.getElem?_eq_getElem hlt⟩
   rw [hx] at hc
   simp only [Option.getD_some] at hc
   have HX:=hideI hx
   clear hx
   cases h0:decide (x < 1)
   ·cases h1:decide ((f.blocks.length:Int) ≤ x)
    ·go_wp2
     go_quiet (fail)
     go_wp2
     go_roundw
     case rel =>
      refine ⟨k + 1,_,by omega,by go_num,?_,rfl⟩
      have hxx:t.to[k]=x:=by have:=HX.out;rw [List.getElem?_eq_getElem hlt] at this;injection this
      show _=true
      rw [all_take_succ _ _ _ hlt,hok.out,hxx]
      unfold withinB
      have h2:=of_decide_eq_false h0
      have h3:=of_decide_eq_false h1
      simp
      omega
     case measure => simp [intOf];omega
    ·go_wp2
     go_quiet (fail)
     go_wp2
     go_ret
     rw [World.drewN_drewN]
     exact HFIN.out _ _ _ (term_bad HX.out (.inr (of_decide_eq_true h1))).symm
   ·go_wp2
    go_quiet (fail)
    go_wp2
    go_ret
    rw [World.drewN_drewN]
    exact HFIN.out _ _ _ (term_bad HX.out (.inl (of_decide_eq_true h0))).symm
  ·have hall:termB f t=endR t:=term_all (by have:=hok.out;rw [List.take_of_length_le (by omega)] at this;exact this)
   have HALL:=hideI hall
   clear hall
   rcases kind_cases t.op with h | h | h | h | ⟨o1,o2,o3,o4⟩
   ·have HOP:=hideI h
    have o1:(t.op == 1)=true:=by rw [h];rfl
    clear h
    by_cases hl:t.to.length=1
    ·have l1:((t.to.length:Int) == 1)=true:=by rw [hl];rfl
     have HL:=hideI hl
     clear hl
     cases hv:t.val == -1 <;> cases hn:t.n == 0
     all_goals
      go_wp2
      go_ret
      exact HFIN.out _ _ _ (by rw [HALL.out];unfold endR;simp [HOP.out,HL.out,hv,hn])
    ·have l1:((t.to.length:Int) == 1)=false:=beq_eq_false_iff_ne.2 (by omega)
     have HL:=hideI hl
     clear hl
     go_wp2
     go_ret
     exact HFIN.out _ _ _ (by rw [HALL.out];unfold endR;simp [HOP.out,HL.out])
   ·have HOP:=hideI h
    have o1:(t.op == 1)=false:=by rw [h];rfl
    have o2:(t.op == 2)=true:=by rw [h];rfl
    clear h
    by_cases hl:t.to.length=2
    ·have l1:((t.to.length:Int) == 2)=true:=by rw [hl];rfl
     have HL:=hideI hl
     clear hl
     cases hn:t.n == 0
     all_goals
      go_wp2
      go_ret
      exact HFIN.out _ _ _ (by rw [HALL.out];unfold endR;simp [HOP.out,HL.out,hn])
    ·have l1:((t.to.length:Int) == 2)=false:=beq_eq_false_iff_ne.2 (by omega)
     have HL:=hideI hl
     clear hl
     go_wp2
     go_ret
     exact HFIN.out _ _ _ (by rw [HALL.out];unfold endR;simp [HOP.out,HL.out])
   ·have HOP:=hideI h
    have o1:(t.op == 1)=false:=by rw [h];rfl
    have o2:(t.op == 2)=false:=by rw [h];rfl
    have o3:(t.op == 3)=true:=by rw [h];rfl
    clear h
    by_cases hl:t.to.length=0
    ·have l1:((t.to.length:Int) == 0)=true:=by rw [hl];rfl
     have HL:=hideI hl
     clear hl
     cases hn:t.n == 0
     all_goals
      go_wp2
      go_ret
      exact HFIN.out _ _ _ (by rw [HALL.out];unfold endR;simp [HOP.out,HL.out,hn])
    ·have l1:((t.to.length:Int) == 0)=false:=beq_eq_false_iff_ne.2 (by omega)
     have HL:=hideI hl
     clear hl
     go_wp2
     go_ret
     exact HFIN.out _ _ _ (by rw [HALL.out];unfold endR;simp [HOP.out,HL.out])
   ·have HOP:=hideI h
    have o1:(t.op == 1)=false:=by rw [h];rfl
    have o2:(t.op == 2)=false:=by rw [h];rfl
    have o3:(t.op == 3)=false:=by rw [h];rfl
    have o4:(t.op == 4)=true:=by rw [h];rfl
    clear h
    by_cases hl:t.to.length=0
    ·have l1:((t.to.length:Int) == 0)=true:=by rw [hl];rfl
     have HL:=hideI hl
     clear hl
     cases hv:t.val == -1 <;> cases hn:decide (0 ≤ t.n)
     all_goals
      go_wp2
      go_ret
      exact HFIN.out _ _ _ (by rw [HALL.out];unfold endR;simp [HOP.out,HL.out,hv,hn])
    ·have l1:((t.to.length:Int) == 0)=false:=beq_eq_false_iff_ne.2 (by omega)
     have HL:=hideI hl
     clear hl
     go_wp2
     go_ret
     exact HFIN.out _ _ _ (by rw [HALL.out];unfold endR;simp [HOP.out,HL.out])
   ·have hf:endR t=false:=by
     unfold endR
     rw [if_neg (by simpa using o1),if_neg (by simpa using o2),if_neg (by simpa using o3),if_neg (by simpa using o4)]
    have HE:=hideI hf
    clear hf
    go_wp2
    go_ret
    exact HFIN.out _ _ _ (by rw [HALL.out,HE.out])
end Go.Proofs.YtaehbgppfahdeaaGreat
namespace Go.Proofs.YtaehbgppfahdeaaGreat
open Go.RowKit Go.Maps
theorem drewN_below' {B n:Nat} {w w':World} (h:Below B w w'):Below B w (w'.drewN n):=⟨h.os,h.tape,h.output,h.size,h.block⟩
set_option maxHeartbeats 1000000 in
theorem refSize_any (bs:List BlockM) (B:Nat) (pv av cv bv:Value) (w:World) (hbv:BlocksR w B bv bs) (hB:B ≤ w.heap.size) (h2:bs.length ≤ 512) :
  Calls Tryz.prog 130 #[.agg #[pv,av,cv,bv]] w fun e w' => e=.returned (.int .i64 ((bs.map sizeB).sum:Nat)) ∧ Below w.heap.size w w':=by
 have HB:=hideI hbv
 obtain ⟨A,c,rfl,hbm,hbx⟩:=hbv
 have HX:=hideI hbx
 clear hbx
 go_enter Tryz.func130,Tryz.ntmps130
 go_wp2
 go_loopw [3,4] (fun n i wr => ∃ k S:Nat,k ≤ bs.length ∧ i=.int .i64 k ∧ n=.int .i64 S ∧ S + k=bs.length + ((bs.take k).map sizeB).sum ∧ S ≤ bs.length + k * 281474976702465 ∧ Below (w.heap.size + 1) (w.alloc (.cells #[pv,av,cv,.slice A bs.length c] 25)) wr) (fun _ i _ => bs.length - (intOf i).toNat)
 case atStart => exact ⟨0,bs.length,Nat.zero_le _,rfl,rfl,rfl,Nat.le_refl _,Below.refl _ _⟩
 case round =>
  obtain ⟨k,S,hk,rfl,rfl,hS,hSb,hBe⟩:=hrel
  obtain ⟨hx1,hz1⟩:=one_cells hBe
  have hks:=hideI (keeps_one hBe hB)
  have HBe:=hideI hBe
  have HS:=hideI hS
  clear hBe hS
  by_cases hlt:k < bs.length
  ·obtain ⟨q,hq⟩:∃ q,bs[k]?=some q:=⟨_,List.getElem?_eq_getElem hlt⟩
   obtain ⟨b,off,pv,cv,tv,rfl,hb,e0,e1,e2,e3,e4,e5,hpv,hcv,htv,_⟩:=HX.out k q hq
   have c0:=(hks.out b (off + k * 6) hb).trans e0
   have c1:=(hks.out b (off + k * 6 + 1) hb).trans e1
   obtain ⟨PA,pc,hpe,hpm,_⟩:=hpv
   obtain ⟨CA,cc,hce,hcm,_⟩:=hcv
   subst hpe hce
   have HQ:=hideI hq
   clear e0 e1 e2 e3 e4 e5 hq
   have hn1:S + (q.phis.length + q.code.length) ≤ bs.length + (k + 1) * 281474976702465:=by omega
   have hw1:IntKind.i64.wrap ((q.phis.length:Int) + q.code.length)=(q.phis.length:Int) + q.code.length:=IntWalk.i64_in _ (by omega)
   have hw2:IntKind.i64.wrap ((S:Int) + ((q.phis.length:Int) + q.code.length))=(S:Int) + ((q.phis.length:Int) + q.code.length):=IntWalk.i64_in _ (by omega)
   go_wp2
   go_quiet (fail)
   clear hw1 hw2
   go_wp2
   go_roundw
   case rel => exact ⟨k + 1,S + (q.phis.length + q.code.length),by omega,by go_num,by go_num,by rw [size_take _ _ _ HQ.out];have:=HS.out;omega,hn1,drewN_below' HBe.out⟩
   case measure => simp [intOf];omega
  ·have hS':S=(bs.map sizeB).sum:=by have:=HS.out;rw [List.take_of_length_le (by omega)] at this;omega
   go_wp2
   go_ret
   refine ⟨?_,below_one HBe.out⟩
   rw [hS']
   rfl
end Go.Proofs.YtaehbgppfahdeaaGreat
namespace Go.Proofs.YtaehbgppfahdeaaGreat
open Go.RowKit
def blockR (f:FuncM) (q:BlockM):Bool:=q.phis.all (phiB f) && (q.code.all (instrR f) && termB f q.term)
def headR (f:FuncM):Bool:=(f.blocks.headD ⟨[],[],⟨0,0,[],0⟩⟩).phis.isEmpty
def formedR (f:FuncM):Bool:=limitsB f && (f.params.all isTypeB && (headR f && f.blocks.all (blockR f)))
theorem Keeps.heap' {B:Nat} {w wr W:World} (h:Keeps B w wr) (e:W.heap=wr.heap):Keeps B w W:=fun b o hb =>
 (World.cell?_of_block (a:=⟨b,o,none⟩) (show W.heap[b]?=wr.heap[b]? by rw [e])).trans (h b o hb)
theorem undrew' {B:Nat} {w w':World} (h:Below B w.drew w'):Below B w w':=⟨h.os,h.tape,h.output,h.size,h.block⟩
def LimitsNo (f:FuncM):Prop :=
 16 < f.params.length ∨ (f.params.length ≤ 16 ∧ (f.arrays < 0 ∨ (0 ≤ f.arrays ∧ (8 < f.arrays ∨ (f.arrays ≤ 8 ∧ (f.cells < 0 ∨ (0 ≤ f.cells ∧ (64 < f.cells ∨ (f.cells ≤ 64 ∧
  (f.blocks.length < 1 ∨ (1 ≤ f.blocks.length ∧ (512 < f.blocks.length ∨ (f.blocks.length ≤ 512 ∧ 4096 < (f.blocks.map sizeB).sum)))))))))))))
theorem limits_split (f:FuncM):limitsB f=true ∨ (limitsB f=false ∧ LimitsNo f):=by
 cases h:limitsB f
 ·refine .inr ⟨rfl,?_⟩
  unfold LimitsNo
  apply Classical.byContradiction
  intro hc
  have:limitsB f=true:=by
   unfold limitsB withinB sizeM
   simp only [Bool.and_eq_true,decide_eq_true_eq]
   omega
  rw [h] at this
  cases this
 ·exact .inl rfl
theorem formedR_limits {f:FuncM} (h:limitsB f=false):formedR f=false:=by unfold formedR;rw [h];rfl
theorem formedR_param {f:FuncM} {k:Nat} {t:Int} (ht:f.params[k]?=some t) (h:isTypeB t=false):formedR f=false:=by
 have:f.params.all isTypeB=false:=by
  cases ha:f.params.all isTypeB
  ·rfl
  ·have:=List.all_eq_true.1 ha t (List.mem_of_getElem? ht)
   rw [h] at this
   cases this
 unfold formedR
 rw [this]
 simp
theorem formedR_head {f:FuncM} {q:BlockM} (hq:f.blocks[0]?=some q) {j:Nat} (h:j < q.phis.length):formedR f=false:=by
 have:headR f=false:=by
  unfold headR
  cases hb:f.blocks with
  | nil => rw [hb] at hq;cases hq
  | cons a l =>
   rw [hb] at hq
   simp at hq
   subst hq
   cases hp:a.phis
   ·rw [hp] at h;simp at h
   ·simp [hp]
 unfold formedR
 rw [this]
 simp
theorem formedR_block {f:FuncM} {k:Nat} {q:BlockM} (hq:f.blocks[k]?=some q) (h:blockR f q=false):formedR f=false:=by
 have:f.blocks.all (blockR f)=false:=by
  cases ha:f.blocks.all (blockR f)
  ·rfl
  ·have:=List.all_eq_true.1 ha q (List.mem_of_getElem? hq)
   rw [h] at this
   cases this
 unfold formedR
 rw [this]
 simp
theorem blockR_phi {f:FuncM} {q:BlockM} {k:Nat} {p:PhiM} (hp:q.phis[k]?=some p) (h:phiB f p=false):blockR f q=false:=by
 have:q.phis.all (phiB f)=false:=by
  cases ha:q.phis.all (phiB f)
  ·rfl
  ·have:=List.all_eq_true.1 ha p (List.mem_of_getElem? hp)
   rw [h] at this
   cases this
 unfold blockR
 rw [this]
 rfl
theorem blockR_instr {f:FuncM} {q:BlockM} {k:Nat} {p:InstrM} (hp:q.code[k]?=some p) (h:instrR f p=false):blockR f q=false:=by
 have:q.code.all (instrR f)=false:=by
  cases ha:q.code.all (instrR f)
  ·rfl
  ·have:=List.all_eq_true.1 ha p (List.mem_of_getElem? hp)
   rw [h] at this
   cases this
 unfold blockR
 rw [this]
 simp
theorem blockR_term {f:FuncM} {q:BlockM} (h:termB f q.term=false):blockR f q=false:=by
 unfold blockR
 rw [h]
 simp
theorem all_succ {α:Type} {p:α → Bool} {l:List α} {k:Nat} {x:α} (h:(l.take k).all p=true) (hx:l[k]?=some x) (hp:p x=true):(l.take (k + 1)).all p=true:=by
 obtain ⟨hk,rfl⟩:=List.getElem?_eq_some_iff.1 hx
 rw [all_take_succ _ _ _ hk,h,hp]
 rfl
theorem all_full {α:Type} {p:α → Bool} {l:List α} {k:Nat} (h:(l.take k).all p=true) (hk:l.length ≤ k):l.all p=true:=by
 rw [List.take_of_length_le hk] at h
 exact h
theorem type_split (t:Int):(((t != 1)=false ∨ ((t != 1)=true ∧ (t != 2)=false)) ∧ isTypeB t=true) ∨ (((t != 1)=true ∧ (t != 2)=true) ∧ isTypeB t=false):=by
 unfold isTypeB
 by_cases h1:t=1
 ·exact .inl ⟨.inl (by simpa using h1),by simp [h1]⟩
 by_cases h2:t=2
 ·exact .inl ⟨.inr ⟨by simpa using h1,by simpa using h2⟩,by simp [h2]⟩
 exact .inr ⟨⟨by simpa using h1,by simpa using h2⟩,by simp [h1,h2]⟩
theorem saysB {b b':Bool} {w w':World} (h:b=b') (hb:Below w.heap.size w w'):Says b' w (.returned (.bool b)) w':=by
 subst h
 exact ⟨rfl,hb⟩
set_option maxRecDepth 100000 in
set_option maxHeartbeats 8000000 in
theorem refFormed_no (f:FuncM) (B:Nat) (pv bv:Value) (w:World) (hpv:Ints w B pv f.params) (hbv:BlocksR w B bv f.blocks) (hB:B ≤ w.heap.size) (h:LimitsNo f) (hl:limitsB f=false) :
  Calls Tryz.prog 80 #[.agg #[pv,.int .i64 f.arrays,.int .i64 f.cells,bv]] w (Says (formedR f) w):=by
 rw [formedR_limits hl]
 clear hl
 have HBV:=hideI hbv
 obtain ⟨A,c,rfl,hbm,hbx⟩:=hbv
 obtain ⟨P,pc,rfl,hpm,hpx⟩:=hpv
 obtain ⟨S,hS⟩:∃ S,S=(f.blocks.map sizeB).sum:=⟨_,rfl⟩
 have HS:=hideI hS
 unfold LimitsNo at h
 rw [← hS] at h
 clear hbx hpx hS
 rcases h with h | ⟨a1,h | ⟨a2,h | ⟨a3,h | ⟨a4,h | ⟨a5,h | ⟨a6,h | ⟨a7,h⟩⟩⟩⟩⟩⟩⟩
 all_goals
  go_enter Tryz.func80,Tryz.ntmps80
  go_wp2_with (go_at_call 130;refine (refSize_any f.blocks B _ _ _ _ _ (HBV.out.keeps ((Keeps.refl w).alloc hB _)) (by simp;omega) (by omega)).mono ?_;rintro e w1 ⟨rfl,hb1⟩;rw [← HS.out];have HB1:=hideI hb1;clear hb1)
  go_ret
  first
   | exact says_new rfl
   | exact saysB rfl (((Below.refl _ w).alloc (Nat.le_refl _) _).trans (HB1.out.mono (by simp)))
set_option maxRecDepth 100000 in
set_option maxHeartbeats 16000000 in
theorem refFormed_yes (f:FuncM) (B:Nat) (pv bv:Value) (w:World) (hpv:Ints w B pv f.params) (hbv:BlocksR w B bv f.blocks) (hB:B ≤ w.heap.size) (hl:limitsB f=true) :
  Calls Tryz.prog 80 #[.agg #[pv,.int .i64 f.arrays,.int .i64 f.cells,bv]] w (Says (formedR f) w):=by
 have HLIM:=hideI hl
 obtain ⟨l1,l2,l3,l4,l5,l6,l7,l8⟩:=limits_bd hl
 have HBV:=hideI hbv
 obtain ⟨A,c,rfl,hbm,hbx⟩:=hbv
 obtain ⟨P,pc,rfl,hpm,hpx⟩:=hpv
 obtain ⟨S,hS⟩:∃ S,S=(f.blocks.map sizeB).sum:=⟨_,rfl⟩
 rw [← hS] at l8
 have HS:=hideI hS
 have HX:=hideI hbx
 have HP:=hideI hpx
 have hbox0:=hideI (heap_alloc_new w (.cells #[.slice P f.params.length pc,.int .i64 f.arrays,.int .i64 f.cells,.slice A f.blocks.length c] 25))
 have HB0:Hid (Below w.heap.size w (w.alloc (.cells #[.slice P f.params.length pc,.int .i64 f.arrays,.int .i64 f.cells,.slice A f.blocks.length c] 25))):=(Below.refl _ w).alloc (Nat.le_refl _) _
 clear hbx hpx hS hl
 go_enter Tryz.func80,Tryz.ntmps80
 go_wp2_with (go_at_call 130;refine (refSize_any f.blocks B _ _ _ _ _ (HBV.out.keeps ((Keeps.refl w).alloc hB _)) (by simp;omega) (by omega)).mono ?_;rintro e w1 ⟨rfl,hb1⟩;rw [← HS.out];have HBX:=hideI ((hb1.block _ (lt_of_heap hbox0.out)).trans hbox0.out);have hx:=row_cells HBX.out rfl;have HB1:=hideI (HB0.out.trans (hb1.mono (by simp)));clear hb1)
 have hsz:w.heap.size < w1.heap.size:=lt_of_heap HBX.out
 have HK:=hideI (Keeps.mono' (Keeps.of_below HB1.out) hB)
 go_loopw [3] (fun i wr => ∃ k:Nat,k ≤ f.params.length ∧ i=.int .i64 k ∧ Hid ((f.params.take k).all isTypeB=true) ∧ wr=w1) (fun i _ => f.params.length - (intOf i).toNat)
 case atStart => exact ⟨0,Nat.zero_le _,rfl,by simp [Hid],rfl⟩
 case round =>
  obtain ⟨k,hk,rfl,hok,rfl⟩:=hrel
  by_cases hlt:k < f.params.length
  ·obtain ⟨b3,off3,rfl,hb3,e3⟩:=HP.out k hlt
   obtain ⟨t,ht⟩:∃ t,f.params[k]?=some t:=⟨_,List.getElem?_eq_getElem hlt⟩
   rw [ht] at e3
   have f3:=(HK.out b3 (off3 + k) hb3).trans e3
   simp only [Option.getD_some] at f3
   have HT:=hideI ht
   clear e3 ht
   rcases type_split t with ⟨t1 | ⟨t1,t2⟩,hT⟩ | ⟨⟨t1,t2⟩,hT⟩
   ·have HTT:=hideI hT
    clear hT
    go_wp2
    go_roundw
    case rel => exact ⟨k + 1,by omega,by go_num,all_succ hok.out HT.out HTT.out,trivial⟩
    case measure => simp [intOf];omega
   ·have HTT:=hideI hT
    clear hT
    go_wp2
    go_roundw
    case rel => exact ⟨k + 1,by omega,by go_num,all_succ hok.out HT.out HTT.out,trivial⟩
    case measure => simp [intOf];omega
   ·have HTT:=hideI hT
    clear hT
    go_wp2
    go_ret
    exact saysB (formedR_param HT.out HTT.out).symm HB1.out
  ·have HPAR:Hid (f.params.all isTypeB=true):=all_full hok.out (by omega)
   go_wp2
   obtain ⟨wa,rfl⟩:∃ wa:World,wa=wr:=⟨_,rfl⟩
   clear hok hlt hk
   go_loopw [4] (fun i wr => ∃ k:Nat,k ≤ f.blocks.length ∧ i=.int .i64 k ∧ Hid ((f.blocks.take k).all (blockR f)=true) ∧ Hid (0 < k → headR f=true) ∧ Below wa.heap.size wa wr) (fun i _ => f.blocks.length - (intOf i).toNat)
   case atStart => exact ⟨0,Nat.zero_le _,rfl,by simp [Hid],(fun h => absurd h (by omega)),Below.refl _ _⟩
   case round =>
    obtain ⟨k,hk,rfl,hok,hhd,hbw⟩:=hrel
    have HBW:=hideI hbw
    have HBX2:=hideI ((hbw.block _ (lt_of_heap HBX.out)).trans HBX.out)
    have HBA:=hideI (HB1.out.trans (hbw.mono (Nat.le_of_lt hsz)))
    have HK2:=hideI (Keeps.mono' (Keeps.of_below HBA.out) hB)
    have hsz2:w.heap.size < wr.heap.size:=lt_of_heap HBX2.out
    clear hbw
    clear hx
    have hx:=row_cells HBX2.out rfl
    by_cases hlt:k < f.blocks.length
    ·obtain ⟨q,hq⟩:∃ q,f.blocks[k]?=some q:=⟨_,List.getElem?_eq_getElem hlt⟩
     obtain ⟨b,off,qpv,qcv,qtv,rfl,hb,e0,e1,e2,e3,e4,e5,hpv,hcv,htv,_⟩:=HX.out k q hq
     have c0:=(HK2.out b (off + k * 6) hb).trans e0
     have c1:=(HK2.out b (off + k * 6 + 1) hb).trans e1
     have c2:=(HK2.out b (off + k * 6 + 2) hb).trans e2
     have c3:=(HK2.out b (off + k * 6 + 3) hb).trans e3
     have c4:=(HK2.out b (off + k * 6 + 4) hb).trans e4
     have c5:=(HK2.out b (off + k * 6 + 5) hb).trans e5
     have HQ:=hideI hq
     have HTV:=hideI htv
     obtain ⟨PA,pc2,rfl,hpm2,hpx⟩:=hpv
     obtain ⟨CA,cc,rfl,hcm,hcx⟩:=hcv
     obtain ⟨TA,tc,rfl,_⟩:=htv
     have HPX:=hideI hpx
     have HCX:=hideI hcx
     clear e0 e1 e2 e3 e4 e5 hq hpx hcx
     obtain ⟨wo,rfl⟩:∃ wo:World,wo=wr:=⟨_,rfl⟩
     obtain ⟨W1,hW1⟩:∃ W1:World,W1=wo.alloc (.cells #[.slice PA q.phis.length pc2,.slice CA q.code.length cc,.int .i64 q.term.op,.int .i64 q.term.val,.slice TA q.term.to.length tc,.int .i64 q.term.n] 62):=⟨_,rfl⟩
     have HBB:Hid (W1.heap[wo.heap.size]?=some (.cells #[.slice PA q.phis.length pc2,.slice CA q.code.length cc,.int .i64 q.term.op,.int .i64 q.term.val,.slice TA q.term.to.length tc,.int .i64 q.term.n] 62 (0,0))):=by rw [hW1];exact heap_alloc_new wo _
     have HBX3:Hid (W1.heap[w.heap.size]?=some (.cells #[.slice P f.params.length pc,.int .i64 f.arrays,.int .i64 f.cells,.slice (some ⟨b,off,none⟩) f.blocks.length c] 25 (0,0))):=by show _=_;rw [hW1,Below.heap_alloc _ _ _ hsz2];exact HBX2.out
     have HBO:Hid (Below wo.heap.size wo W1):=by rw [hW1];exact (Below.refl _ _).alloc (Nat.le_refl _) _
     have hszo:wo.heap.size < W1.heap.size:=lt_of_heap HBB.out
     have HW1:=hideI hW1
     clear hW1
     go_wp2
     rw [← HW1.out]
     clear c0 c1 c2 c3 c4 c5 hx
     go_loopw [6] (fun i wr => ∃ j:Nat,j ≤ q.phis.length ∧ i=.int .i64 j ∧ Hid (k=0 → j=0) ∧ Hid ((q.phis.take j).all (phiB f)=true) ∧ Below W1.heap.size W1 wr) (fun i _ => q.phis.length - (intOf i).toNat)
     case atStart => exact ⟨0,Nat.zero_le _,rfl,(fun _ => rfl),by simp [Hid],Below.refl _ _⟩
     case round =>
      obtain ⟨j,hj,rfl,hj0,hpok,hbj⟩:=hrel
      have HBJ:=hideI hbj
      have HBBj:=hideI ((hbj.block _ hszo).trans HBB.out)
      have HBXj:=hideI ((hbj.block _ (lt_of_heap HBX3.out)).trans HBX3.out)
      have HBAj:=hideI (HBA.out.trans ((HBO.out.trans (hbj.mono (Nat.le_of_lt hszo))).mono (Nat.le_of_lt hsz2)))
      have HKj:=hideI (Keeps.mono' (Keeps.of_below HBAj.out) hB)
      have hszj:wo.heap.size < wr.heap.size:=lt_of_heap HBBj.out
      have hszw:w.heap.size < wr.heap.size:=lt_of_heap HBXj.out
      clear hbj
      have hx1:=row_cells HBBj.out rfl
      by_cases hlj:j < q.phis.length
      ·obtain ⟨p,hp⟩:∃ p,q.phis[j]?=some p:=⟨_,List.getElem?_eq_getElem hlj⟩
       have HPP:=hideI hp
       by_cases hk0:k=0
       ·have hkb:((k:Int) == 0)=true:=by rw [hk0];rfl
        have HNO:Hid (formedR f=false):=formedR_head (q:=q) (by have:=HQ.out;rw [hk0] at this;exact this) hlj
        clear hk0 hp
        go_wp2
        go_quiet (fail)
        go_wp2
        go_ret
        exact saysB HNO.out.symm (drewN_below' HBAj.out)
       ·have hkb:((k:Int) == 0)=false:=by simpa using hk0
        obtain ⟨b2,off2,fv,vv,rfl,hb2,e0,e1,e2,e3,hf,hv,_⟩:=HPX.out j p hp
        have HF:=hideI hf
        have HV:=hideI hv
        obtain ⟨FA,fc,rfl,_⟩:=hf
        obtain ⟨VA,vc,rfl,_⟩:=hv
        have d0:=(HKj.out b2 (off2 + j * 4) hb2).trans e0
        have d1:=(HKj.out b2 (off2 + j * 4 + 1) hb2).trans e1
        have d2:=(HKj.out b2 (off2 + j * 4 + 2) hb2).trans e2
        have d3:=(HKj.out b2 (off2 + j * 4 + 3) hb2).trans e3
        have HK0:=hideI hk0
        clear e0 e1 e2 e3 hp hk0
        have G0:Hid (∀ W,Below wr.heap.size wr W → W.cell? ⟨w.heap.size,0,none⟩=some (.slice P f.params.length pc) ∧ W.cell? ⟨w.heap.size,1,none⟩=some (.int .i64 f.arrays) ∧ W.cell? ⟨w.heap.size,2,none⟩=some (.int .i64 f.cells) ∧ W.cell? ⟨w.heap.size,3,none⟩=some (.slice (some ⟨b,off,none⟩) f.blocks.length c) ∧
          W.cell? ⟨wo.heap.size,0,none⟩=some (.slice (some ⟨b2,off2,none⟩) q.phis.length pc2) ∧ W.cell? ⟨b2,off2 + j * 4,none⟩=some (.int .i64 p.id) ∧ W.cell? ⟨b2,off2 + j * 4 + 1,none⟩=some (.int .i64 p.typ) ∧ W.cell? ⟨b2,off2 + j * 4 + 2,none⟩=some (.slice FA p.fr.length fc) ∧ W.cell? ⟨b2,off2 + j * 4 + 3,none⟩=some (.slice VA p.vals.length vc)) :=
         fun W hW => ⟨row_cells HBXj.out (hW.block _ (lt_of_heap HBXj.out)) 0,row_cells HBXj.out (hW.block _ (lt_of_heap HBXj.out)) 1,row_cells HBXj.out (hW.block _ (lt_of_heap HBXj.out)) 2,row_cells HBXj.out (hW.block _ (lt_of_heap HBXj.out)) 3,row_cells HBBj.out (hW.block _ (lt_of_heap HBBj.out)) 0,
          ((Keeps.of_below hW) _ _ (by omega)).trans d0,((Keeps.of_below hW) _ _ (by omega)).trans d1,((Keeps.of_below hW) _ _ (by omega)).trans d2,((Keeps.of_below hW) _ _ (by omega)).trans d3⟩
        go_wp2
        clear hx1 d0 d1 d2 d3
        obtain ⟨q0,q1,q2,q3,q4,q5,q6,q7,q8⟩:=G0.out _ (Below.refl _ _)
        cases hph:phiB f p
        all_goals
         have HPH:=hideI hph
         clear hph
         go_region_held3 (fun w' => w'.cell? ⟨w.heap.size,0,none⟩=some (.slice P f.params.length pc) ∧ w'.cell? ⟨w.heap.size,1,none⟩=some (.int .i64 f.arrays) ∧ w'.cell? ⟨w.heap.size,2,none⟩=some (.int .i64 f.cells) ∧ w'.cell? ⟨w.heap.size,3,none⟩=some (.slice (some ⟨b,off,none⟩) f.blocks.length c) ∧
          w'.cell? ⟨wo.heap.size,0,none⟩=some (.slice (some ⟨b2,off2,none⟩) q.phis.length pc2) ∧ w'.cell? ⟨b2,off2 + j * 4,none⟩=some (.int .i64 p.id) ∧ w'.cell? ⟨b2,off2 + j * 4 + 1,none⟩=some (.int .i64 p.typ) ∧ w'.cell? ⟨b2,off2 + j * 4 + 2,none⟩=some (.slice FA p.fr.length fc) ∧ w'.cell? ⟨b2,off2 + j * 4 + 3,none⟩=some (.slice VA p.vals.length vc)) (first | go_keep | exact G0.out _ (undrew' hb4))
          (first | (go_at_call 131;refine (refPhi_any f B _ _ _ _ _ _ c p _ (HF.out.keeps (Keeps.heap' HKj.out (by rfl))) (HV.out.keeps (Keeps.heap' HKj.out (by rfl))) (by exact Nat.le_trans hB (Nat.le_of_lt hszw)) l7).mono ?_;rw [HPH.out];rintro e w4 ⟨rfl,hb4⟩))
         have HB4:=hideI (show Below wr.heap.size wr w4 from undrew' hb4)
         clear q0 q1 q2 q3 q4 q5 q6 q7 q8 hb4
         go_wp2
        ·go_ret
         exact saysB (formedR_block HQ.out (blockR_phi HPP.out HPH.out)).symm (HBAj.out.trans (HB4.out.mono (Nat.le_of_lt hszw)))
        ·go_roundw
         case rel => exact ⟨j + 1,by omega,by go_num,(fun h => absurd h HK0.out),all_succ hpok.out HPP.out HPH.out,HBJ.out.trans (HB4.out.mono HBJ.out.size)⟩
         case measure => simp [intOf];omega
      ·have HPOK:Hid (q.phis.all (phiB f)=true):=all_full hpok.out (by omega)
       have HHD:Hid (headR f=true):=by
        by_cases hk0:k=0
        ·have h1:=hj0.out hk0
         have h2:q.phis=[]:=List.eq_nil_of_length_eq_zero (by omega)
         have h3:=HQ.out
         rw [hk0] at h3
         show _=_
         unfold headR
         cases hb:f.blocks with
         | nil => rw [hb] at h3;cases h3
         | cons a l =>
          rw [hb] at h3
          simp at h3
          subst h3
          simp [h2]
        ·exact hhd.out (by omega)
       go_wp2
       obtain ⟨wp,rfl⟩:∃ wp:World,wp=wr:=⟨_,rfl⟩
       clear hx1 hj0 hpok hlj hj
       go_loopw [7] (fun i wr => ∃ j:Nat,j ≤ q.code.length ∧ i=.int .i64 j ∧ Hid ((q.code.take j).all (instrR f)=true) ∧ Below W1.heap.size W1 wr) (fun i _ => q.code.length - (intOf i).toNat)
       case atStart => exact ⟨0,Nat.zero_le _,rfl,by simp [Hid],HBJ.out⟩
       case round =>
        clear HBJ HBBj HBXj HBAj HKj hszj hszw
        obtain ⟨j,hj,rfl,hcok,hbj⟩:=hrel
        have HBJ:=hideI hbj
        have HBBj:=hideI ((hbj.block _ hszo).trans HBB.out)
        have HBXj:=hideI ((hbj.block _ (lt_of_heap HBX3.out)).trans HBX3.out)
        have HBAj:=hideI (HBA.out.trans ((HBO.out.trans (hbj.mono (Nat.le_of_lt hszo))).mono (Nat.le_of_lt hsz2)))
        have HKj:=hideI (Keeps.mono' (Keeps.of_below HBAj.out) hB)
        have hszj:wo.heap.size < wr.heap.size:=lt_of_heap HBBj.out
        have hszw:w.heap.size < wr.heap.size:=lt_of_heap HBXj.out
        clear hbj
        have hx1:=row_cells HBBj.out rfl
        by_cases hlj:j < q.code.length
        ·obtain ⟨x,hp⟩:∃ x,q.code[j]?=some x:=⟨_,List.getElem?_eq_getElem hlj⟩
         have HPP:=hideI hp
         obtain ⟨b2,off2,av,rfl,hb2,e0,e1,e2,e3,hf,_⟩:=HCX.out j x hp
         obtain ⟨FA,fc,rfl,hfl,_⟩:=hf
         have d0:=(HKj.out b2 (off2 + j * 4) hb2).trans e0
         have d1:=(HKj.out b2 (off2 + j * 4 + 1) hb2).trans e1
         have d2:=(HKj.out b2 (off2 + j * 4 + 2) hb2).trans e2
         have d3:=(HKj.out b2 (off2 + j * 4 + 3) hb2).trans e3
         clear e0 e1 e2 e3 hp
         have G0:Hid (∀ W,Below wr.heap.size wr W → W.cell? ⟨w.heap.size,0,none⟩=some (.slice P f.params.length pc) ∧ W.cell? ⟨w.heap.size,1,none⟩=some (.int .i64 f.arrays) ∧ W.cell? ⟨w.heap.size,2,none⟩=some (.int .i64 f.cells) ∧ W.cell? ⟨w.heap.size,3,none⟩=some (.slice (some ⟨b,off,none⟩) f.blocks.length c) ∧
           W.cell? ⟨wo.heap.size,1,none⟩=some (.slice (some ⟨b2,off2,none⟩) q.code.length cc) ∧ W.cell? ⟨b2,off2 + j * 4,none⟩=some (.int .i64 x.op) ∧ W.cell? ⟨b2,off2 + j * 4 + 1,none⟩=some (.int .i64 x.id) ∧ W.cell? ⟨b2,off2 + j * 4 + 2,none⟩=some (.slice FA x.args.length fc) ∧ W.cell? ⟨b2,off2 + j * 4 + 3,none⟩=some (.int .i64 x.n)) :=
          fun W hW => ⟨row_cells HBXj.out (hW.block _ (lt_of_heap HBXj.out)) 0,row_cells HBXj.out (hW.block _ (lt_of_heap HBXj.out)) 1,row_cells HBXj.out (hW.block _ (lt_of_heap HBXj.out)) 2,row_cells HBXj.out (hW.block _ (lt_of_heap HBXj.out)) 3,row_cells HBBj.out (hW.block _ (lt_of_heap HBBj.out)) 1,
           ((Keeps.of_below hW) _ _ (by omega)).trans d0,((Keeps.of_below hW) _ _ (by omega)).trans d1,((Keeps.of_below hW) _ _ (by omega)).trans d2,((Keeps.of_below hW) _ _ (by omega)).trans d3⟩
         go_wp2
         clear hx1 d0 d1 d2 d3
         obtain ⟨q0,q1,q2,q3,q4,q5,q6,q7,q8⟩:=G0.out _ (Below.refl _ _)
         cases hph:instrR f x
         all_goals
          have HPH:=hideI hph
          clear hph
          go_region_held3 (fun w' => w'.cell? ⟨w.heap.size,0,none⟩=some (.slice P f.params.length pc) ∧ w'.cell? ⟨w.heap.size,1,none⟩=some (.int .i64 f.arrays) ∧ w'.cell? ⟨w.heap.size,2,none⟩=some (.int .i64 f.cells) ∧ w'.cell? ⟨w.heap.size,3,none⟩=some (.slice (some ⟨b,off,none⟩) f.blocks.length c) ∧
           w'.cell? ⟨wo.heap.size,1,none⟩=some (.slice (some ⟨b2,off2,none⟩) q.code.length cc) ∧ w'.cell? ⟨b2,off2 + j * 4,none⟩=some (.int .i64 x.op) ∧ w'.cell? ⟨b2,off2 + j * 4 + 1,none⟩=some (.int .i64 x.id) ∧ w'.cell? ⟨b2,off2 + j * 4 + 2,none⟩=some (.slice FA x.args.length fc) ∧ w'.cell? ⟨b2,off2 + j * 4 + 3,none⟩=some (.int .i64 x.n)) (first | go_keep | exact G0.out _ (undrew' hb4))
           (first | (go_at_call 132;refine (refInstr_any f _ _ x FA fc _ hfl ⟨l2,l3⟩ ⟨l4,l5⟩).mono ?_;rw [HPH.out];rintro e w4 ⟨rfl,hb4⟩))
          have HB4:=hideI (show Below wr.heap.size wr w4 from undrew' hb4)
          clear q0 q1 q2 q3 q4 q5 q6 q7 q8 hb4
          go_wp2
         ·go_ret
          exact saysB (formedR_block HQ.out (blockR_instr HPP.out HPH.out)).symm (HBAj.out.trans (HB4.out.mono (Nat.le_of_lt hszw)))
         ·go_roundw
          case rel => exact ⟨j + 1,by omega,by go_num,all_succ hcok.out HPP.out HPH.out,HBJ.out.trans (HB4.out.mono HBJ.out.size)⟩
          case measure => simp [intOf];omega
        ·have HCOK:Hid (q.code.all (instrR f)=true):=all_full hcok.out (by omega)
         have hx2:=row_cells HBXj.out rfl
         cases hph:termB f q.term
         ·have HPH:=hideI hph
          clear hph
          go_wp2_with (go_at_call 133;refine (refEnd_any f B _ _ _ _ _ c q.term _ (HTV.out.keeps HKj.out) (Nat.le_trans hB (Nat.le_of_lt hszw)) l7).mono ?_;rw [HPH.out];rintro e w4 ⟨rfl,hb4⟩;have HB4:=hideI hb4;clear hb4)
          go_ret
          exact saysB (formedR_block HQ.out (blockR_term HPH.out)).symm (HBAj.out.trans (HB4.out.mono (Nat.le_of_lt hszw)))
         ·have HPH:=hideI hph
          clear hph
          go_wp2_with (go_at_call 133;refine (refEnd_any f B _ _ _ _ _ c q.term _ (HTV.out.keeps HKj.out) (Nat.le_trans hB (Nat.le_of_lt hszw)) l7).mono ?_;rw [HPH.out];rintro e w4 ⟨rfl,hb4⟩;have HB4:=hideI hb4;clear hb4)
          have HBR:Hid (blockR f q=true):=by show _=_;unfold blockR;rw [HPOK.out,HCOK.out,HPH.out];rfl
          go_roundw
          case rel => exact ⟨k + 1,by omega,by go_num,all_succ hok.out HQ.out HBR.out,(fun _ => HHD.out),HBW.out.trans (((HBO.out.trans (HBJ.out.mono (Nat.le_of_lt hszo))).trans (HB4.out.mono (Nat.le_of_lt hszj))).mono HBW.out.size)⟩
          case measure => simp [intOf];omega
    ·have HOK:Hid (f.blocks.all (blockR f)=true):=all_full hok.out (by omega)
     have HH:=hideI (hhd.out (by omega))
     go_wp2
     go_ret
     exact saysB (by unfold formedR;rw [HLIM.out,HPAR.out,HH.out,HOK.out];rfl) HBA.out
theorem refFormed_any (f:FuncM) (B:Nat) (pv bv:Value) (w:World) (hpv:Ints w B pv f.params) (hbv:BlocksR w B bv f.blocks) (hB:B ≤ w.heap.size) :
  Calls Tryz.prog 80 #[.agg #[pv,.int .i64 f.arrays,.int .i64 f.cells,bv]] w (Says (formedR f) w):=by
 rcases limits_split f with h | ⟨h,h2⟩
 ·exact refFormed_yes f B pv bv w hpv hbv hB h
 ·exact refFormed_no f B pv bv w hpv hbv hB h2 h
end Go.Proofs.YtaehbgppfahdeaaGreat

namespace Go.Proofs.YtaehbgppfahdeaaGreat
open Go.RowKit
theorem addDef_eq {np:Nat} {ds d:Defs} {id t:Int} (h:addDef np ds id t=some d):d=ds ++ [(id,t)]:=by
 unfold addDef at h
 split at h
 ·injection h with h
  exact h.symm
 ·cases h
theorem makes_pos {op:Int} (h:makesS op ≠ 0):0 < makesS op:=by
 have:=makes_type h
 unfold isTypeB at this
 simp at this
 omega
theorem phisStep_eq {f:FuncM}:∀ {l:List PhiM} {ds d:Defs},phisStep f ds l=some d → d=ds ++ l.map fun p => (p.id,p.typ):=by
 intro l
 induction l with
 | nil => intro ds d h;injection h with h;simp [h]
 | cons p l ih =>
  intro ds d h
  unfold phisStep at h
  rw [Option.bind_eq_some_iff] at h
  obtain ⟨d1,h1,h2⟩:=h
  have h3:=ih h2
  unfold phiStep at h1
  split at h1
  ·rw [h3,addDef_eq h1,List.map_cons,List.append_assoc]
   rfl
  ·cases h1
theorem codeStep_eq {f:FuncM}:∀ {l:List InstrM} {ds d:Defs},codeStep f ds l=some d → d=ds ++ l.flatMap valuesInstr:=by
 intro l
 induction l with
 | nil => intro ds d h;injection h with h;simp [h]
 | cons x l ih =>
  intro ds d h
  unfold codeStep at h
  rw [Option.bind_eq_some_iff] at h
  obtain ⟨d1,h1,h2⟩:=h
  have h3:=ih h2
  have h4:d1=ds ++ valuesInstr x:=by
   unfold instrStep at h1
   unfold valuesInstr
   split at h1
   ·split at h1
    ·rename_i hm
     rw [if_neg (by omega)]
     split at h1
     ·injection h1 with h1
      simp [h1]
     ·cases h1
    ·rename_i hm
     rw [if_pos (makes_pos hm)]
     exact addDef_eq h1
   ·cases h1
  rw [h3,h4,List.flatMap_cons,List.append_assoc]
theorem blocksStep_eq {f:FuncM}:∀ {l:List BlockM} {ds d:Defs},blocksStep f ds l=some d → d=ds ++ l.flatMap valuesBlock:=by
 intro l
 induction l with
 | nil => intro ds d h;injection h with h;simp [h]
 | cons b l ih =>
  intro ds d h
  unfold blocksStep at h
  rw [Option.bind_eq_some_iff] at h
  obtain ⟨d1,h1,h2⟩:=h
  have h7:=ih h2
  unfold blockStep at h1
  rw [Option.bind_eq_some_iff] at h1
  obtain ⟨d2,h3,h4⟩:=h1
  rw [Option.bind_eq_some_iff] at h4
  obtain ⟨d3,h5,h6⟩:=h4
  split at h6
  ·injection h6 with h6
   subst h6
   rw [h7,codeStep_eq h5,phisStep_eq h3,List.flatMap_cons]
   simp only [valuesBlock,List.append_assoc]
  ·cases h6
theorem formed_eq {f:FuncM} {ds:Defs} (h:formedM f=some ds):ds=valuesM f:=by
 unfold formedM at h
 split at h
 ·exact blocksStep_eq h
 ·cases h
def typeR (vs:List (Int × Int)) (id:Int):Int:=match Defs.at vs id with | some t => t | none => 0
end Go.Proofs.YtaehbgppfahdeaaGreat
