/- What CanonChecks rests on, part 14: FnI, CHas, LPend, LWithin, LRise, LExits, LAddL. -/
import Derived.Test.YtaehbgppfahdeaaGreatPkCanonChecks13
import Derived.Deep.LoopGhost
import Derived.Deep.QuietTactic
import Derived.Maps.AppendAt
import Derived.Deep.AppendLies

namespace Go.Proofs.YtaehbgppfahdeaaGreat
open Go.RowKit Go.Maps
def FirstBy {α:Type} (p:α → Bool) (l:List α) (r:Int):Prop :=
 (r=-1 ∧ ∀ x ∈ l,p x=false) ∨ ∃ (k:Nat) (x:α),r=k ∧ l[k]?=some x ∧ p x=true ∧ ∀ j y,j < k → l[j]?=some y → p y=false
theorem FirstBy.any {α:Type} {p:α → Bool} {l:List α} {r:Int} (h:FirstBy p l r):l.any p=decide (0 ≤ r):=by
 rcases h with ⟨rfl,h⟩ | ⟨k,x,rfl,hx,hp,_⟩
 ·rw [show decide ((0:Int) ≤ -1)=false from rfl,List.any_eq_false]
  intro x hx
  rw [h x hx]
  simp
 ·rw [show decide ((0:Int) ≤ (k:Int))=true from decide_eq_true (by omega),List.any_eq_true]
  exact ⟨x,List.mem_of_getElem? hx,hp⟩
theorem FirstBy.one {α:Type} {p:α → Bool} {l:List α} {r s:Int} (h:FirstBy p l r) (k:FirstBy p l s):r=s:=by
 rcases h with ⟨rfl,h⟩ | ⟨i,x,rfl,hx,hp,hb⟩ <;> rcases k with ⟨rfl,k⟩ | ⟨j,y,rfl,hy,kp,kb⟩
 ·rfl
 ·rw [h y (List.mem_of_getElem? hy)] at kp;cases kp
 ·rw [k x (List.mem_of_getElem? hx)] at hp;cases hp
 ·rcases Nat.lt_trichotomy i j with h1 | h1 | h1
  ·rw [kb i x h1 hx] at hp;cases hp
  ·rw [h1]
  ·rw [hb j y h1 hy] at kp;cases kp
theorem first_some {α:Type} {p:α → Bool} {l:List α} (h:¬ ∀ x ∈ l,p x=false):∃ (k:Nat) (x:α),l[k]?=some x ∧ p x=true ∧ ∀ j y,j < k → l[j]?=some y → p y=false:=by
 have hex:∃ x ∈ l,p x=true:=by
  refine Classical.byContradiction fun hn => h fun x hx => ?_
  cases hp:p x
  ·rfl
  ·exact absurd ⟨x,hx,hp⟩ hn
 have hlt:l.findIdx p < l.length:=List.findIdx_lt_length_of_exists hex
 refine ⟨l.findIdx p,l[l.findIdx p],List.getElem?_eq_getElem hlt,List.findIdx_getElem,fun j y hj hy => ?_⟩
 obtain ⟨hjl,rfl⟩:=List.getElem?_eq_some_iff.1 hy
 have:=List.not_of_lt_findIdx hj
 simpa using this
def GivesOut (base q:Nat) (l:List Nat) (p:Nat → Bool) (w:World):Prop :=
 ∀ (W:World) (x:Nat),x ∈ l → Below base w W → Calls Tryz.prog 76 #[.int .i64 (x:Int),.pointer (some ⟨q,0,none⟩)] W fun e w' => e=.returned (.bool (p x)) ∧ Below W.heap.size W w'
set_option maxRecDepth 100000 in
set_option maxHeartbeats 2000000 in
theorem idxOut_any (l:List Nat) (B q:Nat) (v:Value) (p:Nat → Bool) (w:World) (hv:Ints w B v (l.map fun (x:Nat) => (x:Int))) (hB:B ≤ w.heap.size) (hp:GivesOut w.heap.size q l p w) :
  Calls Tryz.prog 129 #[v,.func (.func 76) #[] #[.pointer (some ⟨q,0,none⟩)]] w fun e w' => ∃ r,e=.returned (.int .i64 r) ∧ FirstBy p l r ∧ Below w.heap.size w w':=by
 obtain ⟨A,c,rfl,hm,hx⟩:=hv
 rw [List.length_map] at hm hx ⊢
 obtain ⟨n,hnn⟩:∃ n,n=l.length:=⟨_,rfl⟩
 have HN:=hideI hnn
 have HX:=hideI hx
 have HP:=hideI hp
 rw [← hnn] at hm HX ⊢
 clear hnn hx hp
 go_enter Tryz.func129,Tryz.ntmps129
 go_wp2
 go_loopg [5,8] n (fun gg _ s8 wr => ∃ kk:Nat,kk ≤ n ∧ n - kk ≤ gg ∧ s8=.int .i64 kk ∧ Hid (Below w.heap.size w wr) ∧ Hid (∀ j y,j < kk → l[j]?=some y → p y=false))
 case atStart => exact ⟨0,Nat.zero_le _,by omega,rfl,Below.refl _ w,fun j y h => absurd h (Nat.not_lt_zero _)⟩
 case round =>
  obtain ⟨k,hk,hgg,rfl,HBr,HA⟩:=hrel
  by_cases hlt:k < n
  ·obtain ⟨x,hxk⟩:∃ x,l[k]?=some x:=⟨_,List.getElem?_eq_getElem (by have:=HN.out;omega)⟩
   obtain ⟨b,off,rfl,hb,hcell⟩:=HX.out k hlt
   rw [List.getElem?_map,hxk] at hcell
   simp only [Option.map_some,Option.getD_some] at hcell
   have hc1:=(HBr.out.cell (p:=⟨b,off + k,none⟩) (by simp;omega)).trans hcell
   have hcall:=HP.out wr x (List.mem_of_getElem? hxk) HBr.out
   have HXK:=hideI hxk
   clear hxk hcell
   cases hq:p x with
   | true =>
    rw [hq] at hcall
    have HQ:=hideI hq
    have HC:=hideI hcall
    clear hq hcall
    go_wp2_with (go_at_call 76;refine HC.out.mono ?_;rintro e w' ⟨rfl,hb'⟩)
    go_ret
    exact ⟨_,rfl,.inr ⟨k,x,rfl,HXK.out,HQ.out,HA.out⟩,HBr.out.trans (hb'.mono HBr.out.size)⟩
   | false =>
    rw [hq] at hcall
    have HQ:=hideI hq
    have HC:=hideI hcall
    clear hq hcall
    go_wp2_with (go_at_call 76;refine HC.out.mono ?_;rintro e w' ⟨rfl,hb'⟩)
    go_roundg (n - (k + 1))
    case measure => omega
    case rel =>
     refine ⟨k + 1,by omega,by omega,by go_num,HBr.out.trans (hb'.mono HBr.out.size),fun j y hj hy => ?_⟩
     by_cases e:j=k
     ·subst e
      have h1:=HXK.out
      rw [hy] at h1
      cases h1
      exact HQ.out
     ·exact HA.out j y (by omega) hy
  ·have hkn:k=n:=by omega
   subst hkn
   go_wp2
   go_ret
   refine ⟨_,rfl,.inl ⟨rfl,fun x hx => ?_⟩,HBr.out⟩
   obtain ⟨j,hj⟩:=List.getElem?_of_mem hx
   exact HA.out j x (by have:=(List.getElem?_eq_some_iff.1 hj).1;have:=HN.out;omega) hj
set_option maxRecDepth 100000 in
set_option maxHeartbeats 2000000 in
theorem hasOut_any (l:List Nat) (B q:Nat) (v:Value) (p:Nat → Bool) (w:World) (hv:Ints w B v (l.map fun (x:Nat) => (x:Int))) (hB:B ≤ w.heap.size) (hp:GivesOut w.heap.size q l p w) :
  Calls Tryz.prog 79 #[v,.func (.func 76) #[] #[.pointer (some ⟨q,0,none⟩)]] w fun e w' => e=.returned (.bool (l.any p)) ∧ Below w.heap.size w w':=by
 have h0:=idxOut_any l B q v p w hv hB hp
 obtain ⟨A,c,rfl,hm,hx⟩:=hv
 rw [List.length_map] at h0 ⊢
 have HC:=hideI h0
 clear hp hx hm h0
 go_enter Tryz.func79,Tryz.ntmps79
 go_wp2_with (go_at_call 129;refine HC.out.mono ?_;rintro e w' ⟨r,rfl,hf,hb'⟩;have HF:=hideI hf.any;have HB:=hideI hb';clear hf hb')
 go_ret
 exact ⟨by rw [HF.out];rfl,HB.out⟩
def GivesIn (base q:Nat) (l:List Nat) (p:Nat → Bool) (w:World):Prop :=
 ∀ (W:World) (x:Nat),x ∈ l → Below base w W → Calls Tryz.prog 127 #[.int .i64 (x:Int),.pointer (some ⟨q,0,none⟩)] W fun e w' => e=.returned (.bool (p x)) ∧ Below W.heap.size W w'
theorem GivesIn.later {base base' q:Nat} {l:List Nat} {p:Nat → Bool} {w W:World} (h:GivesIn base q l p w) (hb:Below base w W) (hl:base ≤ base'):GivesIn base' q l p W :=
 fun W' x hx hb' => h W' x hx (hb.trans (hb'.mono hl))
set_option maxRecDepth 100000 in
set_option maxHeartbeats 2000000 in
theorem idxIn_any (l:List Nat) (B q:Nat) (v:Value) (p:Nat → Bool) (w:World) (hv:Ints w B v (l.map fun (x:Nat) => (x:Int))) (hB:B ≤ w.heap.size) (hp:GivesIn w.heap.size q l p w) :
  Calls Tryz.prog 129 #[v,.func (.func 127) #[] #[.pointer (some ⟨q,0,none⟩)]] w fun e w' => ∃ r,e=.returned (.int .i64 r) ∧ FirstBy p l r ∧ Below w.heap.size w w':=by
 obtain ⟨A,c,rfl,hm,hx⟩:=hv
 rw [List.length_map] at hm hx ⊢
 obtain ⟨n,hnn⟩:∃ n,n=l.length:=⟨_,rfl⟩
 have HN:=hideI hnn
 have HX:=hideI hx
 have HP:=hideI hp
 rw [← hnn] at hm HX ⊢
 clear hnn hx hp
 go_enter Tryz.func129,Tryz.ntmps129
 go_wp2
 go_loopg [5,8] n (fun gg _ s8 wr => ∃ kk:Nat,kk ≤ n ∧ n - kk ≤ gg ∧ s8=.int .i64 kk ∧ Hid (Below w.heap.size w wr) ∧ Hid (∀ j y,j < kk → l[j]?=some y → p y=false))
 case atStart => exact ⟨0,Nat.zero_le _,by omega,rfl,Below.refl _ w,fun j y h => absurd h (Nat.not_lt_zero _)⟩
 case round =>
  obtain ⟨k,hk,hgg,rfl,HBr,HA⟩:=hrel
  by_cases hlt:k < n
  ·obtain ⟨x,hxk⟩:∃ x,l[k]?=some x:=⟨_,List.getElem?_eq_getElem (by have:=HN.out;omega)⟩
   obtain ⟨b,off,rfl,hb,hcell⟩:=HX.out k hlt
   rw [List.getElem?_map,hxk] at hcell
   simp only [Option.map_some,Option.getD_some] at hcell
   have hc1:=(HBr.out.cell (p:=⟨b,off + k,none⟩) (by simp;omega)).trans hcell
   have hcall:=HP.out wr x (List.mem_of_getElem? hxk) HBr.out
   have HXK:=hideI hxk
   clear hxk hcell
   cases hq:p x with
   | true =>
    rw [hq] at hcall
    have HQ:=hideI hq
    have HC:=hideI hcall
    clear hq hcall
    go_wp2_with (go_at_call 127;refine HC.out.mono ?_;rintro e w' ⟨rfl,hb'⟩)
    go_ret
    exact ⟨_,rfl,.inr ⟨k,x,rfl,HXK.out,HQ.out,HA.out⟩,HBr.out.trans (hb'.mono HBr.out.size)⟩
   | false =>
    rw [hq] at hcall
    have HQ:=hideI hq
    have HC:=hideI hcall
    clear hq hcall
    go_wp2_with (go_at_call 127;refine HC.out.mono ?_;rintro e w' ⟨rfl,hb'⟩)
    go_roundg (n - (k + 1))
    case measure => omega
    case rel =>
     refine ⟨k + 1,by omega,by omega,by go_num,HBr.out.trans (hb'.mono HBr.out.size),fun j y hj hy => ?_⟩
     by_cases e:j=k
     ·subst e
      have h1:=HXK.out
      rw [hy] at h1
      cases h1
      exact HQ.out
     ·exact HA.out j y (by omega) hy
  ·have hkn:k=n:=by omega
   subst hkn
   go_wp2
   go_ret
   refine ⟨_,rfl,.inl ⟨rfl,fun x hx => ?_⟩,HBr.out⟩
   obtain ⟨j,hj⟩:=List.getElem?_of_mem hx
   exact HA.out j x (by have:=(List.getElem?_eq_some_iff.1 hj).1;have:=HN.out;omega) hj
def GivesSh (base q r:Nat) (l:List Nat) (p:Nat → Bool) (w:World):Prop :=
 ∀ (W:World) (x:Nat),x ∈ l → Below base w W → Calls Tryz.prog 78 #[.int .i64 (x:Int),.pointer (some ⟨q,0,none⟩),.pointer (some ⟨r,0,none⟩)] W fun e w' => e=.returned (.bool (p x)) ∧ Below W.heap.size W w'
set_option maxRecDepth 100000 in
set_option maxHeartbeats 2000000 in
theorem idxSh_any (l:List Nat) (B q r:Nat) (v:Value) (p:Nat → Bool) (w:World) (hv:Ints w B v (l.map fun (x:Nat) => (x:Int))) (hB:B ≤ w.heap.size) (hp:GivesSh w.heap.size q r l p w) :
  Calls Tryz.prog 129 #[v,.func (.func 78) #[] #[.pointer (some ⟨q,0,none⟩),.pointer (some ⟨r,0,none⟩)]] w fun e w' => ∃ r,e=.returned (.int .i64 r) ∧ FirstBy p l r ∧ Below w.heap.size w w':=by
 obtain ⟨A,c,rfl,hm,hx⟩:=hv
 rw [List.length_map] at hm hx ⊢
 obtain ⟨n,hnn⟩:∃ n,n=l.length:=⟨_,rfl⟩
 have HN:=hideI hnn
 have HX:=hideI hx
 have HP:=hideI hp
 rw [← hnn] at hm HX ⊢
 clear hnn hx hp
 go_enter Tryz.func129,Tryz.ntmps129
 go_wp2
 go_loopg [5,8] n (fun gg _ s8 wr => ∃ kk:Nat,kk ≤ n ∧ n - kk ≤ gg ∧ s8=.int .i64 kk ∧ Hid (Below w.heap.size w wr) ∧ Hid (∀ j y,j < kk → l[j]?=some y → p y=false))
 case atStart => exact ⟨0,Nat.zero_le _,by omega,rfl,Below.refl _ w,fun j y h => absurd h (Nat.not_lt_zero _)⟩
 case round =>
  obtain ⟨k,hk,hgg,rfl,HBr,HA⟩:=hrel
  by_cases hlt:k < n
  ·obtain ⟨x,hxk⟩:∃ x,l[k]?=some x:=⟨_,List.getElem?_eq_getElem (by have:=HN.out;omega)⟩
   obtain ⟨b,off,rfl,hb,hcell⟩:=HX.out k hlt
   rw [List.getElem?_map,hxk] at hcell
   simp only [Option.map_some,Option.getD_some] at hcell
   have hc1:=(HBr.out.cell (p:=⟨b,off + k,none⟩) (by simp;omega)).trans hcell
   have hcall:=HP.out wr x (List.mem_of_getElem? hxk) HBr.out
   have HXK:=hideI hxk
   clear hxk hcell
   cases hq:p x with
   | true =>
    rw [hq] at hcall
    have HQ:=hideI hq
    have HC:=hideI hcall
    clear hq hcall
    go_wp2_with (go_at_call 78;refine HC.out.mono ?_;rintro e w' ⟨rfl,hb'⟩)
    go_ret
    exact ⟨_,rfl,.inr ⟨k,x,rfl,HXK.out,HQ.out,HA.out⟩,HBr.out.trans (hb'.mono HBr.out.size)⟩
   | false =>
    rw [hq] at hcall
    have HQ:=hideI hq
    have HC:=hideI hcall
    clear hq hcall
    go_wp2_with (go_at_call 78;refine HC.out.mono ?_;rintro e w' ⟨rfl,hb'⟩)
    go_roundg (n - (k + 1))
    case measure => omega
    case rel =>
     refine ⟨k + 1,by omega,by omega,by go_num,HBr.out.trans (hb'.mono HBr.out.size),fun j y hj hy => ?_⟩
     by_cases e:j=k
     ·subst e
      have h1:=HXK.out
      rw [hy] at h1
      cases h1
      exact HQ.out
     ·exact HA.out j y (by omega) hy
  ·have hkn:k=n:=by omega
   subst hkn
   go_wp2
   go_ret
   refine ⟨_,rfl,.inl ⟨rfl,fun x hx => ?_⟩,HBr.out⟩
   obtain ⟨j,hj⟩:=List.getElem?_of_mem hx
   exact HA.out j x (by have:=(List.getElem?_eq_some_iff.1 hj).1;have:=HN.out;omega) hj
set_option maxRecDepth 100000 in
set_option maxHeartbeats 2000000 in
theorem hasSh_any (l:List Nat) (B q r:Nat) (v:Value) (p:Nat → Bool) (w:World) (hv:Ints w B v (l.map fun (x:Nat) => (x:Int))) (hB:B ≤ w.heap.size) (hp:GivesSh w.heap.size q r l p w) :
  Calls Tryz.prog 79 #[v,.func (.func 78) #[] #[.pointer (some ⟨q,0,none⟩),.pointer (some ⟨r,0,none⟩)]] w fun e w' => e=.returned (.bool (l.any p)) ∧ Below w.heap.size w w':=by
 have h0:=idxSh_any l B q r v p w hv hB hp
 obtain ⟨A,c,rfl,hm,hx⟩:=hv
 rw [List.length_map] at h0 ⊢
 have HC:=hideI h0
 clear hp hx hm h0
 go_enter Tryz.func79,Tryz.ntmps79
 go_wp2_with (go_at_call 129;refine HC.out.mono ?_;rintro e w' ⟨r,rfl,hf,hb'⟩;have HF:=hideI hf.any;have HB:=hideI hb';clear hf hb')
 go_ret
 exact ⟨by rw [HF.out];rfl,HB.out⟩
end Go.Proofs.YtaehbgppfahdeaaGreat

namespace Go.Proofs.YtaehbgppfahdeaaGreat
open Go.RowKit Go.Maps
theorem nat_rise {l:List Nat} (h:l.Pairwise (· < ·)):(l.map fun (x:Nat) => (x:Int)).Pairwise (· < ·):=by
 rw [List.pairwise_map]
 exact h.imp fun h => by omega
set_option maxRecDepth 100000 in
set_option maxHeartbeats 2000000 in
theorem cHas_any (l:List Nat) (n c x:Nat) (A:Option Addr) (v0 v2 v3 v4:Value) (w:World) (hi:Ints w w.heap.size (.slice A n c) (l.map fun (x:Nat) => (x:Int))) (hr:l.Pairwise (· < ·)) (hl:l.length ≤ 512) :
  Calls Tryz.prog 77 #[.agg #[v0,.slice A n c,v2,v3,v4],.int .i64 (x:Int)] w fun e w' => e=.returned (.bool (decide (x ∈ l))) ∧ Below w.heap.size w w':=by
 have HB0:Hid (Below w.heap.size w (w.alloc (.cells #[v0,.slice A n c,v2,v3,v4] 88))):=(Below.refl _ w).alloc (Nat.le_refl _) _
 have h0:=bs_any _ _ _ (x:Int) (w.alloc (.cells #[v0,.slice A n c,v2,v3,v4] 88)) (hi.keep HB0.out) (nat_rise hr) (by rw [List.length_map];exact hl)
 unfold BsPost at h0
 simp only [mem_nat] at h0
 have HC:=hideI h0
 clear h0
 clear hi hr
 go_enter Tryz.func77,Tryz.ntmps77
 go_wp2_with (go_at_call 128;refine HC.out.mono ?_;rintro e w1 ⟨p,rfl,rfl⟩)
 go_ret
 exact ⟨rfl,HB0.out⟩
structure LpBox (w:World) (q:Nat) (x:LpM):Prop where
 ex:∃ A c v0 v2 v3 v4,w.heap[q]?=some (.cells #[v0,.slice A x.blocks.length c,v2,v3,v4] 88 (0,0)) ∧ Ints w w.heap.size (.slice A x.blocks.length c) (x.blocks.map fun (x:Nat) => (x:Int))
theorem LpBox.kept {w w':World} {q:Nat} {x:LpM} (h:LpBox w q x) (hb:Below w.heap.size w w'):LpBox w' q x:=by
 obtain ⟨A,c,v0,v2,v3,v4,h1,h2⟩:=h.ex
 exact ⟨A,c,v0,v2,v3,v4,(hb.block _ (lt_of_heap h1)).trans h1,(h2.keep hb).more hb.size⟩
set_option maxRecDepth 100000 in
set_option maxHeartbeats 2000000 in
theorem cIn_any (x:LpM) (q b:Nat) (w:World) (h:LpBox w q x) (hr:x.blocks.Pairwise (· < ·)) (hl:x.blocks.length ≤ 512) :
  Calls Tryz.prog 127 #[.int .i64 (b:Int),.pointer (some ⟨q,0,none⟩)] w fun e w' => e=.returned (.bool (decide (b ∈ x.blocks))) ∧ Below w.heap.size w w':=by
 obtain ⟨A,c,v0,v2,v3,v4,h1,h2⟩:=h.ex
 have HC:=hideI (cHas_any x.blocks _ c b A v0 v2 v3 v4 w h2 hr hl)
 have hx:=row_cells h1 rfl
 have q0:=hx 0
 have q1:=hx 1
 have q2:=hx 2
 have q3:=hx 3
 have q4:=hx 4
 clear hx h h1 h2 hr hl
 go_enter Tryz.func127,Tryz.ntmps127
 go_wp2_with (go_at_call 77;refine HC.out.mono ?_;rintro e w1 ⟨rfl,hb⟩;have HB:=hideI hb;clear hb)
 go_ret
 exact ⟨rfl,HB.out⟩
set_option maxRecDepth 100000 in
set_option maxHeartbeats 2000000 in
theorem cOut_any (x:LpM) (q b:Nat) (w:World) (h:LpBox w q x) (hr:x.blocks.Pairwise (· < ·)) (hl:x.blocks.length ≤ 512) :
  Calls Tryz.prog 76 #[.int .i64 (b:Int),.pointer (some ⟨q,0,none⟩)] w fun e w' => e=.returned (.bool (!decide (b ∈ x.blocks))) ∧ Below w.heap.size w w':=by
 obtain ⟨A,c,v0,v2,v3,v4,h1,h2⟩:=h.ex
 have HC:=hideI (cHas_any x.blocks _ c b A v0 v2 v3 v4 w h2 hr hl)
 have hx:=row_cells h1 rfl
 have q0:=hx 0
 have q1:=hx 1
 have q2:=hx 2
 have q3:=hx 3
 have q4:=hx 4
 clear hx h h1 h2 hr hl
 go_enter Tryz.func76,Tryz.ntmps76
 go_wp2_with (go_at_call 77;refine HC.out.mono ?_;rintro e w1 ⟨rfl,hb⟩;have HB:=hideI hb;clear hb)
 go_ret
 exact ⟨rfl,HB.out⟩
theorem givesIn {w:World} {base q:Nat} {x:LpM} (l:List Nat) (h:LpBox w q x) (hr:x.blocks.Pairwise (· < ·)) (hl:x.blocks.length ≤ 512) (hb:w.heap.size ≤ base):GivesIn base q l (fun b => decide (b ∈ x.blocks)) w:=fun W b _ hW => by
 have h1:=cIn_any x q b W (h.kept (hW.mono hb)) hr hl
 exact h1
theorem givesOut {w:World} {base q:Nat} {x:LpM} (l:List Nat) (h:LpBox w q x) (hr:x.blocks.Pairwise (· < ·)) (hl:x.blocks.length ≤ 512) (hb:w.heap.size ≤ base):GivesOut base q l (fun b => !decide (b ∈ x.blocks)) w:=fun W b _ hW => by
 have h1:=cOut_any x q b W (h.kept (hW.mono hb)) hr hl
 exact h1
end Go.Proofs.YtaehbgppfahdeaaGreat

namespace Go.Proofs.YtaehbgppfahdeaaGreat
open Go.RowKit Go.Maps
theorem append_types {t u ty e e':TypeId} (ht:Tryz.prog.underlying t=some (.slice e)) (hu:Tryz.prog.underlying u=some (.slice e')) (args:Array Value) (w:World):(Builtin.append_ #[t,u] ty args).run Tryz.prog w=(Builtin.append_ #[t,t] ty args).run Tryz.prog w:=by
 unfold Builtin.append_
 cases args[0]? with
 | none => simp
 | some s =>
  cases args[1]? with
  | none => simp
  | some x =>
   cases s <;> simp [Sem.run_bind,run_underlying ht,run_underlying hu]
theorem lapp_none (w:World) (v:Value) (n c0 c ty:Nat) (A:Option Addr) (hv:v=.slice A n c0) (hn:n ≤ c0):(Builtin.append_ #[306,22] ty #[v,.slice none 0 c]).run Tryz.prog w=.ok v w:=by
 have hpure:Sem.run Tryz.prog (pure (#[]:Array Value)) w=.ok #[] w:=rfl
 subst hv
 cases A with
 | none => go_simp
 | some a => go_simp
set_option maxRecDepth 100000 in
theorem lapp_any {w:World} {base B n:Nat} {v s:Value} {ws xs:List Nat} (ty:TypeId) (hown:w.ownsRow base 3 1 v n (natInts ws)) (hn:n=ws.length) (hi:Ints w B s (xs.map fun (x:Nat) => (x:Int))) (hle:ws.length + xs.length ≤ 4000000) (hbase:base ≤ w.heap.size) :
  ∃ A c w',(Builtin.append_ #[306,22] ty #[v,s]).run Tryz.prog w=.ok (.slice A (ws.length + xs.length) c) w' ∧ w'.ownsRow base 3 1 (.slice A (ws.length + xs.length) c) (ws.length + xs.length) (natInts (ws ++ xs)) ∧ w.grownBy w' v.ownBlock:=by
 subst hn
 obtain ⟨A,c,rfl,_,hat⟩:=hi
 rw [List.length_map] at hat ⊢
 cases A with
 | none =>
  have h0:xs=[]:=by
   cases xs with
   | nil => rfl
   | cons x r =>
    obtain ⟨_,_,e,_⟩:=hat 0 (by simp)
    cases e
  subst h0
  have hform:∃ A c0,v=.slice A ws.length c0 ∧ ws.length ≤ c0:=by
   rcases hown.2 with ⟨e,e0⟩ | ⟨g,cap,cur,e,_,_,h,_⟩
   ·exact ⟨none,0,by rw [e,e0],by omega⟩
   ·exact ⟨_,_,e,h⟩
  obtain ⟨A,c0,hv,hc⟩:=hform
  refine ⟨A,c0,w,?_,?_,World.grownBy.refl w _⟩
  ·rw [List.length_nil,Nat.add_zero,← hv]
   exact lapp_none w v ws.length c0 c ty A hv hc
  ·rw [List.length_nil,Nat.add_zero,List.append_nil,← hv]
   exact hown
 | some ad =>
  obtain ⟨i0,hix,hz0,hz1,hz2⟩:=info_parts int_info
  have hnews:∀ j u,(natInts xs)[j]?=some u → w.cell? (ad.add j)=some u:=fun j u hj => by
   unfold natInts at hj
   rw [List.getElem?_map] at hj
   cases hx:xs[j]? with
   | none => rw [hx] at hj;cases hj
   | some y =>
    rw [hx] at hj
    injection hj with hj
    obtain ⟨b,off,e,_,hc⟩:=hat j (List.getElem?_eq_some_iff.1 hx).1
    injection e with e
    subst e
    rw [Go.WideShapes.add_plain,hc,List.getElem?_map,hx,← hj]
    rfl
  rw [append_types Tryz.underlying306 Tryz.underlying22]
  obtain ⟨v',w',hr,h2,h3,_,_⟩:=run_append_own_at (P:=Tryz.prog) w base 306 ty 3 i0 _ 1 8 Tryz.underlying306 hix hz0 hz1 hz2 rfl (by decide) _ ws.length (natInts ws) hown ad xs.length c (natInts xs) (by simp [natInts]) hnews (fun u hu => by
   obtain ⟨y,_,rfl⟩:=List.mem_map.1 hu
   rfl) (by unfold maxLen;omega) (by omega) hbase
  obtain ⟨A',c',rfl⟩:∃ A' c',v'=.slice A' (ws.length + xs.length) c':=by
   rcases h2.2 with ⟨e,e0⟩ | ⟨g2,cap,cur,e,_⟩
   ·exact ⟨none,0,by rw [e,e0]⟩
   ·exact ⟨_,_,e⟩
  refine ⟨A',c',w',hr,?_,h3⟩
  unfold natInts at h2 ⊢
  rw [List.map_append]
  exact h2
theorem wpList_lapp {ops:Array Oper} {rest:List Oper} {o:Oper} {a:Act} {Q:Exit → Act → World → Prop} {w:World} (hgd:o.guard=none) (s x:Operand) (ho:o.op=.call { callee:=.builtin .append,args:=#[s,x],argTypes:=#[306,22] })
  (vs vx:Value) (hs:a.eval s=vs) (hx:a.eval x=vx) {base B n:Nat} {ws xs:List Nat} (hown:w.ownsRow base 3 1 vs n (natInts ws)) (hn:n=ws.length) (hi:Ints w B vx (xs.map fun (x:Nat) => (x:Int))) (hle:ws.length + xs.length ≤ 4000000) (hbase:base ≤ w.heap.size)
  (h:∀ A c w',w'.ownsRow base 3 1 (.slice A (ws.length + xs.length) c) (ws.length + xs.length) (natInts (ws ++ xs)) → w.grownBy w' vs.ownBlock → wpList Tryz.prog ops Q rest (a.put o.dst (.slice A (ws.length + xs.length) c)) w'):wpList Tryz.prog ops Q (o :: rest) a w :=
 wpList_plain hgd fun _ hK => by
  obtain ⟨A,c,w',hr,h1,h2⟩:=lapp_any o.type hown hn hi hle hbase
  unfold Oper.wp execOp
  simp only [ho,resolve,invoke,builtin,Sem.run_bind,Sem.run_pure,Result.andThen_ok,List.map_toArray,List.map_cons,List.map_nil,hs,hx,hr]
  exact hK _ _ (h A c w' h1 h2)
def PendAt (w:World) (gk:Nat) (ws:List Nat):Prop :=
 ∃ v,w.heap[gk]?=some (.cells #[v] 306 (0,0)) ∧ w.ownsRow (gk + 1) 3 1 v ws.length (natInts ws)
theorem PendAt.lt {w:World} {gk:Nat} {ws:List Nat} (h:PendAt w gk ws):gk < w.heap.size:=by
 obtain ⟨v,h1,_⟩:=h
 exact (Array.getElem?_eq_some_iff.1 h1).1
theorem PendAt.other {w:World} {gk j off:Nat} {ws:List Nat} (h:PendAt w gk ws) (hj:j < gk) (u:Value):PendAt (w.setCell ⟨j,off,none⟩ u) gk ws:=by
 obtain ⟨v,h1,h2⟩:=h
 refine ⟨v,?_,ownsRow_setCell_other h2 (a:=⟨j,off,none⟩) (by intro e;have:=(h2.lt j e).1;omega) u⟩
 rw [← h1]
 exact heap_setCell_other w ⟨j,off,none⟩ gk u (by show gk ≠ j;omega)
theorem PendAt.put {w:World} {gk n:Nat} {v0 v:Value} {ws:List Nat} (hg:w.heap[gk]?=some (.cells #[v0] 306 (0,0))) (ho:w.ownsRow (gk + 1) 3 1 v n (natInts ws)) (hn:n=ws.length):PendAt (w.setCell ⟨gk,0,none⟩ v) gk ws:=by
 subst hn
 refine ⟨v,?_,ownsRow_setCell_other ho (a:=⟨gk,0,none⟩) (by intro e;have:=(ho.lt gk e).1;omega) v⟩
 rw [heap_setCell_same _ gk 0 _ _ v hg]
 rfl
theorem own_init {w:World} {base cap g n x:Nat} {ws:List Nat} (h:w.ownsRow base 3 1 (.slice (some ⟨g,0,none⟩) (n + 1) cap) (n + 1) (natInts (ws ++ [x]))) (hn:n=ws.length):w.ownsRow base 3 1 (.slice (some ⟨g,0,none⟩) n cap) n (natInts ws):=by
 rcases h.2 with ⟨e,_⟩ | ⟨g1,cap1,cur,e,hb,hg,hc,hm,hs,ht⟩
 ·cases e
 ·cases e
  refine ⟨by simp [natInts,hn],.inr ⟨g,cap,cur,rfl,hb,hg,by omega,hm,hs,?_⟩⟩
  have h1:=congrArg (List.take (n * 1)) ht
  rw [List.take_take] at h1
  rw [show min (n * 1) ((n + 1) * 1)=n * 1 by omega] at h1
  rw [h1]
  unfold natInts
  rw [List.map_append,List.take_left' (by simp [hn])]
def AddPost' (gk:Nat) (ws:List Nat) (w:World) (e:Ending) (w':World):Prop:=e=.returned (.tuple #[]) ∧ PendAt w' gk ws ∧ Below gk w w'
set_option maxRecDepth 100000 in
set_option maxHeartbeats 2000000 in
theorem lAdd_any (gk B:Nat) (ws xs:List Nat) (s:Value) (w:World) (hp:PendAt w gk ws) (hi:Ints w B s (xs.map fun (x:Nat) => (x:Int))) (hle:ws.length + xs.length ≤ 4000000) :
  Calls Tryz.prog 250 #[.pointer (some ⟨gk,0,none⟩),s] w (AddPost' gk (ws ++ xs) w):=by
 have hlt:=hp.lt
 obtain ⟨v,hg,hown⟩:=hp
 have HOWN:=hideI hown
 have HI:=hideI hi
 have HG:=hideI hg
 have hx:=row_cells hg rfl
 have q0:=hx 0
 obtain ⟨A0,c0,rfl⟩:∃ A0 c0,v=.slice A0 ws.length c0:=by
  rcases hown.2 with ⟨e,e0⟩ | ⟨g2,cap,cur,e,_⟩
  ·exact ⟨none,0,by rw [e,e0]⟩
  ·exact ⟨_,_,e⟩
 obtain ⟨A1,c1,rfl,_⟩:=hi
 rw [List.length_map] at HI ⊢
 clear hown hg hx
 go_enter Tryz.func250,Tryz.ntmps250
 go_wp2_with (at_builtin;go_must (refine wpList_lapp rfl _ _ rfl _ _ rfl rfl HOWN.out rfl HI.out hle hlt ?_);intro A c w1 hown1 hg1;go_must (have HO1:=hideI hown1;have hgk:=hg1.block gk hlt (fun e => by have:=(HOWN.out.lt gk e.symm).1;omega);have HGK:=hideI (hgk.trans HG.out);have hx:=row_cells HGK.out rfl;have r0:=hx 0;have r1:=free_rowN HGK.out rfl 0;have HB1:Hid (Below gk w w1):=(Below.refl gk w).grown hg1 (Nat.le_of_lt hlt) (fun k hk => by have:=(HOWN.out.lt k hk).1;omega);clear hown1 hg1 hgk hx q0))
 refine bodyPost_ret (v:=.tuple #[]) (by simp [results,Tryz.results250,go_sem]) rfl ⟨rfl,?_,HB1.out.setCell (Nat.le_refl _) _⟩
 exact PendAt.put HGK.out HO1.out (by rw [List.length_append])
def TakePost (gk:Nat) (ws:List Nat) (w:World) (e:Ending) (w':World):Prop :=
 (ws=[] ∧ e=.returned (.tuple #[.int .i64 0,.bool false]) ∧ PendAt w' gk [] ∧ Below gk w w') ∨
 ∃ (ws0:List Nat) (b:Nat),ws=ws0 ++ [b] ∧ e=.returned (.tuple #[.int .i64 b,.bool true]) ∧ PendAt w' gk ws0 ∧ Below gk w w'
set_option maxRecDepth 100000 in
set_option maxHeartbeats 2000000 in
theorem lTake_any (gk:Nat) (ws:List Nat) (w:World) (hp:PendAt w gk ws) (hl:ws.length ≤ 4000000) :
  Calls Tryz.prog 251 #[.pointer (some ⟨gk,0,none⟩)] w (TakePost gk ws w):=by
 have hlt:=hp.lt
 have HPP:=hideI hp
 obtain ⟨v,hg,hown⟩:=hp
 have HG:=hideI hg
 have hx:=row_cells hg rfl
 have q0:=hx 0
 have q1:=free_rowN hg rfl 0
 rcases List.eq_nil_or_concat ws with rfl | ⟨ws0,b,rfl⟩
 ·obtain ⟨A0,c0,rfl⟩:∃ A0 c0,v=.slice A0 0 c0:=by
   rcases hown.2 with ⟨e,e0⟩ | ⟨g2,cap,cur,e,_⟩
   ·exact ⟨none,0,e⟩
   ·exact ⟨_,_,e⟩
  clear hown hg hx hl
  go_enter Tryz.func251,Tryz.ntmps251
  go_wp2
  go_ret2
  exact .inl ⟨rfl,rfl,HPP.out,Below.refl _ _⟩
 ·rw [List.concat_eq_append] at hown hl HPP ⊢
  rw [List.length_append,List.length_singleton] at hown hl
  obtain ⟨n,hn⟩:∃ n,n=ws0.length:=⟨_,rfl⟩
  rw [← hn] at hown hl
  obtain ⟨g,cap,rfl,hcap,hcm⟩:∃ g cap,v=.slice (some ⟨g,0,none⟩) (n + 1) cap ∧ n + 1 ≤ cap ∧ cap ≤ maxLen:=by
   rcases hown.2 with ⟨_,e0⟩ | ⟨g2,cap,cur,e,_,_,h1,h2,_⟩
   ·omega
   ·exact ⟨_,_,e,h1,h2⟩
  have hcb:cap ≤ 9223372036854775807:=by simp only [maxLen] at hcm;omega
  have c1:w.cell? ⟨g,n,none⟩=some (.int .i64 (b:Int)):=by
   rw [World.ownsRow.cellAt hown n (by omega)]
   unfold natInts
   rw [List.getElem?_map,List.getElem?_append_right (by omega),hn]
   simp
  have HN:=hideI hn
  have HO2:=hideI (own_init hown hn)
  clear hown hg hx hn hcm HPP
  go_enter Tryz.func251,Tryz.ntmps251
  go_wp2
  go_ret2
  exact .inr ⟨ws0,b,rfl,rfl,PendAt.put HG.out HO2.out HN.out,(Below.refl gk w).setCell (Nat.le_refl _) _⟩
def lastOr (ws0:List Nat) (b:Nat) (okb:Bool):List Nat:=if okb=true then ws0 ++ [b] else ws0
theorem TakePost.one {gk:Nat} {ws:List Nat} {w w':World} {e:Ending} (h:TakePost gk ws w e w') :
  ∃ (b:Nat) (okb:Bool) (ws0:List Nat),e=.returned (.tuple #[.int .i64 (b:Int),.bool okb]) ∧ ws=lastOr ws0 b okb ∧ (okb=false → ws0=[]) ∧ PendAt w' gk ws0 ∧ Below gk w w':=by
 rcases h with ⟨rfl,rfl,h1,h2⟩ | ⟨ws0,b,rfl,rfl,h1,h2⟩
 ·exact ⟨0,false,[],rfl,rfl,fun _ => rfl,h1,h2⟩
 ·exact ⟨b,true,ws0,rfl,rfl,fun h => (by cases h),h1,h2⟩
end Go.Proofs.YtaehbgppfahdeaaGreat

namespace Go.Proofs.YtaehbgppfahdeaaGreat
open Go.RowKit Go.Maps
def boolsM (n:Nat) (P:Nat → Bool):List Value:=(List.range n).map fun b => .bool (P b)
theorem boolsM_at {n b:Nat} {P:Nat → Bool} (h:b < n):(boolsM n P)[b]?=some (.bool (P b)):=by
 unfold boolsM
 rw [List.getElem?_map,List.getElem?_eq_getElem (by simpa using h)]
 simp
theorem boolsM_congr {n:Nat} {P Q:Nat → Bool} (h:∀ b,b < n → P b=Q b):boolsM n P=boolsM n Q:=by
 unfold boolsM
 apply List.map_congr_left
 intro b hb
 rw [h b (by simpa using hb)]
theorem marks_bools (n:Nat) (S:List Nat):marks n S=boolsM n (fun b => decide (b ∈ S)):=rfl
def mWk (n s ws:Nat):Nat:=(n - s) * (n + 1) + ws
theorem mWk_mark {n s ws ws':Nat} (hs:s < n) (hw:ws' ≤ ws + n):mWk n (s + 1) ws' + 1 ≤ mWk n s ws:=by
 unfold mWk
 have h1:n - s=(n - (s + 1)) + 1:=by omega
 rw [h1,Nat.add_mul]
 omega
theorem mWk_low {n s ws:Nat}:ws ≤ mWk n s ws:=by unfold mWk;omega
theorem mWk_most {n s ws:Nat} (hn:n ≤ 512) (hw:ws ≤ n):mWk n s ws ≤ 300000:=by
 unfold mWk
 have:(n - s) * (n + 1) ≤ 512 * 513:=Nat.mul_le_mul (by omega) (by omega)
 omega
def WithinPost (n:Nat) (P:Nat → Bool) (w:World) (e:Ending) (w':World):Prop :=
 ∃ gm:Nat,e=.returned (.slice (some ⟨gm,0,none⟩) n n) ∧ w'.ownsRow w.heap.size 4 1 (.slice (some ⟨gm,0,none⟩) n n) n (boolsM n P) ∧ Below w.heap.size w w'
set_option maxRecDepth 100000 in
set_option maxHeartbeats 4000000 in
theorem lWithin_any (bs:List BlockM) (o:List Nat) (pl:Nat → Nat) (par:Nat → Option Nat) (D L:Nat → Nat → Bool) (lo gp gi gl h c B:Nat) (vs:List Value) (p0 p1 p2 lv s:Value) (A:Option Addr) (w:World) (K:LoopOk bs o pl par D L) (H:LfAt w lo bs o pl par gp vs gi gl) (hh:h < bs.length) (hs:Ints w B s ((latchesM bs D h).map fun (x:Nat) => (x:Int))) (hB:B ≤ w.heap.size) :
  Calls Tryz.prog 234 #[.agg #[p0,p1,p2,.slice A bs.length c,.slice (some ⟨gp,0,none⟩) bs.length bs.length,.slice (some ⟨gi,0,none⟩) bs.length bs.length,.slice (some ⟨gl,0,none⟩) bs.length bs.length,lv],.int .i64 h,s] w (WithinPost bs.length (L h) w):=by
 have HK:=hideI K
 have hn5:=K.n5
 obtain ⟨W,hW⟩:∃ W:World,W=w.alloc (.cells #[p0,p1,p2,.slice A bs.length c,.slice (some ⟨gp,0,none⟩) bs.length bs.length,.slice (some ⟨gi,0,none⟩) bs.length bs.length,.slice (some ⟨gl,0,none⟩) bs.length bs.length,lv] 248):=⟨_,rfl⟩
 have HBW:Hid (Below w.heap.size w W):=by show Below _ _ _;rw [hW];exact (Below.refl _ _).alloc (Nat.le_refl _) _
 have HXW:Hid (W.heap[w.heap.size]?=some (.cells #[p0,p1,p2,.slice A bs.length c,.slice (some ⟨gp,0,none⟩) bs.length bs.length,.slice (some ⟨gi,0,none⟩) bs.length bs.length,.slice (some ⟨gl,0,none⟩) bs.length bs.length,lv] 248 (0,0))):=by show _=_;rw [hW];exact heap_alloc_new w _
 have hwW:w.heap.size < W.heap.size:=lt_of_heap HXW.out
 have HLW:=hideI (H.kept HBW.out)
 have HSW:=hideI ((hs.keep (HBW.out.mono hB)).more (Nat.le_trans hB HBW.out.size))
 have HW0:=hideI hW
 have hx:=row_cells HXW.out rfl
 have q3:=hx 3
 obtain ⟨i0,hix,hz0,hz1,hz2⟩:=info_parts bool_info
 have HLN:Hid ((latchesM bs D h).length ≤ bs.length):=by
  show _ ≤ _
  unfold latchesM
  exact Nat.le_trans (List.length_filter_le _ _) (predsTo_len _ _ _)
 clear K H hW hs hx
 go_enter Tryz.func234,Tryz.ntmps234
 go_upto_region 1 with fail
 rw [← HW0.out]
 go_upto_region 4 with (at_make;go_must (refine wpList_make_full _ rfl _ _ 294 rfl W.heap.size 4 i0 (.bool false) 1 Tryz.underlying294 hix hz0 hz1 .i64 .i64 _ _ bs.length rfl rfl rfl rfl (by rw [hz2];omega) (by unfold maxLen;omega) (Nat.le_refl _) ?_);intro w1 hown1 hg1;go_must (rw [marks_made] at hown1;have HO1:=hideI hown1;have HB1:Hid (Below W.heap.size W w1):=hideI ((Below.refl _ _).grown hg1 (Nat.le_refl _) (by simp));have c0:w1.cell? ⟨W.heap.size,h,none⟩=some (.bool (decide (h ∈ ([]:List Nat)))):=(by rw [World.ownsRow.cellAt hown1 h (by omega),marks_at hh]);have f0:w1.frozen? ⟨W.heap.size,h,none⟩=false:=World.ownsRow.frozenAt hown1 h;clear hown1 hg1 q3))
 obtain ⟨w2,hw2⟩:∃ w2:World,w2=(w1.setCell ⟨W.heap.size,h,none⟩ (.bool true)).alloc (.cells #[.slice none 0 0] 306):=⟨_,rfl⟩
 obtain ⟨gq,hgq⟩:∃ gq,gq=w1.heap.size:=⟨_,rfl⟩
 have hmk:W.heap.size < gq:=by rw [hgq];exact (HO1.out.lt _ rfl).2
 have HP2:Hid (PendAt w2 gq []):=by
  refine ⟨.slice none 0 0,?_,World.ownsRow_nil _ _ _ _⟩
  rw [hw2,hgq]
  have:=heap_alloc_new (w1.setCell ⟨W.heap.size,h,none⟩ (.bool true)) (.cells #[.slice none 0 0] 306)
  simpa using this
 have HO2:Hid (w2.ownsRow W.heap.size 4 1 (.slice (some ⟨W.heap.size,0,none⟩) bs.length bs.length) bs.length (marks bs.length [h])):=by
  show World.ownsRow _ _ _ _ _ _ _
  rw [hw2]
  have:=(World.ownsRow.stored HO1.out h (.bool true)).1.alloc (.cells #[.slice none 0 0] 306)
  rwa [marks_set] at this
 have HB2:Hid (Below W.heap.size W w2):=by show Below _ _ _;rw [hw2];exact (HB1.out.setCell (Nat.le_refl _) _).alloc (by have:=HB1.out.size;simp;omega) _
 have HS2:=hideI (HSW.out.keep HB2.out)
 rw [← hw2]
 simp only [← hgq]
 clear c0 f0 hw2 hgq hix hz0 hz1 hz2 HB1 HO1
 obtain ⟨K0,hK0⟩:∃ K0,K0=mWk bs.length 1 (latchesM bs D h).length:=⟨_,rfl⟩
 have HK0:Hid (K0 ≤ 300000):=by show _ ≤ _;rw [hK0];exact mWk_most hn5 HLN.out
 go_wp2_with (first
  | (go_at_call 250;go_must (refine (lAdd_any gq _ [] _ _ _ HP2.out HS2.out (by rw [List.length_nil];have:=HLN.out;omega)).mono ?_);rintro e w3 ⟨rfl,hp3,hb3⟩;have HP3:=hideI hp3;have HO3:=hideI (own_kept_below HO2.out hb3 (fun k hk => (by cases hk;exact hmk)));have HB3:=hideI (HB2.out.trans (hb3.mono (Nat.le_of_lt hmk)));clear hp3 hb3)
  | (go_at_call 251;go_must (refine (lTake_any gq _ _ HP3.out (by rw [List.nil_append];have:=HLN.out;omega)).mono ?_);rintro e w4 htk;(obtain ⟨b,okb,ws,rfl,hws,hok,hp4,hb4⟩:=TakePost.one htk);have HWS:=hideI hws;have HOK:=hideI hok;have HP4:=hideI hp4;have HO4:=hideI (own_kept_below HO3.out hb4 (fun k hk => (by cases hk;exact hmk)));have HB4:=hideI (HB3.out.trans (hb4.mono (Nat.le_of_lt hmk)));clear hws hok hp4 hb4 htk))
 have HST:Hid (LWk bs o h [h] (lastOr ws b okb)):=by
  show LWk _ _ _ _ _
  rw [← HWS.out,List.nil_append]
  exact LWk.start HK.out.fn hh
 have HM4:Hid (mWk bs.length 1 ws.length + (if okb=true then 1 else 0) ≤ K0):=by
  show _ ≤ _
  have h1:=congrArg List.length HWS.out
  rw [List.nil_append] at h1
  rw [hK0,h1]
  unfold lastOr mWk
  cases okb <;> simp <;> omega
 clear hK0 HWS HO3 HP3 HB3 HO2 HP2 HB2 HS2
 go_loopg [9,10] K0 (fun gk bv ov wr => ∃ (S ws:List Nat) (b:Nat) (okb:Bool),bv=.int .i64 (b:Int) ∧ ov=.bool okb ∧ gk ≤ K0 ∧ Hid (mWk bs.length S.length ws.length + (if okb=true then 1 else 0) ≤ gk) ∧ Hid (LWk bs o h S (lastOr ws b okb)) ∧ Hid (okb=false → ws=[]) ∧ Hid (PendAt wr gq ws) ∧ Hid (wr.ownsRow W.heap.size 4 1 (.slice (some ⟨W.heap.size,0,none⟩) bs.length bs.length) bs.length (marks bs.length S)) ∧ Hid (Below W.heap.size W wr))
 case atStart => exact ⟨[h],ws,b,okb,rfl,rfl,Nat.le_refl _,HM4,HST,HOK,HP4,HO4,HB4⟩
 case round =>
  clear HM4 HST HOK HP4 HO4 HB4
  obtain ⟨S,ws,b,okb,rfl,rfl,hgk,HM,HWK,HOK,HP,HO,HBr⟩:=hrel
  cases okb with
  | false =>
   go_wp2_with fail
   go_ret
   refine ⟨_,rfl,?_,HBW.out.trans (HBr.out.mono (Nat.le_of_lt hwW))⟩
   have h1:=World.ownsRow.mono HO.out (Nat.le_of_lt hwW)
   have h2:=HWK.out
   have h3:=HOK.out (by first | rfl | trivial)
   subst h3
   rw [marks_bools] at h1
   rw [boolsM_congr (P:=L h) (Q:=fun b => decide (b ∈ S))]
   ·exact h1
   ·intro x _
    rw [Bool.eq_iff_iff,HK.out.fn.inL,decide_eq_true_iff]
    exact (LWk.all h2 x).symm
  | true =>
   clear HOK
   have HWK1:Hid (LWk bs o h S (ws ++ [b])):=HWK.out
   have hbl:b < bs.length:=(HWK1.out.ok b (List.mem_append_right _ (List.mem_singleton.2 rfl))).2
   have hSl:=below_len _ _ HWK.out.nodup HWK.out.lt
   have hmk1:wr.cell? ⟨W.heap.size,b,none⟩=some (.bool (decide (b ∈ S))):=by rw [World.ownsRow.cellAt HO.out b (by omega),marks_at hbl]
   have hmf:wr.frozen? ⟨W.heap.size,b,none⟩=false:=World.ownsRow.frozenAt HO.out b
   have hm1:mWk bs.length S.length ws.length + 1 ≤ gk:=by have:=HM.out;simpa using this
   have hwl:ws.length ≤ 300000:=by have:=mWk_low (n:=bs.length) (s:=S.length) (ws:=ws.length);have:=HK0.out;omega
   have HM1:=hideI hm1
   clear hm1
   by_cases hin:b ∈ S
   ·have HIN:=hideI hin
    rw [show decide (b ∈ S)=true from by simpa using hin] at hmk1
    clear hin hmf
    go_wp2_with (go_at_call 251;go_must (refine (lTake_any gq _ _ HP.out (by omega)).mono ?_);rintro e w4 htk;(obtain ⟨b2,okb2,ws2,rfl,hws,hok,hp4,hb4⟩:=TakePost.one htk);have HWS:=hideI hws;have HOK:=hideI hok;have HP4:=hideI hp4;have HO4:=hideI (own_kept_below HO.out hb4 (fun k hk => (by cases hk;exact hmk)));have HB4:=hideI (HBr.out.trans (hb4.mono (Nat.le_of_lt hmk)));clear hws hok hp4 hb4 htk hmk1)
    have HWK2:Hid (LWk bs o h S (lastOr ws2 b2 okb2)):=by show LWk _ _ _ _ _;rw [← HWS.out];exact HWK1.out.skip HIN.out
    have HM2:Hid (mWk bs.length S.length ws2.length + (if okb2=true then 1 else 0) ≤ mWk bs.length S.length ws.length):=by
     show _ ≤ _
     have h1:=congrArg List.length HWS.out
     rw [h1]
     unfold lastOr mWk
     cases okb2 <;> simp <;> omega
    go_roundg (mWk bs.length S.length ws.length)
    case rel => exact ⟨S,ws2,b2,okb2,rfl,rfl,by have:=HM1.out;omega,HM2,HWK2,HOK,HP4,HO4,HB4⟩
    case measure => have:=HM1.out;omega
   ·have HIN:=hideI hin
    rw [show decide (b ∈ S)=false from by simpa using hin] at hmk1
    have hSlt:S.length < bs.length:=by have:=fresh_len HWK.out.nodup HWK.out.lt hbl hin;omega
    have hst:=(World.ownsRow.stored HO.out b (.bool true)).1
    rw [marks_set] at hst
    have HST:=hideI hst
    have HPS:=hideI (HP.out.other (j:=W.heap.size) (off:=b) hmk (.bool true))
    have HBS:Hid (Below W.heap.size W (wr.setCell ⟨W.heap.size,b,none⟩ (.bool true))):=HBr.out.setCell (Nat.le_refl _) _
    obtain ⟨v,hc0,hown⟩:=HLW.out.list hbl
    obtain ⟨l,hl⟩:∃ l,l=predsTo bs bs.length b:=⟨_,rfl⟩
    rw [← hl] at hown
    have hll:l.length ≤ bs.length:=by rw [hl];exact predsTo_len _ _ _
    have HIL:=hideI ((nat_ints hown (by omega)).keep HBS.out)
    have HLL:=hideI hl
    have hx:=row_cells HXW.out (HBr.out.block _ hwW)
    have q4:=hx 4
    have hgpl:=HLW.out.lt.1.2
    have c1:=(HBr.out.cell (p:=⟨gp,b,none⟩) hgpl).trans hc0
    have hgne:gp ≠ W.heap.size:=by omega
    have hwne:w.heap.size ≠ W.heap.size:=by omega
    clear hin hst hc0 hown hl hx
    go_wp2_with (first
     | (go_at_call 250;go_must (refine (lAdd_any gq _ ws l _ _ HPS.out HIL.out (by omega)).mono ?_);rintro e w3 ⟨rfl,hp3,hb3⟩;have HP3:=hideI hp3;have HO3:=hideI (own_kept_below HST.out hb3 (fun k hk => (by cases hk;exact hmk)));have HB3:=hideI (HBS.out.trans (hb3.mono (Nat.le_of_lt hmk)));clear hp3 hb3 q4 c1 hmk1 hmf)
     | (go_at_call 251;go_must (refine (lTake_any gq _ _ HP3.out (by rw [List.length_append];omega)).mono ?_);rintro e w4 htk;(obtain ⟨b2,okb2,ws2,rfl,hws,hok,hp4,hb4⟩:=TakePost.one htk);have HWS:=hideI hws;have HOK:=hideI hok;have HP4:=hideI hp4;have HO4:=hideI (own_kept_below HO3.out hb4 (fun k hk => (by cases hk;exact hmk)));have HB4:=hideI (HB3.out.trans (hb4.mono (Nat.le_of_lt hmk)));clear hws hok hp4 hb4 htk))
    have HWK2:Hid (LWk bs o h (b :: S) (lastOr ws2 b2 okb2)):=by show LWk _ _ _ _ _;rw [← HWS.out,HLL.out];exact HWK1.out.mark HIN.out
    have HM2:Hid (mWk bs.length (b :: S).length ws2.length + (if okb2=true then 1 else 0) + 1 ≤ mWk bs.length S.length ws.length):=by
     show _ ≤ _
     have h1:=congrArg List.length HWS.out
     rw [List.length_append] at h1
     have h2:=mWk_mark (n:=bs.length) (s:=S.length) (ws:=ws.length) (ws':=(ws.length + l.length)) hSlt (by omega)
     rw [h1] at h2
     rw [List.length_cons]
     unfold lastOr mWk at *
     cases okb2 <;> simp at h2 ⊢ <;> omega
    go_roundg (mWk bs.length S.length ws.length)
    case rel => exact ⟨b :: S,ws2,b2,okb2,rfl,rfl,by have:=HM1.out;omega,(by have:=HM2.out;show _ ≤ _;omega),HWK2,HOK,HP4,HO4,HB4⟩
    case measure => have:=HM1.out;omega
end Go.Proofs.YtaehbgppfahdeaaGreat

namespace Go.Proofs.YtaehbgppfahdeaaGreat
open Go.RowKit Go.Maps
theorem range_at {n i:Nat} (h:i < n):(List.range n)[i]?=some i:=by
 rw [List.getElem?_eq_getElem (by simpa using h)]
 simp
set_option maxRecDepth 100000 in
set_option maxHeartbeats 2000000 in
theorem lRise_any (n g:Nat) (P:Nat → Bool) (w:World) (hn:n ≤ 512) (hg:g < w.heap.size) (hc:∀ b,b < n → w.cell? ⟨g,b,none⟩=some (.bool (P b))) :
  Calls Tryz.prog 235 #[.slice (some ⟨g,0,none⟩) n n] w (RowPost ((List.range n).filter P) w):=by
 have HC:=hideI hc
 obtain ⟨i1,hjx,hy0,hy1,hy2⟩:=info_parts int_info
 clear hc
 go_enter Tryz.func235,Tryz.ntmps235
 go_wp2
 go_loopw [3,8] (fun vo u wr => ∃ (i:Nat) (v:Value),v=vo ∧ i ≤ n ∧ u=.int .i64 i ∧ Hid (wr.ownsRow w.heap.size 3 1 v (((List.range n).take i).filter P).length (natInts (((List.range n).take i).filter P))) ∧ Hid (Below w.heap.size w wr)) (fun _ u _ => n - (intOf u).toNat)
 case atStart => exact ⟨0,_,rfl,Nat.zero_le _,rfl,hideI (World.ownsRow_nil _ _ _ _),hideI (Below.refl _ _)⟩
 case round =>
  obtain ⟨i,v,rfl,hi,rfl,HO,HBr⟩:=hrel
  by_cases hlt:i < n
  ·have c1:=(HBr.out.cell (p:=⟨g,i,none⟩) hg).trans (HC.out i hlt)
   obtain ⟨xs,hxs⟩:∃ xs,xs=((List.range n).take i).filter P:=⟨_,rfl⟩
   have hml:xs.length ≤ 512:=by
    rw [hxs]
    have:=filter_len (P:=P) (l:=List.range n) (i:=i)
    rw [List.length_range] at this
    omega
   have hri:=range_at hlt
   rw [← hxs] at HO
   cases hr:P i with
   | false =>
    have HS:Hid (((List.range n).take (i + 1)).filter P=xs):=by show _=_;rw [hxs];exact filter_skip hri hr
    rw [hr] at c1
    clear hr hxs hri
    go_wp2
    go_roundw
    case rel => exact ⟨i + 1,_,rfl,by omega,by go_num,by rw [HS.out];exact HO,HBr⟩
    case measure => simp [intOf];omega
   | true =>
    have HS:Hid (((List.range n).take (i + 1)).filter P=xs ++ [i]):=by show _=_;rw [hxs];exact filter_more hri hr
    have H63:Hid (xs.length + 1 ≤ maxLen):=by show _ ≤ _;simp only [maxLen];omega
    have HBY:Hid ((xs.length + 1) * 8 ≤ 140737488355328):=by show _ ≤ _;omega
    have HBS:Hid (w.heap.size ≤ wr.heap.size):=HBr.out.size
    rw [hr] at c1
    clear hr hxs hri
    go_wp2_with (at_builtin;go_must (refine wpList_append_lies _ rfl _ _ _ rfl w.heap.size 3 i1 (.int .i64 0) 1 8 Tryz.underlying22 hjx hy0 hy1 hy2 rfl (by decide) _ _ _ rfl (HO.out.alloc _) ⟨wr.heap.size,0,none⟩ 1 1 [.int .i64 i] rfl rfl (one_new wr _) (by simp [Value.oneCell']) (by decide) H63.out HBY.out (by simp;exact Nat.le_succ_of_le HBS.out) _ rfl ?_);intro g1 cap1 w3 hown1 hgrow1 hor1 _;go_must (have HO3:=hideI hown1;have HB3:Hid (Below w.heap.size w w3):=(HBr.out.alloc HBS.out _).grown hgrow1 (by simp;exact Nat.le_succ_of_le HBS.out) (fun k hk => (HO.out.lt k hk).1);clear hown1 hgrow1 hor1))
    go_roundw
    case rel => exact ⟨i + 1,_,rfl,by omega,by go_num,by rw [HS.out,List.length_append,natInts_snoc];exact HO3,HB3⟩
    case measure => simp [intOf];omega
  ·have HE:Hid (((List.range n).take i).filter P=(List.range n).filter P):=by show _=_;rw [List.take_of_length_le (by simp;omega)]
   rw [HE.out] at HO
   go_wp2
   go_ret
   exact ⟨_,rfl,HO.out,HBr.out⟩
end Go.Proofs.YtaehbgppfahdeaaGreat

namespace Go.Proofs.YtaehbgppfahdeaaGreat
open Go.RowKit Go.Maps
structure ExS (bs:List BlockM) (P:Nat → Bool) (l:List Nat) (i:Nat) (c:Nat) (j:Nat) (S:List Nat):Prop where
 is:∀ x,x ∈ S ↔ (P x=false ∧ ((∃ k b,k < i ∧ l[k]?=some b ∧ x ∈ succM bs b) ∨ x ∈ (succM bs c).take j))
section
variable {bs:List BlockM} {P:Nat → Bool} {l:List Nat} {i c j t:Nat} {S:List Nat}
theorem ExS.start:ExS bs P l 0 c 0 []:=⟨fun x => by simp⟩
theorem ExS.begin (h:ExS bs P l i c 0 S) (c':Nat):ExS bs P l i c' 0 S:=⟨fun x => by rw [h.is];simp⟩
theorem ExS.skip (h:ExS bs P l i c j S) (ht:(succM bs c)[j]?=some t) (hp:P t=true):ExS bs P l i c (j + 1) S:=⟨fun x => by
 rw [h.is,List.take_add_one,ht]
 simp only [Option.toList_some,List.mem_append,List.mem_singleton]
 constructor
 ·rintro ⟨h1,h2 | h2⟩
  ·exact ⟨h1,.inl h2⟩
  ·exact ⟨h1,.inr (.inl h2)⟩
 ·rintro ⟨h1,h2 | h2 | h2⟩
  ·exact ⟨h1,.inl h2⟩
  ·exact ⟨h1,.inr h2⟩
  ·subst h2;rw [hp] at h1;cases h1⟩
theorem ExS.mark (h:ExS bs P l i c j S) (ht:(succM bs c)[j]?=some t) (hp:P t=false):ExS bs P l i c (j + 1) (t :: S):=⟨fun x => by
 rw [List.mem_cons,h.is,List.take_add_one,ht]
 simp only [Option.toList_some,List.mem_append,List.mem_singleton]
 constructor
 ·rintro (rfl | ⟨h1,h2 | h2⟩)
  ·exact ⟨hp,.inr (.inr rfl)⟩
  ·exact ⟨h1,.inl h2⟩
  ·exact ⟨h1,.inr (.inl h2)⟩
 ·rintro ⟨h1,h2 | h2 | h2⟩
  ·exact .inr ⟨h1,.inl h2⟩
  ·exact .inr ⟨h1,.inr h2⟩
  ·exact .inl h2⟩
theorem ExS.next (h:ExS bs P l i c j S) (hc:l[i]?=some c) (hj:(succM bs c).length ≤ j):ExS bs P l (i + 1) c 0 S:=⟨fun x => by
 rw [h.is,List.take_of_length_le hj]
 constructor
 ·rintro ⟨h1,⟨k,b,h2,h3,h4⟩ | h2⟩
  ·exact ⟨h1,.inl ⟨k,b,by omega,h3,h4⟩⟩
  ·exact ⟨h1,.inl ⟨i,c,by omega,hc,h2⟩⟩
 ·rintro ⟨h1,⟨k,b,h2,h3,h4⟩ | h2⟩
  ·by_cases e:k=i
   ·subst e
    rw [hc] at h3
    cases h3
    exact ⟨h1,.inr h4⟩
   ·exact ⟨h1,.inl ⟨k,b,by omega,h3,h4⟩⟩
  ·simp at h2⟩
theorem ExS.done {L:Nat → Nat → Bool} {h n:Nat} (H:ExS bs (L h) (blocksM n L h) (blocksM n L h).length c 0 S) (hn:n=bs.length) (x:Nat):decide (x ∈ S)=(!L h x && outB bs L h x):=by
 subst hn
 rw [Bool.eq_iff_iff,decide_eq_true_iff,H.is,Bool.and_eq_true,Bool.not_eq_true']
 unfold outB
 rw [List.any_eq_true]
 constructor
 ·rintro ⟨h1,⟨k,b,h2,h3,h4⟩ | h2⟩
  ·have hm:=List.mem_of_getElem? h3
   unfold blocksM at hm
   rw [List.mem_filter] at hm
   exact ⟨h1,b,hm.1,by rw [hm.2,Bool.true_and];exact decide_eq_true h4⟩
  ·simp at h2
 ·rintro ⟨h1,b,h2,h3⟩
  rw [Bool.and_eq_true] at h3
  have hm:b ∈ blocksM bs.length L h:=by unfold blocksM;exact List.mem_filter.2 ⟨h2,h3.1⟩
  obtain ⟨k,hk⟩:=List.getElem?_of_mem hm
  exact ⟨h1,.inl ⟨k,b,(List.getElem?_eq_some_iff.1 hk).1,hk,of_decide_eq_true h3.2⟩⟩
end
set_option maxRecDepth 100000 in
set_option maxHeartbeats 4000000 in
theorem lExits_any (bs:List BlockM) (L:Nat → Nat → Bool) (h c B gm:Nat) (p0 p1 p2 p4 p5 p6 lv s:Value) (A:Option Addr) (w:World) (hn5:bs.length ≤ 512) (hin:EndsIn bs) (hbv:BlocksR w B (.slice A bs.length c) bs) (hB:B ≤ w.heap.size) (hs:Ints w w.heap.size s ((blocksM bs.length L h).map fun (x:Nat) => (x:Int))) (hg:gm < w.heap.size) (hc:∀ b,b < bs.length → w.cell? ⟨gm,b,none⟩=some (.bool (L h b))) :
  Calls Tryz.prog 236 #[.agg #[p0,p1,p2,.slice A bs.length c,p4,p5,p6,lv],s,.slice (some ⟨gm,0,none⟩) bs.length bs.length] w (RowPost (exitsM bs L h) w):=by
 have HIN:=hideI hin
 obtain ⟨W,hW⟩:∃ W:World,W=w.alloc (.cells #[p0,p1,p2,.slice A bs.length c,p4,p5,p6,lv] 248):=⟨_,rfl⟩
 have HBW:Hid (Below w.heap.size w W):=by show Below _ _ _;rw [hW];exact (Below.refl _ _).alloc (Nat.le_refl _) _
 have HXW:Hid (W.heap[w.heap.size]?=some (.cells #[p0,p1,p2,.slice A bs.length c,p4,p5,p6,lv] 248 (0,0))):=by show _=_;rw [hW];exact heap_alloc_new w _
 have hwW:w.heap.size < W.heap.size:=lt_of_heap HXW.out
 have HBL:=hideI ((hbv.keeps (Keeps.of_below (HBW.out.mono hB))).more' (Nat.le_trans hB HBW.out.size))
 have HSW:=hideI ((hs.keep HBW.out).more HBW.out.size)
 have HCW:Hid (∀ b,b < bs.length → W.cell? ⟨gm,b,none⟩=some (.bool (L h b))):=fun b hb => (HBW.out.cell (p:=⟨gm,b,none⟩) hg).trans (hc b hb)
 have hgW:gm < W.heap.size:=by omega
 have HW0:=hideI hW
 have hx:=row_cells HXW.out rfl
 have q3:=hx 3
 obtain ⟨i0,hix,hz0,hz1,hz2⟩:=info_parts bool_info
 obtain ⟨l,hl⟩:∃ l,l=blocksM bs.length L h:=⟨_,rfl⟩
 have HL:=hideI hl
 have hlb:∀ x ∈ l,x < bs.length:=fun x hx => by
  rw [hl] at hx
  unfold blocksM at hx
  simpa using (List.mem_filter.1 hx).1
 have HLB:=hideI hlb
 have hll:l.length ≤ 512:=by
  rw [hl]
  unfold blocksM
  have:=List.length_filter_le (L h) (List.range bs.length)
  rw [List.length_range] at this
  omega
 rw [← hl] at HSW
 obtain ⟨PA,pc2,e1,_,hpx⟩:=HSW.out
 rw [List.length_map] at e1 hpx
 subst e1
 have HPX:=hideI hpx
 clear hin hW hs hx hbv hc hl hpx hlb
 go_enter Tryz.func236,Tryz.ntmps236
 go_upto_region 1 with fail
 rw [← HW0.out]
 go_wp2_with (at_make;go_must (refine wpList_make_full _ rfl _ _ 294 rfl W.heap.size 4 i0 (.bool false) 1 Tryz.underlying294 hix hz0 hz1 .i64 .i64 _ _ bs.length rfl rfl rfl rfl (by rw [hz2];omega) (by unfold maxLen;omega) (Nat.le_refl _) ?_);intro w1 hown1 hg1;go_must (rw [marks_made] at hown1;have HO1:=hideI hown1;have HB1:Hid (Below W.heap.size W w1):=hideI ((Below.refl _ _).grown hg1 (Nat.le_refl _) (by simp));clear hown1 hg1 q3))
 clear hix hz0 hz1 hz2
 go_loopw [20] (fun u wr => ∃ (i:Nat) (S:List Nat),i ≤ l.length ∧ u=.int .i64 i ∧ Hid (ExS bs (L h) l i 0 0 S) ∧ Hid (wr.ownsRow W.heap.size 4 1 (.slice (some ⟨W.heap.size,0,none⟩) bs.length bs.length) bs.length (marks bs.length S)) ∧ Hid (Below W.heap.size W wr)) (fun u _ => l.length - (intOf u).toNat)
 case atStart => exact ⟨0,[],Nat.zero_le _,rfl,hideI ExS.start,HO1,HB1⟩
 case round =>
  obtain ⟨i,S,hi,rfl,HX,HO,HBr⟩:=hrel
  by_cases hlt:i < l.length
  ·obtain ⟨b,hb⟩:∃ b,l[i]?=some b:=⟨_,List.getElem?_eq_getElem hlt⟩
   have hbl:=HLB.out b (List.mem_of_getElem? hb)
   obtain ⟨pb,po,rfl,hpb,d0⟩:=HPX.out i hlt
   rw [List.getElem?_map,hb] at d0
   simp only [Option.map_some,Option.getD_some] at d0
   have d1:=(HBr.out.cell (p:=⟨pb,po + i,none⟩) hpb).trans d0
   have HXB:=hideI (HX.out.begin b)
   have HBI:=hideI hb
   obtain ⟨q,hq⟩:∃ q,bs[b]?=some q:=⟨_,List.getElem?_eq_getElem hbl⟩
   obtain ⟨A',c',e0,_,hbx⟩:=HBL.out.keeps (Keeps.of_below HBr.out)
   cases e0
   obtain ⟨ab,off,pq,cq,tv,rfl,hab,x0,x1,x2,x3,x4,x5,_,_,htv,_⟩:=hbx b q hq
   have HTV:=hideI htv
   have HQ:=hideI hq
   have HSU:Hid (succM bs b=q.term.to.map Int.toNat):=by show _=_;unfold succM;rw [hq]
   obtain ⟨TA,tc,rfl,htm,_⟩:=htv
   obtain ⟨m,hm⟩:∃ m,m=q.term.to.length:=⟨_,rfl⟩
   have HM:=hideI hm
   rw [← hm] at x4 htm
   have hxr:=row_cells HXW.out (HBr.out.block w.heap.size hwW)
   have g3:=hxr 3
   clear hbx hq x0 x1 x2 x3 x5 hm hxr hb d0
   go_wp2
   clear x4 g3 d1
   obtain ⟨wo,rfl⟩:∃ wo:World,wo=wr:=⟨_,rfl⟩
   go_loopw [34] (fun u wr => ∃ (j:Nat) (S:List Nat),j ≤ m ∧ u=.int .i64 j ∧ Hid (ExS bs (L h) l i b j S) ∧ Hid (wr.ownsRow W.heap.size 4 1 (.slice (some ⟨W.heap.size,0,none⟩) bs.length bs.length) bs.length (marks bs.length S)) ∧ Hid (Below W.heap.size W wr)) (fun u _ => m - (intOf u).toNat)
   case atStart => exact ⟨0,S,Nat.zero_le _,rfl,HXB,HO,HBr⟩
   case round =>
    have HBo:=HBr
    clear HXB HX HO HBr
    obtain ⟨j,S,hj,rfl,HX,HO,HBr⟩:=hrel
    by_cases hltj:j < m
    ·obtain ⟨t,ht⟩:∃ t,q.term.to[j]?=some t:=⟨_,List.getElem?_eq_getElem (by rw [HM.out] at hltj;exact hltj)⟩
     have htn:=HIN.out q (List.mem_of_getElem? HQ.out) t (List.mem_of_getElem? ht)
     obtain ⟨tn,rfl⟩:∃ tn:Nat,t=(tn:Int):=⟨t.toNat,by omega⟩
     have htl:tn < bs.length:=by omega
     have HTI:Hid ((succM bs b)[j]?=some tn):=by
      show _=_
      rw [HSU.out,List.getElem?_map,ht]
      rfl
     obtain ⟨TA',tc',e0,_,hxx⟩:=HTV.out
     cases e0
     obtain ⟨tb,toff,rfl,htb,hcell0⟩:=hxx j (by rw [← HM.out];exact hltj)
     rw [ht] at hcell0
     simp only [Option.getD_some] at hcell0
     have hcell:wr.cell? ⟨tb,toff + j,none⟩=some (.int .i64 (tn:Int)):=by
      rw [← hcell0]
      exact World.cell?_of_block (a:=⟨tb,toff + j,none⟩) ((HBr.out.block tb htb).trans (HBo.out.block tb htb).symm)
     have cm:=(HBr.out.cell (p:=⟨gm,tn,none⟩) hgW).trans (HCW.out tn htl)
     cases hr:L h tn with
     | true =>
      rw [hr] at cm
      have HX2:=hideI (HX.out.skip HTI.out hr)
      clear hxx ht htn hcell0 hr
      go_wp2
      go_roundw
      case rel => exact ⟨j + 1,S,by omega,by go_num,HX2,HO,HBr⟩
      case measure => simp [intOf];omega
     | false =>
      rw [hr] at cm
      have HX2:=hideI (HX.out.mark HTI.out hr)
      have hmk:wr.cell? ⟨W.heap.size,tn,none⟩=some (.bool (decide (tn ∈ S))):=by rw [World.ownsRow.cellAt HO.out tn (by omega),marks_at htl]
      obtain ⟨old,hold⟩:∃ old:Bool,old=decide (tn ∈ S):=⟨_,rfl⟩
      rw [← hold] at hmk
      have hmf:wr.frozen? ⟨W.heap.size,tn,none⟩=false:=World.ownsRow.frozenAt HO.out tn
      have hst:=(World.ownsRow.stored HO.out tn (.bool true)).1
      rw [marks_set] at hst
      have HST:=hideI hst
      have HBS:Hid (Below W.heap.size W (wr.setCell ⟨W.heap.size,tn,none⟩ (.bool true))):=HBr.out.setCell (Nat.le_refl _) _
      clear hxx ht htn hcell0 hr hold hst
      go_wp2
      go_roundw
      case rel => exact ⟨j + 1,_,by omega,by go_num,HX2,HST,HBS⟩
      case measure => simp [intOf];omega
    ·have HX2:=hideI ((HX.out.next HBI.out (by rw [HSU.out,List.length_map,← HM.out];omega)).begin 0)
     go_wp2
     go_roundw
     case rel => exact ⟨i + 1,S,by omega,by go_num,HX2,HO,HBr⟩
     case measure => simp [intOf];omega
  ·have hil:i=l.length:=by omega
   have HDN:Hid (∀ x,decide (x ∈ S)=(!L h x && outB bs L h x)):=fun x => by
    have h1:=HX.out
    rw [hil,HL.out] at h1
    exact h1.done rfl x
   have hgr:W.heap.size < wr.heap.size:=(HO.out.lt _ rfl).2
   have HRS:=hideI (lRise_any bs.length W.heap.size (fun x => !L h x && outB bs L h x) wr hn5 hgr (fun b hb => by rw [World.ownsRow.cellAt HO.out b (by omega),marks_at hb,HDN.out]))
   clear hil
   go_wp2_with (go_at_call 235;go_must (refine HRS.out.mono ?_);rintro e w5 ⟨v,rfl,hown5,hb5⟩;have HO5:=hideI hown5;have HB5:=hideI hb5;clear hown5 hb5)
   go_ret
   have h1:w.heap.size ≤ wr.heap.size:=Nat.le_trans HBW.out.size HBr.out.size
   exact ⟨v,rfl,World.ownsRow.mono HO5.out h1,HBW.out.trans ((HBr.out.mono (Nat.le_of_lt hwW)).trans (HB5.out.mono h1))⟩
end Go.Proofs.YtaehbgppfahdeaaGreat

namespace Go.Proofs.YtaehbgppfahdeaaGreat
open Go.RowKit Go.Maps
theorem own_sl {w:World} {base n:Nat} {e:TypeId} {v:Value} {xs:List Value} {size:Nat} (h:w.ownsRow base e size v n xs):∃ A c,v=.slice A n c:=by
 rcases h.2 with ⟨e,e0⟩ | ⟨g,cap,cur,e,_⟩
 ·exact ⟨none,0,by rw [e,e0]⟩
 ·exact ⟨_,_,e⟩
def lpOf (bs:List BlockM) (D L:Nat → Nat → Bool) (h:Nat):LpM:=⟨h,blocksM bs.length L h,latchesM bs D h,exitsM bs L h,0⟩
def AddLPost (f7:Array Value) (gn base:Nat) (ls:List LpM) (w:World) (e:Ending) (w':World):Prop :=
 ∃ g cap:Nat,e=.returned (.tuple #[]) ∧ w'.heap[gn]?=some (.cells (f7.push (.slice (some ⟨g,0,none⟩) ls.length cap)) 248 (0,0)) ∧ LoopsR w' base (.slice (some ⟨g,0,none⟩) ls.length cap) ls ∧ Below gn w w'
set_option maxRecDepth 100000 in
set_option maxHeartbeats 8000000 in
theorem lAddL_any (bs:List BlockM) (o:List Nat) (pl:Nat → Nat) (par:Nat → Option Nat) (D L:Nat → Nat → Bool) (lo gp gi gl h c B gn base:Nat) (vs:List Value) (p0 p1 p2 lv s:Value) (A:Option Addr) (ls:List LpM) (w:World) (K:LoopOk bs o pl par D L) (H:LfAt w lo bs o pl par gp vs gi gl) (hh:h < bs.length) (hin:EndsIn bs) (hbv:BlocksR w B (.slice A bs.length c) bs) (hB:B ≤ gn)
  (hgn:w.heap[gn]?=some (.cells #[p0,p1,p2,.slice A bs.length c,.slice (some ⟨gp,0,none⟩) bs.length bs.length,.slice (some ⟨gi,0,none⟩) bs.length bs.length,.slice (some ⟨gl,0,none⟩) bs.length bs.length,lv] 248 (0,0))) (hbase:gn < base) (hbs:base ≤ w.heap.size) (hls:LoopsR w base lv ls) (hlen:ls.length ≤ 512) (hsub:SubR w base lv s (latchesM bs D h)) :
  Calls Tryz.prog 211 #[.pointer (some ⟨gn,0,none⟩),.int .i64 h,s] w (AddLPost #[p0,p1,p2,.slice A bs.length c,.slice (some ⟨gp,0,none⟩) bs.length bs.length,.slice (some ⟨gi,0,none⟩) bs.length bs.length,.slice (some ⟨gl,0,none⟩) bs.length bs.length] gn base (ls ++ [lpOf bs D L h]) w):=by
 have HK:=hideI K
 have hn5:=K.n5
 have HIN:=hideI hin
 have hgl:=lt_of_heap hgn
 have hBw:B ≤ w.heap.size:=by omega
 have HG:=hideI hgn
 have hlatl:(latchesM bs D h).length ≤ 512:=by
  unfold latchesM
  exact Nat.le_trans (List.length_filter_le _ _) (Nat.le_trans (predsTo_len _ _ _) hn5)
 have hblkl:(blocksM bs.length L h).length ≤ 512:=by
  unfold blocksM
  have:=List.length_filter_le (L h) (List.range bs.length)
  rw [List.length_range] at this
  omega
 have HBV:=hideI hbv
 have HLS:=hideI hls
 have HSUB:=hideI hsub
 have HWI:=hideI (lWithin_any bs o pl par D L lo gp gi gl h c w.heap.size vs p0 p1 p2 lv s A w K H hh (hsub.ints (by omega)) (Nat.le_refl _))
 obtain ⟨As,cs,rfl⟩:=own_sl hsub.1
 obtain ⟨nl,hnl⟩:∃ nl,nl=(latchesM bs D h).length:=⟨_,rfl⟩
 obtain ⟨nb,hnb⟩:∃ nb,nb=(blocksM bs.length L h).length:=⟨_,rfl⟩
 have HNL:=hideI hnl
 have HNB:=hideI hnb
 rw [← hnl] at hlatl HWI HSUB ⊢
 have hx:=row_cells hgn rfl
 have q0:=hx 0
 have q1:=hx 1
 have q2:=hx 2
 have q3:=hx 3
 have q4:=hx 4
 have q5:=hx 5
 have q6:=hx 6
 have q7:=hx 7
 clear K H hin hgn hbv hls hsub hx hnl hnb
 go_enter Tryz.func211,Tryz.ntmps211
 go_upto_region 2 with (first
  | (go_at_call 234;go_must (refine HWI.out.mono ?_);rintro e w1 ⟨gm,rfl,hown1,hb1⟩;have HO1:=hideI hown1;have HB1:=hideI hb1;have hgm:=hown1.lt gm rfl;have HRI:=hideI (lRise_any bs.length gm (L h) w1 hn5 hgm.2 (fun b hb => (by rw [World.ownsRow.cellAt hown1 b (by omega)];exact boolsM_at hb)));clear hown1 hb1 hgm q0 q1 q2 q3 q4 q5 q6 q7)
  | (go_at_call 235;go_must (refine HRI.out.mono ?_);rintro e w2 ⟨v7,rfl,hown2,hb2⟩;(obtain ⟨A7,c7,rfl⟩:=own_sl hown2);have HO2:=hideI hown2;have HB2:=hideI (HB1.out.trans (hb2.mono HB1.out.size));replace HO1:=hideI (own_kept_below HO1.out hb2 (fun k hk => (HO1.out.lt k hk).2));clear hown2 hb2))
 have hO7:w2.ownsRow w1.heap.size 3 1 (.slice A7 nb c7) (blocksM bs.length L h).length (natInts (blocksM bs.length L h)):=by rw [HNB.out];exact HO2.out
 have HO7:=hideI (World.ownsRow.mono hO7 HB1.out.size)
 rw [show ((List.range bs.length).filter (L h)).length=nb from HNB.out.symm]
 have HX2:=hideI ((HB2.out.block gn hgl).trans HG.out)
 have hx:=row_cells HX2.out rfl
 have q0:=hx 0
 have q1:=hx 1
 have q2:=hx 2
 have q3:=hx 3
 have q4:=hx 4
 have q5:=hx 5
 have q6:=hx 6
 have q7:=hx 7
 have f7:=free_rowN HX2.out rfl 7
 have hw2:w.heap.size ≤ w2.heap.size:=HB2.out.size
 have hgl2:gn < w2.heap.size:=by omega
 have hI7:Ints w2.drew w2.drew.heap.size (.slice A7 nb c7) ((blocksM bs.length L h).map fun (x:Nat) => (x:Int)):=nat_ints hO7 (by omega)
 have HEX:=hideI (lExits_any bs L h c w2.heap.size gm p0 p1 p2 (.slice (some ⟨gp,0,none⟩) bs.length bs.length) (.slice (some ⟨gi,0,none⟩) bs.length bs.length) (.slice (some ⟨gl,0,none⟩) bs.length bs.length) lv (.slice A7 nb c7) A w2.drew hn5 HIN.out (((HBV.out.keeps (Keeps.of_below (HB2.out.mono hBw))).more' (Nat.le_trans hBw hw2)).keeps (fun _ _ _ => rfl)) (Nat.le_refl _) hI7 (HO1.out.lt gm rfl).2 (fun b hb => (by rw [World.ownsRow.cellAt HO1.out b (by omega)];exact boolsM_at hb:w2.cell? ⟨gm,b,none⟩=_)))
 clear hI7
 have HS:Hid (∀ W,Below w2.heap.size w2 W → W.cell? ⟨gn,0,none⟩=some (p0) ∧ W.cell? ⟨gn,1,none⟩=some (p1) ∧ W.cell? ⟨gn,2,none⟩=some (p2) ∧ W.cell? ⟨gn,3,none⟩=some (.slice A bs.length c) ∧ W.cell? ⟨gn,4,none⟩=some (.slice (some ⟨gp,0,none⟩) bs.length bs.length) ∧ W.cell? ⟨gn,5,none⟩=some (.slice (some ⟨gi,0,none⟩) bs.length bs.length) ∧ W.cell? ⟨gn,6,none⟩=some (.slice (some ⟨gl,0,none⟩) bs.length bs.length) ∧ W.cell? ⟨gn,7,none⟩=some (lv)):=fun W hW => by
  have hx:=row_cells HX2.out (hW.block gn hgl2)
  exact ⟨hx 0,hx 1,hx 2,hx 3,hx 4,hx 5,hx 6,hx 7⟩
 have hS0:=HS.out w2 (Below.refl _ _)
 clear hx hO7
 refine wp_region_late (by kernel_rfl) (fun W => W.cell? ⟨gn,0,none⟩=some (p0) ∧ W.cell? ⟨gn,1,none⟩=some (p1) ∧ W.cell? ⟨gn,2,none⟩=some (p2) ∧ W.cell? ⟨gn,3,none⟩=some (.slice A bs.length c) ∧ W.cell? ⟨gn,4,none⟩=some (.slice (some ⟨gp,0,none⟩) bs.length bs.length) ∧ W.cell? ⟨gn,5,none⟩=some (.slice (some ⟨gi,0,none⟩) bs.length bs.length) ∧ W.cell? ⟨gn,6,none⟩=some (.slice (some ⟨gl,0,none⟩) bs.length bs.length) ∧ W.cell? ⟨gn,7,none⟩=some (lv)) [16,19] ?_
 refine wpAnyT_quiet (i:=0) (v:=?_) rfl (by kernel_rfl) (by kernel_rfl) (by kernel_rfl) (fun _ _ _ h => h) (Or.inl ⟨by rfl,?_⟩) ?_
 rotate_left
 ·(intro w;go_simp;try with_reducible rfl)
 try simp only [Act.put,List.setIfInBounds_toArray,List.set_cons_zero,List.set_cons_succ]
 refine wpAnyT_quiet (i:=1) (v:=?_) rfl (by kernel_rfl) (by kernel_rfl) (by kernel_rfl) (fun _ _ _ h => h) (Or.inl ⟨by rfl,?_⟩) ?_
 rotate_left
 ·(intro w;go_simp;try with_reducible rfl)
 try simp only [Act.put,List.setIfInBounds_toArray,List.set_cons_zero,List.set_cons_succ]
 refine wpAnyT_quiet (i:=2) (v:=?_) rfl (by kernel_rfl) (by kernel_rfl) (by kernel_rfl) (fun _ _ _ h => h) (Or.inl ⟨by rfl,?_⟩) ?_
 rotate_left
 ·(intro w;go_simp;try with_reducible rfl)
 try simp only [Act.put,List.setIfInBounds_toArray,List.set_cons_zero,List.set_cons_succ]
 refine wpAnyT_quiet (i:=3) (v:=?_) rfl (by kernel_rfl) (by kernel_rfl) (by kernel_rfl) (fun _ _ _ h => h) (Or.inl ⟨by rfl,?_⟩) ?_
 rotate_left
 ·(intro w;go_simp;try with_reducible rfl)
 try simp only [Act.put,List.setIfInBounds_toArray,List.set_cons_zero,List.set_cons_succ]
 refine wpAnyT_take [16,19] (i:=4) (v:=?_) rfl (by kernel_rfl) (by kernel_rfl) (by kernel_rfl) (by kernel_rfl) (by kernel_rfl) (by kernel_rfl) (fun _ _ _ h => h) hS0 (Or.inl ⟨by rfl,?_⟩) ?_
 rotate_left
 ·(intro w hSw;go_split_ands;go_simp;try with_reducible rfl)
 try simp only [Act.put,List.setIfInBounds_toArray,List.set_cons_zero,List.set_cons_succ]
 refine wpAnyT_quiet (i:=5) (v:=?_) rfl (by kernel_rfl) (by kernel_rfl) (by kernel_rfl) (fun _ _ _ h => h) (Or.inl ⟨by rfl,?_⟩) ?_
 rotate_left
 ·(intro w;go_simp;try with_reducible rfl)
 try simp only [Act.put,List.setIfInBounds_toArray,List.set_cons_zero,List.set_cons_succ]
 refine wpAnyT_quiet (i:=6) (v:=?_) rfl (by kernel_rfl) (by kernel_rfl) (by kernel_rfl) (fun _ _ _ h => h) (Or.inl ⟨by rfl,?_⟩) ?_
 rotate_left
 ·(intro w;go_simp;try with_reducible rfl)
 try simp only [Act.put,List.setIfInBounds_toArray,List.set_cons_zero,List.set_cons_succ]
 refine wpAnyT_quiet (i:=7) (v:=?_) rfl (by kernel_rfl) (by kernel_rfl) (by kernel_rfl) (fun _ _ _ h => h) (Or.inl ⟨by rfl,?_⟩) ?_
 rotate_left
 ·(intro w;go_simp;try with_reducible rfl)
 try simp only [Act.put,List.setIfInBounds_toArray,List.set_cons_zero,List.set_cons_succ]
 refine wpAnyT_quiet (i:=8) (v:=?_) rfl (by kernel_rfl) (by kernel_rfl) (by kernel_rfl) (fun _ _ _ h => h) (Or.inl ⟨by rfl,?_⟩) ?_
 rotate_left
 ·(intro w;go_simp;try with_reducible rfl)
 try simp only [Act.put,List.setIfInBounds_toArray,List.set_cons_zero,List.set_cons_succ]
 refine wpAnyT_quiet (i:=9) (v:=?_) rfl (by kernel_rfl) (by kernel_rfl) (by kernel_rfl) (fun _ _ _ h => h) (Or.inl ⟨by rfl,?_⟩) ?_
 rotate_left
 ·(intro w;go_simp;try with_reducible rfl)
 try simp only [Act.put,List.setIfInBounds_toArray,List.set_cons_zero,List.set_cons_succ]
 refine wpAnyT_take [13,14,15,16,19] (i:=10) (v:=?_) rfl (by kernel_rfl) (by kernel_rfl) (by kernel_rfl) (by kernel_rfl) (by kernel_rfl) (by kernel_rfl) (fun _ _ _ h => h) hS0 (Or.inl ⟨by rfl,?_⟩) ?_
 rotate_left
 ·(intro w hSw;go_split_ands;go_simp;try with_reducible rfl)
 try simp only [Act.put,List.setIfInBounds_toArray,List.set_cons_zero,List.set_cons_succ]
 refine wpAnyT_quiet (i:=11) (v:=?_) rfl (by kernel_rfl) (by kernel_rfl) (by kernel_rfl) (fun _ _ _ h => h) (Or.inl ⟨by rfl,?_⟩) ?_
 rotate_left
 ·(intro w;go_simp;try with_reducible rfl)
 try simp only [Act.put,List.setIfInBounds_toArray,List.set_cons_zero,List.set_cons_succ]
 refine wpAnyT_quiet (i:=12) (v:=?_) rfl (by kernel_rfl) (by kernel_rfl) (by kernel_rfl) (fun _ _ _ h => h) (Or.inl ⟨by rfl,?_⟩) ?_
 rotate_left
 ·(intro w;go_simp;try with_reducible rfl)
 try simp only [Act.put,List.setIfInBounds_toArray,List.set_cons_zero,List.set_cons_succ]
 refine wpAnyT_ready (rs:=[13]) (by kernel_rfl) (by simp) ?_
 refine AllReadyT.cons rfl (fun K hK => ?_) ?_
 ·go_simp
  refine HEX.out.mono ?_
  rintro e w3 ⟨vx,rfl,hown3,hb3d⟩
  have hb3:Below w2.heap.size w2 w3:=⟨hb3d.os,hb3d.tape,hb3d.output,hb3d.size,hb3d.block⟩
  obtain ⟨Ax,cx,rfl⟩:=own_sl hown3
  obtain ⟨nx,hnx⟩:∃ nx,nx=(exitsM bs L h).length:=⟨_,rfl⟩
  have HO3:=hideI hown3
  rw [← hnx] at HO3 ⊢
  have HNX:=hideI hnx
  have HB3:=hideI hb3
  refine hK.out _ _ (fun _ _ => HS.out _ HB3.out) ?_
  clear hK K hown3 hb3d hb3 hnx
  try simp only [Act.put,List.setIfInBounds_toArray,List.set_cons_zero,List.set_cons_succ]
  refine wpAnyT_quiet (i:=14) (v:=?_) rfl (by kernel_rfl) (by kernel_rfl) (by kernel_rfl) (fun _ _ _ h => h) (Or.inl ⟨by rfl,?_⟩) ?_
  rotate_left
  ·(intro w;go_simp;try with_reducible rfl)
  try simp only [Act.put,List.setIfInBounds_toArray,List.set_cons_zero,List.set_cons_succ]
  refine wpAnyT_ready (rs:=[15]) (by kernel_rfl) (by simp) ?_
  refine AllReadyT.cons rfl (fun K hK => ?_) ?_
  ·go_simp
   have hs3:w2.heap.size ≤ w3.heap.size:=HB3.out.size
   refine hK.out _ _ (fun _ _ => HS.out _ (HB3.out.alloc hs3 _)) ?_
   clear hK K
   try simp only [Act.put,List.setIfInBounds_toArray,List.set_cons_zero,List.set_cons_succ]
   obtain ⟨cs0,hr1,hr2⟩:=HLS.out.ex
   have HB23:Hid (Below w.heap.size w w3):=HB2.out.trans (HB3.out.mono hw2)
   have hrow:=own_kept_below hr1 HB23.out (fun k hk => (hr1.lt k hk).2)
   have HAT:Hid (∀ (i:Nat) lp,ls[i]?=some lp → LpAt w3 base lv cs0 i lp):=fun i lp hi => (hr2 i lp hi).map fun _ _ sr => sr.kept HB23.out
   have hlt:∀ k,lv.ownBlock=some k → k < w.heap.size:=fun k hk => (hr1.lt k hk).2
   have S1:Hid (SubR w3 base lv (.slice A7 nb c7) (blocksM bs.length L h)):=by
    have h1:w2.ownsRow w.heap.size 3 1 (.slice A7 nb c7) (blocksM bs.length L h).length (natInts (blocksM bs.length L h)):=by rw [HNB.out];exact World.ownsRow.mono HO2.out HB1.out.size
    refine ⟨World.ownsRow.mono (own_kept_below h1 HB3.out (fun k hk => (h1.lt k hk).2)) hbs,fun k hk e => ?_⟩
    have h2:=(h1.lt k hk).1
    have h3:=hlt k e
    omega
   have S2:Hid (SubR w3 base lv (.slice As nl cs) (latchesM bs D h)):=HSUB.out.kept HB23.out
   have S3:Hid (SubR w3 base lv (.slice Ax nx cx) (exitsM bs L h)):=by
    have h1:w3.ownsRow w2.heap.size 3 1 (.slice Ax nx cx) (exitsM bs L h).length (natInts (exitsM bs L h)):=by rw [← HNX.out];exact HO3.out
    refine ⟨World.ownsRow.mono h1 (Nat.le_trans hbs hw2),fun k hk e => ?_⟩
    have h2:=(h1.lt k hk).1
    have h3:=hlt k e
    omega
   have HROW:=hideI hrow
   have hnews:=World.news_of_block (heap_alloc_new w3 (.cells #[.int .i64 (h:Int),.slice A7 nb c7,.slice As nl cs,.slice Ax nx cx,.int .i64 0] 88))
   obtain ⟨i0,hix,hz0,hz1,hz2⟩:=info_parts loop_info
   clear hr1 hr2 hrow hlt
   refine wpAnyT_ready (rs:=[16]) (by kernel_rfl) (by simp) ?_
   refine AllReadyT.cons rfl (fun K hK => ?_) ?_
   ·refine step_append_lies _ rfl (.tmp 20) (.tmp 31) _ rfl base 88 i0 _ 5 88 Tryz.underlying79 hix hz0 hz1 hz2 rfl (by decide) lv ls.length cs0 rfl (HROW.out.alloc _) ⟨w3.heap.size,0,none⟩ 1 1 [.int .i64 (h:Int),.slice A7 nb c7,.slice As nl cs,.slice Ax nx cx,.int .i64 0] rfl rfl hnews (by simp [Value.oneCell']) (by decide) (by unfold maxLen;omega) (by omega) (by simp;omega) _ rfl ?_
    intro g1 cap1 w5 hown5 hgrow5 hor5 _
    refine hK.out _ _ (fun h => absurd (by simp) h) ?_
    clear hK K hnews hix hz0 hz1 hz2
    try simp only [Act.put,List.setIfInBounds_toArray,List.set_cons_zero,List.set_cons_succ]
    have hX5:w5.heap[gn]?=some (.cells #[p0,p1,p2,.slice A bs.length c,.slice (some ⟨gp,0,none⟩) bs.length bs.length,.slice (some ⟨gi,0,none⟩) bs.length bs.length,.slice (some ⟨gl,0,none⟩) bs.length bs.length,lv] 248 (0,0)):=by
     have h1:=hgrow5.block gn (by simp;omega) (fun e => by have:=(HROW.out.lt gn e.symm).1;omega)
     rw [h1,Below.heap_alloc _ _ _ (by omega)]
     exact (HB3.out.block gn hgl2).trans HX2.out
    have HX5:=hideI hX5
    have HB5:Hid (Below gn w w5):=((HB23.out.mono (Nat.le_of_lt hgl)).alloc (by have:=HB23.out.size;omega) (.cells #[.int .i64 (h:Int),.slice A7 nb c7,.slice As nl cs,.slice Ax nx cx,.int .i64 0] 88)).grown hgrow5 (by simp;omega) (fun k hk => by have:=(HROW.out.lt k hk).1;omega)
    have HLP:=hideI (LoopsR.push (lp:=lpOf bs D L h) HROW.out HAT.out S1.out S2.out S3.out hown5 hgrow5 hor5)
    have k7:=row_cells hX5 rfl 7
    have z7:=free_rowN hX5 rfl 7
    clear hown5 hgrow5 hor5 hX5
    refine wpAnyT_quiet (i:=17) (v:=?_) rfl (by kernel_rfl) (by kernel_rfl) (by kernel_rfl) (fun _ _ _ h => h) (Or.inl ⟨by rfl,?_⟩) ?_
    rotate_left
    ·(intro w;go_simp;try with_reducible rfl)
    try simp only [Act.put,List.setIfInBounds_toArray,List.set_cons_zero,List.set_cons_succ]
    refine wpAnyT_quiet (i:=18) (v:=?_) rfl (by kernel_rfl) (by kernel_rfl) (by kernel_rfl) (fun _ _ _ h => h) (Or.inl ⟨by rfl,?_⟩) ?_
    rotate_left
    ·(intro w;go_simp;try with_reducible rfl)
    try simp only [Act.put,List.setIfInBounds_toArray,List.set_cons_zero,List.set_cons_succ]
    refine wpAnyT_ready (rs:=[19]) (by kernel_rfl) (by simp) ?_
    refine AllReadyT.cons rfl (fun K hK => ?_) ?_
    ·go_simp
     refine hK.out _ _ (fun h => absurd (by simp) h) ?_
     clear hK K
     try simp only [Act.put,List.setIfInBounds_toArray,List.set_cons_zero,List.set_cons_succ]
     refine wpAnyT_done (by kernel_rfl) ?_ _
     go_wp2_with fail
     refine bodyPost_ret (v:=.tuple #[]) (by simp [results,Tryz.results211,go_sem]) rfl ⟨g1,cap1,rfl,?_,?_,?_⟩
     ·rw [List.length_append]
      rw [heap_setCell_same _ gn 7 _ _ _ HX5.out]
      rfl
     ·rw [List.length_append]
      exact HLP.out.other hbase _
     ·exact HB5.out.setCell (Nat.le_refl _) _
    ·exact AllReadyT.nil
   ·exact AllReadyT.nil
  ·exact AllReadyT.nil
 ·exact AllReadyT.nil
end Go.Proofs.YtaehbgppfahdeaaGreat
