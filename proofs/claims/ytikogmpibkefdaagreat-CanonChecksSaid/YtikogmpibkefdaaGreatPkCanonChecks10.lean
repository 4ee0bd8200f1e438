/- What CanonChecks rests on, part 10: FnI, STreeM, SWalk, STree. -/
import Derived.Test.YtikogmpibkefdaaGreatPkCanonChecks9
import Derived.Deep.LoopGhost
import Derived.Deep.QuietTactic
import Derived.Laws.EntriesVeiled

namespace Go.Proofs.YtikogmpibkefdaaGreat
open Go.RowKit Go.Maps
def FirstBy {α:Type} (p:α → Bool) (l:List α) (r:Int):Prop :=
 (r=-1 ∧ ∀ x ∈ l,p x=false) ∨ ∃ (k:Nat) (x:α),r=k ∧ l[k]?=some x ∧ p x=true ∧ ∀ j y,j < k → l[j]?=some y → p y=false
theorem FirstBy.any {α:Type} {p:α → Bool} {l:List α} {r:Int} (h:FirstBy p l r):l.any p=decide (0 ≤ r):=by
 rcases h with ⟨rfl,h⟩ | ⟨k,x,rfl,hx,hp,_⟩
 ·rw [show decide ((0:Int) ≤ -1)=false from rfl,List.any_eq_false]
  intro x hx
  rw [h x hx]
  simp
 ·rw [show decide ((0:Int) ≤ (k:Int))=true from decide_eq_true (by omega),List.any_eq_true]
  exact ⟨x,List.mem_of_getElem? hx,hp⟩
theorem FirstBy.one {α:Type} {p:α → Bool} {l:List α} {r s:Int} (h:FirstBy p l r) (k:FirstBy p l s):r=s:=by
 rcases h with ⟨rfl,h⟩ | ⟨i,x,rfl,hx,hp,hb⟩ <;> rcases k with ⟨rfl,k⟩ | ⟨j,y,rfl,hy,kp,kb⟩
 ·rfl
 ·rw [h y (List.mem_of_getElem? hy)] at kp;cases kp
 ·rw [k x (List.mem_of_getElem? hx)] at hp;cases hp
 ·rcases Nat.lt_trichotomy i j with h1 | h1 | h1
  ·rw [kb i x h1 hx] at hp;cases hp
  ·rw [h1]
  ·rw [hb j y h1 hy] at kp;cases kp
theorem first_some {α:Type} {p:α → Bool} {l:List α} (h:¬ ∀ x ∈ l,p x=false):∃ (k:Nat) (x:α),l[k]?=some x ∧ p x=true ∧ ∀ j y,j < k → l[j]?=some y → p y=false:=by
 have hex:∃ x ∈ l,p x=true:=by
  refine Classical.byContradiction fun hn => h fun x hx => ?_
  cases hp:p x
  ·rfl
  ·exact absurd ⟨x,hx,hp⟩ hn
 have hlt:l.findIdx p < l.length:=List.findIdx_lt_length_of_exists hex
 refine ⟨l.findIdx p,l[l.findIdx p],List.getElem?_eq_getElem hlt,List.findIdx_getElem,fun j y hj hy => ?_⟩
 obtain ⟨hjl,rfl⟩:=List.getElem?_eq_some_iff.1 hy
 have:=List.not_of_lt_findIdx hj
 simpa using this
def GivesOut (base q:Nat) (l:List Nat) (p:Nat → Bool) (w:World):Prop :=
 ∀ (W:World) (x:Nat),x ∈ l → Below base w W → Calls Tryz.prog 113 #[.int .i64 (x:Int),.pointer (some ⟨q,0,none⟩)] W fun e w' => e=.returned (.bool (p x)) ∧ Below W.heap.size W w'
set_option maxRecDepth 100000 in
set_option maxHeartbeats 2000000 in
theorem idxOut_any (l:List Nat) (B q:Nat) (v:Value) (p:Nat → Bool) (w:World) (hv:Ints w B v (l.map fun (x:Nat) => (x:Int))) (hB:B ≤ w.heap.size) (hp:GivesOut w.heap.size q l p w) :
  Calls Tryz.prog 178 #[v,.func (.func 113) #[] #[.pointer (some ⟨q,0,none⟩)]] w fun e w' => ∃ r,e=.returned (.int .i64 r) ∧ FirstBy p l r ∧ Below w.heap.size w w':=by
 obtain ⟨A,c,rfl,hm,hx⟩:=hv
 rw [List.length_map] at hm hx ⊢
 obtain ⟨n,hnn⟩:∃ n,n=l.length:=⟨_,rfl⟩
 have HN:=hideI hnn
 have HX:=hideI hx
 have HP:=hideI hp
 rw [← hnn] at hm HX ⊢
 clear hnn hx hp
 go_enter Tryz.func178,Tryz.ntmps178
 go_wp2
 go_loopg [5,8] n (fun gg _ s8 wr => ∃ kk:Nat,kk ≤ n ∧ n - kk ≤ gg ∧ s8=.int .i64 kk ∧ Hid (Below w.heap.size w wr) ∧ Hid (∀ j y,j < kk → l[j]?=some y → p y=false))
 case atStart => exact ⟨0,Nat.zero_le _,by omega,rfl,Below.refl _ w,fun j y h => absurd h (Nat.not_lt_zero _)⟩
 case round =>
  obtain ⟨k,hk,hgg,rfl,HBr,HA⟩:=hrel
  by_cases hlt:k < n
  ·obtain ⟨x,hxk⟩:∃ x,l[k]?=some x:=⟨_,List.getElem?_eq_getElem (by have:=HN.out;omega)⟩
   obtain ⟨b,off,rfl,hb,hcell⟩:=HX.out k hlt
   rw [List.getElem?_map,hxk] at hcell
   simp only [Option.map_some,Option.getD_some] at hcell
   have hc1:=(HBr.out.cell (p:=⟨b,off + k,none⟩) (by simp;omega)).trans hcell
   have hcall:=HP.out wr x (List.mem_of_getElem? hxk) HBr.out
   have HXK:=hideI hxk
   clear hxk hcell
   cases hq:p x with
   | true =>
    rw [hq] at hcall
    have HQ:=hideI hq
    have HC:=hideI hcall
    clear hq hcall
    go_wp2_with (go_at_call 113;refine HC.out.mono ?_;rintro e w' ⟨rfl,hb'⟩)
    go_ret
    exact ⟨_,rfl,.inr ⟨k,x,rfl,HXK.out,HQ.out,HA.out⟩,HBr.out.trans (hb'.mono HBr.out.size)⟩
   | false =>
    rw [hq] at hcall
    have HQ:=hideI hq
    have HC:=hideI hcall
    clear hq hcall
    go_wp2_with (go_at_call 113;refine HC.out.mono ?_;rintro e w' ⟨rfl,hb'⟩)
    go_roundg (n - (k + 1))
    case measure => omega
    case rel =>
     refine ⟨k + 1,by omega,by omega,by go_num,HBr.out.trans (hb'.mono HBr.out.size),fun j y hj hy => ?_⟩
     by_cases e:j=k
     ·subst e
      have h1:=HXK.out
      rw [hy] at h1
      cases h1
      exact HQ.out
     ·exact HA.out j y (by omega) hy
  ·have hkn:k=n:=by omega
   subst hkn
   go_wp2
   go_ret
   refine ⟨_,rfl,.inl ⟨rfl,fun x hx => ?_⟩,HBr.out⟩
   obtain ⟨j,hj⟩:=List.getElem?_of_mem hx
   exact HA.out j x (by have:=(List.getElem?_eq_some_iff.1 hj).1;have:=HN.out;omega) hj
set_option maxRecDepth 100000 in
set_option maxHeartbeats 2000000 in
theorem hasOut_any (l:List Nat) (B q:Nat) (v:Value) (p:Nat → Bool) (w:World) (hv:Ints w B v (l.map fun (x:Nat) => (x:Int))) (hB:B ≤ w.heap.size) (hp:GivesOut w.heap.size q l p w) :
  Calls Tryz.prog 116 #[v,.func (.func 113) #[] #[.pointer (some ⟨q,0,none⟩)]] w fun e w' => e=.returned (.bool (l.any p)) ∧ Below w.heap.size w w':=by
 have h0:=idxOut_any l B q v p w hv hB hp
 obtain ⟨A,c,rfl,hm,hx⟩:=hv
 rw [List.length_map] at h0 ⊢
 have HC:=hideI h0
 clear hp hx hm h0
 go_enter Tryz.func116,Tryz.ntmps116
 go_wp2_with (go_at_call 178;refine HC.out.mono ?_;rintro e w' ⟨r,rfl,hf,hb'⟩;have HF:=hideI hf.any;have HB:=hideI hb';clear hf hb')
 go_ret
 exact ⟨by rw [HF.out];rfl,HB.out⟩
def GivesIn (base q:Nat) (l:List Nat) (p:Nat → Bool) (w:World):Prop :=
 ∀ (W:World) (x:Nat),x ∈ l → Below base w W → Calls Tryz.prog 176 #[.int .i64 (x:Int),.pointer (some ⟨q,0,none⟩)] W fun e w' => e=.returned (.bool (p x)) ∧ Below W.heap.size W w'
theorem GivesIn.later {base base' q:Nat} {l:List Nat} {p:Nat → Bool} {w W:World} (h:GivesIn base q l p w) (hb:Below base w W) (hl:base ≤ base'):GivesIn base' q l p W :=
 fun W' x hx hb' => h W' x hx (hb.trans (hb'.mono hl))
set_option maxRecDepth 100000 in
set_option maxHeartbeats 2000000 in
theorem idxIn_any (l:List Nat) (B q:Nat) (v:Value) (p:Nat → Bool) (w:World) (hv:Ints w B v (l.map fun (x:Nat) => (x:Int))) (hB:B ≤ w.heap.size) (hp:GivesIn w.heap.size q l p w) :
  Calls Tryz.prog 178 #[v,.func (.func 176) #[] #[.pointer (some ⟨q,0,none⟩)]] w fun e w' => ∃ r,e=.returned (.int .i64 r) ∧ FirstBy p l r ∧ Below w.heap.size w w':=by
 obtain ⟨A,c,rfl,hm,hx⟩:=hv
 rw [List.length_map] at hm hx ⊢
 obtain ⟨n,hnn⟩:∃ n,n=l.length:=⟨_,rfl⟩
 have HN:=hideI hnn
 have HX:=hideI hx
 have HP:=hideI hp
 rw [← hnn] at hm HX ⊢
 clear hnn hx hp
 go_enter Tryz.func178,Tryz.ntmps178
 go_wp2
 go_loopg [5,8] n (fun gg _ s8 wr => ∃ kk:Nat,kk ≤ n ∧ n - kk ≤ gg ∧ s8=.int .i64 kk ∧ Hid (Below w.heap.size w wr) ∧ Hid (∀ j y,j < kk → l[j]?=some y → p y=false))
 case atStart => exact ⟨0,Nat.zero_le _,by omega,rfl,Below.refl _ w,fun j y h => absurd h (Nat.not_lt_zero _)⟩
 case round =>
  obtain ⟨k,hk,hgg,rfl,HBr,HA⟩:=hrel
  by_cases hlt:k < n
  ·obtain ⟨x,hxk⟩:∃ x,l[k]?=some x:=⟨_,List.getElem?_eq_getElem (by have:=HN.out;omega)⟩
   obtain ⟨b,off,rfl,hb,hcell⟩:=HX.out k hlt
   rw [List.getElem?_map,hxk] at hcell
   simp only [Option.map_some,Option.getD_some] at hcell
   have hc1:=(HBr.out.cell (p:=⟨b,off + k,none⟩) (by simp;omega)).trans hcell
   have hcall:=HP.out wr x (List.mem_of_getElem? hxk) HBr.out
   have HXK:=hideI hxk
   clear hxk hcell
   cases hq:p x with
   | true =>
    rw [hq] at hcall
    have HQ:=hideI hq
    have HC:=hideI hcall
    clear hq hcall
    go_wp2_with (go_at_call 176;refine HC.out.mono ?_;rintro e w' ⟨rfl,hb'⟩)
    go_ret
    exact ⟨_,rfl,.inr ⟨k,x,rfl,HXK.out,HQ.out,HA.out⟩,HBr.out.trans (hb'.mono HBr.out.size)⟩
   | false =>
    rw [hq] at hcall
    have HQ:=hideI hq
    have HC:=hideI hcall
    clear hq hcall
    go_wp2_with (go_at_call 176;refine HC.out.mono ?_;rintro e w' ⟨rfl,hb'⟩)
    go_roundg (n - (k + 1))
    case measure => omega
    case rel =>
     refine ⟨k + 1,by omega,by omega,by go_num,HBr.out.trans (hb'.mono HBr.out.size),fun j y hj hy => ?_⟩
     by_cases e:j=k
     ·subst e
      have h1:=HXK.out
      rw [hy] at h1
      cases h1
      exact HQ.out
     ·exact HA.out j y (by omega) hy
  ·have hkn:k=n:=by omega
   subst hkn
   go_wp2
   go_ret
   refine ⟨_,rfl,.inl ⟨rfl,fun x hx => ?_⟩,HBr.out⟩
   obtain ⟨j,hj⟩:=List.getElem?_of_mem hx
   exact HA.out j x (by have:=(List.getElem?_eq_some_iff.1 hj).1;have:=HN.out;omega) hj
def GivesSh (base q r:Nat) (l:List Nat) (p:Nat → Bool) (w:World):Prop :=
 ∀ (W:World) (x:Nat),x ∈ l → Below base w W → Calls Tryz.prog 115 #[.int .i64 (x:Int),.pointer (some ⟨q,0,none⟩),.pointer (some ⟨r,0,none⟩)] W fun e w' => e=.returned (.bool (p x)) ∧ Below W.heap.size W w'
set_option maxRecDepth 100000 in
set_option maxHeartbeats 2000000 in
theorem idxSh_any (l:List Nat) (B q r:Nat) (v:Value) (p:Nat → Bool) (w:World) (hv:Ints w B v (l.map fun (x:Nat) => (x:Int))) (hB:B ≤ w.heap.size) (hp:GivesSh w.heap.size q r l p w) :
  Calls Tryz.prog 178 #[v,.func (.func 115) #[] #[.pointer (some ⟨q,0,none⟩),.pointer (some ⟨r,0,none⟩)]] w fun e w' => ∃ r,e=.returned (.int .i64 r) ∧ FirstBy p l r ∧ Below w.heap.size w w':=by
 obtain ⟨A,c,rfl,hm,hx⟩:=hv
 rw [List.length_map] at hm hx ⊢
 obtain ⟨n,hnn⟩:∃ n,n=l.length:=⟨_,rfl⟩
 have HN:=hideI hnn
 have HX:=hideI hx
 have HP:=hideI hp
 rw [← hnn] at hm HX ⊢
 clear hnn hx hp
 go_enter Tryz.func178,Tryz.ntmps178
 go_wp2
 go_loopg [5,8] n (fun gg _ s8 wr => ∃ kk:Nat,kk ≤ n ∧ n - kk ≤ gg ∧ s8=.int .i64 kk ∧ Hid (Below w.heap.size w wr) ∧ Hid (∀ j y,j < kk → l[j]?=some y → p y=false))
 case atStart => exact ⟨0,Nat.zero_le _,by omega,rfl,Below.refl _ w,fun j y h => absurd h (Nat.not_lt_zero _)⟩
 case round =>
  obtain ⟨k,hk,hgg,rfl,HBr,HA⟩:=hrel
  by_cases hlt:k < n
  ·obtain ⟨x,hxk⟩:∃ x,l[k]?=some x:=⟨_,List.getElem?_eq_getElem (by have:=HN.out;omega)⟩
   obtain ⟨b,off,rfl,hb,hcell⟩:=HX.out k hlt
   rw [List.getElem?_map,hxk] at hcell
   simp only [Option.map_some,Option.getD_some] at hcell
   have hc1:=(HBr.out.cell (p:=⟨b,off + k,none⟩) (by simp;omega)).trans hcell
   have hcall:=HP.out wr x (List.mem_of_getElem? hxk) HBr.out
   have HXK:=hideI hxk
   clear hxk hcell
   cases hq:p x with
   | true =>
    rw [hq] at hcall
    have HQ:=hideI hq
    have HC:=hideI hcall
    clear hq hcall
    go_wp2_with (go_at_call 115;refine HC.out.mono ?_;rintro e w' ⟨rfl,hb'⟩)
    go_ret
    exact ⟨_,rfl,.inr ⟨k,x,rfl,HXK.out,HQ.out,HA.out⟩,HBr.out.trans (hb'.mono HBr.out.size)⟩
   | false =>
    rw [hq] at hcall
    have HQ:=hideI hq
    have HC:=hideI hcall
    clear hq hcall
    go_wp2_with (go_at_call 115;refine HC.out.mono ?_;rintro e w' ⟨rfl,hb'⟩)
    go_roundg (n - (k + 1))
    case measure => omega
    case rel =>
     refine ⟨k + 1,by omega,by omega,by go_num,HBr.out.trans (hb'.mono HBr.out.size),fun j y hj hy => ?_⟩
     by_cases e:j=k
     ·subst e
      have h1:=HXK.out
      rw [hy] at h1
      cases h1
      exact HQ.out
     ·exact HA.out j y (by omega) hy
  ·have hkn:k=n:=by omega
   subst hkn
   go_wp2
   go_ret
   refine ⟨_,rfl,.inl ⟨rfl,fun x hx => ?_⟩,HBr.out⟩
   obtain ⟨j,hj⟩:=List.getElem?_of_mem hx
   exact HA.out j x (by have:=(List.getElem?_eq_some_iff.1 hj).1;have:=HN.out;omega) hj
set_option maxRecDepth 100000 in
set_option maxHeartbeats 2000000 in
theorem hasSh_any (l:List Nat) (B q r:Nat) (v:Value) (p:Nat → Bool) (w:World) (hv:Ints w B v (l.map fun (x:Nat) => (x:Int))) (hB:B ≤ w.heap.size) (hp:GivesSh w.heap.size q r l p w) :
  Calls Tryz.prog 116 #[v,.func (.func 115) #[] #[.pointer (some ⟨q,0,none⟩),.pointer (some ⟨r,0,none⟩)]] w fun e w' => e=.returned (.bool (l.any p)) ∧ Below w.heap.size w w':=by
 have h0:=idxSh_any l B q r v p w hv hB hp
 obtain ⟨A,c,rfl,hm,hx⟩:=hv
 rw [List.length_map] at h0 ⊢
 have HC:=hideI h0
 clear hp hx hm h0
 go_enter Tryz.func116,Tryz.ntmps116
 go_wp2_with (go_at_call 178;refine HC.out.mono ?_;rintro e w' ⟨r,rfl,hf,hb'⟩;have HF:=hideI hf.any;have HB:=hideI hb';clear hf hb')
 go_ret
 exact ⟨by rw [HF.out];rfl,HB.out⟩
end Go.Proofs.YtikogmpibkefdaaGreat

namespace Go.Proofs.YtikogmpibkefdaaGreat
def kidsTo (par:Nat → Option Nat) (k b:Nat):List Nat:=(List.range k).filter fun c => par c == some b
theorem kidsTo_mem {par:Nat → Option Nat} {k b c:Nat}:c ∈ kidsTo par k b ↔ c < k ∧ par c=some b:=by
 unfold kidsTo
 rw [List.mem_filter,List.mem_range,beq_iff_eq]
theorem kidsTo_nodup (par:Nat → Option Nat) (k b:Nat):(kidsTo par k b).Nodup:=List.nodup_range.filter _
theorem kidsTo_len (par:Nat → Option Nat) (k b:Nat):(kidsTo par k b).length ≤ k:=by
 have:=List.length_filter_le (fun c => par c == some b) (List.range k)
 unfold kidsTo
 simpa using this
theorem kidsTo_succ (par:Nat → Option Nat) (k b:Nat):kidsTo par (k + 1) b=kidsTo par k b ++ if par k=some b then [k] else []:=by
 unfold kidsTo
 rw [List.range_succ,List.filter_append]
 congr 1
 by_cases h:par k=some b <;> simp [h]
def updF (F:Nat → Int) (b:Nat) (v:Int):Nat → Int:=fun c => if c=b then v else F c
theorem updF_same (F:Nat → Int) (b:Nat) (v:Int):updF F b v b=v:=if_pos rfl
theorem updF_other (F:Nat → Int) {b c:Nat} (v:Int) (h:c ≠ b):updF F b v c=F c:=if_neg h
inductive Num (kids:Nat → List Nat):List Nat → List Nat → (Nat → Int) → (Nat → Int) → Nat → (Nat → Int) → (Nat → Int) → Prop
 | nil {F L:Nat → Int} {k:Nat}:Num kids [] [] F L k F L
 | cons {c:Nat} {cs u v:List Nat} {F L F1 L1 F2 L2:Nat → Int} {k:Nat} (h1:Num kids (kids c) u (updF F c (k:Int)) L (k + 1) F1 L1) (h2:Num kids cs v F1 (updF L1 c ((k + u.length:Nat):Int)) (k + 1 + u.length) F2 L2):Num kids (c :: cs) (c :: (u ++ v)) F L k F2 L2
theorem Num.append {kids:Nat → List Nat} {l r u v:List Nat} {F L F1 L1 F2 L2:Nat → Int} {k:Nat} (h:Num kids l u F L k F1 L1) (h2:Num kids r v F1 L1 (k + u.length) F2 L2):Num kids (l ++ r) (u ++ v) F L k F2 L2:=by
 induction h with
 | nil => exact h2
 | @cons c cs u1 u2 F L F1 L1 F2 L2 k a b _ ih2 =>
  have:=ih2 (by simpa [Nat.add_assoc,Nat.add_comm,Nat.add_left_comm] using h2)
  rw [List.cons_append,List.cons_append,List.append_assoc]
  exact .cons a this
theorem Num.one {kids:Nat → List Nat} {c k:Nat} {u:List Nat} {F L F1 L1:Nat → Int} (h:Num kids (kids c) u (updF F c k) L (k + 1) F1 L1):Num kids [c] (c :: u) F L k F1 (updF L1 c ((k + u.length:Nat):Int)):=by
 have:=Num.cons (cs:=[]) h .nil
 rwa [List.append_nil] at this
structure Sib (par:Nat → Option Nat) (l:List Nat):Prop where
 nodup:l.Nodup
 apart:∀ c ∈ l,∀ d ∈ l,c ≠ d → ∀ x,Anc par c x → ¬ Anc par d x
theorem Sib.tail {par:Nat → Option Nat} {c:Nat} {l:List Nat} (h:Sib par (c :: l)):Sib par l :=
 ⟨(List.nodup_cons.1 h.nodup).2,fun a ha b hb => h.apart a (List.mem_cons_of_mem _ ha) b (List.mem_cons_of_mem _ hb)⟩
theorem Sib.one (par:Nat → Option Nat) (c:Nat):Sib par [c] :=
 ⟨by simp,fun a ha b hb hne => absurd ((List.mem_singleton.1 ha).trans (List.mem_singleton.1 hb).symm) hne⟩
theorem Sib.take {par:Nat → Option Nat} {l:List Nat} (h:Sib par l) (i:Nat):Sib par (l.take i) :=
 ⟨h.nodup.sublist (List.take_sublist _ _),fun a ha b hb => h.apart a (List.mem_of_mem_take ha) b (List.mem_of_mem_take hb)⟩
theorem Sib.kids {o:List Nat} {pl:Nat → Nat} {par:Nat → Option Nat} (T:Tree o pl par) (n b:Nat):Sib par (kidsTo par n b):=by
 refine ⟨kidsTo_nodup par n b,?_⟩
 intro c hc d hd hne x h1 h2
 have pc:=(kidsTo_mem.1 hc).2
 have pd:=(kidsTo_mem.1 hd).2
 have hup:∀ {a e:Nat},par a=some b → par e=some b → a ≠ e → ¬ Anc par a e:=by
  intro a e ha he hn h
  rcases h.step he with h | h
  ·exact hn h
  ·have h3:=T.anc_le h
   have h4:=(T.up _ _ ha).2.2.1
   omega
 rcases h1.lin h2 with h | h
 ·exact hup pc pd hne h
 ·exact hup pd pc (fun e => hne e.symm) h
structure NumOk (par:Nat → Option Nat) (l u:List Nat) (F L:Nat → Int) (k:Nat) (F' L':Nat → Int):Prop where
 mem:∀ x,x ∈ u ↔ ∃ c ∈ l,Anc par c x
 nodup:u.Nodup
 keepF:∀ x,x ∉ u → F' x=F x
 keepL:∀ x,x ∉ u → L' x=L x
 lowF:∀ x ∈ u,(k:Int) ≤ F' x ∧ F' x < k + u.length
 lowL:∀ x ∈ u,L' x < k + u.length
 over:∀ x ∈ u,∀ y ∈ u,(F' x ≤ F' y ∧ F' y ≤ L' x) ↔ Anc par x y
theorem anc_below {par:Nat → Option Nat} {b x:Nat} (h:Anc par b x):x=b ∨ ∃ c,par c=some b ∧ Anc par c x:=by
 induction h with
 | refl => exact .inl rfl
 | up e k ih =>
  rcases ih with rfl | ⟨c,hc,h⟩
  ·exact .inr ⟨_,e,.refl⟩
  ·exact .inr ⟨c,hc,.up e h⟩
theorem Num.ok {o:List Nat} {pl:Nat → Nat} {par:Nat → Option Nat} (T:Tree o pl par) {n:Nat} (hn:∀ x ∈ o,x < n) {l u:List Nat} {F L F' L':Nat → Int} {k:Nat} (h:Num (kidsTo par n) l u F L k F' L'):Sib par l → NumOk par l u F L k F' L':=by
 induction h with
 | nil => intro _;exact ⟨by simp,by simp,by simp,by simp,by simp,by simp,by simp⟩
 | @cons c cs u1 u2 F L F1 L1 F2 L2 k _ _ ih1 ih2 =>
  intro hs
  have A:=ih1 (Sib.kids T n c)
  have B:=ih2 hs.tail
  have m1:∀ x,x ∈ u1 → Anc par c x ∧ x ≠ c:=by
   intro x hx
   obtain ⟨d,hd,hdx⟩:=(A.mem x).1 hx
   have pd:=(kidsTo_mem.1 hd).2
   have h3:Anc par c d:=.up pd .refl
   refine ⟨h3.trans hdx,fun e => ?_⟩
   subst e
   have h4:=T.anc_le hdx
   have h5:=(T.up _ _ pd).2.2.1
   omega
  have m2:∀ x,x ∈ u2 → ¬ Anc par c x:=by
   intro x hx hc
   obtain ⟨d,hd,hdx⟩:=(B.mem x).1 hx
   exact hs.apart c (List.mem_cons_self ..) d (List.mem_cons_of_mem _ hd) (fun e => (List.nodup_cons.1 hs.nodup).1 (by rw [e];exact hd)) x hc hdx
  have d12:∀ x,x ∈ u1 → x ∉ u2:=fun x h1 h2 => m2 x h2 (m1 x h1).1
  have cn1:c ∉ u1:=fun h => (m1 c h).2 rfl
  have cn2:c ∉ u2:=fun h => m2 c h .refl
  have fc:F2 c=k:=by rw [B.keepF c cn2,A.keepF c cn1,updF_same]
  have lc:L2 c=((k + u1.length:Nat):Int):=by rw [B.keepL c cn2,updF_same]
  have f1:∀ x ∈ u1,F2 x=F1 x:=fun x hx => B.keepF x (d12 x hx)
  have l1:∀ x ∈ u1,L2 x=L1 x:=fun x hx => by rw [B.keepL x (d12 x hx),updF_other _ _ (m1 x hx).2]
  have b1:∀ x ∈ u1,((k:Int) + 1 ≤ F2 x ∧ F2 x < k + 1 + u1.length) ∧ L2 x < k + 1 + u1.length:=by
   intro x hx
   have h3:=A.lowF x hx
   have h4:=A.lowL x hx
   rw [f1 x hx,l1 x hx]
   omega
  have b2:∀ x ∈ u2,((k:Int) + 1 + u1.length ≤ F2 x ∧ F2 x < k + 1 + u1.length + u2.length) ∧ L2 x < k + 1 + u1.length + u2.length:=by
   intro x hx
   have h3:=B.lowF x hx
   have h4:=B.lowL x hx
   omega
  have hm:∀ x,x ∈ c :: (u1 ++ u2) ↔ x=c ∨ x ∈ u1 ∨ x ∈ u2:=by intro x;rw [List.mem_cons,List.mem_append]
  have hlen:(c :: (u1 ++ u2)).length=1 + u1.length + u2.length:=by rw [List.length_cons,List.length_append];omega
  refine ⟨?_,?_,?_,?_,?_,?_,?_⟩
  ·intro x
   rw [hm]
   constructor
   ·rintro (rfl | h | h)
    ·exact ⟨x,List.mem_cons_self ..,.refl⟩
    ·exact ⟨c,List.mem_cons_self ..,(m1 x h).1⟩
    ·obtain ⟨d,hd,hdx⟩:=(B.mem x).1 h
     exact ⟨d,List.mem_cons_of_mem _ hd,hdx⟩
   ·rintro ⟨d,hd,hdx⟩
    rcases List.mem_cons.1 hd with rfl | hd
    ·rcases anc_below hdx with h | ⟨e,pe,hex⟩
     ·exact .inl h
     ·exact .inr (.inl ((A.mem x).2 ⟨e,kidsTo_mem.2 ⟨hn e (T.up _ _ pe).1,pe⟩,hex⟩))
    ·exact .inr (.inr ((B.mem x).2 ⟨d,hd,hdx⟩))
  ·rw [List.nodup_cons,List.mem_append,List.nodup_append]
   refine ⟨fun h => h.elim cn1 cn2,A.nodup,B.nodup,?_⟩
   intro x hx y hy e
   subst e
   exact d12 x hx hy
  ·intro x hx
   rw [hm] at hx
   rw [B.keepF x (fun h => hx (.inr (.inr h))),A.keepF x (fun h => hx (.inr (.inl h))),updF_other _ _ (fun e => hx (.inl e))]
  ·intro x hx
   rw [hm] at hx
   rw [B.keepL x (fun h => hx (.inr (.inr h))),updF_other _ _ (fun e => hx (.inl e)),A.keepL x (fun h => hx (.inr (.inl h)))]
  ·intro x hx
   rw [hlen]
   rcases (hm x).1 hx with rfl | h | h
   ·rw [fc];omega
   ·have:=b1 x h;omega
   ·have:=b2 x h;omega
  ·intro x hx
   rw [hlen]
   rcases (hm x).1 hx with rfl | h | h
   ·rw [lc];omega
   ·have:=b1 x h;omega
   ·have:=b2 x h;omega
  ·intro x hx y hy
   rcases (hm x).1 hx with rfl | h1 | h2
   ·rcases (hm y).1 hy with rfl | k1 | k2
    ·rw [fc,lc]
     exact ⟨fun _ => .refl,fun _ => by omega⟩
    ·have:=b1 y k1
     rw [fc,lc]
     exact ⟨fun _ => (m1 y k1).1,fun _ => by omega⟩
    ·have:=b2 y k2
     rw [fc,lc]
     exact ⟨fun h => by omega,fun h => absurd h (m2 y k2)⟩
   ·have hb:=b1 x h1
    rcases (hm y).1 hy with rfl | k1 | k2
    ·rw [fc]
     exact ⟨fun h => by omega,fun h => absurd (T.antisymm h (m1 x h1).1) (m1 x h1).2⟩
    ·rw [f1 x h1,f1 y k1,l1 x h1]
     exact A.over x h1 y k1
    ·have:=b2 y k2
     exact ⟨fun h => by omega,fun h => absurd ((m1 x h1).1.trans h) (m2 y k2)⟩
   ·have hb:=b2 x h2
    rcases (hm y).1 hy with rfl | k1 | k2
    ·rw [fc]
     refine ⟨fun h => by omega,fun h => ?_⟩
     obtain ⟨d,hd,hdx⟩:=(B.mem x).1 h2
     exact absurd (hdx.trans h) (hs.apart y (List.mem_cons_self ..) d (List.mem_cons_of_mem _ hd) (fun e => (List.nodup_cons.1 hs.nodup).1 (by rw [e];exact hd)) y .refl)
    ·have:=b1 y k1
     refine ⟨fun h => by omega,fun h => ?_⟩
     obtain ⟨d,hd,hdx⟩:=(B.mem x).1 h2
     exact absurd (hdx.trans h) (hs.apart c (List.mem_cons_self ..) d (List.mem_cons_of_mem _ hd) (fun e => (List.nodup_cons.1 hs.nodup).1 (by rw [e];exact hd)) y (m1 y k1).1)
    ·exact B.over x h2 y k2
structure Numbered (o:List Nat) (par:Nat → Option Nat) (F L:Nat → Int):Prop where
 come:∀ b,F b=-1 ↔ b ∉ o
 over:∀ a ∈ o,∀ b ∈ o,(F a ≤ F b ∧ F b ≤ L a) ↔ Anc par a b
theorem Num.numbered {o:List Nat} {pl:Nat → Nat} {par:Nat → Option Nat} {succ:Nat → List Nat} (O:Ord succ o pl) (T:Tree o pl par) (hg:∀ b ∈ o,Grown par b) {n:Nat} (hn:∀ x ∈ o,x < n) {u:List Nat} {L F' L':Nat → Int} (h:Num (kidsTo par n) [0] u (fun _ => -1) L 0 F' L'):Numbered o par F' L':=by
 have A:=h.ok T hn (Sib.one par 0)
 have hm:∀ x,x ∈ u ↔ x ∈ o:=by
  intro x
  rw [A.mem]
  constructor
  ·rintro ⟨c,hc,h⟩
   rw [List.mem_singleton] at hc
   subst hc
   rcases Anc.rec (motive:=fun b _ => b=0 ∨ ∃ d,par b=some d) (.inl rfl) (fun e _ _ => .inr ⟨_,e⟩) h with rfl | ⟨d,hd⟩
   ·exact O.zero_mem
   ·exact (T.up _ _ hd).1
  ·intro hx
   exact ⟨0,List.mem_singleton.2 rfl,T.zero_anc (pl x + 1) x (by omega) (hg x hx)⟩
 refine ⟨fun b => ?_,fun a ha b hb => A.over a ((hm a).2 ha) b ((hm b).2 hb)⟩
 constructor
 ·intro e hb
  have:=(A.lowF b ((hm b).2 hb)).1
  omega
 ·intro hb
  exact A.keepF b (fun h => hb ((hm b).1 h))
end Go.Proofs.YtikogmpibkefdaaGreat

namespace Go.Proofs.YtikogmpibkefdaaGreat
open Go.RowKit Go.Maps
def numsL (n:Nat) (F:Nat → Int):List Value:=(List.range n).map fun b => .int .i64 (F b)
theorem numsL_at {n b:Nat} {F:Nat → Int} (h:b < n):(numsL n F)[b]?=some (.int .i64 (F b)):=by
 unfold numsL
 rw [List.getElem?_map,List.getElem?_range h]
 rfl
theorem numsL_set {n b:Nat} {F:Nat → Int} {v:Int}:(numsL n F).set b (.int .i64 v)=numsL n (updF F b v):=by
 unfold numsL
 apply List.ext_getElem?
 intro i
 by_cases hi:i < n
 ·by_cases e:b=i
  ·subst e
   rw [List.getElem?_set_self (by simpa using hi),List.getElem?_map,List.getElem?_range hi]
   simp [updF]
  ·rw [List.getElem?_set_ne e,List.getElem?_map,List.getElem?_map,List.getElem?_range hi]
   have e':¬ i=b:=fun h => e h.symm
   simp [updF,e']
 ·rw [List.getElem?_eq_none (by simp;omega),List.getElem?_eq_none (by simp;omega)]
theorem numsL_rep (n:Nat) (v:Int):numsL n (fun _ => v)=List.replicate n (.int .i64 v):=by
 unfold numsL
 apply List.ext_getElem?
 intro i
 by_cases hi:i < n
 ·rw [List.getElem?_map,List.getElem?_range hi,List.getElem?_replicate,if_pos hi];rfl
 ·rw [List.getElem?_eq_none (by simp;omega),List.getElem?_eq_none (by simp;omega)]
structure KidsR (w:World) (B n gb cB:Nat) (kids:Nat → List Nat):Prop where
 hcb:cB < B
 hgb:gb < B
 cell:w.heap[cB]?=some (.cells #[.slice (some ⟨gb,0,none⟩) n n] 33 (0,0))
 list:∀ b,b < n → ∃ v,w.cell? ⟨gb,b,none⟩=some v ∧ Ints w B v ((kids b).map fun (x:Nat) => (x:Int))
theorem KidsR.kept {w w':World} {B n gb cB:Nat} {kids:Nat → List Nat} (h:KidsR w B n gb cB kids) (hb:Below B w w'):KidsR w' B n gb cB kids :=
 ⟨h.hcb,h.hgb,(hb.block _ h.hcb).trans h.cell,fun b hbn => by
  obtain ⟨v,h1,h2⟩:=h.list b hbn
  exact ⟨v,(hb.cell (p:=⟨gb,b,none⟩) h.hgb).trans h1,h2.keeps (Keeps.of_below hb)⟩⟩
structure Wk (B n gF gL g6 c7 cB:Nat) (F L:Nat → Int) (k:Nat) (w:World):Prop where
 tree:w.heap[g6]?=some (.cells #[.slice (some ⟨gF,0,none⟩) n n,.slice (some ⟨gL,0,none⟩) n n] 129 (0,0))
 rF:w.ownsRow B 3 1 (.slice (some ⟨gF,0,none⟩) n n) n (numsL n F)
 rL:w.ownsRow B 3 1 (.slice (some ⟨gL,0,none⟩) n n) n (numsL n L)
 h7:w.heap[c7]?=some (.cells #[.int .i64 (k:Int)] 3 (0,0))
 h8:w.heap[c7 + 1]?=some (.cells #[.func (.func 190) #[] #[.pointer (some ⟨c7,0,none⟩),.pointer (some ⟨g6,0,none⟩),.pointer (some ⟨cB,0,none⟩),.pointer (some ⟨c7 + 1,0,none⟩)]] 204 (0,0))
 fl:gF ≠ gL
 f6:gF ≠ g6
 l6:gL ≠ g6
 fc:gF < c7
 lc:gL < c7
 c6:g6 < c7
 b6:B ≤ g6
section
variable {B n gF gL g6 c7 cB k:Nat} {F L:Nat → Int} {w:World}
theorem Wk.setF (h:Wk B n gF gL g6 c7 cB F L k w) (b:Nat) (v:Int):Wk B n gF gL g6 c7 cB (updF F b v) L k (w.setCell ⟨gF,b,none⟩ (.int .i64 v)):=by
 have ho:∀ j,j ≠ gF → (w.setCell ⟨gF,b,none⟩ (.int .i64 v)).heap[j]?=w.heap[j]?:=fun j hj => heap_setCell_other w ⟨gF,b,none⟩ j _ hj
 have h1:=h.fl
 have h2:=h.f6
 have h3:=h.fc
 refine ⟨(ho _ (by omega)).trans h.tree,?_,ownsRow_setCell_other h.rL (by simp [Value.ownBlock];omega) _,(ho _ (by omega)).trans h.h7,(ho _ (by omega)).trans h.h8,h.fl,h.f6,h.l6,h.fc,h.lc,h.c6,h.b6⟩
 have:=(World.ownsRow.stored h.rF b (.int .i64 v)).1
 rwa [numsL_set] at this
theorem Wk.setL (h:Wk B n gF gL g6 c7 cB F L k w) (b:Nat) (v:Int):Wk B n gF gL g6 c7 cB F (updF L b v) k (w.setCell ⟨gL,b,none⟩ (.int .i64 v)):=by
 have ho:∀ j,j ≠ gL → (w.setCell ⟨gL,b,none⟩ (.int .i64 v)).heap[j]?=w.heap[j]?:=fun j hj => heap_setCell_other w ⟨gL,b,none⟩ j _ hj
 have h1:=h.fl
 have h2:=h.l6
 have h3:=h.lc
 refine ⟨(ho _ (by omega)).trans h.tree,ownsRow_setCell_other h.rF (by simp [Value.ownBlock];omega) _,?_,(ho _ (by omega)).trans h.h7,(ho _ (by omega)).trans h.h8,h.fl,h.f6,h.l6,h.fc,h.lc,h.c6,h.b6⟩
 have:=(World.ownsRow.stored h.rL b (.int .i64 v)).1
 rwa [numsL_set] at this
theorem Wk.setC (h:Wk B n gF gL g6 c7 cB F L k w) (k':Nat):Wk B n gF gL g6 c7 cB F L k' (w.setCell ⟨c7,0,none⟩ (.int .i64 (k':Int))):=by
 have ho:∀ j,j ≠ c7 → (w.setCell ⟨c7,0,none⟩ (.int .i64 (k':Int))).heap[j]?=w.heap[j]?:=fun j hj => heap_setCell_other w ⟨c7,0,none⟩ j _ hj
 have h1:=h.fc
 have h2:=h.lc
 have h3:=h.c6
 refine ⟨(ho _ (by omega)).trans h.tree,ownsRow_setCell_other h.rF (by simp [Value.ownBlock];omega) _,ownsRow_setCell_other h.rL (by simp [Value.ownBlock];omega) _,by simpa using one_setCell h.h7,(ho _ (by omega)).trans h.h8,h.fl,h.f6,h.l6,h.fc,h.lc,h.c6,h.b6⟩
end
def WalkPost (n gF gL g6 c7 cB B:Nat) (kids:Nat → List Nat) (F L:Nat → Int) (k b:Nat) (w:World) (e:Ending) (w':World):Prop :=
 ∃ (u:List Nat) (F1 L1:Nat → Int),e=.returned (.tuple #[]) ∧ Num kids (kids b) u (updF F b (k:Int)) L (k + 1) F1 L1 ∧ Wk B n gF gL g6 c7 cB F1 (updF L1 b ((k + u.length:Nat):Int)) (k + 1 + u.length) w' ∧ Below B w w'
set_option maxRecDepth 100000 in
set_option maxHeartbeats 2000000 in
theorem walk_any {o:List Nat} {pl:Nat → Nat} {par:Nat → Option Nat} (T:Tree o pl par) (n:Nat) (hn5:n ≤ 512) (hn:∀ x ∈ o,x < n) (hpl:∀ x ∈ o,pl x < o.length) (B gF gL g6 c7 cB gb:Nat) :
  ∀ (d:Nat) (ws:List Nat) (b:Nat) (F L:Nat → Int) (w:World),o.length ≤ pl b + d → b ∈ o → ws.Nodup → (∀ x ∈ ws,x < n ∧ ¬ Anc par b x) → KidsR w B n gb cB (kidsTo par n) → Wk B n gF gL g6 c7 cB F L ws.length w →
  Calls Tryz.prog 190 #[.int .i64 b,.pointer (some ⟨c7,0,none⟩),.pointer (some ⟨g6,0,none⟩),.pointer (some ⟨cB,0,none⟩),.pointer (some ⟨c7 + 1,0,none⟩)] w (WalkPost n gF gL g6 c7 cB B (kidsTo par n) F L ws.length b w):=by
 intro d
 induction d with
 | zero =>
  intro ws b F L w hd hb
  have:=hpl b hb
  omega
 | succ d ih =>
  intro ws b F L w hd hb hnd hws hK hW
  have HIH:=hideI ih
  have HT:=hideI T
  have HNN:=hideI hn
  have HND:=hideI hnd
  have HWS:=hideI hws
  have HK:=hideI hK
  have HBO:=hideI hb
  have hbn:=hn b hb
  obtain ⟨v,hv,hi⟩:=hK.list b hbn
  have HI:=hideI hi
  obtain ⟨KA,kc,rfl,hkm,_⟩:=hi
  obtain ⟨m,hm⟩:∃ m,m=(kidsTo par n b).length:=⟨_,rfl⟩
  have HM:=hideI hm
  rw [List.length_map,← hm] at hv hkm
  have hm5:m ≤ 512:=by have:=kidsTo_len par n b;omega
  obtain ⟨k,hk⟩:∃ k,k=ws.length:=⟨_,rfl⟩
  have HKL:=hideI hk
  rw [← hk] at hW ⊢
  have hwn:(b :: ws).Nodup:=List.nodup_cons.2 ⟨fun h => (hws b h).2 .refl,hnd⟩
  have hkn:k < n:=by
   have:=below_len n (b :: ws) hwn (fun x hx => by rcases List.mem_cons.1 hx with rfl | hx;exact hbn;exact (hws x hx).1)
   rw [List.length_cons] at this
   omega
  have hx6:=row_cells hW.tree rfl
  have q0:=hx6 0
  have q7:=cell_of_one hW.h7
  have z7:=free_of_one hW.h7
  have qF:w.cell? ⟨gF,b,none⟩=some (.int .i64 (F b)):=by rw [World.ownsRow.cellAt hW.rF b (by omega),numsL_at hbn]
  have zF:w.frozen? ⟨gF,b,none⟩=false:=World.ownsRow.frozenAt hW.rF b
  have qB:=cell_of_one hK.cell
  have n1:gF ≠ c7:=by have:=hW.fc;omega
  have n2:cB ≠ gF:=by have h1:=hK.hcb;have h2:=(hW.rF.lt gF rfl).1;omega
  have n3:cB ≠ c7:=by have h1:=hK.hcb;have h2:=hW.b6;have h3:=hW.c6;omega
  have n4:gb ≠ gF:=by have h1:=hK.hgb;have h2:=(hW.rF.lt gF rfl).1;omega
  have n5:gb ≠ c7:=by have h1:=hK.hgb;have h2:=hW.b6;have h3:=hW.c6;omega
  have HW1:=hideI ((hW.setF b (k:Int)).setC (k + 1))
  have hb67:B ≤ gF ∧ B ≤ c7:=⟨(hW.rF.lt gF rfl).1,by have h2:=hW.b6;have h3:=hW.c6;omega⟩
  have HB1:Hid (Below B w ((w.setCell ⟨gF,b,none⟩ (.int .i64 (k:Int))).setCell ⟨c7,0,none⟩ (.int .i64 ((k + 1:Nat):Int)))):=((Below.refl B w).setCell (by simpa using hb67.1) _).setCell (by simpa using hb67.2) _
  rw [show ((k + 1:Nat):Int)=(k:Int) + 1 from by omega] at HW1 HB1
  clear ih T hn hnd hws hK hb hm hk hW hx6 hwn hb67
  go_enter Tryz.func190,Tryz.ntmps190
  go_wp2
  obtain ⟨wm,hwm⟩:∃ wm:World,wm=(w.setCell ⟨gF,b,none⟩ (.int .i64 (k:Int))).setCell ⟨c7,0,none⟩ (.int .i64 ((k:Int) + 1)):=⟨_,rfl⟩
  rw [← hwm] at HW1 HB1 ⊢
  clear hwm q0 q7 z7 qF zF qB hv n1 n2 n3 n4 n5
  have HSIB:=hideI (Sib.kids HT.out n b)
  go_loopw [20] (fun u wr => ∃ (i:Nat) (us:List Nat) (Fi Li:Nat → Int),i ≤ m ∧ u=.int .i64 i ∧ Hid (Num (kidsTo par n) ((kidsTo par n b).take i) us (updF F b (k:Int)) L (k + 1) Fi Li) ∧ Hid (Wk B n gF gL g6 c7 cB Fi Li (k + 1 + us.length) wr) ∧ Hid (Below B w wr)) (fun u _ => m - (intOf u).toNat)
  case atStart => exact ⟨0,[],_,_,Nat.zero_le _,rfl,by exact hideI .nil,HW1,HB1⟩
  case round =>
   obtain ⟨i,us,Fi,Li,hi,rfl,HN,HWr,HBr⟩:=hrel
   have hok:=HN.out.ok HT.out HNN.out (HSIB.out.take i)
   have hall:(us ++ (b :: ws)).Nodup ∧ ∀ x ∈ us ++ (b :: ws),x < n:=by
    have hus:∀ x ∈ us,Anc par b x ∧ x ≠ b ∧ x < n:=by
     intro x hx
     obtain ⟨c,hc,hcx⟩:=(hok.mem x).1 hx
     have pc:=(kidsTo_mem.1 (List.mem_of_mem_take hc)).2
     have h3:Anc par b c:=.up pc .refl
     refine ⟨h3.trans hcx,fun e => ?_,?_⟩
     ·subst e
      have h4:=HT.out.anc_le hcx
      have h5:=(HT.out.up _ _ pc).2.2.1
      omega
     ·rcases HT.out.anc_pl hcx with rfl | ⟨_,_⟩
      ·exact HNN.out _ (HT.out.up _ _ pc).1
      ·cases hcx with
       | refl => exact HNN.out _ (HT.out.up _ _ pc).1
       | up e _ => exact HNN.out _ (HT.out.up _ _ e).1
    refine ⟨?_,?_⟩
    ·rw [List.nodup_append]
     refine ⟨hok.nodup,List.nodup_cons.2 ⟨fun h => (HWS.out b h).2 .refl,HND.out⟩,?_⟩
     intro x hx y hy e
     subst e
     rcases List.mem_cons.1 hy with rfl | hy
     ·exact (hus _ hx).2.1 rfl
     ·exact (HWS.out _ hy).2 (hus _ hx).1
    ·intro x hx
     rcases List.mem_append.1 hx with hx | hx
     ·exact (hus x hx).2.2
     ·rcases List.mem_cons.1 hx with rfl | hx
      ·exact hbn
      ·exact (HWS.out x hx).1
   have hlen:=below_len n _ hall.1 hall.2
   rw [List.length_append,List.length_cons,← HKL.out] at hlen
   have HALL:=hideI hall
   have HOK:=hideI hok
   clear hok hall
   by_cases hlt:i < m
   ·obtain ⟨c,hc⟩:∃ c,(kidsTo par n b)[i]?=some c:=⟨_,List.getElem?_eq_getElem (by rw [HM.out] at hlt;exact hlt)⟩
    have hcm:=List.mem_of_getElem? hc
    have pc:=(kidsTo_mem.1 hcm).2
    have hco:=(HT.out.up _ _ pc).1
    have hpl1:=(HT.out.up _ _ pc).2.2.1
    have htk:Hid ((kidsTo par n b).take (i + 1)=(kidsTo par n b).take i ++ [c]):=by
     show _=_
     rw [List.take_add_one,hc]
     rfl
    have hcw:∀ x ∈ us ++ (b :: ws),x < n ∧ ¬ Anc par c x:=by
     intro x hx
     refine ⟨HALL.out.2 x hx,fun hcx => ?_⟩
     have hbc:Anc par b c:=.up pc .refl
     rcases List.mem_append.1 hx with hx | hx
     ·obtain ⟨c',hc',hcx'⟩:=(HOK.out.mem x).1 hx
      have hne:c ≠ c':=by
       intro e
       subst e
       obtain ⟨j,hj⟩:=List.getElem?_of_mem hc'
       rw [List.getElem?_take] at hj
       split at hj
       ·rename_i hji
        have h1:=(List.getElem?_eq_some_iff.1 hc)
        have h2:=(List.getElem?_eq_some_iff.1 hj)
        exact List.pairwise_iff_getElem.1 (kidsTo_nodup par n b) j i h2.1 h1.1 hji (h2.2.trans h1.2.symm)
       ·cases hj
      exact HSIB.out.apart c hcm c' (List.mem_of_mem_take hc') hne x hcx hcx'
     ·rcases List.mem_cons.1 hx with rfl | hx
      ·have:=HT.out.anc_le hcx
       omega
      ·exact (HWS.out x hx).2 (hbc.trans hcx)
    obtain ⟨KA',kc',e0,_,hxx⟩:=HI.out.keeps (Keeps.of_below HBr.out)
    cases e0
    obtain ⟨kb,koff,rfl,hkb,hcell⟩:=hxx i (by rw [List.length_map,← HM.out];exact hlt)
    rw [List.getElem?_map,hc] at hcell
    simp only [Option.map_some,Option.getD_some] at hcell
    have q8:=cell_of_one HWr.out.h8
    have HC:=hideI (HIH.out (us ++ (b :: ws)) c Fi Li wr (by omega) hco HALL.out.1 hcw (HK.out.kept HBr.out) (by rw [List.length_append,List.length_cons,← HKL.out,show us.length + (k + 1)=k + 1 + us.length by omega];exact HWr.out))
    have hlw:(us ++ (b :: ws)).length=k + 1 + us.length:=by rw [List.length_append,List.length_cons,← HKL.out];omega
    rw [hlw] at HC
    clear hxx hc hcm pc hco hpl1 hcw hlw
    go_wp2_with (go_at_call 190;go_must (refine HC.out.mono ?_);rintro e w2 ⟨u2,F2,L2,rfl,hn2,hw2,hb2⟩;have HN2:=hideI hn2;have HW2:=hideI hw2;have HB2:=hideI hb2;clear hn2 hw2 hb2)
    go_roundw
    case rel =>
     refine ⟨i + 1,us ++ (c :: u2),F2,updF L2 c ((k + 1 + us.length + u2.length:Nat):Int),by omega,by go_num,?_,?_,hideI (HBr.out.trans HB2.out)⟩
     ·rw [htk.out]
      exact hideI (HN.out.append (Num.one HN2.out))
     ·have e:k + 1 + (us ++ c :: u2).length=k + 1 + us.length + 1 + u2.length:=by rw [List.length_append,List.length_cons];omega
      rw [e]
      exact HW2
    case measure => simp [intOf];omega
   ·have hall:(kidsTo par n b).take i=kidsTo par n b:=by rw [List.take_of_length_le (by rw [← HM.out];omega)]
    rw [hall] at HN
    have hx6:=row_cells HWr.out.tree rfl
    have q1:=hx6 1
    have q7:=cell_of_one HWr.out.h7
    have qL:wr.cell? ⟨gL,b,none⟩=some (.int .i64 (Li b)):=by rw [World.ownsRow.cellAt HWr.out.rL b (by omega),numsL_at hbn]
    have zL:wr.frozen? ⟨gL,b,none⟩=false:=World.ownsRow.frozenAt HWr.out.rL b
    have hbL:B ≤ gL:=(HWr.out.rL.lt gL rfl).1
    have HWE:=hideI (HWr.out.setL b ((k + us.length:Nat):Int))
    have HBE:Hid (Below B w (wr.setCell ⟨gL,b,none⟩ (.int .i64 ((k + us.length:Nat):Int)))):=HBr.out.setCell (by simpa using hbL) _
    obtain ⟨z,hz⟩:∃ z:Int,z=((k + us.length:Nat):Int):=⟨_,rfl⟩
    have hz1:((k + 1 + us.length:Nat):Int)=z + 1:=by rw [hz];omega
    have hz2:IntKind.i64.wrap (z + 1 - 1)=z:=by rw [show z + 1 - 1=z from by omega];exact IntWalk.i64_in _ (by omega)
    have hz3:z + 1 - 1=z:=by omega
    have hz4:0 ≤ z ∧ z ≤ 512:=by omega
    rw [← hz] at HWE HBE
    rw [hz1] at q7
    have HZ:=hideI hz
    obtain ⟨hz5,hz6⟩:=hz4
    clear hx6 hz hz1 hall
    go_wp2
    go_end0
    refine ⟨us,Fi,Li,rfl,HN.out,?_,?_⟩
    ·rw [← HZ.out]
     exact HWE.out
    ·exact HBE.out
end Go.Proofs.YtikogmpibkefdaaGreat

namespace Go.Proofs.YtikogmpibkefdaaGreat
open Go.RowKit Go.Maps
def kidsAt (par:Nat → Option Nat) (n k:Nat):List (List Nat):=(List.range n).map fun d => kidsTo par k d
theorem kidsAt_at {par:Nat → Option Nat} {n k d:Nat} (h:d < n):(kidsAt par n k)[d]?=some (kidsTo par k d):=by
 unfold kidsAt
 rw [List.getElem?_map,List.getElem?_range h]
 rfl
theorem kidsAt_zero (par:Nat → Option Nat) (n:Nat):kidsAt par n 0=(List.range n).map fun _ => []:=rfl
theorem kidsAt_skip {par:Nat → Option Nat} {n k:Nat} (h:par k=none):kidsAt par n (k + 1)=kidsAt par n k:=by
 unfold kidsAt
 apply List.map_congr_left
 intro d _
 rw [kidsTo_succ,h,if_neg (by simp),List.append_nil]
theorem kidsAt_push {par:Nat → Option Nat} {n k d:Nat} (h:par k=some d) (_hd:d < n):(kidsAt par n k).set d (kidsTo par k d ++ [k])=kidsAt par n (k + 1):=by
 unfold kidsAt
 apply List.ext_getElem?
 intro i
 by_cases hi:i < n
 ·by_cases e:d=i
  ·subst e
   rw [List.getElem?_set_self (by simpa using hi),List.getElem?_map,List.getElem?_range hi,Option.map_some,kidsTo_succ,if_pos h]
  ·rw [List.getElem?_set_ne e,List.getElem?_map,List.getElem?_map,List.getElem?_range hi,Option.map_some,Option.map_some,kidsTo_succ,if_neg (by rw [h];simpa using e),List.append_nil]
 ·rw [List.getElem?_eq_none (by simp;omega),List.getElem?_eq_none (by simp;omega)]
structure BelowAt (w:World) (gb cB n:Nat) (vs:List Value) (ls:List (List Nat)):Prop where
 lists:Lists w gb gb n vs ls
 cell:w.heap[cB]?=some (.cells #[.slice (some ⟨gb,0,none⟩) n n] 33 (0,0))
 apart:∀ (t:Nat) v,vs[t]?=some v → v.ownBlock ≠ some cB
 ne:gb < cB
theorem BelowAt.push {w w1:World} {gb cB n t b g' cap':Nat} {v:Value} {vs:List Value} {l:List Nat} {ls:List (List Nat)} {o:Obj} (h:BelowAt w gb cB n vs ls) (hv:vs[t]?=some v) (hl:ls[t]?=some l)
  (hown':w1.ownsRow (gb + 1) 3 1 (.slice (some ⟨g',0,none⟩) (l.length + 1) cap') (l.length + 1) (natInts l ++ [.int .i64 (b:Int)])) (hg:(w.alloc o).grownBy w1 v.ownBlock) (hor:v.ownBlock=some g' ∨ g'=(w.alloc o).heap.size) :
  BelowAt (w1.setCell ⟨gb,t,none⟩ (.slice (some ⟨g',0,none⟩) (l.length + 1) cap')) gb cB n (vs.set t (.slice (some ⟨g',0,none⟩) (l.length + 1) cap')) (ls.set t (l ++ [b])):=by
 have hz:cB < w.heap.size:=lt_of_heap h.cell
 have hne:=h.ne
 refine ⟨h.lists.push hv hl hown' hg hor,?_,fun t' v' h' e => ?_,h.ne⟩
 ·rw [heap_setCell_other w1 ⟨gb,t,none⟩ _ _ (by simp;omega),hg.block _ (by simp;omega) (fun e => h.apart t v hv e.symm),Below.heap_alloc _ _ _ hz]
  exact h.cell
 ·by_cases e2:t=t'
  ·subst e2
   rw [List.getElem?_set_self (List.getElem?_eq_some_iff.1 hv).1] at h'
   cases h'
   have e3:g'=cB:=by simpa [Value.ownBlock] using e
   rcases hor with h3 | h3
   ·exact h.apart t v hv (by rw [h3,e3])
   ·simp at h3
    omega
  ·rw [List.getElem?_set_ne e2] at h'
   exact h.apart t' v' h' e
theorem BelowAt.drew {w:World} {gb cB n:Nat} {vs:List Value} {ls:List (List Nat)} (h:BelowAt w gb cB n vs ls):BelowAt w.drew gb cB n vs ls:=⟨⟨h.lists.vl,h.lists.ll,h.lists.row,h.lists.own,h.lists.apart⟩,h.cell,h.apart,h.ne⟩
theorem BelowAt.kids {w:World} {gb cB n:Nat} {vs:List Value} {par:Nat → Option Nat} (h:BelowAt w gb cB n vs (kidsAt par n n)) (hn:n ≤ 512):KidsR w w.heap.size n gb cB (kidsTo par n) :=
 ⟨lt_of_heap h.cell,h.lists.lt.2,h.cell,fun b hb => by
  obtain ⟨v,hv⟩:∃ v,vs[b]?=some v:=⟨_,List.getElem?_eq_getElem (by rw [h.lists.vl];exact hb)⟩
  exact ⟨v,by rw [World.ownsRow.cellAt h.lists.row b (by omega)];exact hv,nat_ints (h.lists.own b v _ hv (kidsAt_at hb)) (by have:=kidsTo_len par n b;omega)⟩⟩
structure TN (W1 W:World) (n:Nat) (A R M:Option Nat) (T:Option (Nat × Array Value)):Prop where
 below:Below W1.heap.size W1 W
 a:∀ g,A=some g → W1.heap.size ≤ g ∧ g < W.heap.size ∧ W.cell? ⟨g,0,none⟩=some (.int .i64 (-1))
 r:∀ g,R=some g → W.ownsRow W1.heap.size 3 1 (.slice (some ⟨g,0,none⟩) n n) n (List.replicate n (.int .i64 (-1)))
 m:∀ g,M=some g → W.ownsRow W1.heap.size 3 1 (.slice (some ⟨g,0,none⟩) n n) n (List.replicate n (.int .i64 0))
 t:∀ g cs,T=some (g,cs) → W1.heap.size ≤ g ∧ W.heap[g]?=some (.cells cs 129 (0,0))
 rm:∀ g h,R=some g → M=some h → g ≠ h
 rt:∀ g h cs,R=some g → T=some (h,cs) → g ≠ h
 mt:∀ g h cs,M=some g → T=some (h,cs) → g ≠ h
section
variable {W1 W w3:World} {n g gA:Nat} {A R M:Option Nat} {T:Option (Nat × Array Value)}
theorem TN.start (W1:World) (n:Nat):TN W1 W1 n none none none none :=
 ⟨Below.refl _ _,by simp,by simp,by simp,by simp,by simp,by simp,by simp⟩
theorem TN.drew (h:TN W1 W n A R M T):TN W1 W.drew n A R M T:=⟨drew1_below h.below,h.a,h.r,h.m,h.t,h.rm,h.rt,h.mt⟩
theorem TN.keep (h:TN W1 W n A R M T) (hb:Below W.heap.size W w3):TN W1 w3 n A R M T:=by
 have hs:=h.below.size
 refine ⟨h.below.trans (hb.mono hs),fun g e => ?_,fun g e => ?_,fun g e => ?_,fun g cs e => ?_,h.rm,h.rt,h.mt⟩
 ·obtain ⟨h1,h2,h3⟩:=h.a g e
  exact ⟨h1,Nat.lt_of_lt_of_le h2 hb.size,(hb.cell (p:=⟨g,0,none⟩) h2).trans h3⟩
 ·exact own_kept_below (h.r g e) hb (fun k hk => ((h.r g e).lt k hk).2)
 ·exact own_kept_below (h.m g e) hb (fun k hk => ((h.m g e).lt k hk).2)
 ·obtain ⟨h1,h2⟩:=h.t g cs e
  exact ⟨h1,(hb.block _ (lt_of_heap h2)).trans h2⟩
theorem TN.other (h:TN W1 W n A R M T) (o:Obj):TN W1 (W.alloc o) n A R M T:=h.keep ((Below.refl _ _).alloc (Nat.le_refl _) o)
theorem TN.mkA (hg:g=W.heap.size) (h:TN W1 W n none R M T):TN W1 (W.alloc (.cells #[.int .i64 (-1)] 3)) n (some g) R M T:=by
 have k:=h.other (.cells #[.int .i64 (-1)] 3)
 refine ⟨k.below,fun g' e => ?_,k.r,k.m,k.t,k.rm,k.rt,k.mt⟩
 cases e
 subst hg
 exact ⟨h.below.size,by simp,row_cells (heap_alloc_new W _) rfl 0⟩
theorem TN.mkM {Z:Array Value} (hZ:Z=(List.replicate n (Value.int .i64 0)).toArray) (hn:n ≤ 100000) (hg:g=W.heap.size) (h:TN W1 W n A R none T):TN W1 (W.alloc (.cells Z 3)) n A R (some g) T:=by
 subst hZ
 have k:=h.other (.cells (List.replicate n (.int .i64 0)).toArray 3)
 subst hg
 refine ⟨k.below,k.a,k.r,fun g' e => ?_,k.t,fun g' h' e1 e2 => ?_,k.rt,fun g' h' cs e1 e2 => ?_⟩
 ·cases e
  exact own_of_row (v:=0) (fillR_full 0 n).symm (heap_alloc_new W _) h.below.size hn
 ·cases e2
  have:=((h.r _ e1).lt g' rfl).2
  omega
 ·cases e1
  have:=lt_of_heap (h.t _ _ e2).2
  omega
theorem TN.mkT {cs:Array Value} (hg:g=W.heap.size) (h:TN W1 W n A R M none):TN W1 (W.alloc (.cells cs 129)) n A R M (some (g,cs)):=by
 have k:=h.other (.cells cs 129)
 subst hg
 refine ⟨k.below,k.a,k.r,k.m,fun g' cs' e => ?_,k.rm,fun g' h' cs' e1 e2 => ?_,fun g' h' cs' e1 e2 => ?_⟩
 ·cases e
  exact ⟨h.below.size,heap_alloc_new W _⟩
 ·cases e2
  have:=((h.r _ e1).lt g' rfl).2
  omega
 ·cases e2
  have:=((h.m _ e1).lt g' rfl).2
  omega
theorem TN.rep (h0:0 < n) (hn:n ≤ 100000) (h:TN W1 W n (some gA) none M T) :
  Calls Tryz.prog 179 #[.slice (some ⟨gA,0,none⟩) 1 1,.int .i64 n] W fun e w3 => ∃ gi,e=.returned (.slice (some ⟨gi,0,none⟩) n n) ∧ TN W1 w3 n none (some gi) M T:=by
 obtain ⟨_,ha,hc⟩:=h.a gA rfl
 refine (repeat_any (-1) n gA W h0 hn hc ha).mono ?_
 rintro e w3 ⟨gi,rfl,hown,hb⟩
 have k:=h.keep hb
 have hs:=h.below.size
 refine ⟨gi,rfl,k.below,by simp,fun g e => ?_,k.m,k.t,fun g h' e1 e2 => ?_,fun g h' cs e1 e2 => ?_,k.mt⟩
 ·cases e
  exact World.ownsRow.mono hown hs
 ·cases e1
  have h1:W.heap.size ≤ gi:=(hown.lt gi rfl).1
  have h2:=((h.m _ e2).lt h' rfl).2
  omega
 ·cases e1
  have h1:W.heap.size ≤ gi:=(hown.lt gi rfl).1
  have h2:=lt_of_heap (h.t _ _ e2).2
  omega
theorem TN.set0 {x y u:Value} (h:TN W1 W n none R M (some (g,#[x,y]))):TN W1 (W.setCell ⟨g,0,none⟩ u) n none R M (some (g,#[u,y])):=by
 obtain ⟨h1,h2⟩:=h.t _ _ rfl
 refine ⟨h.below.setCell (by simpa using h1) _,by simp,fun g' e => ownsRow_setCell_other (h.r g' e) (by have:=h.rt g' _ _ e rfl;simpa [Value.ownBlock] using this) _,fun g' e => ownsRow_setCell_other (h.m g' e) (by have:=h.mt g' _ _ e rfl;simpa [Value.ownBlock] using this) _,fun g' cs e => ?_,h.rm,fun g' h' cs e1 e2 => ?_,fun g' h' cs e1 e2 => ?_⟩
 ·cases e
  exact ⟨h1,by simpa using heap_setCell_same W g 0 _ _ u h2⟩
 ·cases e2
  exact h.rt _ _ _ e1 rfl
 ·cases e2
  exact h.mt _ _ _ e1 rfl
theorem TN.set1 {x y u:Value} (h:TN W1 W n none R M (some (g,#[x,y]))):TN W1 (W.setCell ⟨g,1,none⟩ u) n none R M (some (g,#[x,u])):=by
 obtain ⟨h1,h2⟩:=h.t _ _ rfl
 refine ⟨h.below.setCell (by simpa using h1) _,by simp,fun g' e => ownsRow_setCell_other (h.r g' e) (by have:=h.rt g' _ _ e rfl;simpa [Value.ownBlock] using this) _,fun g' e => ownsRow_setCell_other (h.m g' e) (by have:=h.mt g' _ _ e rfl;simpa [Value.ownBlock] using this) _,fun g' cs e => ?_,h.rm,fun g' h' cs e1 e2 => ?_,fun g' h' cs e1 e2 => ?_⟩
 ·cases e
  exact ⟨h1,by simpa using heap_setCell_same W g 1 _ _ u h2⟩
 ·cases e2
  exact h.rt _ _ _ e1 rfl
 ·cases e2
  exact h.mt _ _ _ e1 rfl
end
theorem wk_new {wx wc:World} {n gF gL g6 cB:Nat} (h:TN wx wc n none (some gF) (some gL) (some (g6,#[.slice (some ⟨gF,0,none⟩) n n,.slice (some ⟨gL,0,none⟩) n n]))) :
  Wk wx.heap.size n gF gL g6 wc.heap.size cB (fun _ => -1) (fun _ => 0) 0 ((wc.alloc (.cells #[.int .i64 0] 3)).alloc (.cells #[.func (.func 190) #[] #[.pointer (some ⟨wc.heap.size,0,none⟩),.pointer (some ⟨g6,0,none⟩),.pointer (some ⟨cB,0,none⟩),.pointer (some ⟨wc.heap.size + 1,0,none⟩)]] 204)):=by
 have h6:=h.t _ _ rfl
 have hF:=h.r _ rfl
 have hL:=h.m _ rfl
 have l6:=lt_of_heap h6.2
 refine ⟨?_,?_,?_,?_,?_,h.rm _ _ rfl rfl,h.rt _ _ _ rfl rfl,h.mt _ _ _ rfl rfl,(hF.lt gF rfl).2,(hL.lt gL rfl).2,l6,h6.1⟩
 ·rw [Below.heap_alloc _ _ _ (by simp;omega),Below.heap_alloc _ _ _ (by omega)]
  exact h6.2
 ·rw [numsL_rep]
  exact (hF.alloc _).alloc _
 ·rw [numsL_rep]
  exact (hL.alloc _).alloc _
 ·rw [Below.heap_alloc _ _ _ (by simp)]
  exact heap_alloc_new wc _
 ·have:=heap_alloc_new (wc.alloc (.cells #[.int .i64 0] 3)) (.cells #[.func (.func 190) #[] #[.pointer (some ⟨wc.heap.size,0,none⟩),.pointer (some ⟨g6,0,none⟩),.pointer (some ⟨cB,0,none⟩),.pointer (some ⟨wc.heap.size + 1,0,none⟩)]] 204)
  simpa using this
set_option maxRecDepth 100000 in
set_option maxHeartbeats 4000000 in
theorem sTree_any {o:List Nat} {pl:Nat → Nat} {par:Nat → Option Nat} {succ:Nat → List Nat} (O:Ord succ o pl) (T:Tree o pl par) (hg:∀ b ∈ o,Grown par b) (n:Nat) (h0:0 < n) (hn5:n ≤ 512) (hn:∀ x ∈ o,x < n) (base gi:Nat) (w:World)
  (hi:w.ownsRow base 3 1 (.slice (some ⟨gi,0,none⟩) n n) n (tops n par)) :
  Calls Tryz.prog 126 #[.slice (some ⟨gi,0,none⟩) n n] w fun e w' => ∃ (gF gL:Nat) (F L:Nat → Int),e=.returned (.agg #[.slice (some ⟨gF,0,none⟩) n n,.slice (some ⟨gL,0,none⟩) n n]) ∧ Numbered o par F L ∧
   w'.ownsRow w.heap.size 3 1 (.slice (some ⟨gF,0,none⟩) n n) n (numsL n F) ∧ w'.ownsRow w.heap.size 3 1 (.slice (some ⟨gL,0,none⟩) n n) n (numsL n L) ∧ Below w.heap.size w w':=by
 have HO:=hideI O
 have HT:=hideI T
 have HGR:=hideI hg
 have HNN:=hideI hn
 have HI:=hideI hi
 have hgi:=(hi.lt gi rfl).2
 obtain ⟨i0,hix,hz0,hz1,hz2⟩:=info_parts ints_info
 obtain ⟨i1,hjx,hy0,hy1,hy2⟩:=info_parts int_info
 clear O T hg hn hi
 go_enter Tryz.func126,Tryz.ntmps126
 go_wp2_with (first
  | (at_make;go_must (refine wpList_make_full _ rfl _ _ 33 rfl (w.heap.size + 1) 22 i0 (.slice none 0 0) 1 Tryz.underlying33 hix hz0 hz1 .i64 .i64 _ _ n rfl rfl rfl rfl (by rw [hz2];omega) (by unfold maxLen;omega) (by simp) ?_);intro w1 hown1 hg1;rw [World.size_alloc] at hown1;go_must (have HL1:=hideI (Lists.made hown1);have HX1:=hideI ((hg1.block w.heap.size (by simp) (by simp)).trans (heap_alloc_new w _));have HB0:Hid (Below w.heap.size w w1):=((Below.refl _ _).alloc (Nat.le_refl _) _).grown hg1 (by simp) (by simp);clear hown1 hg1)))
 obtain ⟨cB,hcB⟩:∃ cB,cB=w1.heap.size:=⟨_,rfl⟩
 obtain ⟨W1,hW1⟩:∃ W1:World,W1=w1.alloc (.cells #[.slice (some ⟨w.heap.size + 1,0,none⟩) n n] 33):=⟨_,rfl⟩
 have HBA:Hid (BelowAt W1 (w.heap.size + 1) cB n (List.replicate n (.slice none 0 0)) (kidsAt par n 0)):=by
  refine hideI ⟨?_,?_,fun t v hv e => ?_,?_⟩
  ·rw [kidsAt_zero,hW1]
   exact HL1.out.kept ((Below.refl _ _).alloc (Nat.le_refl _) _)
  ·rw [hW1,hcB]
   exact heap_alloc_new w1 _
  ·have e1:=List.mem_of_getElem? hv
   rw [List.mem_replicate] at e1
   obtain ⟨_,rfl⟩:=e1
   cases e
  ·rw [hcB]
   exact HL1.out.lt.2
 have HBW:Hid (Below w.heap.size w W1):=by rw [hW1];exact hideI (HB0.out.alloc HB0.out.size _)
 have HXW:Hid (W1.heap[w.heap.size]?=some (.cells #[.slice none 0 0,.slice none 0 0] 129 (0,0))):=by
  rw [hW1,Below.heap_alloc _ _ _ (lt_of_heap HX1.out)]
  exact HX1
 have hcB0:w.heap.size + 1 < cB:=by rw [hcB];exact HL1.out.lt.2
 rw [← hW1,← hcB]
 clear hW1 hcB
 go_loopw [14] (fun u wr => ∃ (k:Nat) (vs:List Value),k ≤ n ∧ u=.int .i64 k ∧ Hid (BelowAt wr (w.heap.size + 1) cB n vs (kidsAt par n k)) ∧ Hid (Below (w.heap.size + 1) W1 wr)) (fun u _ => n - (intOf u).toNat)
 case atStart => exact ⟨0,_,Nat.zero_le _,rfl,HBA,hideI (Below.refl _ _)⟩
 case round =>
  obtain ⟨k,vs,hk,rfl,HA,HBr⟩:=hrel
  by_cases hlt:k < n
  ·have qi:wr.cell? ⟨gi,k,none⟩=some (.int .i64 (topI (par k))):=by
    rw [(HBr.out.cell (p:=⟨gi,k,none⟩) (by simp;omega)).trans (HBW.out.cell (p:=⟨gi,k,none⟩) hgi),World.ownsRow.cellAt HI.out k (by omega),tops_at hlt]
   cases hp:par k with
   | none =>
    rw [hp] at qi
    have qi2:wr.cell? ⟨gi,k,none⟩=some (.int .i64 (-1)):=qi
    have HS:Hid (kidsAt par n (k + 1)=kidsAt par n k):=kidsAt_skip hp
    clear qi hp
    go_wp2
    go_roundw
    case rel => exact ⟨k + 1,vs,by omega,by go_num,by rw [HS.out];exact HA,HBr⟩
    case measure => simp [intOf];omega
   | some d =>
    rw [hp] at qi
    have qi2:wr.cell? ⟨gi,k,none⟩=some (.int .i64 (d:Int)):=qi
    have hdn:d < n:=HNN.out d (HT.out.up _ _ hp).2.1
    obtain ⟨v,hv⟩:∃ v,vs[d]?=some v:=⟨_,List.getElem?_eq_getElem (by rw [HA.out.lists.vl];exact hdn)⟩
    have hl:(kidsAt par n k)[d]?=some (kidsTo par k d):=kidsAt_at hdn
    have hll:(kidsTo par k d).length ≤ 512:=by have:=kidsTo_len par k d;omega
    have q1:wr.cell? ⟨w.heap.size + 1,d,none⟩=some v:=by rw [World.ownsRow.cellAt HA.out.lists.row d (by omega)];exact hv
    have q2:=cell_of_one HA.out.cell
    have HOWN:=hideI (HA.out.lists.own d v _ hv hl)
    have hsz:=HA.out.lists.lt.2
    have hne:d ≠ k:=by
     intro e
     have:=(HT.out.up _ _ hp).2.2.1
     rw [e] at this
     omega
    have HS:Hid ((kidsAt par n k).set d (kidsTo par k d ++ [k])=kidsAt par n (k + 1)):=kidsAt_push hp hdn
    have HV:=hideI hv
    have HL:=hideI hl
    have hd1:(d:Int) ≠ -1:=by omega
    have hd2:((d:Int) != -1)=true:=by simp;try omega
    clear qi hp hv hl hd1
    go_wp2
    have hS0:wr.drew.cell? ⟨cB,0,none⟩=some (.slice (some ⟨w.heap.size + 1,0,none⟩) n n) ∧ wr.drew.cell? ⟨w.heap.size + 1,d,none⟩=some v:=⟨q2,q1⟩
    refine wp_region_late (by kernel_rfl) (fun W => W.cell? ⟨cB,0,none⟩=some (.slice (some ⟨w.heap.size + 1,0,none⟩) n n) ∧ W.cell? ⟨w.heap.size + 1,d,none⟩=some v) [10] ?_
    refine wpAnyT_take [9,10] (i:=0) (v:=?_) rfl (by kernel_rfl) (by kernel_rfl) (by kernel_rfl) (by kernel_rfl) (by kernel_rfl) (by kernel_rfl) (fun _ _ _ h => h) hS0 (Or.inl ⟨by rfl,?_⟩) ?_
    rotate_left
    ·(intro w hSw;go_split_ands;go_simp;try with_reducible rfl)
    simp only [Act.put,List.setIfInBounds_toArray,List.set_cons_zero,List.set_cons_succ]
    refine wpAnyT_quiet (i:=1) (v:=?_) rfl (by kernel_rfl) (by kernel_rfl) (by kernel_rfl) (fun _ _ _ h => h) (Or.inl ⟨by rfl,?_⟩) ?_
    rotate_left
    ·(intro w;go_simp;try with_reducible rfl)
    simp only [Act.put,List.setIfInBounds_toArray,List.set_cons_zero,List.set_cons_succ]
    refine wpAnyT_take [4,5,8,10] (i:=2) (v:=?_) rfl (by kernel_rfl) (by kernel_rfl) (by kernel_rfl) (by kernel_rfl) (by kernel_rfl) (by kernel_rfl) (fun _ _ _ h => h) hS0 (Or.inl ⟨by rfl,?_⟩) ?_
    rotate_left
    ·(intro w hSw;go_split_ands;go_simp;try with_reducible rfl)
    simp only [Act.put,List.setIfInBounds_toArray,List.set_cons_zero,List.set_cons_succ]
    refine wpAnyT_quiet (i:=3) (v:=?_) rfl (by kernel_rfl) (by kernel_rfl) (by kernel_rfl) (fun _ _ _ h => h) (Or.inl ⟨by rfl,?_⟩) ?_
    rotate_left
    ·(intro w;go_simp;try with_reducible rfl)
    simp only [Act.put,List.setIfInBounds_toArray,List.set_cons_zero,List.set_cons_succ]
    refine wpAnyT_quiet (i:=4) (v:=?_) rfl (by kernel_rfl) (by kernel_rfl) (by kernel_rfl) (fun _ _ _ h => h) (Or.inl ⟨by rfl,?_⟩) ?_
    rotate_left
    ·(intro w;go_simp;try with_reducible rfl)
    simp only [Act.put,List.setIfInBounds_toArray,List.set_cons_zero,List.set_cons_succ]
    refine wpAnyT_take [8,10] (i:=5) (v:=?_) rfl (by kernel_rfl) (by kernel_rfl) (by kernel_rfl) (by kernel_rfl) (by kernel_rfl) (by kernel_rfl) (fun _ _ _ h => h) hS0 (Or.inl ⟨by rfl,?_⟩) ?_
    rotate_left
    ·(intro w hSw;go_split_ands;go_simp;try with_reducible rfl)
    simp only [Act.put,List.setIfInBounds_toArray,List.set_cons_zero,List.set_cons_succ]
    refine wpAnyT_quiet (i:=6) (v:=?_) rfl (by kernel_rfl) (by kernel_rfl) (by kernel_rfl) (fun _ _ _ h => h) (Or.inl ⟨by rfl,?_⟩) ?_
    rotate_left
    ·(intro w;go_simp;try with_reducible rfl)
    simp only [Act.put,List.setIfInBounds_toArray,List.set_cons_zero,List.set_cons_succ]
    refine wpAnyT_ready (rs:=[7]) (by kernel_rfl) (by simp) ?_
    refine AllReadyT.cons rfl (fun K hK => ?_) AllReadyT.nil
    go_simp
    have hsA:(wr.drew.alloc (.cells #[.int .i64 k] 3)).cell? ⟨cB,0,none⟩=some (.slice (some ⟨w.heap.size + 1,0,none⟩) n n) ∧ (wr.drew.alloc (.cells #[.int .i64 k] 3)).cell? ⟨w.heap.size + 1,d,none⟩=some v:=by
     have hb:=(Below.refl wr.heap.size wr.drew).alloc (Nat.le_refl _) (.cells #[.int .i64 (k:Int)] 3)
     exact ⟨(hb.cell (p:=⟨cB,0,none⟩) (lt_of_heap HA.out.cell)).trans q2,(hb.cell (p:=⟨w.heap.size + 1,d,none⟩) hsz).trans q1⟩
    refine hK.out _ _ (fun _ _ => hsA) ?_
    clear hK K
    try simp only [Act.put,List.setIfInBounds_toArray,List.set_cons_zero,List.set_cons_succ]
    refine wpAnyT_ready (rs:=[8]) (by kernel_rfl) (by simp) ?_
    refine AllReadyT.cons rfl (fun K hK => ?_) AllReadyT.nil
    refine step_append_lies _ rfl (.tmp 26) (.tmp 28) _ rfl (w.heap.size + 1 + 1) 3 i1 (.int .i64 0) 1 8 Tryz.underlying22 hjx hy0 hy1 hy2 rfl (by decide) _ _ _ rfl (World.ownsRow.drew HOWN.out |>.alloc _) ⟨wr.heap.size,0,none⟩ 1 1 [.int .i64 k] rfl rfl (one_new wr.drew _) (by simp [Value.oneCell']) (by decide) (by simp only [maxLen];omega) (by omega) (by simp;omega) _ rfl ?_
    intro g1 cap1 w3 hown1 hgrow1 hor1 _
    have HP:=hideI (HA.out.drew.push HV.out HL.out hown1 hgrow1 hor1)
    have HPB:=hideI (HA.out.drew.lists.pushed (u:=.slice (some ⟨g1,0,none⟩) ((kidsTo par k d).length + 1) cap1) HV.out HL.out hgrow1 (drew1_below HBr.out) (Nat.le_refl _))
    obtain ⟨hc4,hf4⟩:=HA.out.drew.lists.held HV.out HL.out hgrow1
    rw [HS.out] at HP
    have hcBk:w3.cell? ⟨cB,0,none⟩=some (.slice (some ⟨w.heap.size + 1,0,none⟩) n n) :=
     (World.cell?_of_block (a:=⟨cB,0,none⟩) (hgrow1.block cB (by have:=lt_of_heap HA.out.cell;simp;omega) (fun e => HA.out.apart d v HV.out e.symm))).trans hsA.1
    refine hK.out _ _ (fun _ _ => ⟨hcBk,hc4⟩) ?_
    clear hK K hown1 hgrow1 hor1 hsA hS0 q1 q2 hcBk
    try simp only [Act.put,List.setIfInBounds_toArray,List.set_cons_zero,List.set_cons_succ]
    refine wpAnyT_quiet (i:=9) (v:=?_) rfl (by kernel_rfl) (by kernel_rfl) (by kernel_rfl) (fun _ _ _ h => h) (Or.inl ⟨by rfl,?_⟩) ?_
    rotate_left
    ·(intro w;go_simp;try with_reducible rfl)
    simp only [Act.put,List.setIfInBounds_toArray,List.set_cons_zero,List.set_cons_succ]
    refine wpAnyT_ready (rs:=[10]) (by kernel_rfl) (by simp) ?_
    refine AllReadyT.cons rfl (fun K hK => ?_) AllReadyT.nil
    go_simp
    refine hK.out _ _ (fun h => absurd (by simp) h) ?_
    clear hK K hc4 hf4
    try simp only [Act.put,List.setIfInBounds_toArray,List.set_cons_zero,List.set_cons_succ]
    refine wpAnyT_done (by kernel_rfl) ?_ _
    go_wp2
    go_roundw
    case rel => exact ⟨k + 1,_,by omega,by go_num,HP,HPB⟩
    case measure => simp [intOf];omega
  ·have hkn:k=n:=by omega
   rw [hkn] at HA
   have HKD:=hideI (HA.out.kids hn5)
   have HB2:=hideI (HBW.out.trans (HBr.out.mono (Nat.le_succ _)))
   have HX2:=hideI ((HBr.out.block w.heap.size (Nat.lt_succ_self _)).trans HXW.out)
   have hn6:n ≤ 100000:=by omega
   obtain ⟨Z,hZ⟩:∃ Z:Array Value,Z=(List.replicate n (Value.int .i64 0)).toArray:=⟨_,rfl⟩
   have hmk:∀ W:World,(Instr.makeSlice 22 (.int .i64 (n:Int)) (.int .i64 (n:Int))).run Tryz.prog W=.ok (.slice (some ⟨W.heap.size,0,none⟩) n n) (W.alloc (.cells Z 3)):=by
    intro W
    have:=run_make (P:=Tryz.prog) W 22 3 i1 (.int .i64 0) Tryz.underlying22 hjx hy0 .i64 .i64 (n:Int) (n:Int) (by omega) (Int.le_refl _) (by rw [hy2];omega) (by omega)
    rw [hy1] at this
    have e:madeCells (Value.int .i64 0).cells (n * 1)=Z:=by
     rw [hZ]
     apply Array.toList_inj.1
     rw [show (Value.int .i64 0).cells=#[Value.int .i64 0] from rfl,toList_madeCells_one,Nat.mul_one]
    simp only [Int.toNat_natCast] at this
    rw [e] at this
    exact this
   have HZ:=hideI hZ
   clear hZ
   clear hkn
   go_wp2
   obtain ⟨wx,rfl⟩:∃ wx:World,wx=wr:=⟨_,rfl⟩
   go_cut [6] (fun s6 wc => ∃ g6 gF gL:Nat,s6=.pointer (some ⟨g6,0,none⟩) ∧ Hid (TN wx wc n none (some gF) (some gL) (some (g6,#[.slice (some ⟨gF,0,none⟩) n n,.slice (some ⟨gL,0,none⟩) n n]))))
   case first =>
    go_region_held3 (fun _ => True) (first | trivial | go_keep) (first
     | (go_at_call 179;(with_reducible refine (TN.rep (M:=none) (T:=none) h0 hn6 (TN.drew (TN.mkA (by simp) (TN.start wx n)))).mono ?_);rintro e w3 ⟨gR,rfl,hTN⟩)
     | (go_at_call 179;(with_reducible refine (TN.rep (M:=some (wx.heap.size + 1)) (T:=none) h0 hn6 (TN.drew (TN.mkM HZ.out hn6 (by simp) (TN.mkA (by simp) (TN.start wx n))))).mono ?_);rintro e w3 ⟨gR,rfl,hTN⟩)
     | (go_at_call 179;(with_reducible refine (TN.rep (M:=none) (T:=some ((wx.heap.size + 1),#[.slice none 0 0,.slice none 0 0])) h0 hn6 (TN.drew (TN.mkT (by simp) (TN.mkA (by simp) (TN.start wx n))))).mono ?_);rintro e w3 ⟨gR,rfl,hTN⟩;obtain ⟨_,h6⟩:=hTN.t _ _ rfl;have hx6:=row_cells h6 rfl;have hz6:=free_rowN h6 rfl;have s0:=hx6 0;have s1:=hx6 1;have z0:=hz6 0;have z1:=hz6 1;have l6:=lt_of_heap h6;clear hx6 hz6)
     | (go_at_call 179;(with_reducible refine (TN.rep (M:=some wx.heap.size) (T:=none) h0 hn6 (TN.drew (TN.mkA (by simp) (TN.mkM HZ.out hn6 (by simp) (TN.start wx n))))).mono ?_);rintro e w3 ⟨gR,rfl,hTN⟩)
     | (go_at_call 179;(with_reducible refine (TN.rep (M:=none) (T:=some (wx.heap.size,#[.slice none 0 0,.slice none 0 0])) h0 hn6 (TN.drew (TN.mkA (by simp) (TN.mkT (by simp) (TN.start wx n))))).mono ?_);rintro e w3 ⟨gR,rfl,hTN⟩;obtain ⟨_,h6⟩:=hTN.t _ _ rfl;have hx6:=row_cells h6 rfl;have hz6:=free_rowN h6 rfl;have s0:=hx6 0;have s1:=hx6 1;have z0:=hz6 0;have z1:=hz6 1;have l6:=lt_of_heap h6;clear hx6 hz6)
     | (go_at_call 179;(with_reducible refine (TN.rep (M:=some (wx.heap.size + 1)) (T:=some ((wx.heap.size + 1 + 1),#[.slice none 0 0,.slice none 0 0])) h0 hn6 (TN.drew (TN.mkT (by simp) (TN.mkM HZ.out hn6 (by simp) (TN.mkA (by simp) (TN.start wx n)))))).mono ?_);rintro e w3 ⟨gR,rfl,hTN⟩;obtain ⟨_,h6⟩:=hTN.t _ _ rfl;have hx6:=row_cells h6 rfl;have hz6:=free_rowN h6 rfl;have s0:=hx6 0;have s1:=hx6 1;have z0:=hz6 0;have z1:=hz6 1;have l6:=lt_of_heap h6;clear hx6 hz6)
     | (go_at_call 179;(with_reducible refine (TN.rep (M:=some (wx.heap.size + 1 + 1)) (T:=some ((wx.heap.size + 1),#[.slice none 0 0,.slice none 0 0])) h0 hn6 (TN.drew (TN.mkM HZ.out hn6 (by simp) (TN.mkT (by simp) (TN.mkA (by simp) (TN.start wx n)))))).mono ?_);rintro e w3 ⟨gR,rfl,hTN⟩;obtain ⟨_,h6⟩:=hTN.t _ _ rfl;have hx6:=row_cells h6 rfl;have hz6:=free_rowN h6 rfl;have s0:=hx6 0;have s1:=hx6 1;have z0:=hz6 0;have z1:=hz6 1;have l6:=lt_of_heap h6;clear hx6 hz6)
     | (go_at_call 179;(with_reducible refine (TN.rep (M:=some wx.heap.size) (T:=some ((wx.heap.size + 1 + 1),#[.slice none 0 0,.slice none 0 0])) h0 hn6 (TN.drew (TN.mkT (by simp) (TN.mkA (by simp) (TN.mkM HZ.out hn6 (by simp) (TN.start wx n)))))).mono ?_);rintro e w3 ⟨gR,rfl,hTN⟩;obtain ⟨_,h6⟩:=hTN.t _ _ rfl;have hx6:=row_cells h6 rfl;have hz6:=free_rowN h6 rfl;have s0:=hx6 0;have s1:=hx6 1;have z0:=hz6 0;have z1:=hz6 1;have l6:=lt_of_heap h6;clear hx6 hz6)
     | (go_at_call 179;(with_reducible refine (TN.rep (M:=some wx.heap.size) (T:=some ((wx.heap.size + 1),#[.slice none 0 0,.slice none 0 0])) h0 hn6 (TN.drew (TN.mkA (by simp) (TN.mkT (by simp) (TN.mkM HZ.out hn6 (by simp) (TN.start wx n)))))).mono ?_);rintro e w3 ⟨gR,rfl,hTN⟩;obtain ⟨_,h6⟩:=hTN.t _ _ rfl;have hx6:=row_cells h6 rfl;have hz6:=free_rowN h6 rfl;have s0:=hx6 0;have s1:=hx6 1;have z0:=hz6 0;have z1:=hz6 1;have l6:=lt_of_heap h6;clear hx6 hz6)
     | (go_at_call 179;(with_reducible refine (TN.rep (M:=some (wx.heap.size + 1 + 1)) (T:=some (wx.heap.size,#[.slice none 0 0,.slice none 0 0])) h0 hn6 (TN.drew (TN.mkM HZ.out hn6 (by simp) (TN.mkA (by simp) (TN.mkT (by simp) (TN.start wx n)))))).mono ?_);rintro e w3 ⟨gR,rfl,hTN⟩;obtain ⟨_,h6⟩:=hTN.t _ _ rfl;have hx6:=row_cells h6 rfl;have hz6:=free_rowN h6 rfl;have s0:=hx6 0;have s1:=hx6 1;have z0:=hz6 0;have z1:=hz6 1;have l6:=lt_of_heap h6;clear hx6 hz6)
     | (go_at_call 179;(with_reducible refine (TN.rep (M:=some (wx.heap.size + 1)) (T:=some (wx.heap.size,#[.slice none 0 0,.slice none 0 0])) h0 hn6 (TN.drew (TN.mkA (by simp) (TN.mkM HZ.out hn6 (by simp) (TN.mkT (by simp) (TN.start wx n)))))).mono ?_);rintro e w3 ⟨gR,rfl,hTN⟩;obtain ⟨_,h6⟩:=hTN.t _ _ rfl;have hx6:=row_cells h6 rfl;have hz6:=free_rowN h6 rfl;have s0:=hx6 0;have s1:=hx6 1;have z0:=hz6 0;have z1:=hz6 1;have l6:=lt_of_heap h6;clear hx6 hz6))
    all_goals (go_wp2_with fail;go_meet)
    all_goals
     first
      | (refine ⟨_,gR,wx.heap.size,rfl,hideI ?_⟩;(repeat (first | with_reducible exact hTN | with_reducible apply TN.set1 | with_reducible apply TN.set0 | with_reducible apply TN.mkM HZ.out hn6 (by simp) | with_reducible apply TN.mkT (by simp) | with_reducible apply TN.drew));done)
      | (refine ⟨_,gR,wx.heap.size + 1,rfl,hideI ?_⟩;(repeat (first | with_reducible exact hTN | with_reducible apply TN.set1 | with_reducible apply TN.set0 | with_reducible apply TN.mkM HZ.out hn6 (by simp) | with_reducible apply TN.mkT (by simp) | with_reducible apply TN.drew));done)
      | (refine ⟨_,gR,wx.heap.size + 1 + 1,rfl,hideI ?_⟩;(repeat (first | with_reducible exact hTN | with_reducible apply TN.set1 | with_reducible apply TN.set0 | with_reducible apply TN.mkM HZ.out hn6 (by simp) | with_reducible apply TN.mkT (by simp) | with_reducible apply TN.drew));done)
      | (refine ⟨_,gR,w3.heap.size,rfl,hideI ?_⟩;(repeat (first | with_reducible exact hTN | with_reducible apply TN.set1 | with_reducible apply TN.set0 | with_reducible apply TN.mkM HZ.out hn6 (by simp) | with_reducible apply TN.mkT (by simp) | with_reducible apply TN.drew));done)
      | (refine ⟨_,gR,w3.heap.size + 1,rfl,hideI ?_⟩;(repeat (first | with_reducible exact hTN | with_reducible apply TN.set1 | with_reducible apply TN.set0 | with_reducible apply TN.mkM HZ.out hn6 (by simp) | with_reducible apply TN.mkT (by simp) | with_reducible apply TN.drew));done)
   case rest =>
    obtain ⟨g6,gF,gL,rfl,HTN⟩:=hcut
    have HWK:=hideI (wk_new (cB:=cB) HTN.out)
    have HB3:Hid (Below wx.heap.size wx ((wc.alloc (.cells #[.int .i64 0] 3)).alloc (.cells #[.func (.func 190) #[] #[.pointer (some ⟨wc.heap.size,0,none⟩),.pointer (some ⟨g6,0,none⟩),.pointer (some ⟨cB,0,none⟩),.pointer (some ⟨wc.heap.size + 1,0,none⟩)]] 204))):=by
     have h1:=HTN.out.below
     have h2:=h1.size
     exact hideI ((h1.alloc h2 _).alloc (by simp;omega) _)
    have hxl:=lt_of_heap HX2.out
    go_wp2_with (go_at_call 190;go_must (refine (walk_any HT.out n hn5 HNN.out (fun x hx => HO.out.lt hx) wx.heap.size gF gL g6 wc.heap.size cB (w.heap.size + 1) o.length [] 0 _ _ _ (Nat.le_add_left _ _) HO.out.zero_mem List.nodup_nil (by simp) (HKD.out.kept HB3.out) HWK.out).mono ?_);rintro e w2 ⟨us,F1,L1,rfl,hnum,hwk,hb2⟩;have HNUM:=hideI hnum;have HW2:=hideI hwk;have HB4:=hideI (HB3.out.trans hb2);clear hnum hwk hb2;have hxt:=row_cells HW2.out.tree rfl;have q0:=hxt 0;have q1:=hxt 1;have hxr:=row_cells HX2.out (HB4.out.block _ hxl);have r0:=hxr 0;have r1:=hxr 1;have z:=free_rowN HX2.out (HB4.out.block _ hxl);have z0:=z 0;have z1:=z 1;clear hxt hxr z)
    have HFin:Hid (Numbered o par F1 (updF L1 0 ((0 + us.length:Nat):Int))):=by
     have:=Num.one HNUM.out
     exact hideI (Num.numbered HO.out HT.out HGR.out HNN.out this)
    refine bodyPost_ret (v:=.agg #[.slice (some ⟨gF,0,none⟩) n n,.slice (some ⟨gL,0,none⟩) n n]) (by simp [results,Tryz.results126,go_sem,r0,r1]) rfl ?_
    have hb5:=HB2.out.trans (HB4.out.mono HB2.out.size)
    have hlo:w.heap.size ≤ wx.heap.size:=HB2.out.size
    refine ⟨gF,gL,F1,_,rfl,HFin.out,?_,?_,(hb5.setCell (by simp) _).setCell (by simp) _⟩
    ·exact ownsRow_setCell_other (ownsRow_setCell_other (World.ownsRow.mono HW2.out.rF hlo) (by have:=(HW2.out.rF.lt gF rfl).1;simp [Value.ownBlock];omega) _) (by have:=(HW2.out.rF.lt gF rfl).1;simp [Value.ownBlock];omega) _
    ·exact ownsRow_setCell_other (ownsRow_setCell_other (World.ownsRow.mono HW2.out.rL hlo) (by have:=(HW2.out.rL.lt gL rfl).1;simp [Value.ownBlock];omega) _) (by have:=(HW2.out.rL.lt gL rfl).1;simp [Value.ownBlock];omega) _
end Go.Proofs.YtikogmpibkefdaaGreat
