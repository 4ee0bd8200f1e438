/- What CanonChecks rests on, part 5: Used, Ways, GVisit, GOrder, FDone, Shelf, Ids. -/
import Derived.Test.YtikogmpibkefdaaGreatPkCanonChecks4
import Derived.OwnWalk
import Derived.OneCell
import Derived.Outline
import Derived.Laws.OwnMore
import Derived.Deep.AppendLies
import Derived.RegionTactic
import Derived.ChangeAlike
import Derived.BigRegion
import Derived.Laws.EntriesVeiled
import Derived.Deep.Onto
import Derived.Shelf.SlIterI.Nil
import Derived.Shelf.SortM.Plain
import Derived.Shelf.SortM.SortNone

namespace Go.Proofs.YtikogmpibkefdaaGreat
open Go.RowKit
theorem makes_type {op:Int} (h:makesS op ≠ 0):isTypeB (makesS op)=true:=by
 unfold makesS at h ⊢
 rcases op_cases op with h1 | h1 | h1
 ·rcases h1 with rfl | rfl | rfl | rfl | rfl | rfl | rfl | rfl | rfl | rfl | rfl | rfl | rfl <;> first | decide | exact absurd rfl h
 ·rcases h1 with rfl | rfl | rfl | rfl | rfl | rfl | rfl | rfl | rfl | rfl | rfl | rfl <;> first | decide | exact absurd rfl h
 ·rw [shapeS_none h1] at h;exact absurd rfl h
def Typed (ds d:Defs):Prop:=∀ x ∈ d,x ∈ ds ∨ isTypeB x.2=true
theorem Typed.refl (ds:Defs):Typed ds ds:=fun _ h => .inl h
theorem Typed.trans {a b c:Defs} (h:Typed a b) (k:Typed b c):Typed a c:=fun x hx => by
 rcases k x hx with h1 | h1
 ·exact h x h1
 ·exact .inr h1
theorem addDef_typed {np:Nat} {ds d:Defs} {id t:Int} (ht:isTypeB t=true) (h:addDef np ds id t=some d):Typed ds d:=by
 unfold addDef at h
 split at h
 ·injection h with h
  subst h
  intro x hx
  rcases List.mem_append.1 hx with hx | hx
  ·exact .inl hx
  ·simp at hx
   subst hx
   exact .inr ht
 ·cases h
theorem phisStep_all {f:FuncM}:∀ {l:List PhiM} {ds d:Defs},phisStep f ds l=some d → (∀ p ∈ l,phiB f p=true) ∧ Typed ds d:=by
 intro l
 induction l with
 | nil => intro ds d h;injection h with h;subst h;exact ⟨(fun _ h => by cases h),Typed.refl _⟩
 | cons p l ih =>
  intro ds d h
  unfold phisStep at h
  rw [Option.bind_eq_some_iff] at h
  obtain ⟨d1,h1,h2⟩:=h
  obtain ⟨i1,i2⟩:=ih h2
  unfold phiStep at h1
  split at h1
  ·rename_i hp
   have ht:isTypeB p.typ=true:=by unfold phiB at hp;simp only [Bool.and_eq_true] at hp;exact hp.1
   refine ⟨fun x hx => ?_,(addDef_typed ht h1).trans i2⟩
   rcases List.mem_cons.1 hx with rfl | hx
   ·exact hp
   ·exact i1 x hx
  ·cases h1
theorem codeStep_all {f:FuncM}:∀ {l:List InstrM} {ds d:Defs},codeStep f ds l=some d → (∀ x ∈ l,instrB f x=true) ∧ Typed ds d:=by
 intro l
 induction l with
 | nil => intro ds d h;injection h with h;subst h;exact ⟨(fun _ h => by cases h),Typed.refl _⟩
 | cons p l ih =>
  intro ds d h
  unfold codeStep at h
  rw [Option.bind_eq_some_iff] at h
  obtain ⟨d1,h1,h2⟩:=h
  obtain ⟨i1,i2⟩:=ih h2
  unfold instrStep at h1
  split at h1
  ·rename_i hp
   have hd:Typed ds d1:=by
    split at h1
    ·split at h1
     ·injection h1 with h1;subst h1;exact Typed.refl _
     ·cases h1
    ·rename_i hm
     exact addDef_typed (makes_type hm) h1
   refine ⟨fun x hx => ?_,hd.trans i2⟩
   rcases List.mem_cons.1 hx with rfl | hx
   ·exact hp
   ·exact i1 x hx
  ·cases h1
def Right (f:FuncM) (b:BlockM):Prop:=(∀ p ∈ b.phis,phiB f p=true) ∧ ∀ x ∈ b.code,instrB f x=true
theorem blocksStep_all {f:FuncM}:∀ {l:List BlockM} {ds d:Defs},blocksStep f ds l=some d → (∀ b ∈ l,Right f b) ∧ Typed ds d:=by
 intro l
 induction l with
 | nil => intro ds d h;injection h with h;subst h;exact ⟨(fun _ h => by cases h),Typed.refl _⟩
 | cons b l ih =>
  intro ds d h
  unfold blocksStep at h
  rw [Option.bind_eq_some_iff] at h
  obtain ⟨d1,h1,h2⟩:=h
  obtain ⟨i1,i2⟩:=ih h2
  unfold blockStep at h1
  rw [Option.bind_eq_some_iff] at h1
  obtain ⟨d2,h3,h4⟩:=h1
  rw [Option.bind_eq_some_iff] at h4
  obtain ⟨d3,h5,h6⟩:=h4
  obtain ⟨p1,p2⟩:=phisStep_all h3
  obtain ⟨c1,c2⟩:=codeStep_all h5
  split at h6
  ·injection h6 with h6
   subst h6
   refine ⟨fun x hx => ?_,(p2.trans c2).trans i2⟩
   rcases List.mem_cons.1 hx with rfl | hx
   ·exact ⟨p1,c1⟩
   ·exact i1 x hx
  ·cases h6
theorem paramDefs_typ (l:List Int):∀ j,∀ d ∈ paramDefs j l,d.2 ∈ l:=by
 induction l with
 | nil => intro j d h;cases h
 | cons t l ih =>
  intro j d h
  rcases List.mem_cons.1 h with rfl | h
  ·exact List.mem_cons_self ..
  ·exact List.mem_cons_of_mem _ (ih _ d h)
theorem formed_all {f:FuncM} {ds:Defs} (h:formedM f=some ds):(∀ b ∈ f.blocks,Right f b) ∧ ∀ x ∈ ds,isTypeB x.2=true:=by
 unfold formedM at h
 split at h
 ·rename_i hc
  simp only [Bool.and_eq_true] at hc
  obtain ⟨h1,h2⟩:=blocksStep_all h
  refine ⟨h1,fun x hx => ?_⟩
  rcases h2 x hx with h3 | h3
  ·exact List.all_eq_true.1 hc.1.2 _ (paramDefs_typ _ _ x h3)
  ·exact h3
 ·cases h
theorem right_block {f:FuncM} {q:BlockM} (hb:f.blocks.length ≤ 512) (h:Right f q):(usesBlock q).length ≤ sizeB q * 512:=by
 unfold usesBlock sizeB
 rw [List.length_append,List.length_append]
 have h1:=flat_len usesPhi 512 q.phis (fun p hp => by
  have h2:=h.1 p hp
  unfold phiB at h2
  simp only [Bool.and_eq_true,beq_iff_eq] at h2
  unfold usesPhi
  rw [List.length_map,h2.2.1]
  exact Nat.le_trans (once_len h2.2.2) hb)
 have h2:=flat_len usesInstr 512 q.code (fun x _ => by
  unfold usesInstr
  rw [List.length_zip]
  have:=shapeS_short x.op
  unfold takesS
  rw [List.length_map]
  omega)
 have h3:(usesTerm q.term).length ≤ 1:=by
  unfold usesTerm
  split
  ·simp
  ·split <;> simp
 rw [Nat.add_mul,Nat.add_mul]
 omega
theorem right_blocks {f:FuncM} (hb:f.blocks.length ≤ 512):∀ l:List BlockM,(∀ q ∈ l,Right f q) → (l.flatMap usesBlock).length ≤ (l.map sizeB).sum * 512:=by
 intro l
 induction l with
 | nil => intro _;simp
 | cons q l ih =>
  intro h
  rw [List.flatMap_cons,List.length_append,List.map_cons,List.sum_cons,Nat.add_mul]
  have h1:=right_block hb (h q (List.mem_cons_self ..))
  have h2:=ih (fun b hb => h b (List.mem_cons_of_mem _ hb))
  omega
theorem look_few {f:FuncM} (h:(lookM f).1=0):Few f.blocks:=by
 have h1:=right_blocks (look_bd h) f.blocks (formed_all (look_formed h)).1
 have h2:=look_size h
 unfold sizeM at h2
 unfold Few
 omega
theorem look_form {f:FuncM} (h:(lookM f).1=0):∀ b ∈ f.blocks,∀ x ∈ b.code,x.args.length=(takesS x.op).length:=by
 intro b hb x hx
 have h1:=((formed_all (look_formed h)).1 b hb).2 x hx
 unfold instrB at h1
 simp only [Bool.and_eq_true,beq_iff_eq] at h1
 exact h1.2.1
theorem look_phi {f:FuncM} (h:(lookM f).1=0):∀ b ∈ f.blocks,∀ p ∈ b.phis,p.vals.length=p.fr.length:=by
 intro b hb x hx
 have h1:=((formed_all (look_formed h)).1 b hb).1 x hx
 unfold phiB at h1
 simp only [Bool.and_eq_true,beq_iff_eq] at h1
 exact h1.2.1
theorem sub_len:∀ l r:List Int,l.Nodup → (∀ x ∈ l,x ∈ r) → l.length ≤ r.length:=by
 intro l
 induction l with
 | nil => intro r _ _;simp
 | cons a l ih =>
  intro r hn hs
  rw [List.nodup_cons] at hn
  have ha:=hs a (List.mem_cons_self ..)
  have h1:=ih (r.erase a) hn.2 (fun x hx => (List.mem_erase_of_ne (fun e => hn.1 (by rw [← e];exact hx))).2 (hs x (List.mem_cons_of_mem _ hx)))
  rw [List.length_erase_of_mem ha] at h1
  have h2:=List.length_pos_of_mem ha
  rw [List.length_cons]
  omega
def sumU (l:List Int) (us:List (Int × Int)):Int:=(l.map fun id => cntU id us).sum
end Go.Proofs.YtikogmpibkefdaaGreat

namespace Go.Proofs.YtikogmpibkefdaaGreat
def succM (bs:List BlockM) (b:Nat):List Nat:=match bs[b]? with | some q => q.term.to.map Int.toNat | none => []
inductive Visit (succ:Nat → List Nat):List Nat → List Nat × List Nat → List Nat × List Nat → Prop
 | nil (s:List Nat × List Nat):Visit succ [] s s
 | skip {t:Nat} {r bg dn:List Nat} {s:List Nat × List Nat} (h:t ∈ bg) (k:Visit succ r (bg,dn) s):Visit succ (t :: r) (bg,dn) s
 | go {t:Nat} {r bg dn bg1 dn1:List Nat} {s:List Nat × List Nat} (h:t ∉ bg) (k:Visit succ (succ t) (t :: bg,dn) (bg1,dn1)) (l:Visit succ r (bg1,dn1 ++ [t]) s):Visit succ (t :: r) (bg,dn) s
theorem Visit.append {succ:Nat → List Nat} {l1 l2:List Nat} {s s1 s2:List Nat × List Nat} (h:Visit succ l1 s s1) (k:Visit succ l2 s1 s2):Visit succ (l1 ++ l2) s s2:=by
 induction h with
 | nil => exact k
 | skip h _ ih => exact .skip h (ih k)
 | go h k1 _ _ ih => exact .go h k1 (ih k)
theorem Visit.det {succ:Nat → List Nat} {l:List Nat} {s s1 s2:List Nat × List Nat} (h:Visit succ l s s1) (k:Visit succ l s s2):s1=s2:=by
 induction h generalizing s2 with
 | nil => cases k;rfl
 | skip h _ ih =>
  cases k with
  | skip _ k => exact ih k
  | go h2 _ _ => exact absurd h h2
 | go h _ _ ih1 ih2 =>
  cases k with
  | skip h2 _ => exact absurd h2 h
  | go _ k1 k2 =>
   cases ih1 k1
   exact ih2 k2
structure Did (succ:Nat → List Nat) (work bg dn bg' dn' new:List Nat):Prop where
 done:dn'=dn ++ new
 nodup:new.Nodup
 fresh:∀ x ∈ new,x ∉ bg
 begun:∀ x,x ∈ bg' ↔ x ∈ bg ∨ x ∈ new
 len:bg'.length=bg.length + new.length
 all:∀ x ∈ work,x ∈ bg'
 next:∀ x ∈ new,∀ y ∈ succ x,y ∈ bg'
 from_:∀ (i:Nat) x,new[i]?=some x → x ∈ work ∨ ∃ j y,i < j ∧ new[j]?=some y ∧ x ∈ succ y
 keepsNodup:bg.Nodup → bg'.Nodup
theorem Visit.did {succ:Nat → List Nat} {l:List Nat} {s s':List Nat × List Nat} (h:Visit succ l s s'):∃ new,Did succ l s.1 s.2 s'.1 s'.2 new:=by
 induction h with
 | nil s => exact ⟨[],by simp,by simp,by simp,by simp,by simp,by simp,by simp,by simp,id⟩
 | @skip t r bg dn s h _ ih =>
  obtain ⟨new,d⟩:=ih
  refine ⟨new,d.done,d.nodup,d.fresh,d.begun,d.len,?_,d.next,fun i x hx => ?_,d.keepsNodup⟩
  ·intro x hx
   rcases List.mem_cons.1 hx with rfl | hx
   ·exact (d.begun _).2 (.inl h)
   ·exact d.all x hx
  ·rcases d.from_ i x hx with h1 | h1
   ·exact .inl (List.mem_cons_of_mem _ h1)
   ·exact .inr h1
 | @go t r bg dn bg1 dn1 s h _ _ ih1 ih2 =>
  obtain ⟨n1,d1⟩:=ih1
  obtain ⟨n2,d2⟩:=ih2
  have hb1:∀ x,x ∈ bg1 ↔ (x=t ∨ x ∈ bg) ∨ x ∈ n1:=fun x => by have:=d1.begun x;simpa using this
  have hf1:∀ x ∈ n1,x ≠ t ∧ x ∉ bg:=fun x hx => by have:=d1.fresh x hx;simpa using this
  have hf2:∀ x ∈ n2,x ≠ t ∧ x ∉ bg ∧ x ∉ n1:=fun x hx => by
   have:=d2.fresh x hx
   rw [show ((bg1,dn1 ++ [t]):List Nat × List Nat).1=bg1 from rfl,hb1] at this
   exact ⟨fun e => this (.inl (.inl e)),fun e => this (.inl (.inr e)),fun e => this (.inr e)⟩
  refine ⟨n1 ++ t :: n2,?_,?_,?_,?_,?_,?_,?_,?_,fun hn => d2.keepsNodup (d1.keepsNodup (List.nodup_cons.2 ⟨h,hn⟩))⟩
  ·rw [d2.done]
   have:=d1.done
   simp only at this
   rw [this]
   simp
  ·rw [List.nodup_append]
   refine ⟨d1.nodup,List.nodup_cons.2 ⟨fun hm => (hf2 t hm).1 rfl,d2.nodup⟩,fun a ha b hb e => ?_⟩
   subst e
   rcases List.mem_cons.1 hb with rfl | hb
   ·exact (hf1 _ ha).1 rfl
   ·exact (hf2 _ hb).2.2 ha
  ·intro x hx
   rcases List.mem_append.1 hx with hx | hx
   ·exact (hf1 x hx).2
   ·rcases List.mem_cons.1 hx with rfl | hx
    ·exact h
    ·exact (hf2 x hx).2.1
  ·intro x
   rw [d2.begun,show ((bg1,dn1 ++ [t]):List Nat × List Nat).1=bg1 from rfl,hb1]
   simp only [List.mem_append,List.mem_cons]
   constructor
   ·rintro (((h1 | h1) | h1) | h1) <;> simp [h1]
   ·rintro (h1 | h1 | h1 | h1) <;> simp [h1]
  ·have e1:=d1.len
   have e2:=d2.len
   simp at e1 e2 ⊢
   omega
  ·intro x hx
   rcases List.mem_cons.1 hx with rfl | hx
   ·exact (d2.begun _).2 (.inl ((hb1 _).2 (.inl (.inl rfl))))
   ·exact d2.all x hx
  ·intro x hx y hy
   rcases List.mem_append.1 hx with hx | hx
   ·exact (d2.begun _).2 (.inl (d1.next x hx y hy))
   ·rcases List.mem_cons.1 hx with rfl | hx
    ·exact (d2.begun _).2 (.inl (d1.all y hy))
    ·exact d2.next x hx y hy
  ·intro i x hx
   by_cases h1:i < n1.length
   ·rw [List.getElem?_append_left h1] at hx
    rcases d1.from_ i x hx with hw | ⟨j,y,hj,hy,hs⟩
    ·exact .inr ⟨n1.length,t,h1,by simp,hw⟩
    ·have hj1:j < n1.length:=(List.getElem?_eq_some_iff.1 hy).1
     exact .inr ⟨j,y,hj,by rw [List.getElem?_append_left hj1];exact hy,hs⟩
   ·rw [List.getElem?_append_right (by omega)] at hx
    obtain ⟨m,hm⟩:∃ m,i - n1.length=m:=⟨_,rfl⟩
    rw [hm] at hx
    cases m with
    | zero =>
     simp at hx
     subst hx
     exact .inl (List.mem_cons_self ..)
    | succ m =>
     simp at hx
     rcases d2.from_ m x hx with hw | ⟨j,y,hj,hy,hs⟩
     ·exact .inl (List.mem_cons_of_mem _ hw)
     ·refine .inr ⟨n1.length + 1 + j,y,by omega,?_,hs⟩
      rw [List.getElem?_append_right (by omega),show n1.length + 1 + j - n1.length=j + 1 by omega]
      simpa using hy
theorem below_len:∀ (n:Nat) (l:List Nat),l.Nodup → (∀ x ∈ l,x < n) → l.length ≤ n:=by
 intro n
 induction n with
 | zero => intro l _ h;cases l with | nil => simp | cons a l => exact absurd (h a (List.mem_cons_self ..)) (by omega)
 | succ n ih =>
  intro l hn h
  have h1:=ih (l.erase n) (hn.erase n) (fun x hx => by
   have h2:=(List.Nodup.mem_erase_iff hn).1 hx
   have:=h x h2.2
   omega)
  by_cases hm:n ∈ l
  ·rw [List.length_erase_of_mem hm] at h1;omega
  ·rw [List.erase_of_not_mem hm] at h1;omega
theorem fresh_len {n b:Nat} {l:List Nat} (hn:l.Nodup) (h:∀ x ∈ l,x < n) (hb:b < n) (hf:b ∉ l):l.length < n:=by
 have:=below_len n (b :: l) (List.nodup_cons.2 ⟨hf,hn⟩) (fun x hx => by rcases List.mem_cons.1 hx with rfl | hx;exact hb;exact h x hx)
 simp at this
 omega
theorem nodup_rev {α:Type} {l:List α} (h:l.Nodup):l.reverse.Nodup:=List.pairwise_reverse.2 (h.imp fun h e => h e.symm)
def OrderIs (bs:List BlockM) (o:List Nat):Prop:=∃ bg dn,Visit (succM bs) (succM bs 0) ([0],[]) (bg,dn) ∧ o=(dn ++ [0]).reverse
theorem OrderIs.one {bs:List BlockM} {o o':List Nat} (h:OrderIs bs o) (k:OrderIs bs o'):o=o':=by
 obtain ⟨bg,dn,v,rfl⟩:=h
 obtain ⟨bg',dn',v',rfl⟩:=k
 cases v.det v'
 rfl
theorem OrderIs.facts {bs:List BlockM} {o:List Nat} (h:OrderIs bs o) :
  o[0]?=some 0 ∧ o.Nodup ∧ (∀ x ∈ o,∀ y ∈ succM bs x,y ∈ o) ∧ ∀ (i:Nat) x,0 < i → o[i]?=some x → ∃ j y,j < i ∧ o[j]?=some y ∧ x ∈ succM bs y:=by
 obtain ⟨bg,dn,v,rfl⟩:=h
 have v2:Visit (succM bs) [0] ([],[]) (bg,dn ++ [0]):=.go (by simp) v (.nil _)
 obtain ⟨new,d⟩:=v2.did
 have hd:dn ++ [0]=new:=by simpa using d.done
 rw [hd]
 have h0:new.reverse[0]?=some 0:=by rw [← hd];simp
 refine ⟨h0,nodup_rev d.nodup,fun x hx y hy => ?_,fun i x hi hx => ?_⟩
 ·have hx':x ∈ new:=List.mem_reverse.1 hx
  have:=(d.begun y).1 (d.next x hx' y hy)
  simpa using this
 ·have hlt:i < new.length:=by have:=(List.getElem?_eq_some_iff.1 hx).1;simpa using this
  have hx1:new[new.length - 1 - i]?=some x:=by rw [← hx,List.getElem?_reverse hlt]
  rcases d.from_ _ x hx1 with hw | ⟨j,y,hj,hy,hs⟩
  ·have e:x=0:=by simpa using hw
   subst e
   exfalso
   have hn:=nodup_rev d.nodup
   have:=(List.getElem?_inj (by have:=hlt;simp;omega) hn).1 (h0.trans hx.symm)
   omega
  ·have hjl:j < new.length:=(List.getElem?_eq_some_iff.1 hy).1
   refine ⟨new.length - 1 - j,y,by omega,?_,hs⟩
   rw [List.getElem?_reverse (by omega),show new.length - 1 - (new.length - 1 - j)=j by omega]
   exact hy
end Go.Proofs.YtikogmpibkefdaaGreat

namespace Go.Proofs.YtikogmpibkefdaaGreat
open Go.RowKit Go.Maps
theorem PhisR.more' {w:World} {B B':Nat} {v:Value} {ps:List PhiM} (h:PhisR w B v ps) (hB:B ≤ B'):PhisR w B' v ps:=by
 obtain ⟨A,c,rfl,hm,h⟩:=h
 refine ⟨A,c,rfl,hm,fun k p hp => ?_⟩
 obtain ⟨b,off,fv,vv,rfl,hb,h0,h1,h2,h3,hf,hv,r⟩:=h k p hp
 exact ⟨b,off,fv,vv,rfl,by omega,h0,h1,h2,h3,hf.more hB,hv.more hB,r⟩
theorem CodeR.more' {w:World} {B B':Nat} {v:Value} {xs:List InstrM} (h:CodeR w B v xs) (hB:B ≤ B'):CodeR w B' v xs:=by
 obtain ⟨A,c,rfl,hm,h⟩:=h
 refine ⟨A,c,rfl,hm,fun k p hp => ?_⟩
 obtain ⟨b,off,av,rfl,hb,h0,h1,h2,h3,hf,r⟩:=h k p hp
 exact ⟨b,off,av,rfl,by omega,h0,h1,h2,h3,hf.more hB,r⟩
theorem BlocksR.more' {w:World} {B B':Nat} {v:Value} {bs:List BlockM} (h:BlocksR w B v bs) (hB:B ≤ B'):BlocksR w B' v bs:=by
 obtain ⟨A,c,rfl,hm,h⟩:=h
 refine ⟨A,c,rfl,hm,fun k q hq => ?_⟩
 obtain ⟨b,off,pv,cv,tv,rfl,hb,h0,h1,h2,h3,h4,h5,hp,hc,ht,r⟩:=h k q hq
 exact ⟨b,off,pv,cv,tv,rfl,by omega,h0,h1,h2,h3,h4,h5,hp.more' hB,hc.more' hB,ht.more hB,r⟩
def marks (n:Nat) (bg:List Nat):List Value:=(List.range n).map fun i => .bool (decide (i ∈ bg))
def natInts (l:List Nat):List Value:=l.map fun (x:Nat) => Value.int .i64 (x:Int)
theorem marks_at {n b:Nat} {bg:List Nat} (h:b < n):(marks n bg)[b]?=some (.bool (decide (b ∈ bg))):=by
 unfold marks
 rw [List.getElem?_map,List.getElem?_eq_getElem (by simpa using h)]
 simp
theorem marks_set {n b:Nat} {bg:List Nat}:(marks n bg).set b (.bool true)=marks n (b :: bg):=by
 unfold marks
 apply List.ext_getElem?
 intro i
 by_cases hi:i < n
 ·by_cases e:b=i
  ·subst e
   rw [List.getElem?_set_self (by simpa using hi),List.getElem?_eq_getElem (by simpa using hi)]
   simp
  ·rw [List.getElem?_set_ne e,List.getElem?_map,List.getElem?_map,List.getElem?_range hi]
   have e':¬ i=b:=fun h => e h.symm
   simp [e']
 ·rw [List.getElem?_eq_none (by simp;omega),List.getElem?_eq_none (by simp;omega)]
structure Dfs (N R n:Nat) (gr:Array Value) (bg dn:List Nat) (w:World):Prop where
 hR:N + 1 < R
 gb:w.heap[N]?=some (.cells gr 146 (0,0))
 row:w.ownsRow (N + 1) 4 1 (.slice (some ⟨N + 1,0,none⟩) n n) n (marks n bg)
 bb:w.heap[R]?=some (.cells #[.slice (some ⟨N + 1,0,none⟩) n n] 114 (0,0))
 done:∃ v,w.heap[R + 1]?=some (.cells #[v] 22 (0,0)) ∧ w.ownsRow (R + 3) 3 1 v dn.length (natInts dn)
 vb:w.heap[R + 2]?=some (.cells #[.func (.func 138) #[] #[.pointer (some ⟨R,0,none⟩),.pointer (some ⟨N,0,none⟩),.pointer (some ⟨R + 2,0,none⟩),.pointer (some ⟨R + 1,0,none⟩)]] 204 (0,0))
theorem Dfs.size {N R n:Nat} {gr:Array Value} {bg dn:List Nat} {w:World} (h:Dfs N R n gr bg dn w):R + 2 < w.heap.size:=lt_of_block h.vb
theorem Dfs.mark {N R n b:Nat} {gr:Array Value} {bg dn:List Nat} {w:World} (h:Dfs N R n gr bg dn w):Dfs N R n gr (b :: bg) dn (w.setCell ⟨N + 1,b,none⟩ (.bool true)):=by
 have hs:=h.row.stored b (.bool true)
 have ho:∀ k,k ≠ N + 1 → (w.setCell ⟨N + 1,b,none⟩ (.bool true)).heap[k]?=w.heap[k]?:=fun k hk => heap_setCell_other w ⟨N + 1,b,none⟩ k _ hk
 obtain ⟨v,hv,hown⟩:=h.done
 have hR:=h.hR
 refine ⟨hR,(ho _ (by omega)).trans h.gb,?_,(ho _ (by omega)).trans h.bb,⟨v,(ho _ (by omega)).trans hv,?_⟩,(ho _ (by omega)).trans h.vb⟩
 ·have:=hs.1
  rwa [marks_set] at this
 ·refine hown.kept hs.2 ?_
  cases e:v.ownBlock with
  | none => exact .inl rfl
  | some k =>
   have:=(hown.lt k e).1
   exact .inr (by simp;omega)
theorem Dfs.push {N R n b:Nat} {gr:Array Value} {bg dn:List Nat} {w w3:World} {o:Obj} {v v':Value} (h:Dfs N R n gr bg dn w) (hd:w.ownsRow (R + 3) 3 1 v dn.length (natInts dn))
  (hown':w3.ownsRow (R + 3) 3 1 v' (dn.length + 1) (natInts dn ++ [.int .i64 (b:Int)])) (hg:(w.alloc o).grownBy w3 v.ownBlock) (hd3:w3.heap[R + 1]?=some (.cells #[v] 22 (0,0))) :
  Dfs N R n gr bg (dn ++ [b]) (w3.setCell ⟨R + 1,0,none⟩ v') ∧ Below N w (w3.setCell ⟨R + 1,0,none⟩ v'):=by
 have hsz:=h.size
 have hne:∀ k,k < R + 3 → some k ≠ v.ownBlock:=fun k hk e => by have:=(hd.lt k e.symm).1;omega
 have hk:∀ k,k < R + 3 → w3.heap[k]?=w.heap[k]?:=fun k hk => by
  rw [hg.block k (by simp;omega) (hne k hk),Below.heap_alloc _ _ _ (by omega)]
 have ho:∀ k,k < R + 3 → k ≠ R + 1 → (w3.setCell ⟨R + 1,0,none⟩ v').heap[k]?=w.heap[k]?:=fun k h1 h2 =>
  (heap_setCell_other w3 ⟨R + 1,0,none⟩ k _ h2).trans (hk k h1)
 have hR:=h.hR
 refine ⟨⟨hR,(ho _ (by omega) (by omega)).trans h.gb,?_,(ho _ (by omega) (by omega)).trans h.bb,⟨v',by simpa using one_setCell hd3,?_⟩,(ho _ (by omega) (by omega)).trans h.vb⟩,?_⟩
 ·have h1:=(h.row.alloc o).kept hg (.inr (hne (N + 1) (by omega)))
  exact ownsRow_setCell_other h1 (by simp [Value.ownBlock];omega) _
 ·have h1:=ownsRow_setCell_other hown' (a:=⟨R + 1,0,none⟩) (by
   intro e
   have:=(hown'.lt _ e).1
   simp at this) v'
  simpa [natInts] using h1
 ·refine (Below.grown ((Below.refl _ _).alloc (by omega) _) hg (by simp;omega) (fun j hj => ?_)).setCell (by simp;omega) _
  have:=(hd.lt j hj).1
  omega
theorem done_block {R k:Nat} {w w1:World} {o:Obj} {v:Value} {xs:List Value} (hd:w.heap[R + 1]?=some (.cells #[v] 22 (0,0))) (ho:w.ownsRow (R + 3) 3 1 v k xs) (hg:(w.alloc o).grownBy w1 v.ownBlock) :
  w1.heap[R + 1]?=some (.cells #[v] 22 (0,0)):=by
 have hl:=lt_of_block hd
 rw [hg.block (R + 1) (by simp;omega) (fun e => by have:=(ho.lt _ e.symm).1;omega),Below.heap_alloc _ _ _ hl]
 exact hd
theorem visit_range {succ:Nat → List Nat} {n:Nat} (hs:∀ b,∀ y ∈ succ b,y < n) {l:List Nat} {s s':List Nat × List Nat} (h:Visit succ l s s'):(∀ x ∈ l,x < n) → (∀ x ∈ s.1,x < n) → ∀ x ∈ s'.1,x < n:=by
 induction h with
 | nil => exact fun _ h => h
 | skip _ _ ih => exact fun hl h => ih (fun x hx => hl x (List.mem_cons_of_mem _ hx)) h
 | @go t r bg dn bg1 dn1 s h _ _ ih1 ih2 =>
  intro hl hb
  refine ih2 (fun x hx => hl x (List.mem_cons_of_mem _ hx)) (ih1 (hs t) fun x hx => ?_)
  rcases List.mem_cons.1 hx with rfl | hx
  ·exact hl _ (List.mem_cons_self ..)
  ·exact hb x hx
def EndsIn (bs:List BlockM):Prop:=∀ q ∈ bs,∀ t ∈ q.term.to,0 ≤ t ∧ t < bs.length
theorem EndsIn.succ {bs:List BlockM} (h:EndsIn bs):∀ b,∀ y ∈ succM bs b,y < bs.length:=by
 intro b y hy
 unfold succM at hy
 split at hy
 ·rename_i q hq
  obtain ⟨t,ht,rfl⟩:=List.mem_map.1 hy
  have:=h q (List.mem_of_getElem? hq) t ht
  omega
 ·cases hy
def VisitPost (bs:List BlockM) (N R n:Nat) (gr:Array Value) (bg dn:List Nat) (b:Nat) (w:World) (e:Ending) (w':World):Prop :=
 ∃ bg' dn',e=.returned (.tuple #[]) ∧ Visit (succM bs) (succM bs b) (b :: bg,dn) (bg',dn') ∧ Dfs N R n gr bg' (dn' ++ [b]) w' ∧ Below N w w'
set_option maxRecDepth 100000 in
set_option maxHeartbeats 2000000 in
theorem visit_any (bs:List BlockM) (N R:Nat) (pv av cv bv:Value) (hn5:bs.length ≤ 512) (hin:EndsIn bs) :
  ∀ (k:Nat) (bg dn:List Nat) (b:Nat) (w:World),bs.length ≤ bg.length + k → bg.Nodup → (∀ x ∈ bg,x < bs.length) → dn.length ≤ bg.length → b < bs.length → b ∉ bg → BlocksR w N bv bs → Dfs N R bs.length #[pv,av,cv,bv] bg dn w →
  Calls Tryz.prog 138 #[.int .i64 b,.pointer (some ⟨R,0,none⟩),.pointer (some ⟨N,0,none⟩),.pointer (some ⟨R + 2,0,none⟩),.pointer (some ⟨R + 1,0,none⟩)] w (VisitPost bs N R bs.length #[pv,av,cv,bv] bg dn b w):=by
 intro k
 induction k with
 | zero =>
  intro bg dn b w hk hnd hlt _ hb hf
  have:=fresh_len hnd hlt hb hf
  omega
 | succ k ih =>
  intro bg dn b w hk hnd hlt hdl hb hf hbl hD
  have HIH:=hideI ih
  have HIN:=hideI hin
  have HND:=hideI hnd
  have HLT:=hideI hlt
  have HF:=hideI hf
  have HBL:=hideI hbl
  have HD:=hideI hD
  obtain ⟨q,hq⟩:∃ q,bs[b]?=some q:=⟨_,List.getElem?_eq_getElem hb⟩
  obtain ⟨A,c,rfl,hbm,hbx⟩:=hbl
  obtain ⟨ab,off,pq,cq,tv,rfl,hab,x0,x1,x2,x3,x4,x5,_,_,htv,_⟩:=hbx b q hq
  have HTV:=hideI htv
  have HQ:=hideI hq
  have HSU:Hid (succM bs b=q.term.to.map Int.toNat):=by show _=_;unfold succM;rw [hq]
  have hgb:=row_cells hD.gb rfl
  have g3:=hgb 3
  have hbb:=cell_of_one hD.bb
  have hmk:w.cell? ⟨N + 1,b,none⟩=some (.bool false):=by
   rw [World.ownsRow.cellAt hD.row b (by omega),marks_at hb]
   simp [hf]
  have hmf:w.frozen? ⟨N + 1,b,none⟩=false:=World.ownsRow.frozenAt hD.row b
  have hne1:ab ≠ N + 1:=by omega
  obtain ⟨TA,tc,rfl,htm,_⟩:=htv
  obtain ⟨m,hm⟩:∃ m,m=q.term.to.length:=⟨_,rfl⟩
  have HW1:=hideI (hD.mark (b:=b))
  have HM:=hideI hm
  rw [← hm] at x4 htm
  clear ih hin hnd hlt hf hD hbx hq hgb x0 x1 x2 x3 x5 hm
  go_enter Tryz.func138,Tryz.ntmps138
  go_wp2
  obtain ⟨wm,hwm⟩:∃ wm:World,wm=w.setCell ⟨N + 1,b,none⟩ (.bool true):=⟨_,rfl⟩
  have HBM:Hid (Below N w wm):=by rw [hwm];exact (Below.refl N w).setCell (by simp) _
  rw [← hwm] at HW1 ⊢
  clear hwm g3 hbb hmk hmf x4
  go_loopw [20] (fun u wr => ∃ (i:Nat) (bgi dni:List Nat),i ≤ m ∧ u=.int .i64 i ∧ Hid (Visit (succM bs) ((q.term.to.map Int.toNat).take i) (b :: bg,dn) (bgi,dni)) ∧ Hid (Dfs N R bs.length #[pv,av,cv,.slice (some ⟨ab,off,none⟩) bs.length c] bgi dni wr) ∧ Hid (Below N w wr)) (fun u _ => m - (intOf u).toNat)
  case atStart => exact ⟨0,b :: bg,dn,Nat.zero_le _,rfl,by exact hideI (.nil _),HW1,HBM⟩
  case round =>
   obtain ⟨i,bgi,dni,hi,rfl,HV,HDr,HBr⟩:=hrel
   obtain ⟨new,hdid⟩:=HV.out.did
   have hndi:bgi.Nodup:=hdid.keepsNodup (List.nodup_cons.2 ⟨HF.out,HND.out⟩)
   have hleni:bgi.length=bg.length + 1 + new.length:=hdid.len
   have hdni:dni.length=dn.length + new.length:=by have:=hdid.done;simp only at this;rw [this,List.length_append]
   have hlti:∀ x ∈ bgi,x < bs.length:=visit_range HIN.out.succ HV.out (fun x hx => HIN.out.succ b x (by rw [HSU.out];exact List.mem_of_mem_take hx)) (fun x hx => by
    rcases List.mem_cons.1 hx with rfl | hx
    ·exact hb
    ·exact HLT.out x hx)
   have hlb:bg.length + 1 ≤ bgi.length:=by omega
   have hdb0:dni.length ≤ bgi.length:=by omega
   have HNDI:=hideI hndi
   have HLTI:=hideI hlti
   have hbgl:=below_len _ _ hndi hlti
   have hbb:=cell_of_one HDr.out.bb
   clear hdid hndi hlti hleni hdni
   by_cases hlt:i < m
   ·obtain ⟨t,ht⟩:∃ t,q.term.to[i]?=some t:=⟨_,List.getElem?_eq_getElem (by rw [HM.out] at hlt;exact hlt)⟩
    have htn:=HIN.out q (List.mem_of_getElem? HQ.out) t (List.mem_of_getElem? ht)
    obtain ⟨tn,rfl⟩:∃ tn:Nat,t=(tn:Int):=⟨t.toNat,by omega⟩
    have htl:tn < bs.length:=by omega
    have htk:Hid ((q.term.to.map Int.toNat).take (i + 1)=(q.term.to.map Int.toNat).take i ++ [tn]):=by
     show _=_
     rw [List.take_add_one,List.getElem?_map,ht]
     rfl
    obtain ⟨TA',tc',e0,_,hxx⟩:=HTV.out.keep HBr.out
    cases e0
    obtain ⟨tb,toff,rfl,htb,hcell⟩:=hxx i (by rw [← HM.out];exact hlt)
    rw [ht] at hcell
    simp only [Option.getD_some] at hcell
    have hmk:wr.cell? ⟨N + 1,tn,none⟩=some (.bool (decide (tn ∈ bgi))):=by rw [World.ownsRow.cellAt HDr.out.row tn (by omega),marks_at htl]
    clear hxx ht htn
    by_cases hin2:tn ∈ bgi
    ·have HIN2:=hideI hin2
     rw [show decide (tn ∈ bgi)=true from by simpa using hin2] at hmk
     clear hin2
     go_wp2
     go_roundw
     case rel => exact ⟨i + 1,bgi,dni,by omega,by go_num,by rw [htk.out];exact hideI (HV.out.append (.skip HIN2.out (.nil _))),HDr,HBr⟩
     case measure => simp [intOf];omega
    ·have HIN2:=hideI hin2
     rw [show decide (tn ∈ bgi)=false from by simpa using hin2] at hmk
     have hvb:=cell_of_one HDr.out.vb
     have HC:=hideI (HIH.out bgi dni tn wr (by omega) HNDI.out HLTI.out (by omega) htl HIN2.out (HBL.out.keeps (Keeps.of_below HBr.out)) HDr.out)
     clear hin2
     go_wp2_with (go_at_call 138;refine HC.out.mono ?_;rintro e w2 ⟨bg2,dn2,rfl,hv2,hd2,hb2⟩;have HV2:=hideI hv2;have HD2:=hideI hd2;have HB2:=hideI hb2;clear hv2 hd2 hb2)
     go_roundw
     case rel => exact ⟨i + 1,bg2,dn2 ++ [tn],by omega,by go_num,by rw [htk.out];exact hideI (HV.out.append (.go HIN2.out HV2.out (.nil _))),HD2,hideI (HBr.out.trans HB2.out)⟩
     case measure => simp [intOf];omega
   ·obtain ⟨v,hdv,hown⟩:=HDr.out.done
    have hdb:=cell_of_one hdv
    have HDV:=hideI hdv
    have HOWN:=hideI hown
    have hsz:=HDr.out.size
    obtain ⟨i0,hix,hz0,hz1,hz2⟩:=info_parts int_info
    have hall:(q.term.to.map Int.toNat).take i=succM bs b:=by rw [HSU.out,List.take_of_length_le (by rw [List.length_map,← HM.out];omega)]
    rw [hall] at HV
    clear hdv hall
    go_wp2_with (at_builtin;go_must (refine wpList_append_lies _ rfl _ _ _ rfl (R + 3) 3 i0 (.int .i64 0) 1 8 Tryz.underlying22 hix hz0 hz1 hz2 rfl (by decide) _ _ _ rfl (HOWN.out.alloc _) ⟨wr.heap.size,0,none⟩ 1 1 [.int .i64 b] rfl rfl (one_new wr _) (by simp [Value.oneCell']) (by decide) (by simp only [maxLen];omega) (by omega) (by simp;omega) _ rfl ?_);intro g1 cap1 w1 hown1 hgrow1 _ _;have HO1:=hideI hown1;have HG1:=hideI hgrow1;have HD1:=hideI (done_block HDV.out HOWN.out hgrow1);clear hown1 hgrow1;have hdb1:=free_of_one HD1.out;have hdc1:=cell_of_one HD1.out)
    go_end0
    have hp:=HDr.out.push HOWN.out HO1.out HG1.out HD1.out
    exact ⟨bgi,dni,rfl,HV.out,hp.1,HBr.out.trans hp.2⟩
end Go.Proofs.YtikogmpibkefdaaGreat

namespace Go.Proofs.YtikogmpibkefdaaGreat
open Go.RowKit
def RevTo {α:Type} (xs ys:List α) (k:Nat):Prop :=
 ys.length=xs.length ∧ ∀ p,p < xs.length → ys[p]?=if p < k ∨ xs.length ≤ p + k then xs[xs.length - 1 - p]? else xs[p]?
theorem RevTo.start {α:Type} (xs:List α):RevTo xs xs 0:=⟨rfl,fun p hp => by rw [if_neg (by omega)]⟩
theorem RevTo.step {α:Type} {xs ys:List α} {k m:Nat} {a b:α} (h:RevTo xs ys k) (hm:m + k + 1=xs.length) (hlt:k < m) (ha:ys[k]?=some a) (hb:ys[m]?=some b):RevTo xs ((ys.set k b).set m a) (k + 1):=by
 refine ⟨by rw [List.length_set,List.length_set,h.1],fun p hp => ?_⟩
 have h1:=h.2 k (by omega)
 have h2:=h.2 m (by omega)
 rw [if_neg (by omega)] at h1 h2
 by_cases e2:p=m
 ·subst e2
  rw [List.getElem?_set_self (by rw [List.length_set,h.1];omega),if_pos (by omega),← ha,h1]
  congr 1
  omega
 ·rw [List.getElem?_set_ne (by omega)]
  by_cases e1:p=k
  ·subst e1
   rw [List.getElem?_set_self (by rw [h.1];omega),if_pos (by omega),← hb,h2]
   congr 1
   omega
  ·rw [List.getElem?_set_ne (by omega),h.2 p hp]
   by_cases hc:p < k ∨ xs.length ≤ p + k
   ·rw [if_pos hc,if_pos (by omega)]
   ·rw [if_neg hc,if_neg (by omega)]
theorem RevTo.last {α:Type} {xs ys:List α} {k m:Nat} (h:RevTo xs ys k) (hm:m + k + 1=xs.length) (hge:m ≤ k):ys=xs.reverse:=by
 apply List.ext_getElem?
 intro p
 by_cases hp:p < xs.length
 ·rw [h.2 p hp,List.getElem?_reverse hp]
  by_cases hc:p < k ∨ xs.length ≤ p + k
  ·rw [if_pos hc]
  ·rw [if_neg hc]
   congr 1
   omega
 ·rw [List.getElem?_eq_none (by rw [h.1];omega),List.getElem?_eq_none (by rw [List.length_reverse];omega)]
set_option maxRecDepth 100000 in
set_option maxHeartbeats 2000000 in
theorem reverse_any (base g cap:Nat) (xs:List Int) (w:World) (hn:0 < xs.length) (hn2:xs.length ≤ 1000000) (hown:w.ownsRow base 3 1 (.slice (some ⟨g,0,none⟩) xs.length cap) xs.length (xs.map (Value.int .i64))) :
  Calls Tryz.prog 139 #[.slice (some ⟨g,0,none⟩) xs.length cap] w fun e w' => e=.returned (.tuple #[]) ∧ w'.ownsRow base 3 1 (.slice (some ⟨g,0,none⟩) xs.length cap) xs.length (xs.reverse.map (Value.int .i64)) ∧ w.grownBy w' (some g):=by
 have HOWN:=hideI hown
 obtain ⟨n,hN⟩:∃ n,n=xs.length:=⟨_,rfl⟩
 have HN:=hideI hN
 rw [← hN] at hn hn2 ⊢
 clear hown hN
 go_enter Tryz.func139,Tryz.ntmps139
 go_wp2
 go_loopw [2,3] (fun u v wr => ∃ (k m:Nat) (ys:List Int),m + k + 1=n ∧ u=.int .i64 k ∧ v=.int .i64 m ∧ Hid (RevTo xs ys k) ∧ Hid (wr.ownsRow base 3 1 (.slice (some ⟨g,0,none⟩) n cap) n (ys.map (Value.int .i64))) ∧ Hid (w.grownBy wr (some g))) (fun _ v _ => (intOf v).toNat)
 case atStart => exact ⟨0,n - 1,xs,by omega,rfl,by go_num,hideI (RevTo.start xs),(by have:=HOWN.out;rw [← HN.out] at this;exact hideI this),hideI (World.grownBy.refl _ _)⟩
 case round =>
  obtain ⟨k,m,ys,hm,rfl,rfl,HR,HO,HG⟩:=hrel
  have hyl:ys.length=n:=by rw [HR.out.1,← HN.out]
  have HM:Hid (m + k + 1=xs.length):=by show _=_;rw [← HN.out];exact hm
  by_cases hlt:k < m
  ·obtain ⟨a,ha⟩:∃ a,ys[k]?=some a:=⟨_,List.getElem?_eq_getElem (by omega)⟩
   obtain ⟨b,hb⟩:∃ b,ys[m]?=some b:=⟨_,List.getElem?_eq_getElem (by omega)⟩
   have q1:wr.cell? ⟨g,k,none⟩=some (.int .i64 a):=by rw [World.ownsRow.cellAt HO.out k (by omega),List.getElem?_map,ha];rfl
   have q2:wr.cell? ⟨g,m,none⟩=some (.int .i64 b):=by rw [World.ownsRow.cellAt HO.out m (by omega),List.getElem?_map,hb];rfl
   have q3:wr.frozen? ⟨g,k,none⟩=false:=World.ownsRow.frozenAt HO.out k
   have q4:wr.frozen? ⟨g,m,none⟩=false:=World.ownsRow.frozenAt HO.out m
   have HA:=hideI ha
   have HB:=hideI hb
   have hkm:k ≠ m:=by omega
   have hmk:m ≠ k:=by omega
   have hkn:k < n:=by omega
   have hmn:m < n:=by omega
   obtain ⟨m',rfl⟩:∃ m',m=m' + 1:=⟨m - 1,by omega⟩
   have HM2:Hid (m' + (k + 1) + 1=n):=by show _=_;omega
   clear ha hb hyl hm
   go_wp2
   go_region
   have HS:Hid (((wr.setCell ⟨g,k,none⟩ (.int .i64 b)).setCell ⟨g,m' + 1,none⟩ (.int .i64 a)).drew.ownsRow base 3 1 (.slice (some ⟨g,0,none⟩) n cap) n (((ys.set k b).set (m' + 1) a).map (Value.int .i64))):=by
    show World.ownsRow _ _ _ _ _ _ _
    rw [List.map_set,List.map_set]
    exact ((World.ownsRow.stored (World.ownsRow.stored HO.out k _).1 (m' + 1) _).1).drew
   have HG2:Hid (w.grownBy ((wr.setCell ⟨g,k,none⟩ (.int .i64 b)).setCell ⟨g,m' + 1,none⟩ (.int .i64 a)).drew (some g)) :=
    ((HG.out.trans_grown (World.ownsRow.stored HO.out k _).2).trans_grown (World.ownsRow.stored (World.ownsRow.stored HO.out k (.int .i64 b)).1 (m' + 1) _).2).trans_grown ⟨rfl,rfl,rfl,Nat.le_refl _,fun _ _ _ => rfl⟩
   clear q1 q2 q3 q4
   go_wp2
   go_roundw
   case rel => exact ⟨k + 1,m',(ys.set k b).set (m' + 1) a,HM2.out,by go_num,by go_num,HR.out.step HM.out (by omega) HA.out HB.out,HS,HG2⟩
   case measure => simp [intOf]
  ·have hge:m ≤ k:=by omega
   clear hm hyl
   go_wp2
   go_end0
   refine ⟨rfl,?_,HG.out⟩
   rw [← HR.out.last HM.out hge]
   exact HO.out
end Go.Proofs.YtikogmpibkefdaaGreat
namespace Go.Proofs.YtikogmpibkefdaaGreat
open Go.RowKit Go.Maps
theorem bool_info:(Tryz.prog.info? 4).map (fun i => (i.zero,i.size,i.bytes))=some (some (.bool false),1,1):=by kernel_rfl
theorem term_in {nb:Nat} {t:TermM} {f:FuncM} (hn:f.blocks.length=nb) (h:termB f t=true):∀ x ∈ t.to,1 ≤ x ∧ x < nb:=by
 unfold termB targetsB at h
 simp only [Bool.and_eq_true,List.all_eq_true] at h
 intro x hx
 have:=h.1 x hx
 unfold withinB at this
 simp only [Bool.and_eq_true,decide_eq_true_eq] at this
 omega
theorem blocksStep_term {f:FuncM}:∀ {l:List BlockM} {ds d:Defs},blocksStep f ds l=some d → ∀ b ∈ l,termB f b.term=true:=by
 intro l
 induction l with
 | nil => intro ds d _ b hb;cases hb
 | cons p l ih =>
  intro ds d h b hb
  unfold blocksStep at h
  rw [Option.bind_eq_some_iff] at h
  obtain ⟨d1,h1,h2⟩:=h
  rcases List.mem_cons.1 hb with rfl | hb
  ·unfold blockStep at h1
   rw [Option.bind_eq_some_iff] at h1
   obtain ⟨d2,h3,h4⟩:=h1
   rw [Option.bind_eq_some_iff] at h4
   obtain ⟨d3,h5,h6⟩:=h4
   split at h6
   ·assumption
   ·cases h6
  ·exact ih h2 b hb
theorem look_term {f:FuncM} (h:(lookM f).1=0):∀ b ∈ f.blocks,termB f b.term=true:=by
 have hf:=look_formed h
 unfold formedM at hf
 split at hf
 ·exact blocksStep_term hf
 ·cases hf
theorem look_ends {f:FuncM} (h:(lookM f).1=0):EndsIn f.blocks:=by
 intro q hq t ht
 have:=term_in rfl (look_term h q hq) t ht
 omega
theorem look_some_block {f:FuncM} (h:(lookM f).1=0):0 < f.blocks.length ∧ f.blocks.length ≤ 512:=by
 have hf:=look_formed h
 unfold formedM at hf
 split at hf
 ·rename_i hl
  simp only [Bool.and_eq_true] at hl
  have h1:=hl.1.1
  unfold limitsB withinB at h1
  simp only [Bool.and_eq_true,decide_eq_true_eq] at h1
  omega
 ·cases hf
theorem marks_none (n:Nat):marks n []=(List.range n).map fun _ => Value.bool false:=by
 unfold marks
 apply List.map_congr_left
 intro i _
 simp
theorem marks_made (n:Nat):(madeCells (Value.bool false).cells (n * 1)).toList=marks n []:=by
 rw [show (Value.bool false).cells=#[Value.bool false] from rfl,toList_madeCells_one,Nat.mul_one,marks_none]
 apply List.ext_getElem?
 intro i
 by_cases h:i < n
 ·rw [List.getElem?_replicate,if_pos h,List.getElem?_map,List.getElem?_eq_getElem (by simpa using h)]
  rfl
 ·rw [List.getElem?_eq_none (by simp;omega),List.getElem?_eq_none (by simp;omega)]
theorem dfs_new {w w1:World} {gr:Array Value} {n:Nat} (hown:w1.ownsRow (w.heap.size + 1) 4 1 (.slice (some ⟨w.heap.size + 1,0,none⟩) n n) n (madeCells (Value.bool false).cells (n * 1)).toList)
  (hg:(w.alloc (.cells gr 146)).grownBy w1 none) :
  Dfs w.heap.size w1.heap.size n gr [] [] (((w1.alloc (.cells #[.slice (some ⟨w.heap.size + 1,0,none⟩) n n] 114)).alloc (.cells #[.slice none 0 0] 22)).alloc
   (.cells #[.func (.func 138) #[] #[.pointer (some ⟨w1.heap.size,0,none⟩),.pointer (some ⟨w.heap.size,0,none⟩),.pointer (some ⟨w1.heap.size + 1 + 1,0,none⟩),.pointer (some ⟨w1.heap.size + 1,0,none⟩)]] 204)):=by
 have hlt:w.heap.size + 1 < w1.heap.size:=(hown.lt _ rfl).2
 rw [marks_made] at hown
 refine ⟨hlt,?_,((hown.alloc _).alloc _).alloc _,?_,⟨.slice none 0 0,?_,?_⟩,?_⟩
 ·rw [Below.heap_alloc _ _ _ (by simp;omega),Below.heap_alloc _ _ _ (by simp;omega),Below.heap_alloc _ _ _ (by omega),hg.block _ (by simp) (by simp)]
  exact heap_alloc_new w _
 ·rw [Below.heap_alloc _ _ _ (by simp;omega),Below.heap_alloc _ _ _ (by simp)]
  exact heap_alloc_new w1 _
 ·rw [Below.heap_alloc _ _ _ (by simp)]
  have:=heap_alloc_new (w1.alloc (.cells #[.slice (some ⟨w.heap.size + 1,0,none⟩) n n] 114)) (.cells #[.slice none 0 0] 22)
  simpa using this
 ·exact World.ownsRow_nil _ _ _ _
 ·have:=heap_alloc_new ((w1.alloc (.cells #[.slice (some ⟨w.heap.size + 1,0,none⟩) n n] 114)).alloc (.cells #[.slice none 0 0] 22)) (.cells #[.func (.func 138) #[] #[.pointer (some ⟨w1.heap.size,0,none⟩),.pointer (some ⟨w.heap.size,0,none⟩),.pointer (some ⟨w1.heap.size + 1 + 1,0,none⟩),.pointer (some ⟨w1.heap.size + 1,0,none⟩)]] 204)
  simpa using this
theorem dfs_below {w w1:World} {gr:Array Value} {t:TypeId} {o1 o2 o3:Obj} (hg:(w.alloc (.cells gr t)).grownBy w1 none):Below w.heap.size w (((w1.alloc o1).alloc o2).alloc o3):=by
 have h1:Below w.heap.size w w1:=((Below.refl _ _).alloc (Nat.le_refl _) _).grown hg (by simp) (by simp)
 have hs:=h1.size
 exact ((h1.alloc hs _).alloc (by simp;omega) _).alloc (by simp;omega) _
theorem reverse_nat (base g cap:Nat) (l:List Nat) (w:World) (hn:0 < l.length) (hn2:l.length ≤ 1000000) (hown:w.ownsRow base 3 1 (.slice (some ⟨g,0,none⟩) l.length cap) l.length (natInts l)) :
  Calls Tryz.prog 139 #[.slice (some ⟨g,0,none⟩) l.length cap] w fun e w' => e=.returned (.tuple #[]) ∧ w'.ownsRow base 3 1 (.slice (some ⟨g,0,none⟩) l.length cap) l.length (natInts l.reverse) ∧ w.grownBy w' (some g):=by
 have hx:natInts l=(l.map fun (x:Nat) => (x:Int)).map (Value.int .i64):=by unfold natInts;rw [List.map_map];rfl
 have hy:natInts l.reverse=(l.map fun (x:Nat) => (x:Int)).reverse.map (Value.int .i64):=by unfold natInts;rw [← List.map_reverse,List.map_map];rfl
 have h:=reverse_any base g cap (l.map fun (x:Nat) => (x:Int)) w (by simpa using hn) (by simpa using hn2) (by rw [List.length_map,← hx];exact hown)
 rw [List.length_map,← hy] at h
 exact h
theorem OrderIs.range {bs:List BlockM} {o:List Nat} (h:OrderIs bs o) (hin:EndsIn bs) (h0:0 < bs.length):∀ x ∈ o,x < bs.length:=by
 obtain ⟨bg,dn,v,rfl⟩:=h
 have v2:Visit (succM bs) [0] ([],[]) (bg,dn ++ [0]):=.go (by simp) v (.nil _)
 have hr:=visit_range hin.succ v2 (by simpa using h0) (by simp)
 obtain ⟨new,d⟩:=v2.did
 have hd:dn ++ [0]=new:=by simpa using d.done
 intro x hx
 rw [hd] at hx
 exact hr x ((d.begun x).2 (.inr (List.mem_reverse.1 hx)))
def OrdPost (bs:List BlockM) (w:World) (e:Ending) (w':World):Prop :=
 ∃ (o:List Nat) (g cap:Nat),e=.returned (.slice (some ⟨g,0,none⟩) o.length cap) ∧ OrderIs bs o ∧ 0 < o.length ∧ o.length ≤ bs.length ∧ w'.ownsRow w.heap.size 3 1 (.slice (some ⟨g,0,none⟩) o.length cap) o.length (natInts o) ∧ Below w.heap.size w w'
theorem ord_len {bs:List BlockM} {dn bg l:List Nat} (hin:EndsIn bs) (h0:0 < bs.length) (hv:Visit (succM bs) (succM bs 0) ([0],[]) (bg,dn)) (hl:l=dn ++ [0]):0 < l.length ∧ l.length ≤ bs.length:=by
 have ho:OrderIs bs (dn ++ [0]).reverse:=⟨bg,dn,hv,rfl⟩
 have:=below_len _ _ ho.facts.2.1 (ho.range hin h0)
 rw [List.length_reverse,← hl] at this
 exact ⟨by rw [hl];simp,this⟩
theorem ord_post {bs:List BlockM} {w w':World} {dn bg l:List Nat} {g cap base:Nat} (hin:EndsIn bs) (h0:0 < bs.length) (hv:Visit (succM bs) (succM bs 0) ([0],[]) (bg,dn)) (hl:l=dn ++ [0]) (hb:w.heap.size ≤ base)
  (hown:w'.ownsRow base 3 1 (.slice (some ⟨g,0,none⟩) l.length cap) l.length (natInts l.reverse)) (hB:Below w.heap.size w w') :
  OrdPost bs w (.returned (.slice (some ⟨g,0,none⟩) l.length cap)) w':=by
 subst hl
 have ho:OrderIs bs (dn ++ [0]).reverse:=⟨bg,dn,hv,rfl⟩
 refine ⟨(dn ++ [0]).reverse,g,cap,by rw [List.length_reverse],ho,by simp,?_,?_,hB⟩
 ·exact below_len _ _ ho.facts.2.1 (ho.range hin h0)
 ·rw [List.length_reverse]
  exact World.ownsRow.mono hown hb
set_option maxRecDepth 100000 in
set_option maxHeartbeats 2000000 in
theorem order_any (bs:List BlockM) (B:Nat) (pv av cv bv:Value) (w:World) (hbv:BlocksR w B bv bs) (hB:B ≤ w.heap.size) (h0:0 < bs.length) (hn5:bs.length ≤ 512) (hin:EndsIn bs) :
  Calls Tryz.prog 87 #[.agg #[pv,av,cv,bv]] w (OrdPost bs w):=by
 have HBL:=hideI hbv
 have HIN:=hideI hin
 obtain ⟨A,c,rfl,hbm,_⟩:=hbv
 obtain ⟨i0,hix,hz0,hz1,hz2⟩:=info_parts bool_info
 clear hin
 go_enter Tryz.func87,Tryz.ntmps87
 go_wp2_with (first
  | (at_make;go_must (refine wpList_make_full _ rfl _ _ 114 rfl (w.heap.size + 1) 4 i0 (.bool false) 1 Tryz.underlying114 hix hz0 hz1 .i64 .i64 _ _ bs.length rfl rfl rfl rfl (by rw [hz2];omega) (by unfold maxLen;omega) (by simp) ?_);intro w1 hown1 hg1;rw [World.size_alloc] at hown1;go_must (have HD0:=hideI (dfs_new hown1 hg1);have HB0:Hid (∀ o1 o2 o3:Obj,Below w.heap.size w (((w1.alloc o1).alloc o2).alloc o3)):=fun o1 o2 o3 => dfs_below hg1;clear hown1 hg1))
  | (go_at_call 138;go_must (refine (visit_any bs w.heap.size w1.heap.size pv av cv _ hn5 HIN.out bs.length [] [] 0 _ (by simp) (by simp) (by simp) (by simp) h0 (by simp) ((HBL.out.more' hB).keeps (Keeps.of_below (HB0.out _ _ _))) HD0.out).mono ?_);rintro e w2 ⟨bg,dn,rfl,hv,hd,hb⟩;obtain ⟨l,hl⟩:∃ l,l=dn ++ [0]:=⟨_,rfl⟩;rw [← hl] at hd;have HL:=hideI hl;obtain ⟨hl0,hl1⟩:=ord_len HIN.out h0 hv hl;have HV:=hideI hv;have HB2:=hideI ((HB0.out _ _ _).trans hb);have hR:=hd.hR;obtain ⟨v,hdv,hown⟩:=hd.done;obtain ⟨g,cap,rfl,hg1,hg2⟩:=hown.form hl0;have hdb:=cell_of_one hdv;have HDV:=hideI hdv;have HO:=hideI hown;clear hv hd hb hdv hown HD0 HB0 hl)
  | (go_at_call 139;go_must (refine (reverse_nat (w1.heap.size + 3) g cap l _ hl0 (by omega) HO.out).mono ?_);rintro e w3 ⟨rfl,ho3,hg3⟩;have HO3:=hideI ho3;have HG3:=hideI hg3;have hdb3:=cell_of_one ((hg3.block (w1.heap.size + 1) (lt_of_block HDV.out) (by simp;omega)).trans HDV.out);clear ho3 hg3 hdb))
 go_ret
 refine ord_post HIN.out h0 HV.out HL.out (by omega) HO3.out (HB2.out.trans ⟨HG3.out.os,HG3.out.tape,HG3.out.output,HG3.out.size,fun b hb => HG3.out.block b (Nat.lt_of_lt_of_le hb HB2.out.size) (by simp;omega)⟩)
end Go.Proofs.YtikogmpibkefdaaGreat

namespace Go.Proofs.YtikogmpibkefdaaGreat
open Go.RowKit
def cellAt (w:World) (v:Value) (j:Nat):Value:=match v with
 | .slice (some a) _ _ => (w.cell? ⟨a.block,a.off + j,none⟩).getD (.slice none 0 0)
 | _ => .slice none 0 0
def readVals (w:World) (pv bv:Value):Vals
 | .params => pv
 | .blocks => bv
 | .phis k => cellAt w bv (k * 6)
 | .code k => cellAt w bv (k * 6 + 1)
 | .ends k => cellAt w bv (k * 6 + 4)
 | .fr k i => cellAt w (cellAt w bv (k * 6)) (i * 4 + 2)
 | .vals k i => cellAt w (cellAt w bv (k * 6)) (i * 4 + 3)
 | .args k i => cellAt w (cellAt w bv (k * 6 + 1)) (i * 4 + 2)
section
variable {w:World} {B:Nat} {pv bv:Value} {f:FuncM}
theorem cellAt_of {b off n c j:Nat} {u:Value} (h:w.cell? ⟨b,off + j,none⟩=some u):cellAt w (.slice (some ⟨b,off,none⟩) n c) j=u:=by
 unfold cellAt
 simp only [h,Option.getD_some]
theorem read_block (hb:BlocksR w B bv f.blocks) {k:Nat} {q:BlockM} (hq:f.blocks[k]?=some q) :
  ∃ b off n c,bv=.slice (some ⟨b,off,none⟩) n c ∧ b < B ∧ w.cell? ⟨b,off + k * 6,none⟩=some (readVals w pv bv (.phis k)) ∧ w.cell? ⟨b,off + k * 6 + 1,none⟩=some (readVals w pv bv (.code k)) ∧ w.cell? ⟨b,off + k * 6 + 2,none⟩=some (.int .i64 q.term.op) ∧ w.cell? ⟨b,off + k * 6 + 3,none⟩=some (.int .i64 q.term.val) ∧
   w.cell? ⟨b,off + k * 6 + 4,none⟩=some (readVals w pv bv (.ends k)) ∧ w.cell? ⟨b,off + k * 6 + 5,none⟩=some (.int .i64 q.term.n) ∧
   PhisR w B (readVals w pv bv (.phis k)) q.phis ∧ CodeR w B (readVals w pv bv (.code k)) q.code ∧ Ints w B (readVals w pv bv (.ends k)) q.term.to:=by
 obtain ⟨A,c,rfl,hm,hx⟩:=hb
 obtain ⟨b,off,p,cv,tv,rfl,hbB,e0,e1,e2,e3,e4,e5,hp,hc,ht,_⟩:=hx k q hq
 have h0:readVals w pv (.slice (some ⟨b,off,none⟩) f.blocks.length c) (.phis k)=p:=by show cellAt w (.slice (some ⟨b,off,none⟩) f.blocks.length c) (k * 6)=p;exact cellAt_of e0
 have h1:readVals w pv (.slice (some ⟨b,off,none⟩) f.blocks.length c) (.code k)=cv:=by show cellAt w (.slice (some ⟨b,off,none⟩) f.blocks.length c) (k * 6 + 1)=cv;exact cellAt_of (by rw [← Nat.add_assoc];exact e1)
 have h4:readVals w pv (.slice (some ⟨b,off,none⟩) f.blocks.length c) (.ends k)=tv:=by show cellAt w (.slice (some ⟨b,off,none⟩) f.blocks.length c) (k * 6 + 4)=tv;exact cellAt_of (by rw [← Nat.add_assoc];exact e4)
 rw [h0,h1,h4]
 exact ⟨b,off,_,_,rfl,hbB,e0,e1,e2,e3,e4,e5,hp,hc,ht⟩
theorem read_phi {v:Value} {ps:List PhiM} (hp:PhisR w B v ps) {i:Nat} {p:PhiM} (hi:ps[i]?=some p) :
  ∃ b off n c,v=.slice (some ⟨b,off,none⟩) n c ∧ b < B ∧ w.cell? ⟨b,off + i * 4,none⟩=some (.int .i64 p.id) ∧ w.cell? ⟨b,off + i * 4 + 1,none⟩=some (.int .i64 p.typ) ∧ w.cell? ⟨b,off + i * 4 + 2,none⟩=some (cellAt w v (i * 4 + 2)) ∧ w.cell? ⟨b,off + i * 4 + 3,none⟩=some (cellAt w v (i * 4 + 3)) ∧
   Ints w B (cellAt w v (i * 4 + 2)) p.fr ∧ Ints w B (cellAt w v (i * 4 + 3)) p.vals:=by
 obtain ⟨A,c,rfl,hm,hx⟩:=hp
 obtain ⟨b,off,fv,vv,rfl,hbB,e0,e1,e2,e3,hf,hv,_⟩:=hx i p hi
 have h2:cellAt w (.slice (some ⟨b,off,none⟩) ps.length c) (i * 4 + 2)=fv:=cellAt_of (by rw [← Nat.add_assoc];exact e2)
 have h3:cellAt w (.slice (some ⟨b,off,none⟩) ps.length c) (i * 4 + 3)=vv:=cellAt_of (by rw [← Nat.add_assoc];exact e3)
 rw [h2,h3]
 exact ⟨b,off,_,_,rfl,hbB,e0,e1,e2,e3,hf,hv⟩
theorem read_instr {v:Value} {ps:List InstrM} (hp:CodeR w B v ps) {i:Nat} {p:InstrM} (hi:ps[i]?=some p) :
  ∃ b off n c,v=.slice (some ⟨b,off,none⟩) n c ∧ b < B ∧ w.cell? ⟨b,off + i * 4,none⟩=some (.int .i64 p.op) ∧ w.cell? ⟨b,off + i * 4 + 1,none⟩=some (.int .i64 p.id) ∧ w.cell? ⟨b,off + i * 4 + 2,none⟩=some (cellAt w v (i * 4 + 2)) ∧ w.cell? ⟨b,off + i * 4 + 3,none⟩=some (.int .i64 p.n) ∧
   Ints w B (cellAt w v (i * 4 + 2)) p.args:=by
 obtain ⟨A,c,rfl,hm,hx⟩:=hp
 obtain ⟨b,off,fv,rfl,hbB,e0,e1,e2,e3,hf,_⟩:=hx i p hi
 have h2:cellAt w (.slice (some ⟨b,off,none⟩) ps.length c) (i * 4 + 2)=fv:=cellAt_of (by rw [← Nat.add_assoc];exact e2)
 rw [h2]
 exact ⟨b,off,_,_,rfl,hbB,e0,e1,e2,e3,hf⟩
theorem read_all (hp:Ints w B pv f.params) (hb:BlocksR w B bv f.blocks):RdF w B f (readVals w pv bv):=by
 intro t d hd
 cases t with
 | params =>
  cases hd
  exact hp.row
 | blocks =>
  cases hd
  obtain ⟨A,c,hv,hm,_⟩:=id hb
  refine ⟨A,c,hv,hm,fun j u hu => ?_⟩
  obtain ⟨k,r,q,rfl,hr,hq,hc⟩:=cellsOf_div (blockCells_len _) hu
  obtain ⟨b,off,n,c',hv',hbB,e0,e1,e2,e3,e4,e5,_⟩:=read_block (pv:=pv) hb hq
  have hA:A=some ⟨b,off,none⟩:=by rw [hv] at hv';cases hv';rfl
  refine ⟨b,off,hA,hbB,?_⟩
  obtain rfl | rfl | rfl | rfl | rfl | rfl:r=0 ∨ r=1 ∨ r=2 ∨ r=3 ∨ r=4 ∨ r=5:=by omega
  all_goals (cases hc;rw [← Nat.add_assoc];assumption)
 | phis k =>
  cases hq:f.blocks[k]? with
  | none => simp only [rowOf,hq] at hd;cases hd
  | some q =>
   simp only [rowOf,hq,Option.map_some,Option.some.injEq] at hd
   subst hd
   obtain ⟨_,_,_,_,_,_,_,_,_,_,_,_,hph,_⟩:=read_block (pv:=pv) hb hq
   obtain ⟨A,c,hv,hm,_⟩:=id hph
   refine ⟨A,c,hv,hm,fun j u hu => ?_⟩
   obtain ⟨i,r,p,rfl,hr,hp,hc⟩:=cellsOf_div (phiCells_len _ k) hu
   obtain ⟨b,off,n,c',hv',hbB,e0,e1,e2,e3,_⟩:=read_phi hph hp
   have hA:A=some ⟨b,off,none⟩:=by rw [hv] at hv';cases hv';rfl
   refine ⟨b,off,hA,hbB,?_⟩
   obtain rfl | rfl | rfl | rfl:r=0 ∨ r=1 ∨ r=2 ∨ r=3:=by omega
   all_goals (cases hc;rw [← Nat.add_assoc];assumption)
 | code k =>
  cases hq:f.blocks[k]? with
  | none => simp only [rowOf,hq] at hd;cases hd
  | some q =>
   simp only [rowOf,hq,Option.map_some,Option.some.injEq] at hd
   subst hd
   obtain ⟨_,_,_,_,_,_,_,_,_,_,_,_,_,hco,_⟩:=read_block (pv:=pv) hb hq
   obtain ⟨A,c,hv,hm,_⟩:=id hco
   refine ⟨A,c,hv,hm,fun j u hu => ?_⟩
   obtain ⟨i,r,p,rfl,hr,hp,hc⟩:=cellsOf_div (instrCells_len _ k) hu
   obtain ⟨b,off,n,c',hv',hbB,e0,e1,e2,e3,_⟩:=read_instr hco hp
   have hA:A=some ⟨b,off,none⟩:=by rw [hv] at hv';cases hv';rfl
   refine ⟨b,off,hA,hbB,?_⟩
   obtain rfl | rfl | rfl | rfl:r=0 ∨ r=1 ∨ r=2 ∨ r=3:=by omega
   all_goals (cases hc;rw [← Nat.add_assoc];assumption)
 | ends k =>
  cases hq:f.blocks[k]? with
  | none => simp only [rowOf,hq] at hd;cases hd
  | some q =>
   simp only [rowOf,hq,Option.map_some,Option.some.injEq] at hd
   subst hd
   obtain ⟨_,_,_,_,_,_,_,_,_,_,_,_,_,_,ht⟩:=read_block (pv:=pv) hb hq
   exact ht.row
 | fr k i =>
  cases hq:f.blocks[k]? with
  | none => simp only [rowOf,hq] at hd;cases hd
  | some q =>
   cases hp:q.phis[i]? with
   | none => simp only [rowOf,hq,Option.bind_some,hp] at hd;cases hd
   | some p =>
    simp only [rowOf,hq,Option.bind_some,hp,Option.map_some,Option.some.injEq] at hd
    subst hd
    obtain ⟨_,_,_,_,_,_,_,_,_,_,_,_,hph,_⟩:=read_block (pv:=pv) hb hq
    obtain ⟨_,_,_,_,_,_,_,_,_,_,hf,_⟩:=read_phi hph hp
    exact hf.row
 | vals k i =>
  cases hq:f.blocks[k]? with
  | none => simp only [rowOf,hq] at hd;cases hd
  | some q =>
   cases hp:q.phis[i]? with
   | none => simp only [rowOf,hq,Option.bind_some,hp] at hd;cases hd
   | some p =>
    simp only [rowOf,hq,Option.bind_some,hp,Option.map_some,Option.some.injEq] at hd
    subst hd
    obtain ⟨_,_,_,_,_,_,_,_,_,_,_,_,hph,_⟩:=read_block (pv:=pv) hb hq
    obtain ⟨_,_,_,_,_,_,_,_,_,_,_,hf⟩:=read_phi hph hp
    exact hf.row
 | args k i =>
  cases hq:f.blocks[k]? with
  | none => simp only [rowOf,hq] at hd;cases hd
  | some q =>
   cases hp:q.code[i]? with
   | none => simp only [rowOf,hq,Option.bind_some,hp] at hd;cases hd
   | some p =>
    simp only [rowOf,hq,Option.bind_some,hp,Option.map_some,Option.some.injEq] at hd
    subst hd
    obtain ⟨_,_,_,_,_,_,_,_,_,_,_,_,_,hco,_⟩:=read_block (pv:=pv) hb hq
    obtain ⟨_,_,_,_,_,_,_,_,_,_,hf⟩:=read_instr hco hp
    exact hf.row
end
end Go.Proofs.YtikogmpibkefdaaGreat
namespace Go.Proofs.YtikogmpibkefdaaGreat
open Go.RowKit
structure SmallF (f:FuncM):Prop where
 params:f.params.length ≤ 100000
 blocks:f.blocks.length ≤ 100000
 each:∀ b ∈ f.blocks,Small b
theorem EE.all {f:FuncM} {val:Vals} {t:Tag} {d:RowD} (h:rowOf f val t=some d):EE f f.blocks.length t:=by
 cases t with
 | params => exact .inl rfl
 | blocks => exact .inr (.inl rfl)
 | phis k =>
  cases hq:f.blocks[k]? with
  | none => simp only [rowOf,hq] at h;cases h
  | some q => exact .inr (.inr ⟨k,q,(List.getElem?_eq_some_iff.1 hq).1,hq,.inl rfl⟩)
 | code k =>
  cases hq:f.blocks[k]? with
  | none => simp only [rowOf,hq] at h;cases h
  | some q => exact .inr (.inr ⟨k,q,(List.getElem?_eq_some_iff.1 hq).1,hq,.inr (.inl rfl)⟩)
 | ends k =>
  cases hq:f.blocks[k]? with
  | none => simp only [rowOf,hq] at h;cases h
  | some q => exact .inr (.inr ⟨k,q,(List.getElem?_eq_some_iff.1 hq).1,hq,.inr (.inr (.inl rfl))⟩)
 | fr k i =>
  cases hq:f.blocks[k]? with
  | none => simp only [rowOf,hq] at h;cases h
  | some q =>
   cases hp:q.phis[i]? with
   | none => simp only [rowOf,hq,Option.bind_some,hp] at h;cases h
   | some p => exact .inr (.inr ⟨k,q,(List.getElem?_eq_some_iff.1 hq).1,hq,.inr (.inr (.inr (.inl ⟨i,(List.getElem?_eq_some_iff.1 hp).1,.inl rfl⟩)))⟩)
 | vals k i =>
  cases hq:f.blocks[k]? with
  | none => simp only [rowOf,hq] at h;cases h
  | some q =>
   cases hp:q.phis[i]? with
   | none => simp only [rowOf,hq,Option.bind_some,hp] at h;cases h
   | some p => exact .inr (.inr ⟨k,q,(List.getElem?_eq_some_iff.1 hq).1,hq,.inr (.inr (.inr (.inl ⟨i,(List.getElem?_eq_some_iff.1 hp).1,.inr rfl⟩)))⟩)
 | args k i =>
  cases hq:f.blocks[k]? with
  | none => simp only [rowOf,hq] at h;cases h
  | some q =>
   cases hp:q.code[i]? with
   | none => simp only [rowOf,hq,Option.bind_some,hp] at h;cases h
   | some p => exact .inr (.inr ⟨k,q,(List.getElem?_eq_some_iff.1 hq).1,hq,.inr (.inr (.inr (.inr ⟨i,(List.getElem?_eq_some_iff.1 hp).1,rfl⟩)))⟩)
theorem SmallF.len {f:FuncM} {val:Vals} {t:Tag} {d:RowD} (hs:SmallF f) (h:rowOf f val t=some d):d.len ≤ 100000:=by
 cases t with
 | params => cases h;exact hs.params
 | blocks => cases h;exact hs.blocks
 | phis k =>
  cases hq:f.blocks[k]? with
  | none => simp only [rowOf,hq] at h;cases h
  | some q => rw [row_phis hq] at h;cases h;exact (hs.each q (List.mem_of_getElem? hq)).phis
 | code k =>
  cases hq:f.blocks[k]? with
  | none => simp only [rowOf,hq] at h;cases h
  | some q => rw [row_code hq] at h;cases h;exact (hs.each q (List.mem_of_getElem? hq)).code
 | ends k =>
  cases hq:f.blocks[k]? with
  | none => simp only [rowOf,hq] at h;cases h
  | some q => rw [row_ends hq] at h;cases h;exact (hs.each q (List.mem_of_getElem? hq)).ends
 | fr k i =>
  cases hq:f.blocks[k]? with
  | none => simp only [rowOf,hq] at h;cases h
  | some q =>
   cases hp:q.phis[i]? with
   | none => simp only [rowOf,hq,Option.bind_some,hp] at h;cases h
   | some p => simp only [rowOf,hq,Option.bind_some,hp,Option.map_some,Option.some.injEq] at h;subst h;exact ((hs.each q (List.mem_of_getElem? hq)).fr p (List.mem_of_getElem? hp)).1
 | vals k i =>
  cases hq:f.blocks[k]? with
  | none => simp only [rowOf,hq] at h;cases h
  | some q =>
   cases hp:q.phis[i]? with
   | none => simp only [rowOf,hq,Option.bind_some,hp] at h;cases h
   | some p => simp only [rowOf,hq,Option.bind_some,hp,Option.map_some,Option.some.injEq] at h;subst h;exact ((hs.each q (List.mem_of_getElem? hq)).fr p (List.mem_of_getElem? hp)).2
 | args k i =>
  cases hq:f.blocks[k]? with
  | none => simp only [rowOf,hq] at h;cases h
  | some q =>
   cases hp:q.code[i]? with
   | none => simp only [rowOf,hq,Option.bind_some,hp] at h;cases h
   | some p => simp only [rowOf,hq,Option.bind_some,hp,Option.map_some,Option.some.injEq] at h;subst h;exact (hs.each q (List.mem_of_getElem? hq)).args p (List.mem_of_getElem? hp)
theorem OwnG.rd {w:World} {base:Nat} {f:FuncM} {val:Vals} (h:OwnG w base (rowOf f val) val (EE f f.blocks.length)) (hs:SmallF f):RdF w w.heap.size f val:=by
 intro t d hd
 have hown:=h.rows t d (EE.all hd) hd
 have hl:=hs.len hd
 rcases hown.2 with ⟨hv,h0⟩ | ⟨g,cap,cur,hv,hb,hg,r⟩
 ·refine ⟨none,0,by rw [hv,h0],by omega,fun j u hu => ?_⟩
  have h1:=hown.1
  have h2:=(List.getElem?_eq_some_iff.1 hu).1
  rw [h1,h0] at h2
  omega
 ·refine ⟨some ⟨g,0,none⟩,cap,hv,by omega,fun j u hu => ⟨g,0,rfl,(Array.getElem?_eq_some_iff.1 hg).1,?_⟩⟩
  rw [hv] at hown
  have hj:=(List.getElem?_eq_some_iff.1 hu).1
  rw [hown.1] at hj
  rw [Nat.zero_add,World.ownsRow.cellAt hown j hj,hu]
theorem mem_sum {l:List BlockM} {b:BlockM} (h:b ∈ l):sizeB b ≤ (l.map sizeB).sum:=by
 induction l with
 | nil => cases h
 | cons a l ih =>
  rw [List.map_cons,List.sum_cons]
  rcases List.mem_cons.1 h with rfl | h
  ·omega
  ·have:=ih h;omega
theorem takes_three (op:Int):(takesS op).length ≤ 3:=by
 unfold takesS
 rw [List.length_map]
 rcases op_cases op with h | h | h
 ·rcases h with rfl | rfl | rfl | rfl | rfl | rfl | rfl | rfl | rfl | rfl | rfl | rfl | rfl <;> decide
 ·rcases h with rfl | rfl | rfl | rfl | rfl | rfl | rfl | rfl | rfl | rfl | rfl | rfl <;> decide
 ·rw [shapeS_none h];decide
theorem term_few {f:FuncM} {t:TermM} (h:termB f t=true):t.to.length ≤ 2:=by
 unfold termB at h
 simp only [Bool.and_eq_true] at h
 have h2:=h.2
 split at h2
 ·simp only [Bool.and_eq_true,beq_iff_eq] at h2;omega
 ·split at h2
  ·simp only [Bool.and_eq_true,beq_iff_eq] at h2;omega
  ·split at h2
   ·simp only [Bool.and_eq_true,beq_iff_eq] at h2;omega
   ·split at h2
    ·simp only [Bool.and_eq_true,beq_iff_eq] at h2;omega
    ·cases h2
theorem look_small {f:FuncM} (h:(lookM f).1=0):SmallF f:=by
 have hsz:=look_size h
 have hall:=(formed_all (look_formed h)).1
 have hterm:=look_term h
 have hnb:=look_some_block h
 have hpar:f.params.length ≤ 16:=by
  have hf:=look_formed h
  unfold formedM at hf
  split at hf
  ·rename_i hl
   simp only [Bool.and_eq_true] at hl
   have h1:=hl.1.1
   unfold limitsB at h1
   simp only [Bool.and_eq_true,decide_eq_true_eq] at h1
   exact h1.1
  ·cases hf
 refine ⟨by omega,by omega,fun b hb => ?_⟩
 have hs:=mem_sum hb
 unfold sizeM at hsz
 unfold sizeB at hs hsz
 have hr:=hall b hb
 refine ⟨by omega,by omega,by have:=term_few (hterm b hb);omega,fun p hp => ?_,fun x hx => ?_⟩
 ·have h2:=hr.1 p hp
  unfold phiB at h2
  simp only [Bool.and_eq_true,beq_iff_eq] at h2
  have h3:=once_len h2.2.2
  omega
 ·have h2:=hr.2 x hx
  unfold instrB at h2
  simp only [Bool.and_eq_true,beq_iff_eq] at h2
  have:=takes_three x.op
  omega
theorem fresh_any (f:FuncM) (B:Nat) (pv bv:Value) (w:World) (hpv:Ints w B pv f.params) (hbv:BlocksR w B bv f.blocks) (hB:B ≤ w.heap.size) (h0:(lookM f).1=0) :
  Calls Tryz.prog 83 #[.agg #[pv,.int .i64 f.arrays,.int .i64 f.cells,bv]] w (FreshPost f w):=by
 have hs:=look_small h0
 exact freshFunc_any f B (readVals w pv bv) w (read_all hpv hbv) hB hs.params hs.blocks hs.each
end Go.Proofs.YtikogmpibkefdaaGreat

namespace Go.Proofs.YtikogmpibkefdaaGreat
open Go.RowKit Go.Maps Go.Sort Go.Shelf
def keysL_ren:Go.Shelf.Ren:=⟨fun | 7 => 207 | 10 => 240 | n => n,fun | 23 => 136 | 26 => 3 | 3 => 3 | 28 => 238 | 0 => 0 | 27 => 237 | 33 => 177 | 4 => 4 | n => n,fun | n => n⟩
theorem keysL:Go.Proofs.SlLaysZI.n7 Tryz.prog keysL_ren:={
 mixed:=by kernel_rfl,
 f7:=⟨Tryz.f207.name,by decide,Tryz.func207.trans (congrArg some (by kernel_rfl))⟩,
 f10:=⟨Tryz.f240.name,by decide,Tryz.func240.trans (congrArg some (by kernel_rfl))⟩,
 t0:=Tryz.underlying0,
 a0:=Tryz.isAgg0,
 z0:=Tryz.sizeOf0,
 v0:=Tryz.zeroValue0,
 t4:=Tryz.underlying4,
 a4:=Tryz.isAgg4,
 z4:=Tryz.sizeOf4,
 v4:=Tryz.zeroValue4,
 t23:=Tryz.underlying136,
 a23:=Tryz.isAgg136,
 z23:=Tryz.sizeOf136,
 v23:=Tryz.zeroValue136,
 t26:=Tryz.underlying3,
 a26:=Tryz.isAgg3,
 z26:=Tryz.sizeOf3,
 v26:=Tryz.zeroValue3,
 t27:=Tryz.underlying237,
 a27:=Tryz.isAgg237,
 z27:=Tryz.sizeOf237,
 v27:=Tryz.zeroValue237,
 t28:=Tryz.underlying238,
 a28:=Tryz.isAgg238,
 z28:=Tryz.sizeOf238,
 v28:=Tryz.zeroValue238,
 t33:=Tryz.underlying177,
 a33:=Tryz.isAgg177,
 z33:=Tryz.sizeOf177,
 v33:=Tryz.zeroValue177 }
def sortedL_ren:Go.Shelf.Ren:=⟨fun | 6 => 182 | 8 => 222 | 9 => 223 | 11 => 248 | 13 => 238 | 12 => 249 | 23 => 263 | 24 => 264 | 14 => 267 | 15 => 268 | 16 => 269 | 17 => 270 | 18 => 271 | 19 => 272 | 20 => 215 | 21 => 273 | 22 => 274 | 25 => 282 | 26 => 278 | 27 => 279 | 28 => 283 | 29 => 284 | 30 => 239 | 31 => 286 | n => n,fun | 26 => 3 | 28 => 238 | 24 => 22 | 0 => 0 | 3 => 3 | 37 => 261 | 48 => 290 | 50 => 293 | 4 => 4 | 40 => 301 | 39 => 300 | 45 => 141 | 5 => 5 | 9 => 9 | 51 => 316 | 55 => 202 | 57 => 324 | 58 => 325 | 33 => 177 | n => n,fun | n => n⟩
theorem sortedL:Go.Proofs.SlLaysZI.n6 Tryz.prog sortedL_ren:={
 mixed:=by kernel_rfl,
 f6:=⟨Tryz.f182.name,by decide,Tryz.func182.trans (congrArg some (by kernel_rfl))⟩,
 f8:=⟨Tryz.f222.name,by decide,Tryz.func222.trans (congrArg some (by kernel_rfl))⟩,
 f11:=⟨Tryz.f248.name,by decide,Tryz.func248.trans (congrArg some (by kernel_rfl))⟩,
 t0:=Tryz.underlying0,
 a0:=Tryz.isAgg0,
 z0:=Tryz.sizeOf0,
 v0:=Tryz.zeroValue0,
 t24:=Tryz.underlying22,
 a24:=Tryz.isAgg22,
 z24:=Tryz.sizeOf22,
 v24:=Tryz.zeroValue22,
 t26:=Tryz.underlying3,
 a26:=Tryz.isAgg3,
 z26:=Tryz.sizeOf3,
 v26:=Tryz.zeroValue3,
 t28:=Tryz.underlying238,
 a28:=Tryz.isAgg238,
 z28:=Tryz.sizeOf238,
 v28:=Tryz.zeroValue238,
 i26:=by kernel_rfl }
def sortL_ren:Go.Shelf.Ren:=⟨fun | 5 => 223 | 8 => 238 | 7 => 249 | 19 => 263 | 20 => 264 | 10 => 267 | 11 => 268 | 12 => 269 | 13 => 270 | 14 => 271 | 15 => 272 | 16 => 215 | 17 => 273 | 18 => 274 | 30 => 282 | 31 => 278 | 32 => 279 | 33 => 283 | 34 => 284 | 35 => 239 | 40 => 286 | n => n,fun | 23 => 22 | 25 => 3 | 3 => 3 | 32 => 261 | 22 => 22 | 0 => 0 | 44 => 290 | 46 => 293 | 4 => 4 | 36 => 301 | 35 => 300 | 41 => 141 | 5 => 5 | 9 => 9 | 53 => 316 | 57 => 202 | 63 => 324 | 64 => 325 | n => n,fun | n => n⟩
theorem sortL:Go.Proofs.SlLaysM.n5 Tryz.prog sortL_ren:={
 mixed:=by kernel_rfl,
 f5:=⟨Tryz.f223.name,by decide,Tryz.func223.trans (congrArg some (by kernel_rfl))⟩,
 f7:=⟨Tryz.f249.name,by decide,Tryz.func249.trans (congrArg some (by kernel_rfl))⟩,
 f8:=Tryz.func238.trans (congrArg some (by kernel_rfl)),
 f10:=⟨Tryz.f267.name,by decide,Tryz.func267.trans (congrArg some (by kernel_rfl))⟩,
 f11:=⟨Tryz.f268.name,by decide,Tryz.func268.trans (congrArg some (by kernel_rfl))⟩,
 f12:=⟨Tryz.f269.name,by decide,Tryz.func269.trans (congrArg some (by kernel_rfl))⟩,
 f13:=⟨Tryz.f270.name,by decide,Tryz.func270.trans (congrArg some (by kernel_rfl))⟩,
 f14:=⟨Tryz.f271.name,by decide,Tryz.func271.trans (congrArg some (by kernel_rfl))⟩,
 f15:=⟨Tryz.f272.name,by decide,Tryz.func272.trans (congrArg some (by kernel_rfl))⟩,
 f16:=⟨Tryz.f215.name,by decide,Tryz.func215.trans (congrArg some (by kernel_rfl))⟩,
 f17:=⟨Tryz.f273.name,by decide,Tryz.func273.trans (congrArg some (by kernel_rfl))⟩,
 f18:=⟨Tryz.f274.name,by decide,Tryz.func274.trans (congrArg some (by kernel_rfl))⟩,
 f19:=Tryz.func263.trans (congrArg some (by kernel_rfl)),
 f20:=Tryz.func264.trans (congrArg some (by kernel_rfl)),
 f30:=⟨Tryz.f282.name,by decide,Tryz.func282.trans (congrArg some (by kernel_rfl))⟩,
 f31:=Tryz.func278.trans (congrArg some (by kernel_rfl)),
 f32:=Tryz.func279.trans (congrArg some (by kernel_rfl)),
 f33:=⟨Tryz.f283.name,by decide,Tryz.func283.trans (congrArg some (by kernel_rfl))⟩,
 f34:=⟨Tryz.f284.name,by decide,Tryz.func284.trans (congrArg some (by kernel_rfl))⟩,
 f35:=⟨Tryz.f239.name,by decide,Tryz.func239.trans (congrArg some (by kernel_rfl))⟩,
 f40:=⟨Tryz.f286.name,by decide,Tryz.func286.trans (congrArg some (by kernel_rfl))⟩,
 t0:=Tryz.underlying0,
 a0:=Tryz.isAgg0,
 z0:=Tryz.sizeOf0,
 v0:=Tryz.zeroValue0,
 t3:=Tryz.underlying3,
 a3:=Tryz.isAgg3,
 z3:=Tryz.sizeOf3,
 v3:=Tryz.zeroValue3,
 t4:=Tryz.underlying4,
 a4:=Tryz.isAgg4,
 z4:=Tryz.sizeOf4,
 v4:=Tryz.zeroValue4,
 t5:=Tryz.underlying5,
 a5:=Tryz.isAgg5,
 z5:=Tryz.sizeOf5,
 v5:=Tryz.zeroValue5,
 t9:=Tryz.underlying9,
 a9:=Tryz.isAgg9,
 z9:=Tryz.sizeOf9,
 v9:=Tryz.zeroValue9,
 t22:=Tryz.underlying22,
 a22:=Tryz.isAgg22,
 z22:=Tryz.sizeOf22,
 v22:=Tryz.zeroValue22,
 t23:=Tryz.underlying22,
 a23:=Tryz.isAgg22,
 z23:=Tryz.sizeOf22,
 v23:=Tryz.zeroValue22,
 t25:=Tryz.underlying3,
 a25:=Tryz.isAgg3,
 z25:=Tryz.sizeOf3,
 v25:=Tryz.zeroValue3,
 t32:=Tryz.underlying261,
 a32:=Tryz.isAgg261,
 z32:=Tryz.sizeOf261,
 v32:=Tryz.zeroValue261,
 t35:=Tryz.underlying300,
 a35:=Tryz.isAgg300,
 z35:=Tryz.sizeOf300,
 v35:=Tryz.zeroValue300,
 t36:=Tryz.underlying301,
 a36:=Tryz.isAgg301,
 z36:=Tryz.sizeOf301,
 v36:=Tryz.zeroValue301,
 t41:=Tryz.underlying141,
 a41:=Tryz.isAgg141,
 z41:=Tryz.sizeOf141,
 v41:=Tryz.zeroValue141,
 t44:=Tryz.underlying290,
 a44:=Tryz.isAgg290,
 z44:=Tryz.sizeOf290,
 v44:=Tryz.zeroValue290,
 t46:=Tryz.underlying293,
 a46:=Tryz.isAgg293,
 z46:=Tryz.sizeOf293,
 v46:=Tryz.zeroValue293,
 t53:=Tryz.underlying316,
 a53:=Tryz.isAgg316,
 z53:=Tryz.sizeOf316,
 v53:=Tryz.zeroValue316,
 t57:=Tryz.underlying202,
 a57:=Tryz.isAgg202,
 z57:=Tryz.sizeOf202,
 v57:=Tryz.zeroValue202,
 t63:=Tryz.underlying324,
 a63:=Tryz.isAgg324,
 z63:=Tryz.sizeOf324,
 v63:=Tryz.zeroValue324,
 t64:=Tryz.underlying325,
 a64:=Tryz.isAgg325,
 z64:=Tryz.sizeOf325,
 v64:=Tryz.zeroValue325 }
theorem sortsL (m:Nat):AnyZI.SortsIn Tryz.prog sortedL_ren Fence.wide m :=
 ⟨fun blk off cap ss W hH hblk hsz => callsIn_wide.2 (AnyM.slices_Sort_int sortL blk off cap ss W hH hblk hsz),
  fun p cap W => callsIn_wide.2 (AnyM.slices_Sort_int_none sortL p cap W)⟩
end Go.Proofs.YtikogmpibkefdaaGreat

namespace Go.Proofs.YtikogmpibkefdaaGreat
open Go.RowKit Go.Maps Go.Sort Go.Shelf
theorem MapIs.keys {w:World} {M:Nat} {ds:Defs} {D:DataW Unit} (hown:w.ownsMap Tryz.prog 3 (plainElem Tryz.prog 3) M ds.length D) (hat:∀ id z,D.atKey (.int .i64 id) z=match ds.at id with | some t => .lit (.int .i64 t) | none => z) (hn:(ds.map (·.1)).Nodup) :
  (ds.map (·.1)).Perm (intKeys D):=by
 refine CollectedI.perm (left:=fun _ => false) ⟨hn,fun x => ?_⟩ hown lawInt Tryz.underlying3 (fun _ => rfl)
 rw [MapIs.has hat x,at_some]
 simp
theorem mapsKeys (mb:Option Nat) (W:World):Calls Tryz.prog 207 #[.map mb] W fun e w' => e=.returned (.func (.func 240) #[] #[.pointer (some ⟨W.heap.size,0,none⟩)]) ∧ w'=W.alloc (.cells #[.map mb] 136) :=
 (callsIn_wide (n:=5)).1 (AnyZI.keys_in keysL Fence.wide 5 trivial rfl mb W)
theorem sortedKeys' {H:Type} (b nn:Nat) (D0:DataW H) (R:Value → Option (DataW H × List MemPlace)) (w:World) (hown:w.ownsMap Tryz.prog 3 R b nn D0) (hmax:Maps.size D0 ≤ maxLen) (hbytes:Maps.size D0 * 8 ≤ 140737488355328) :
  Calls Tryz.prog 182 #[.func (.func 240) #[] #[.pointer (some ⟨w.heap.size,0,none⟩)]] (w.alloc (.cells #[.map (some b)] 136)) fun e w' => ∃ (v:Value) (ss:List Int),e=.returned v ∧ ss.Perm (intKeys D0) ∧
   w'.ownsRow (w.alloc (.cells #[.map (some b)] 136)).heap.size 3 1 v ss.length ((ss.mergeSort (fun x y => decide (x ≤ y))).map encZ) ∧ (v=.slice none 0 0 ↔ ss=[]) ∧ Below (w.alloc (.cells #[.map (some b)] 136)).heap.size (w.alloc (.cells #[.map (some b)] 136)) w':=by
 have hbl:=hown.lt
 have hseq:SeqGives Fence.wide 2 Tryz.prog 240 #[.pointer (some ⟨w.heap.size,0,none⟩)] encZ (fun ss => ss.Perm (intKeys D0)) (Maps.size D0) (w.alloc (.cells #[.map (some b)] 136)) :=
  AnyZI.keys_gives (ρ:=keysL_ren) { keysL with } Fence.wide _ trivial rfl (by omega) w.heap.size b nn D0 _ (by simp) (by simp) (by
   obtain ⟨es,clock,hb,Ft,hs,hD⟩:=hown
   exact ⟨es,clock,(Below.heap_alloc _ _ b hbl).trans hb,Ft,hs,hD⟩)
 exact (callsIn_wide (n:=5)).1 (AnyZI.sorted_in sortedL Fence.wide 5 trivial trivial trivial trivial rfl (by omega) (sortsL _) (enters_of Tryz.func223 (by kernel_rfl) rfl) 240 #[.pointer (some ⟨w.heap.size,0,none⟩)] trivial (enters_of Tryz.func240 (by kernel_rfl) rfl) _ _ hmax hbytes _ hseq)
theorem sortedKeys {H:Type} (b nn:Nat) (D0:DataW H) (R:Value → Option (DataW H × List MemPlace)) (w:World) (n:Nat) (hn:n=w.heap.size) (hown:w.ownsMap Tryz.prog 3 R b nn D0) (hmax:Maps.size D0 ≤ maxLen) (hbytes:Maps.size D0 * 8 ≤ 140737488355328) :
  Calls Tryz.prog 182 #[.func (.func 240) #[] #[.pointer (some ⟨n,0,none⟩)]] (w.alloc (.cells #[.map (some b)] 136)) fun e w' => ∃ (v:Value) (ss:List Int),e=.returned v ∧ ss.Perm (intKeys D0) ∧
   w'.ownsRow (n + 1) 3 1 v ss.length ((ss.mergeSort (fun x y => decide (x ≤ y))).map encZ) ∧ Below (n + 1) (w.alloc (.cells #[.map (some b)] 136)) w':=by
 subst hn
 refine (sortedKeys' b nn D0 R w hown hmax hbytes).mono ?_
 rintro e w' ⟨v,ss,rfl,hS,hrow,_,hb⟩
 exact ⟨v,ss,rfl,hS,by simpa using hrow,by simpa using hb⟩
def IdsPost (f:FuncM) (w:World) (e:Ending) (w':World):Prop :=
 ∃ v,e=.returned (.tuple #[v,.int .i64 (lookM f).1]) ∧ NewInts w.heap.size w' v (idsOut f) ∧ Below w.heap.size w w'
set_option maxHeartbeats 1000000 in
theorem ids_any (f:FuncM) (B:Nat) (pv bv:Value) (w:World) (hpv:Ints w B pv f.params) (hbv:BlocksR w B bv f.blocks) (hB:B ≤ w.heap.size) (hid:∀ u ∈ usesM f,I64 u.1) :
  Calls Tryz.prog 164 #[.agg #[pv,.int .i64 f.arrays,.int .i64 f.cells,bv]] w (IdsPost f w):=by
 have HP:=hideI hpv
 have HB:=hideI hbv
 have HID:=hideI hid
 obtain ⟨P,pc,rfl,_⟩:=hpv
 obtain ⟨A,c,rfl,_⟩:=hbv
 have hk:Keeps B w (w.alloc (.cells #[.slice P f.params.length pc,.int .i64 f.arrays,.int .i64 f.cells,.slice A f.blocks.length c] 25)):=(Keeps.refl w).alloc hB _
 have HL:=hideI (lookAt_any f B _ _ _ (HP.out.keeps hk) (HB.out.keeps hk) (by simp;omega) HID.out)
 clear hid hk
 go_enter Tryz.func164,Tryz.ntmps164
 go_wp2_with fail
 refine HL.out.mono ?_
 rintro e w1 ⟨hb1,h | h⟩
 ·obtain ⟨h0,M,hM,rfl,hm⟩:=h
  have HB1:=hideI (below_one (hb1.mono (by simp)))
  obtain ⟨D,hown,hD,hwd,hat⟩:=hm
  have hnd:=formed_nodup (look_formed h0)
  have hpm:=MapIs.keys hown hat hnd
  have hsl:=hown.size_le
  have hl:=look_len h0
  have HS:=hideI (sortedKeys M _ D _ _ (w1.heap.size + 1) (by simp) (hown.alloc (.cells #[.slice P f.params.length pc,.int .i64 f.arrays,.int .i64 f.cells,.slice A f.blocks.length c,.map (some M)] 138)) (by unfold maxLen;omega) (by omega))
  have HPM:=hideI hpm
  have HLEN:=hideI hl
  have H0:=hideI h0
  clear hb1 h0 hat hwd hpm hsl hl hnd hown
  go_wp2_with (first
   | (go_at_call 207;refine (mapsKeys _ _).mono ?_;rintro e w2 ⟨rfl,rfl⟩)
   | (go_at_call 182;refine HS.out.mono ?_;rintro e w3 ⟨v,ss,rfl,hS,hrow,hb3⟩;have HR:=hideI hrow;have HSS:=hideI hS;have HB3:=hideI hb3;clear hS hrow hb3))
  go_ret2
  have e1:idsOut f=ss.mergeSort fun x y => decide (x ≤ y):=by
   unfold idsOut idsS
   rw [if_pos H0.out]
   exact mergeSort_of_perm_i (HPM.out.trans HSS.out.symm)
  refine ⟨v,by rw [H0.out];rfl,?_,?_⟩
  ·rw [e1]
   have h1:=newInts_own HR.out (by rw [List.length_mergeSort,HSS.out.length_eq,← HPM.out.length_eq,List.length_map];have:=HLEN.out;omega)
   obtain ⟨A2,c2,hv,hm2,hx2⟩:=h1
   exact ⟨A2,c2,hv,hm2,fun hp => by obtain ⟨g,cs,q1,q2,q3⟩:=hx2 hp;exact ⟨g,cs,q1,by have:=HB1.out.size;omega,q3⟩⟩
  ·exact ((HB1.out.alloc HB1.out.size _).alloc (by have:=HB1.out.size;simp;omega) _).trans (HB3.out.mono (by have:=HB1.out.size;simp;omega))
 ·obtain ⟨h0,rfl⟩:=h
  have HB1:=hideI (below_one (hb1.mono (by simp)))
  have hb:((lookM f).1 != 0)=true:=by simpa using h0
  have H0:=hideI h0
  clear hb1 h0
  go_wp2
  go_ret2
  exact ⟨_,rfl,by unfold idsOut;rw [if_neg H0.out];exact NewInts.nil _ _,HB1.out.alloc HB1.out.size _⟩
end Go.Proofs.YtikogmpibkefdaaGreat
