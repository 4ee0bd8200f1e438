/- What InterpSplits rests on, part 22: StrictSplitM, ISplitM. -/
import Derived.Test.YtglbepdjahddmaaGreatPkInterpSplits21

namespace Go.Proofs.YtglbepdjahddmaaGreat
open Go.RowKit
theorem justB_iff {fr ps:List Int} (h1:fr.Nodup) (h2:ps.Nodup):justB fr ps=true ↔ ∀ x,x ∈ fr ↔ x ∈ ps:=by
 unfold justB
 rw [Bool.and_eq_true,beq_iff_eq,List.all_eq_true]
 constructor
 ·rintro ⟨hl,ha⟩ x
  refine ⟨fun hx => of_decide_eq_true (ha x hx),fun hx => ?_⟩
  by_cases hxa:x ∈ fr
  ·exact hxa
  ·have:=sub_len (x :: fr) ps (List.nodup_cons.2 ⟨hxa,h1⟩) (fun y hy => by rcases List.mem_cons.1 hy with rfl | hy;exact hx;exact of_decide_eq_true (ha y hy))
   rw [List.length_cons] at this
   omega
 ·intro h
  refine ⟨Nat.le_antisymm (sub_len _ _ h1 fun x hx => (h x).1 hx) (sub_len _ _ h2 fun x hx => (h x).2 hx),fun x hx => decide_eq_true ((h x).1 hx)⟩
theorem mem_predsI {bs:List BlockM} {c:Nat} {x:Int}:x ∈ predsI bs c ↔ ∃ b:Nat,x=b ∧ b < bs.length ∧ c ∈ succM bs b:=by
 unfold predsI predsTo
 rw [List.mem_map]
 constructor
 ·rintro ⟨b,hb,rfl⟩
  rw [List.mem_filter,List.mem_range] at hb
  exact ⟨b,rfl,hb.1,of_decide_eq_true hb.2⟩
 ·rintro ⟨b,rfl,h1,h2⟩
  exact ⟨b,List.mem_filter.2 ⟨List.mem_range.2 h1,decide_eq_true h2⟩,rfl⟩
theorem mem_set_idx {a y x:Int}:∀ {l:List Int},l.Nodup → a ∈ l → (x ∈ l.set (l.idxOf a) y ↔ x=y ∨ (x ∈ l ∧ x ≠ a))
 | [],_,h => by cases h
 | b :: l,hn,ha => by
  rw [List.nodup_cons] at hn
  by_cases e:b=a
  ·subst e
   rw [List.idxOf_cons_self,List.set_cons_zero,List.mem_cons,List.mem_cons]
   constructor
   ·rintro (h | h)
    ·exact .inl h
    ·exact .inr ⟨.inr h,fun k => hn.1 (k ▸ h)⟩
   ·rintro (h | ⟨h | h,k⟩)
    ·exact .inl h
    ·exact absurd h k
    ·exact .inr h
  ·have hal:a ∈ l:=(List.mem_cons.1 ha).resolve_left (fun k => e k.symm)
   have hix:(b :: l).idxOf a=l.idxOf a + 1:=by rw [List.idxOf_cons,beq_false_of_ne e];rfl
   rw [hix,List.set_cons_succ,List.mem_cons,List.mem_cons,mem_set_idx hn.2 hal]
   constructor
   ·rintro (h | h | ⟨h,k⟩)
    ·exact .inr ⟨.inl h,fun k => e (h ▸ k)⟩
    ·exact .inl h
    ·exact .inr ⟨.inr h,k⟩
   ·rintro (h | ⟨h | h,k⟩)
    ·exact .inr (.inl h)
    ·exact .inl h
    ·exact .inr (.inr ⟨h,k⟩)
theorem succ_lt {bs:List BlockM} {x y:Nat} (h:x ∈ succM bs y):y < bs.length:=by
 rcases Nat.lt_or_ge y bs.length with k | k
 ·exact k
 ·unfold succM at h
  rw [List.getElem?_eq_none k] at h
  cases h
theorem split_block {f:FuncM} {i j k:Nat} {b:BlockM} (hk:f.blocks[k]?=some b):∃ c,(splitM f i j).blocks[k]?=some c ∧ c.code=b.code ∧ c.term.op=b.term.op ∧ c.term.val=b.term.val ∧
  c.phis=(if k=(toOf f i j).toNat then b.phis.map (comeM i f.blocks.length (staysM f i j)) else b.phis):=by
 have hl:=(List.getElem?_eq_some_iff.1 hk).1
 rw [splitM_at,if_neg (by omega),hk]
 refine ⟨_,rfl,?_⟩
 simp only
 by_cases h1:k=i
 ·rw [if_pos h1]
  by_cases h2:k=(toOf f i j).toNat
  ·rw [if_pos h2,if_pos h2];exact ⟨rfl,rfl,rfl,rfl⟩
  ·rw [if_neg h2,if_neg h2];exact ⟨rfl,rfl,rfl,rfl⟩
 ·rw [if_neg h1]
  by_cases h2:k=(toOf f i j).toNat
  ·rw [if_pos h2,if_pos h2];exact ⟨rfl,rfl,rfl,rfl⟩
  ·rw [if_neg h2,if_neg h2];exact ⟨rfl,rfl,rfl,rfl⟩
theorem split_placed (f:FuncM) (i j:Nat):placedM (splitM f i j)=placedM f:=by
 have hb:∀ n,n ≤ f.blocks.length → placedBlocks (splitM f i j).blocks n=placedBlocks f.blocks n:=by
  intro n
  induction n with
  | zero => intro _;rfl
  | succ n ih =>
   intro hn
   have hq:f.blocks[n]?=some f.blocks[n]:=List.getElem?_eq_getElem (by omega)
   obtain ⟨c,hc,e1,_,_,e2⟩:=split_block (i:=i) (j:=j) hq
   rw [placedBlocks,placedBlocks,ih (by omega),hq,hc]
   simp only
   unfold placedBlock placedPhis
   rw [e1,e2]
   split
   ·rw [List.map_map]
    congr 2
    refine List.map_congr_left fun p _ => ?_
    simp only [Function.comp,(come_same _ _ _ p).1]
   ·rfl
 unfold placedM
 rw [splitM_len,placedBlocks,splitM_new,hb _ (Nat.le_refl _)]
 show _ ++ (_ ++ [])=_
 rw [List.append_nil]
 rfl
section
variable {f:FuncM} {i j:Nat} {q:BlockM} {o o':List Nat}
theorem split_to (hq:f.blocks[i]?=some q) (hj:j < q.term.to.length):q.term.to[j]?=some (toOf f i j):=by
 unfold toOf
 rw [hq]
 simp only
 rw [List.getElem?_eq_getElem hj]
 rfl
theorem split_t (h0:(lookM f).1=0) (hq:f.blocks[i]?=some q) (hj:j < q.term.to.length):((toOf f i j).toNat:Int)=toOf f i j ∧ (toOf f i j).toNat < f.blocks.length ∧ (succM f.blocks i)[j]?=some (toOf f i j).toNat:=by
 have h1:=look_ends h0 q (List.mem_of_getElem? hq) _ (List.mem_of_getElem? (split_to hq hj))
 refine ⟨by omega,by omega,?_⟩
 unfold succM
 rw [hq]
 simp only
 rw [List.getElem?_map,split_to hq hj]
 rfl
theorem split_succ_new:succM (splitM f i j).blocks f.blocks.length=[(toOf f i j).toNat]:=by
 unfold succM
 rw [splitM_new]
 rfl
theorem split_succ {b:Nat} (hb:b < f.blocks.length):succM (splitM f i j).blocks b=if b=i then (succM f.blocks b).set j f.blocks.length else succM f.blocks b:=by
 have hq:f.blocks[b]?=some f.blocks[b]:=List.getElem?_eq_getElem hb
 obtain ⟨q1,h1,h2⟩:=splitM_term (i:=i) (j:=j) hq
 unfold succM
 rw [h1,hq]
 simp only
 rw [h2]
 split
 ·rw [List.map_set];rfl
 ·rfl
theorem split_mem {b y:Nat} (hb:b < f.blocks.length) (h:y ∈ succM (splitM f i j).blocks b):(y=f.blocks.length ∧ b=i) ∨ y ∈ succM f.blocks b:=by
 rw [split_succ hb] at h
 split at h
 ·rename_i e
  rcases List.mem_or_eq_of_mem_set h with k | k
  ·exact .inr k
  ·exact .inl ⟨k,e⟩
 ·exact .inr h
theorem split_mem' (h0:(lookM f).1=0) (hq:f.blocks[i]?=some q) (hj:j < q.term.to.length) {b y:Nat} (h:y ∈ succM f.blocks b):y ∈ succM (splitM f i j).blocks b ∨ (b=i ∧ y=(toOf f i j).toNat):=by
 rw [split_succ (succ_lt h)]
 by_cases e:b=i
 ·rw [if_pos e]
  subst e
  obtain ⟨k,hk⟩:=List.getElem?_of_mem h
  by_cases e2:k=j
  ·subst e2
   rw [(split_t h0 hq hj).2.2] at hk
   exact .inr ⟨rfl,(Option.some.inj hk).symm⟩
  ·exact .inl (List.mem_of_getElem? (i:=k) (by rw [List.getElem?_set_ne (fun h => e2 h.symm)];exact hk))
 ·rw [if_neg e]
  exact .inl h
theorem split_mem_new (h0:(lookM f).1=0) (hq:f.blocks[i]?=some q) (hj:j < q.term.to.length):f.blocks.length ∈ succM (splitM f i j).blocks i:=by
 have hi:=(List.getElem?_eq_some_iff.1 hq).1
 rw [split_succ hi,if_pos rfl]
 have:=(List.getElem?_eq_some_iff.1 (split_t h0 hq hj).2.2).1
 exact List.mem_of_getElem? (i:=j) (List.getElem?_set_self this)
theorem reach_to (h0:(lookM f).1=0) (hq:f.blocks[i]?=some q) (hj:j < q.term.to.length) {gone:Int} (hg:(f.blocks.length:Int) ≠ gone) {x:Nat} (h:ReachW f.blocks gone x):ReachW (splitM f i j).blocks gone x:=by
 induction h with
 | start h => exact .start h
 | step _ hx hgx ih =>
  rcases split_mem' h0 hq hj hx with h1 | ⟨rfl,rfl⟩
  ·exact .step ih h1 hgx
  ·exact .step (.step ih (split_mem_new h0 hq hj) hg) (by rw [split_succ_new];exact List.mem_singleton.2 rfl) hgx
theorem reach_back (h0:(lookM f).1=0) (hq:f.blocks[i]?=some q) (hj:j < q.term.to.length) {gone:Int} {x:Nat} (h:ReachW (splitM f i j).blocks gone x):(x < f.blocks.length → ReachW f.blocks gone x) ∧ (x=f.blocks.length → ReachW f.blocks gone i):=by
 have ht:=split_t h0 hq hj
 have hn:=(look_some_block h0).1
 induction h with
 | start h => exact ⟨fun _ => .start h,fun e => by omega⟩
 | @step x y _ hx hgx ih =>
  have hy:=succ_lt hx
  rw [splitM_len] at hy
  rcases Nat.lt_or_ge y f.blocks.length with hy2 | hy2
  ·rcases split_mem hy2 hx with ⟨e,rfl⟩ | h1
   ·exact ⟨fun k => by omega,fun _ => ih.1 hy2⟩
   ·have:=(look_ends h0).succ y x h1
    exact ⟨fun _ => .step (ih.1 hy2) h1 hgx,fun k => by omega⟩
  ·have e:y=f.blocks.length:=by omega
   subst e
   rw [split_succ_new,List.mem_singleton] at hx
   subst hx
   exact ⟨fun _ => .step (ih.2 rfl) (List.mem_of_getElem? ht.2.2) hgx,fun k => by omega⟩
theorem split_come (h:StrictM f o) (hq:f.blocks[i]?=some q) (hj:j < q.term.to.length) (ho':OrderIs (splitM f i j).blocks o'):∀ b,b < (splitM f i j).blocks.length → b ∈ o':=by
 intro b hb
 rw [splitM_len] at hb
 have hold:∀ b,b < f.blocks.length → ReachW (splitM f i j).blocks (-1) b:=fun b hb => reach_to h.look hq hj (by omega) ((h.order.reach b).1 (h.come b hb))
 rcases Nat.lt_or_ge b f.blocks.length with k | k
 ·exact (ho'.reach b).2 (hold b k)
 ·have e:b=f.blocks.length:=by omega
  subst e
  exact (ho'.reach _).2 (.step (hold i (List.getElem?_eq_some_iff.1 hq).1) (split_mem_new h.look hq hj) (by omega))
theorem over_split (h:StrictM f o) (hq:f.blocks[i]?=some q) (hj:j < q.term.to.length) (ho':OrderIs (splitM f i j).blocks o') {a b:Nat} (ha:a < f.blocks.length) (hb:b < f.blocks.length) (k:OverP f.blocks o a b):OverP (splitM f i j).blocks o' a b :=
 ⟨split_come h hq hj ho' a (by rw [splitM_len];omega),split_come h hq hj ho' b (by rw [splitM_len];omega),fun r => k.2.2 ((reach_back h.look hq hj r).1 hb)⟩
theorem over_new (h:StrictM f o) (hq:f.blocks[i]?=some q) (hj:j < q.term.to.length) (ho':OrderIs (splitM f i j).blocks o') {a:Nat} (ha:a < f.blocks.length) (k:OverP f.blocks o a i):OverP (splitM f i j).blocks o' a f.blocks.length :=
 ⟨split_come h hq hj ho' a (by rw [splitM_len];omega),split_come h hq hj ho' _ (by rw [splitM_len];omega),fun r => k.2.2 ((reach_back h.look hq hj r).2 rfl)⟩
theorem ok_split (h:StrictM f o) (hq:f.blocks[i]?=some q) (hj:j < q.term.to.length) (ho':OrderIs (splitM f i j).blocks o') {id:Int} {ub:Nat} {ua:Int} (hub:ub < f.blocks.length) (k:okP f o id ub ua):okP (splitM f i j) o' id ub ua:=by
 intro m hm
 rw [split_placed] at hm
 have hml:=made_lt (look_some_block h.look).1 (last_made hm)
 rcases k m hm with k | ⟨k1,k2⟩
 ·exact .inl k
 ·exact .inr ⟨k1,over_split h hq hj ho' hml hub k2⟩
theorem ok_new (h:StrictM f o) (hq:f.blocks[i]?=some q) (hj:j < q.term.to.length) (ho':OrderIs (splitM f i j).blocks o') {id:Int} {ua va:Int} (k:okP f o id i ua):okP (splitM f i j) o' id f.blocks.length va:=by
 intro m hm
 rw [split_placed] at hm
 have hml:=made_lt (look_some_block h.look).1 (last_made hm)
 refine .inr ⟨by omega,over_new h hq hj ho' hml ?_⟩
 rcases k m hm with ⟨k,_⟩ | ⟨_,k⟩
 ·rw [k]
  exact OverP.refl (h.come i (List.getElem?_eq_some_iff.1 hq).1)
 ·exact k
theorem split_uses_strict (h:StrictM f o) (hq:f.blocks[i]?=some q) (hj:j < q.term.to.length) (ho':OrderIs (splitM f i j).blocks o'):∀ b,b < (splitM f i j).blocks.length → usesPR (splitM f i j) o' b:=by
 intro k hk c hc
 rw [splitM_len] at hk
 rcases Nat.lt_or_ge k f.blocks.length with hkl | hkl
 ·have hb:f.blocks[k]?=some f.blocks[k]:=List.getElem?_eq_getElem hkl
  obtain ⟨c',hc',e1,e2,e3,e4⟩:=split_block (i:=i) (j:=j) hb
  rw [hc] at hc'
  cases hc'
  obtain ⟨u1,u2,u3⟩:=h.uses k hkl _ hb
  have hmb:=List.mem_of_getElem? hb
  have old:∀ p ∈ f.blocks[k].phis,∀ (m:Nat) (id:Int) (fr:Nat) (q':BlockM),p.vals[m]?=some id → p.fr[m]?=some (fr:Int) → (splitM f i j).blocks[fr]?=some q' → okP (splitM f i j) o' id fr q'.code.length:=by
   intro p hp m id fr q' hv hf hq'
   have hfr:=(look_once h.look hmb hp).2 _ (List.mem_of_getElem? hf)
   have hb2:f.blocks[fr]?=some (f.blocks[fr]'(by omega)):=List.getElem?_eq_getElem _
   obtain ⟨c2,hc2,d1,_⟩:=split_block (i:=i) (j:=j) hb2
   rw [hq'] at hc2
   cases hc2
   rw [d1]
   exact ok_split h hq hj ho' (by omega) (u1 p hp m id fr _ hv hf hb2)
  have new:∀ p ∈ f.blocks[k].phis,∀ (m:Nat) (id va:Int),p.vals[m]?=some id → p.fr[m]?=some (i:Int) → okP (splitM f i j) o' id f.blocks.length va:=fun p hp m id va hv hf => ok_new h hq hj ho' (u1 p hp m id i q hv hf hq)
  refine ⟨?_,fun m x hx id hid => ?_,fun ht => ?_⟩
  ·rw [e4]
   split
   ·intro p' hp' m id fr q' hv hf hq'
    obtain ⟨p,hp,rfl⟩:=List.mem_map.1 hp'
    unfold comeM at hv hf
    split at hv
    ·rename_i hin
     rw [if_pos hin] at hf
     have hlen:=look_phi h.look _ hmb p hp
     have hidx:=List.idxOf_lt_length_of_mem hin
     have hfi:p.fr[p.fr.idxOf (i:Int)]?=some (i:Int):=by rw [List.getElem?_eq_getElem hidx,List.getElem_idxOf]
     split at hv
     ·rename_i hst
      rw [if_pos hst] at hf
      simp only at hv hf
      rcases Nat.lt_or_ge m p.fr.length with hm | hm
      ·rw [List.getElem?_append_left (by omega)] at hv
       rw [List.getElem?_append_left hm] at hf
       exact old p hp m id fr q' hv hf hq'
      ·rw [List.getElem?_append_right (by omega)] at hv
       rw [List.getElem?_append_right hm] at hf
       have e:m - p.fr.length=0:=by have:=(List.getElem?_eq_some_iff.1 hf).1;simp at this;omega
       rw [show m - p.vals.length=0 by omega] at hv
       rw [e] at hf
       simp only [List.getElem?_cons_zero,Option.some.injEq] at hv hf
       have hfr:fr=f.blocks.length:=by omega
       subst hfr
       refine new p hp (p.fr.idxOf (i:Int)) id _ ?_ hfi
       rw [← hv,List.getElem?_eq_getElem (by omega)]
       rfl
     ·rename_i hst
      rw [if_neg hst] at hf
      simp only at hv hf
      by_cases hm:p.fr.idxOf (i:Int)=m
      ·rw [← hm,List.getElem?_set_self hidx] at hf
       have hfr:fr=f.blocks.length:=by have:=Option.some.inj hf;omega
       subst hfr
       exact new p hp m id _ hv (by rw [← hm];exact hfi)
      ·rw [List.getElem?_set_ne hm] at hf
       exact old p hp m id fr q' hv hf hq'
    ·rename_i hin
     rw [if_neg hin] at hf
     exact old p hp m id fr q' hv hf hq'
   ·exact old
  ·rw [e1] at hx
   exact ok_split h hq hj ho' hkl (u2 m x hx id hid)
  ·rw [e2] at ht
   rw [e3,e1]
   exact ok_split h hq hj ho' hkl (u3 ht)
 ·have e:k=f.blocks.length:=by omega
  subst e
  rw [splitM_new] at hc
  cases hc
  refine ⟨fun p hp => (by cases hp),fun m x hx => (by simp at hx),fun ht => ?_⟩
  simp only at ht
  omega
theorem split_phis_strict (h:StrictM f o) (hq:f.blocks[i]?=some q) (hj:j < q.term.to.length) (hg:(lookM (splitM f i j)).1=0):∀ b,b < (splitM f i j).blocks.length → phisR (splitM f i j) b:=by
 intro k hk c hc
 have hmc:=List.mem_of_getElem? hc
 rw [splitM_len] at hk
 have ht:=split_t h.look hq hj
 have hil:=(List.getElem?_eq_some_iff.1 hq).1
 unfold phisFitB
 rw [List.all_eq_true]
 intro p hp
 rw [justB_iff (look_once hg hmc hp).1 (predsI_nodup _ _)]
 intro x
 rcases Nat.lt_or_ge k f.blocks.length with hkl | hkl
 ·have hb:f.blocks[k]?=some f.blocks[k]:=List.getElem?_eq_getElem hkl
  have hmb:=List.mem_of_getElem? hb
  obtain ⟨c',hc',e1,e2,e3,e4⟩:=split_block (i:=i) (j:=j) hb
  rw [hc] at hc'
  cases hc'
  have hf:∀ p ∈ f.blocks[k].phis,∀ x,x ∈ p.fr ↔ x ∈ predsI f.blocks k:=by
   intro p hp
   have:=h.phis k hkl _ hb
   unfold phisFitB at this
   rw [List.all_eq_true] at this
   exact (justB_iff (look_once h.look hmb hp).1 (predsI_nodup _ _)).1 (this p hp)
  rw [e4] at hp
  rw [mem_predsI,splitM_len]
  by_cases hkt:k=(toOf f i j).toNat
  ·rw [if_pos hkt] at hp
   obtain ⟨p0,hp0,rfl⟩:=List.mem_map.1 hp
   have hpf:=hf p0 hp0
   have hin:(i:Int) ∈ p0.fr:=(hpf _).2 (mem_predsI.2 ⟨i,rfl,hil,by rw [hkt];exact List.mem_of_getElem? ht.2.2⟩)
   have hnd:=(look_once h.look hmb hp0).1
   have hst:staysM f i j=true ↔ k ∈ succM (splitM f i j).blocks i:=by
    obtain ⟨q1,hq1,ht1⟩:=splitM_term (i:=i) (j:=j) hq
    rw [if_pos rfl] at ht1
    rw [← mem_to (look_ends hg) hq1,ht1,hkt,ht.1]
    unfold staysM
    rw [hq]
    exact decide_eq_true_iff
   have hother:∀ b,b < f.blocks.length → b ≠ i → (k ∈ succM (splitM f i j).blocks b ↔ k ∈ succM f.blocks b):=fun b hb hbi => by rw [split_succ hb,if_neg hbi]
   have hnew:k ∈ succM (splitM f i j).blocks f.blocks.length:=by rw [split_succ_new,hkt];exact List.mem_singleton.2 rfl
   have hki:k ∈ succM f.blocks i:=by rw [hkt];exact List.mem_of_getElem? ht.2.2
   unfold comeM
   rw [if_pos hin]
   by_cases hs:staysM f i j=true
   ·rw [if_pos hs]
    simp only
    rw [List.mem_append,hpf,List.mem_singleton,mem_predsI]
    constructor
    ·rintro (⟨b,rfl,hbl,hbk⟩ | rfl)
     ·refine ⟨b,rfl,by omega,?_⟩
      by_cases hbi:b=i
      ·rw [hbi];exact hst.1 hs
      ·exact (hother b hbl hbi).2 hbk
     ·exact ⟨f.blocks.length,rfl,by omega,hnew⟩
    ·rintro ⟨b,rfl,hbl,hbk⟩
     rcases Nat.lt_or_ge b f.blocks.length with h1 | h1
     ·refine .inl ⟨b,rfl,h1,?_⟩
      by_cases hbi:b=i
      ·rw [hbi];exact hki
      ·exact (hother b h1 hbi).1 hbk
     ·exact .inr (by omega)
   ·rw [if_neg hs]
    simp only
    rw [mem_set_idx hnd hin,hpf,mem_predsI]
    constructor
    ·rintro (rfl | ⟨⟨b,rfl,hbl,hbk⟩,hne⟩)
     ·exact ⟨f.blocks.length,rfl,by omega,hnew⟩
     ·exact ⟨b,rfl,by omega,(hother b hbl (fun e => hne (by rw [e]))).2 hbk⟩
    ·rintro ⟨b,rfl,hbl,hbk⟩
     rcases Nat.lt_or_ge b f.blocks.length with h1 | h1
     ·have hbi:b ≠ i:=fun e => hs (hst.2 (e ▸ hbk))
      exact .inr ⟨⟨b,rfl,h1,(hother b h1 hbi).1 hbk⟩,fun e => hbi (by omega)⟩
     ·exact .inl (by omega)
  ·rw [if_neg hkt] at hp
   rw [hf p hp,mem_predsI]
   constructor
   ·rintro ⟨b,rfl,hbl,hbk⟩
    refine ⟨b,rfl,by omega,?_⟩
    rcases split_mem' h.look hq hj hbk with h1 | ⟨_,h1⟩
    ·exact h1
    ·exact absurd h1 hkt
   ·rintro ⟨b,rfl,hbl,hbk⟩
    rcases Nat.lt_or_ge b f.blocks.length with h1 | h1
    ·rcases split_mem h1 hbk with ⟨h2,_⟩ | h2
     ·omega
     ·exact ⟨b,rfl,h1,h2⟩
    ·have e:b=f.blocks.length:=by omega
     subst e
     rw [split_succ_new,List.mem_singleton] at hbk
     exact absurd hbk hkt
 ·have e:k=f.blocks.length:=by omega
  subst e
  rw [splitM_new] at hc
  cases hc
  cases hp
theorem StrictM.split (h:StrictM f o) (hq:f.blocks[i]?=some q) (hj:j < q.term.to.length) (hg:(lookM (splitM f i j)).1=0) (ho':OrderIs (splitM f i j).blocks o'):StrictM (splitM f i j) o' :=
 ⟨hg,ho',split_come h hq hj ho',split_phis_strict h hq hj hg,split_uses_strict h hq hj ho'⟩
end
end Go.Proofs.YtglbepdjahddmaaGreat

namespace Go.Proofs.YtglbepdjahddmaaGreat
open Go.RowKit Go.Maps
structure SameS (s t:StM):Prop where
 val:t.val=s.val
 cells:t.cells=s.cells
 arrs:t.arrs=s.arrs
 out:t.out=s.out
 checks:t.checks=s.checks
 low:s.steps ≤ t.steps
 high:t.steps ≤ 2 * s.steps
structure SameC (c d:CfgM):Prop where
 s:SameS c.s d.s
 b:d.b=c.b
 k:d.k=c.k
 fin:d.fin=c.fin
theorem SameS.at {s t:StM} (h:SameS s t):t={ s with steps:=t.steps,vis:=t.vis }:=by
 obtain ⟨v,c,a,o,n,k,vi⟩:=t
 obtain ⟨h1,h2,h3,h4,h5,_,_⟩:=h
 simp only at h1 h2 h3 h4 h5
 subst h1 h2 h3 h4 h5
 rfl
theorem look_other (op:Int) (s:StM) (n:Nat) (v:List Int):lookS op { s with steps:=n,vis:=v }={ lookS op s with steps:=n,vis:=v }:=by
 unfold lookS
 split <;> rfl
theorem made_other (x:InstrM) (a:List Int) (s:StM) (n:Nat) (v:List Int):madeM x a { s with steps:=n,vis:=v }=({ (madeM x a s).1 with steps:=n,vis:=v },(madeM x a s).2):=by
 unfold madeM
 simp only [look_other]
 show _=_
 have e1:∀ m,arrM { s with steps:=n,vis:=v } m=arrM s m:=fun _ => rfl
 have e2:∀ m i,inArr { s with steps:=n,vis:=v } m i=inArr s m i:=fun _ _ => rfl
 simp only [e1,e2]
 repeat' split
 all_goals rfl
theorem done_other (x:InstrM) (s:StM) (n:Nat) (v:List Int):doM x { s with steps:=n,vis:=v }=({ (doM x s).1 with steps:=n,vis:=v },(doM x s).2):=by
 have hm:=made_other x (x.args.map s.val) s n v
 unfold doM
 simp only [look_other,hm]
 have e1:∀ m,arrM { s with steps:=n,vis:=v } m=arrM s m:=fun _ => rfl
 have e2:∀ m i,inArr { s with steps:=n,vis:=v } m i=inArr s m i:=fun _ _ => rfl
 simp only [e1,e2]
 split
 ·split <;> rfl
 ·split
  ·split <;> rfl
  ·split
   ·rfl
   ·cases h:madeM x (x.args.map s.val) s with
    | mk s1 r => cases r <;> rfl
theorem SameS.tick {s t:StM} (h:SameS s t):SameS (tickM s) (tickM t):=by
 refine ⟨h.val,h.cells,h.arrs,h.out,h.checks,?_,?_⟩
 ·have:=h.low
  show s.steps + 1 ≤ t.steps + 1
  omega
 ·have:=h.high
  show t.steps + 1 ≤ 2 * (s.steps + 1)
  omega
theorem SameS.done {s t:StM} (h:SameS s t) (x:InstrM):SameS (doM x s).1 (doM x t).1 ∧ (doM x t).2=(doM x s).2:=by
 have e:=done_other x s t.steps t.vis
 rw [← h.at] at e
 have h1:=doM_steps x s
 rw [e]
 refine ⟨⟨rfl,rfl,rfl,rfl,rfl,?_,?_⟩,rfl⟩
 ·rw [h1];exact h.low
 ·rw [h1];exact h.high
theorem idx_append {l:List Int} {x y:Int} (h:x ∈ l):(l ++ [y]).idxOf x=l.idxOf x:=by rw [List.idxOf_append,if_pos h]
theorem idx_append_new {l:List Int} {y:Int} (h:y ∉ l):(l ++ [y]).idxOf y=l.length:=by
 rw [List.idxOf_append,if_neg h,List.idxOf_cons_self]
 omega
theorem idx_set_new:∀ {l:List Int} {x y:Int},x ∈ l → y ∉ l → (l.set (l.idxOf x) y).idxOf y=l.idxOf x
 | a :: l,x,y,hx,hy => by
  by_cases e:a=x
  ·subst e
   rw [List.idxOf_cons_self,List.set_cons_zero,List.idxOf_cons_self]
  ·have hay:a ≠ y:=fun h => hy (by rw [h];exact List.mem_cons_self ..)
   have hxl:x ∈ l:=(List.mem_cons.1 hx).resolve_left fun h => e h.symm
   have e1:(a :: l).idxOf x=l.idxOf x + 1:=by rw [List.idxOf_cons,beq_false_of_ne e];rfl
   rw [e1,List.set_cons_succ,List.idxOf_cons,beq_false_of_ne hay,idx_set_new hxl fun h => hy (List.mem_cons_of_mem _ h)]
   rfl
theorem idx_set_other:∀ {l:List Int} {x y z:Int},x ∈ l → z ∈ l → z ≠ x → z ≠ y → (l.set (l.idxOf x) y).idxOf z=l.idxOf z
 | a :: l,x,y,z,hx,hz,h1,h2 => by
  by_cases e:a=x
  ·subst e
   rw [List.idxOf_cons_self,List.set_cons_zero,List.idxOf_cons,List.idxOf_cons,beq_false_of_ne (fun h => h2 h.symm),beq_false_of_ne (fun h => h1 h.symm)]
  ·have hxl:x ∈ l:=(List.mem_cons.1 hx).resolve_left fun h => e h.symm
   have e1:(a :: l).idxOf x=l.idxOf x + 1:=by rw [List.idxOf_cons,beq_false_of_ne e];rfl
   rw [e1,List.set_cons_succ]
   by_cases e2:a=z
   ·subst e2
    rw [List.idxOf_cons_self,List.idxOf_cons_self]
   ·have hzl:z ∈ l:=(List.mem_cons.1 hz).resolve_left fun h => e2 h.symm
    rw [List.idxOf_cons,List.idxOf_cons,beq_false_of_ne e2,idx_set_other hxl hzl h1 h2]
theorem gets_mid {g:Int → Int} {p:PhiM} {i n:Int} {st:Bool} (hi:i ∈ p.fr) (hn:n ∉ p.fr) (hl:p.vals.length=p.fr.length):phiGets g n (comeM i n st p)=phiGets g i p:=by
 unfold phiGets comeM
 rw [if_pos hi]
 have hlt:p.fr.idxOf i < p.fr.length:=List.idxOf_lt_length_of_mem hi
 cases st with
 | true =>
  simp only [if_true]
  rw [idx_append_new hn,List.getD_eq_getElem?_getD,List.getElem?_append_right (by omega),hl,Nat.sub_self,List.getElem?_cons_zero,List.getD_eq_getElem?_getD]
  rfl
 | false =>
  simp only [Bool.false_eq_true,if_false]
  rw [idx_set_new hi hn]
theorem gets_other {g:Int → Int} {p:PhiM} {i n x:Int} {st:Bool} (hx:x ∈ p.fr) (hn:n ∉ p.fr) (hl:p.vals.length=p.fr.length) (h:x ≠ i ∨ st=true):phiGets g x (comeM i n st p)=phiGets g x p:=by
 unfold phiGets comeM
 have hlt:p.fr.idxOf x < p.fr.length:=List.idxOf_lt_length_of_mem hx
 split
 ·rename_i hi
  cases st with
  | true =>
   simp only [if_true]
   rw [idx_append hx,List.getD_eq_getElem?_getD,List.getElem?_append_left (by omega),List.getD_eq_getElem?_getD]
  | false =>
   simp only [Bool.false_eq_true,if_false]
   rw [idx_set_other hi hx (by rcases h with h | h;exact h;cases h) (fun e => hn (by rw [← e];exact hx))]
 ·rfl
theorem come_id (i n:Int) (st:Bool) (p:PhiM):(comeM i n st p).id=p.id:=by
 unfold comeM
 split
 ·split <;> rfl
 ·rfl
theorem same_arrive {f g:FuncM} {x y:Nat} {fr fr2:Int} {s t:StM} (h:SameS s t) (hp:(blkM g y).phis.map (fun p => (p.id,phiGets s.val fr2 p))=(blkM f x).phis.map fun p => (p.id,phiGets s.val fr p)):SameS (arriveM f x fr s) (arriveM g y fr2 t):=by
 unfold arriveM
 refine ⟨?_,h.cells,h.arrs,h.out,h.checks,h.low,h.high⟩
 show setAll t.val _=setAll s.val _
 rw [h.val,hp]
section
variable {f:FuncM} {i j:Nat} {q:BlockM} {nv:Nat}
theorem split_code {b:Nat} (hb:b < f.blocks.length):(blkM (splitM f i j) b).code=(blkM f b).code ∧ (blkM (splitM f i j) b).term.op=(blkM f b).term.op ∧ (blkM (splitM f i j) b).term.val=(blkM f b).term.val ∧ (blkM (splitM f i j) b).term.n=(blkM f b).term.n ∧
  (blkM (splitM f i j) b).term.to=(if b=i then (blkM f b).term.to.set j (f.blocks.length:Int) else (blkM f b).term.to) ∧
  (blkM (splitM f i j) b).phis=(if b=(toOf f i j).toNat then (blkM f b).phis.map (comeM i f.blocks.length (staysM f i j)) else (blkM f b).phis):=by
 have hk:=blk_some hb
 have hg:(splitM f i j).blocks[b]?=some (blkM (splitM f i j) b):=blk_some (by rw [splitM_len];omega)
 rw [splitM_at,if_neg (by omega),hk] at hg
 simp only [Option.map_some,Option.some.injEq] at hg
 rw [← hg]
 split <;> split <;> exact ⟨rfl,rfl,rfl,rfl,rfl,rfl⟩
theorem split_last:blkM (splitM f i j) f.blocks.length=⟨[],[],⟨1,-1,[toOf f i j],0⟩⟩:=by
 have hg:(splitM f i j).blocks[f.blocks.length]?=some (blkM (splitM f i j) f.blocks.length):=blk_some (by rw [splitM_len];omega)
 rw [splitM_new] at hg
 exact (Option.some.inj hg).symm
theorem to_of (hq:f.blocks[i]?=some q):toOf f i j=q.term.to[j]?.getD 0:=by
 unfold toOf
 rw [hq]
theorem step_same (hok:FOk f nv) (hall:∀ b ∈ f.blocks,∀ p ∈ b.phis,phiB f p=true) (hq:f.blocks[i]?=some q) (hj:j < q.term.to.length) {c d:CfgM} (hcd:SameC c d) (hb:c.b < f.blocks.length) (hfin:c.fin=none) :
  SameC (goM f c) (goM (splitM f i j) d) ∨ SameC (goM f c) (goM (splitM f i j) (goM (splitM f i j) d)):=by
 obtain ⟨sc,sd1,sd2,sd3⟩:=hcd
 obtain ⟨t,db,dk,dfin⟩:=d
 simp only at sc sd1 sd2 sd3
 subst sd1 sd2 sd3
 obtain ⟨e1,e2,e3,e4,e5,_⟩:=split_code (f:=f) (i:=i) (j:=j) hb
 have hbq:=blk_some hb
 unfold goM
 rw [hfin]
 simp only [e1]
 split
 ·rename_i x hx
  obtain ⟨h1,h2⟩:=sc.tick.done x
  exact .inl ⟨h1,rfl,rfl,h2⟩
 ·have st:=sc.tick
  have hT:=(hok.term c.b _ hbq).op
  unfold leaveM
  simp only [e2,e3,e4]
  split
  ·exact .inl ⟨st,rfl,rfl,by show some _=some _;rw [st.val]⟩
  ·split
   ·exact .inl ⟨st,rfl,rfl,rfl⟩
   ·rename_i h3 h4
    obtain ⟨e,he,hel⟩:∃ e:Nat,(∀ (ts:List Int),nextM ⟨(blkM f c.b).term.op,(blkM f c.b).term.val,ts,(blkM f c.b).term.n⟩ (tickM c.s)=ts.getD e 0) ∧ e < (blkM f c.b).term.to.length:=by
     by_cases h2:(blkM f c.b).term.op=2 ∧ (tickM c.s).val (blkM f c.b).term.val=0
     ·refine ⟨1,fun ts => by unfold nextM;rw [if_pos h2],?_⟩
      rcases hT with ⟨a,l⟩ | ⟨a,l⟩ | ⟨a,_⟩ | ⟨a,_⟩ <;> omega
     ·refine ⟨0,fun ts => by unfold nextM;rw [if_neg h2],?_⟩
      rcases hT with ⟨a,l⟩ | ⟨a,l⟩ | ⟨a,_⟩ | ⟨a,_⟩ <;> omega
    have hn1:nextM (blkM f c.b).term (tickM c.s)=(blkM f c.b).term.to.getD e 0:=he _
    have hn2:nextM (blkM (splitM f i j) c.b).term (tickM t)=(blkM (splitM f i j) c.b).term.to.getD e 0:=by
     have:nextM (blkM (splitM f i j) c.b).term (tickM t)=nextM ⟨(blkM f c.b).term.op,(blkM f c.b).term.val,(blkM (splitM f i j) c.b).term.to,(blkM f c.b).term.n⟩ (tickM c.s):=by
      unfold nextM
      rw [e2,e3,st.val]
     rw [this]
     exact he _
    have hmem:(blkM f c.b).term.to.getD e 0 ∈ (blkM f c.b).term.to:=by
     rw [List.getD_eq_getElem?_getD,List.getElem?_eq_getElem hel]
     exact List.getElem_mem _
    obtain ⟨x,hx,hxl,hxp⟩:=hok.goes c.b _ hbq _ hmem
    rw [hn1,hn2,hx,e5,Int.toNat_natCast]
    have hxq:=blk_some hxl
    have hphi:∀ p ∈ (blkM f x).phis,(c.b:Int) ∈ p.fr ∧ (f.blocks.length:Int) ∉ p.fr ∧ p.vals.length=p.fr.length:=fun p hp => by
     have hpo:=hxp _ hxq p hp
     have hpb:=hall _ (List.mem_of_getElem? hxq) p hp
     unfold phiB at hpb
     simp only [Bool.and_eq_true] at hpb
     have hon:=(once_nodup _ _ hpb.2.2).2.1
     exact ⟨hpo.mem,fun hm => by have:=hon _ hm;omega,hpo.len⟩
    obtain ⟨_,_,_,_,_,f6⟩:=split_code (f:=f) (i:=i) (j:=j) hxl
    have straight:(x=(toOf f i j).toNat → c.b ≠ i ∨ staysM f i j=true) → SameS (arriveM f x c.b (tickM c.s)) (arriveM (splitM f i j) x c.b (tickM t)):=fun hst => by
     refine same_arrive st ?_
     rw [f6]
     split
     ·rename_i hxt
      rw [List.map_map]
      refine List.map_congr_left fun p hp => ?_
      obtain ⟨p1,p2,p3⟩:=hphi p hp
      simp only [Function.comp]
      rw [come_id,gets_other p1 p2 p3]
      rcases hst hxt with h | h
      ·exact .inl fun h2 => h (by omega)
      ·exact .inr h
     ·rfl
    by_cases hbi:c.b=i
    ·rw [if_pos hbi]
     have hbqi:blkM f c.b=q:=by
      have h:=hbq
      rw [hbi,hq] at h
      rw [hbi]
      exact (Option.some.inj h).symm
     by_cases hej:e=j
     ·-- through the block in the middle
      refine .inr ?_
      have hset:((blkM f c.b).term.to.set j (f.blocks.length:Int)).getD e 0=f.blocks.length:=by
       rw [hej,List.getD_eq_getElem?_getD,List.getElem?_set_self (by rw [← hej];exact hel)]
       rfl
      rw [hset,Int.toNat_natCast]
      have hto:toOf f i j=x:=by
       rw [to_of hq,← hbqi,← hej,← List.getD_eq_getElem?_getD]
       exact hx
      have hl1:leaveM (splitM f i j) f.blocks.length 0 (tickM (arriveM (splitM f i j) f.blocks.length c.b (tickM t)))=enterM (splitM f i j) x f.blocks.length (tickM (arriveM (splitM f i j) f.blocks.length c.b (tickM t))):=by
       unfold leaveM
       rw [split_last]
       simp only
       rw [if_neg (by decide),if_neg (by decide)]
       unfold nextM
       simp only
       rw [if_neg (fun h => absurd h.1 (by decide))]
       show enterM _ (toOf f i j).toNat _ _=_
       rw [hto,Int.toNat_natCast]
      have hgo:goM (splitM f i j) (enterM (splitM f i j) f.blocks.length c.b (tickM t))=enterM (splitM f i j) x f.blocks.length (tickM (arriveM (splitM f i j) f.blocks.length c.b (tickM t))):=by
       rw [← hl1]
       unfold goM enterM
       simp only
       rw [split_last]
       rfl
      show SameC _ (goM (splitM f i j) (enterM (splitM f i j) f.blocks.length c.b (tickM t)))
      rw [hgo]
      have hs2:SameS (tickM c.s) (tickM (arriveM (splitM f i j) f.blocks.length c.b (tickM t))):=by
       refine ⟨?_,st.cells,st.arrs,st.out,st.checks,?_,?_⟩
       ·show setAll (tickM t).val _=_
        rw [split_last]
        exact st.val
       ·have:=sc.low
        show c.s.steps + 1 ≤ t.steps + 1 + 1
        omega
       ·have:=sc.high
        show t.steps + 1 + 1 ≤ 2 * (c.s.steps + 1)
        omega
      refine ⟨same_arrive hs2 ?_,rfl,rfl,rfl⟩
      rw [f6,if_pos (by rw [hto,Int.toNat_natCast]),List.map_map]
      refine List.map_congr_left fun p hp => ?_
      obtain ⟨p1,p2,p3⟩:=hphi p hp
      simp only [Function.comp]
      rw [come_id,← hbi,gets_mid p1 p2 p3]
     ·refine .inl ?_
      have hset:((blkM f c.b).term.to.set j (f.blocks.length:Int)).getD e 0=x:=by
       rw [List.getD_eq_getElem?_getD,List.getElem?_set_ne (Ne.symm hej),← List.getD_eq_getElem?_getD]
       exact hx
      rw [hset,Int.toNat_natCast]
      refine ⟨straight fun hxt => .inr ?_,rfl,rfl,rfl⟩
      unfold staysM
      rw [hq]
      refine decide_eq_true ?_
      have h0:0 ≤ toOf f i j:=by
       rw [to_of hq]
       have hm:q.term.to[j]?.getD 0 ∈ q.term.to:=by
        rw [List.getElem?_eq_getElem hj]
        exact List.getElem_mem _
       obtain ⟨y,hy,_⟩:=hok.goes i _ hq _ hm
       omega
      have hxe:toOf f i j=(x:Int):=by omega
      rw [hxe]
      have hg:(q.term.to.set j (f.blocks.length:Int))[e]?=some (x:Int):=by
       rw [List.getElem?_set_ne (Ne.symm hej)]
       rw [hbqi] at hx hel
       rw [List.getElem?_eq_getElem hel]
       rw [List.getD_eq_getElem?_getD,List.getElem?_eq_getElem hel] at hx
       exact congrArg some hx
      exact List.mem_of_getElem? hg
    ·rw [if_neg hbi,hx,Int.toNat_natCast]
     exact .inl ⟨straight fun _ => .inl hbi,rfl,rfl,rfl⟩
theorem start_same (hok:FOk f nv) (I:InM):SameC (startM f I) (startM (splitM f i j) I):=by
 have h0:=hok.first.1
 have hq0:=blk_some h0
 have hp0:(blkM f 0).phis=[]:=hok.first.2 _ hq0
 have hg0:(blkM (splitM f i j) 0).phis=[]:=by
  rw [(split_code (f:=f) (i:=i) (j:=j) h0).2.2.2.2.2,hp0]
  split <;> rfl
 unfold startM enterM
 refine ⟨?_,rfl,rfl,rfl⟩
 have hs:SameS (startS f I) (startS (splitM f i j) I):=⟨rfl,rfl,rfl,rfl,rfl,Nat.le_refl _,Nat.zero_le _⟩
 refine same_arrive hs ?_
 rw [hp0,hg0]
theorem runs_same (hok:FOk f nv) (hall:∀ b ∈ f.blocks,∀ p ∈ b.phis,phiB f p=true) (hpos:∀ q ∈ f.blocks,∀ x ∈ q.term.to,1 ≤ x) (hq:f.blocks[i]?=some q) (hj:j < q.term.to.length) (I:InM) :
  ∀ m,m ≤ 200000 → ∃ k,k ≤ 2 * m ∧ SameC (goN f m (startM f I)) (goN (splitM f i j) k (startM (splitM f i j) I))
 | 0,_ => ⟨0,Nat.le_refl _,start_same hok I⟩
 | m + 1,hm => by
  obtain ⟨k,hk,hs⟩:=runs_same hok hall hpos hq hj I m (by omega)
  have hcur:=(vis_goN (I:=I) hok hpos m (by omega)).1.cur
  cases hf:(goN f m (startM f I)).fin with
  | some e =>
   refine ⟨k,by omega,?_⟩
   rw [show goN f (m + 1) (startM f I)=goM f (goN f m (startM f I)) from rfl,goM_fin (by rw [hf];simp)]
   exact hs
  | none =>
   rcases step_same hok hall hq hj hs hcur hf with h | h
   ·exact ⟨k + 1,by omega,h⟩
   ·exact ⟨k + 2,by omega,h⟩
theorem ends_same (hok:FOk f nv) (hall:∀ b ∈ f.blocks,∀ p ∈ b.phis,phiB f p=true) (hpos:∀ q ∈ f.blocks,∀ x ∈ q.term.to,1 ≤ x) (hq:f.blocks[i]?=some q) (hj:j < q.term.to.length) {I:InM} {a b:Nat} (ha:a ≤ 200000) (hab:2 * a ≤ b)
  {s t:StM} {en em:EndM} (h:EndIs f I a s en) (k:EndIs (splitM f i j) I b t em) (hne:en.1 ≠ 3):SameS s t ∧ en=em:=by
 obtain ⟨rfl,rfl⟩:=h
 obtain ⟨rfl,rfl⟩:=k
 obtain ⟨m,hm,hs⟩:=runs_same hok hall hpos hq hj I a ha
 cases hf:(goN f a (startM f I)).fin with
 | none => exact absurd (by unfold finM;rw [hf];rfl) hne
 | some e =>
  have hd:(goN (splitM f i j) m (startM (splitM f i j) I)).fin ≠ none:=by rw [hs.fin,hf];simp
  rw [goN_ended (Nat.le_trans hm hab) hd]
  refine ⟨hs.s,?_⟩
  unfold finM
  rw [hs.fin]
end
end Go.Proofs.YtglbepdjahddmaaGreat
