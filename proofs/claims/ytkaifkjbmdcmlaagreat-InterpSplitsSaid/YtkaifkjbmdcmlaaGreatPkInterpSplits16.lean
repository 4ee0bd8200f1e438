/- What InterpSplits rests on, part 16: TwoRuns, TwoSteps, TwoConst, RefUses5, RefStrictM. -/
import Derived.Test.YtkaifkjbmdcmlaaGreatPkInterpSplits15

namespace Go.Proofs.YtkaifkjbmdcmlaaGreat
open Go.RowKit Go.Maps
structure TwoP where
 c:Bool → Nat
 s:Bool → Nat
 a:Bool → Nat
 t:Bool → Nat
 p:Bool → Nat
 known:List (Nat × Nat)
def TwoP.okB (q:TwoP):Bool :=
 decide ([q.c false,q.c true,q.a false,q.a true,q.p false,q.p true].Nodup) && decide ([q.s false,q.s true,q.t false,q.t true].Nodup) &&
 q.known.all fun x => q.known.all (fun y => x.1 != y.1 || x == y) && !([q.c false,q.c true,q.a false,q.a true,q.p false,q.p true].contains x.1) && !([q.s false,q.s true,q.t false,q.t true].contains x.2)
structure TwoP.Ok (q:TwoP):Prop where
 cc:q.c false ≠ q.c true
 aa:q.a false ≠ q.a true
 pp:q.p false ≠ q.p true
 ca:∀ j k,q.c j ≠ q.a k
 cp:∀ j k,q.c j ≠ q.p k
 ap:∀ j k,q.a j ≠ q.p k
 ss:q.s false ≠ q.s true
 tt:q.t false ≠ q.t true
 st:∀ j k,q.s j ≠ q.t k
 one:∀ x ∈ q.known,∀ y ∈ q.known,x.1=y.1 → x=y
 kc:∀ x ∈ q.known,∀ j,x.1 ≠ q.c j ∧ x.1 ≠ q.a j ∧ x.1 ≠ q.p j ∧ x.2 ≠ q.s j ∧ x.2 ≠ q.t j
theorem TwoP.ok_of {q:TwoP} (h:q.okB=true):q.Ok:=by
 unfold TwoP.okB at h
 simp only [Bool.and_eq_true,decide_eq_true_eq,List.all_eq_true,Bool.not_eq_true',Bool.or_eq_true,bne_iff_ne,beq_iff_eq,List.nodup_cons,List.mem_cons,List.not_mem_nil,or_false,not_or,List.contains_eq_mem,decide_eq_false_iff_not] at h
 obtain ⟨⟨⟨⟨c1,c2,c3,c4,c5⟩,⟨d2,d3,d4,d5⟩,⟨e3,e4,e5⟩,⟨f4,f5⟩,g5,_⟩,⟨s1,s2,s3⟩,⟨r2,r3⟩,q3,_⟩,hk⟩:=h
 refine ⟨c1,e3,g5,fun j k => ?_,fun j k => ?_,fun j k => ?_,s1,q3,fun j k => ?_,fun x hx y hy he => ?_,fun x hx j => ?_⟩
 ·cases j <;> cases k <;> assumption
 ·cases j <;> cases k <;> assumption
 ·cases j <;> cases k <;> assumption
 ·cases j <;> cases k <;> assumption
 ·obtain ⟨⟨h1,_⟩,_⟩:=hk x hx
  rcases h1 y hy with h1 | h1
  ·exact absurd he h1
  ·exact h1
 ·obtain ⟨⟨_,h2⟩,h3⟩:=hk x hx
  obtain ⟨a1,a2,a3,a4,a5,a6⟩:=h2
  obtain ⟨b1,b2,b3,b4⟩:=h3
  cases j <;> exact ⟨by assumption,by assumption,by assumption,by assumption,by assumption⟩
structure TwoF (q:TwoP) (kv:Nat → Value) (RR:Bool → StM → EndM → Prop) (W2:World) (L:Nat → Bool) (e:Nat → Value) (w:World):Prop where
 below:Below W2.heap.size W2 w
 known:∀ x ∈ q.known,L x.1=true → e x.2=kv x.2
 run:∀ j,L (q.c j)=true → ∃ s en lo hi,RR j s en ∧ TraceIn lo hi w (e (q.s j)) s en ∧ hi ≤ w.heap.size ∧ ∀ k g,L (q.a k)=true → e (q.t k)=.pointer (some ⟨g,0,none⟩) → g < lo ∨ hi ≤ g
 made:∀ k,L (q.a k)=true → ∃ g x0 x1 x2 x3 x4 x5 x6 x7,e (q.t k)=.pointer (some ⟨g,0,none⟩) ∧ W2.heap.size ≤ g ∧ g < w.heap.size ∧ w.heap[g]?=some (.cells #[x0,x1,x2,x3,x4,x5,x6,x7] 34 (0,0))
 ne:L (q.a false)=true → L (q.a true)=true → e (q.t false) ≠ e (q.t true)
 put:∀ k,L (q.p k)=true → L (q.a k)=true ∧ L (q.c k)=true ∧ ∃ g cs,e (q.t k)=.pointer (some ⟨g,0,none⟩) ∧ e (q.s k)=.agg cs ∧ w.heap[g]?=some (.cells cs 34 (0,0))
section
variable {q:TwoP} {kv:Nat → Value} {RR:Bool → StM → EndM → Prop} {W2:World} {L:Nat → Bool} {e:Nat → Value} {w w':World}
theorem TwoF.start (W2:World):TwoF q kv RR W2 (fun _ => false) e W2.drew :=
 ⟨(Below.refl _ _).drew,(fun _ _ h => absurd h (by decide)),(fun _ h => absurd h (by decide)),(fun _ h => absurd h (by decide)),(fun h => absurd h (by decide)),(fun _ h => absurd h (by decide))⟩
theorem updB_of {L:Nat → Bool} {i x:Nat} (h:updB L i x=true) (hn:i ≠ x):L x=true:=by
 unfold updB at h
 rwa [if_neg hn] at h
theorem updE_other (e:Nat → Value) {d x:Nat} (h:d ≠ x) (v:Value):updE e (some d) v x=e x:=by
 unfold updE
 rw [if_neg (by simpa using h)]
theorem updE_same (e:Nat → Value) (d:Nat) (v:Value):updE e (some d) v d=v:=by
 unfold updE
 rw [if_pos rfl]
theorem TwoF.grow (h:TwoF q kv RR W2 L e w) (hb:Below w.heap.size w w'):TwoF q kv RR W2 L e w':=by
 refine ⟨h.below.trans (hb.mono h.below.size),h.known,fun j hj => ?_,fun k hk => ?_,h.ne,fun k hk => ?_⟩
 ·obtain ⟨s,en,lo,hi,h1,h2,h3,h4⟩:=h.run j hj
  exact ⟨s,en,lo,hi,h1,h2.kept fun b _ hb2 => hb.block b (by omega),Nat.le_trans h3 hb.size,h4⟩
 ·obtain ⟨g,x0,x1,x2,x3,x4,x5,x6,x7,h1,h2,h3,h4⟩:=h.made k hk
  exact ⟨g,x0,x1,x2,x3,x4,x5,x6,x7,h1,h2,Nat.lt_of_lt_of_le h3 hb.size,(hb.block g h3).trans h4⟩
 ·obtain ⟨h1,h2,g,cs,h3,h4,h5⟩:=h.put k hk
  obtain ⟨g2,_,_,_,_,_,_,_,_,e2,_,h6,_⟩:=h.made k h1
  rw [h3] at e2
  have:g=g2:=by simpa using e2
  subst this
  exact ⟨h1,h2,g,cs,h3,h4,(hb.block g h6).trans h5⟩
theorem TwoF.knows (h:TwoF q kv RR W2 L e w) (ok:q.Ok) {i d:Nat} (hm:(i,d) ∈ q.known):TwoF q kv RR W2 (updB L i) (updE e (some d) (kv d)) w:=by
 have hk:=ok.kc _ hm
 refine ⟨h.below,fun x hx hL => ?_,fun j hj => ?_,fun k hk2 => ?_,fun h1 h2 => ?_,fun k hk2 => ?_⟩
 ·by_cases hd:d=x.2
  ·rw [hd,updE_same]
  ·rw [updE_other _ hd]
   refine h.known x hx (updB_of hL fun hi => hd ?_)
   rw [← ok.one _ hm _ hx hi]
 ·rw [updE_other _ (hk j).2.2.2.1]
  obtain ⟨s,en,lo,hi,h1,h2,h3,h4⟩:=h.run j (updB_of hj (hk j).1)
  refine ⟨s,en,lo,hi,h1,h2,h3,fun k g hL he => h4 k g (updB_of hL (hk k).2.1) ?_⟩
  rwa [updE_other _ (hk k).2.2.2.2] at he
 ·rw [updE_other _ (hk k).2.2.2.2]
  exact h.made k (updB_of hk2 (hk k).2.1)
 ·rw [updE_other _ (hk false).2.2.2.2,updE_other _ (hk true).2.2.2.2]
  exact h.ne (updB_of h1 (hk false).2.1) (updB_of h2 (hk true).2.1)
 ·rw [updE_other _ (hk k).2.2.2.1,updE_other _ (hk k).2.2.2.2]
  obtain ⟨h1,h2,r⟩:=h.put k (updB_of hk2 (hk k).2.2.1)
  refine ⟨?_,?_,r⟩
  ·unfold updB;split <;> simp_all
  ·unfold updB;split <;> simp_all
theorem updB_up {L:Nat → Bool} {i x:Nat} (h:L x=true):updB L i x=true:=by
 unfold updB
 split
 ·rfl
 ·exact h
theorem TwoF.ran (h:TwoF q kv RR W2 L e w) (ok:q.Ok) {j:Bool} (hj:L (q.c j)=false) {v:Value} {s:StM} {en:EndM} (hr:RR j s en) (ht:TraceAt w.heap.size w' v s en) (hb:Below w.heap.size w w'):TwoF q kv RR W2 (updB L (q.c j)) (updE e (some (q.s j)) v) w':=by
 have h1:=h.grow hb
 have hcc:∀ k,k ≠ j → q.c j ≠ q.c k:=fun k hk => by
  have:=ok.cc
  cases j <;> cases k <;> simp_all
  exact fun h => this h.symm
 have hss:∀ k,k ≠ j → q.s j ≠ q.s k:=fun k hk => by
  have:=ok.ss
  cases j <;> cases k <;> simp_all
  exact fun h => this h.symm
 have hL:∀ {k},updB L (q.c j) (q.a k)=true → L (q.a k)=true:=fun {k} hL => updB_of hL (ok.ca j k)
 have hE:∀ k,updE e (some (q.s j)) v (q.t k)=e (q.t k):=fun k => updE_other _ (ok.st j k) _
 refine ⟨h1.below,fun x hx hLx => ?_,fun k hk => ?_,fun k hk => ?_,fun h2 h3 => ?_,fun k hk => ?_⟩
 ·have:=ok.kc x hx j
  rw [updE_other _ (Ne.symm this.2.2.2.1)]
  exact h1.known x hx (updB_of hLx (Ne.symm this.1))
 ·by_cases e1:k=j
  ·subst e1
   rw [updE_same]
   refine ⟨s,en,w.heap.size,w'.heap.size,hr,ht.within,Nat.le_refl _,fun k2 g hLa he => .inl ?_⟩
   rw [hE] at he
   obtain ⟨g2,_,_,_,_,_,_,_,_,e2,_,h6,_⟩:=h.made k2 (hL hLa)
   rw [he] at e2
   have:g=g2:=by simpa using e2
   omega
  ·rw [updE_other _ (hss k e1)]
   obtain ⟨s2,en2,lo,hi,a1,a2,a3,a4⟩:=h1.run k (updB_of hk (hcc k e1))
   exact ⟨s2,en2,lo,hi,a1,a2,a3,fun k2 g hLa he => a4 k2 g (hL hLa) (by rwa [hE] at he)⟩
 ·rw [hE]
  exact h1.made k (hL hk)
 ·rw [hE,hE]
  exact h1.ne (hL h2) (hL h3)
 ·obtain ⟨a1,a2,g,cs,a3,a4,a5⟩:=h1.put k (updB_of hk (ok.cp j k))
  have hkj:k ≠ j:=fun h => by rw [h,hj] at a2;cases a2
  exact ⟨updB_up a1,updB_up a2,g,cs,by rw [hE];exact a3,by rw [updE_other _ (hss k hkj)];exact a4,a5⟩
theorem TwoF.makes (h:TwoF q kv RR W2 L e w) (ok:q.Ok) {j:Bool} (hj:L (q.a j)=false) (x0 x1 x2 x3 x4 x5 x6 x7:Value):TwoF q kv RR W2 (updB L (q.a j)) (updE e (some (q.t j)) (.pointer (some ⟨w.heap.size,0,none⟩))) (w.alloc (.cells #[x0,x1,x2,x3,x4,x5,x6,x7] 34)):=by
 have h1:=h.grow ((Below.refl w.heap.size w).alloc (Nat.le_refl _) (.cells #[x0,x1,x2,x3,x4,x5,x6,x7] 34))
 have haa:∀ k,k ≠ j → q.a j ≠ q.a k:=fun k hk => by
  have:=ok.aa
  cases j <;> cases k <;> simp_all
  exact fun h => this h.symm
 have htt:∀ k,k ≠ j → q.t j ≠ q.t k:=fun k hk => by
  have:=ok.tt
  cases j <;> cases k <;> simp_all
  exact fun h => this h.symm
 have hS:∀ k v,updE e (some (q.t j)) v (q.s k)=e (q.s k):=fun k v => updE_other _ (Ne.symm (ok.st k j)) _
 have hold:∀ k,L (q.a k)=true → e (q.t k) ≠ .pointer (some ⟨w.heap.size,0,none⟩):=fun k hk he => by
  obtain ⟨g2,_,_,_,_,_,_,_,_,e2,_,h6,_⟩:=h.made k hk
  rw [he] at e2
  have:w.heap.size=g2:=by injection e2 with e2;injection e2 with e2;injection e2
  omega
 refine ⟨h1.below,fun x hx hLx => ?_,fun k hk => ?_,fun k hk => ?_,fun h2 h3 => ?_,fun k hk => ?_⟩
 ·have:=ok.kc x hx j
  rw [updE_other _ (Ne.symm this.2.2.2.2)]
  exact h1.known x hx (updB_of hLx (Ne.symm this.2.1))
 ·rw [hS]
  have hLc:=updB_of hk (Ne.symm (ok.ca k j))
  obtain ⟨s2,en2,lo,hi,a1,a2,a3,a4⟩:=h1.run k hLc
  obtain ⟨_,_,_,hi0,_,_,b3,_⟩:=h.run k hLc
  obtain ⟨s3,en3,lo3,hi3,c1,c2,c3,c4⟩:=h.run k hLc
  refine ⟨s3,en3,lo3,hi3,c1,c2.kept fun b _ hb2 => Below.heap_alloc _ _ _ (by omega),by simp;omega,fun k2 g hLa he => ?_⟩
  by_cases e1:k2=j
  ·subst e1
   rw [updE_same] at he
   have:w.heap.size=g:=by simpa using he
   exact .inr (by omega)
  ·rw [updE_other _ (htt k2 e1)] at he
   exact c4 k2 g (updB_of hLa (haa k2 e1)) he
 ·by_cases e1:k=j
  ·subst e1
   rw [updE_same]
   exact ⟨w.heap.size,x0,x1,x2,x3,x4,x5,x6,x7,rfl,h.below.size,by simp,heap_alloc_new w _⟩
  ·rw [updE_other _ (htt k e1)]
   exact h1.made k (updB_of hk (haa k e1))
 ·cases j with
  | false =>
   rw [updE_same,updE_other _ (htt true (by decide))]
   exact fun he => hold true (updB_of h3 (haa true (by decide))) he.symm
  | true =>
   rw [updE_same,updE_other _ (htt false (by decide))]
   exact hold false (updB_of h2 (haa false (by decide)))
 ·obtain ⟨a1,a2,g,cs,a3,a4,a5⟩:=h1.put k (updB_of hk (ok.ap j k))
  have hkj:k ≠ j:=fun h => by rw [h,hj] at a1;cases a1
  exact ⟨updB_up a1,updB_up a2,g,cs,by rw [updE_other _ (htt k hkj)];exact a3,by rw [hS];exact a4,a5⟩
theorem TwoF.stores (h:TwoF q kv RR W2 L e w) (ok:q.Ok) {j:Bool} (hj:L (q.p j)=false) (ha:L (q.a j)=true) (hc:L (q.c j)=true) {g:Nat} {cs:Array Value} {v:Value} (hg:e (q.t j)=.pointer (some ⟨g,0,none⟩)) (hcs:e (q.s j)=.agg cs)
  (hW:w'.heap[g]?=some (.cells cs 34 (0,0))) (hW8:∃ x0 x1 x2 x3 x4 x5 x6 x7,cs=#[x0,x1,x2,x3,x4,x5,x6,x7]) (ho:∀ b,b ≠ g → w'.heap[b]?=w.heap[b]?) (hb:Below W2.heap.size w w') (hsz:w'.heap.size=w.heap.size):TwoF q kv RR W2 (updB L (q.p j)) (updE e none v) w':=by
 have hE:updE e none v=e:=funext fun x => by simp [updE]
 have hpp:∀ k,k ≠ j → q.p j ≠ q.p k:=fun k hk => by
  have:=ok.pp
  cases j <;> cases k <;> simp_all
  exact fun h => this h.symm
 have hLa:∀ {k},updB L (q.p j) (q.a k)=true → L (q.a k)=true:=fun {k} hL => updB_of hL (Ne.symm (ok.ap k j))
 have hLc:∀ {k},updB L (q.p j) (q.c k)=true → L (q.c k)=true:=fun {k} hL => updB_of hL (Ne.symm (ok.cp k j))
 have hother:∀ k g2,k ≠ j → L (q.a k)=true → e (q.t k)=.pointer (some ⟨g2,0,none⟩) → g2 ≠ g:=fun k g2 hk hLk he hgg => by
  subst hgg
  cases j <;> cases k <;> simp_all
  ·exact h.ne ha hLk (by rw [he,hg])
  ·exact h.ne hLk ha (by rw [he,hg])
 rw [hE]
 refine ⟨h.below.trans hb,fun x hx hLx => ?_,fun k hk => ?_,fun k hk => ?_,fun h2 h3 => h.ne (hLa h2) (hLa h3),fun k hk => ?_⟩
 ·have:=ok.kc x hx j
  exact h.known x hx (updB_of hLx (Ne.symm this.2.2.1))
 ·obtain ⟨s2,en2,lo,hi,a1,a2,a3,a4⟩:=h.run k (hLc hk)
  have hout:=a4 j g ha hg
  exact ⟨s2,en2,lo,hi,a1,a2.kept fun b h1 h2 => ho b (by omega),by omega,fun k2 g2 hL2 he => a4 k2 g2 (hLa hL2) he⟩
 ·obtain ⟨g2,y0,y1,y2,y3,y4,y5,y6,y7,b1,b2,b3,b4⟩:=h.made k (hLa hk)
  by_cases e1:k=j
  ·subst e1
   rw [hg] at b1
   have:g=g2:=by simpa using b1
   subst this
   obtain ⟨x0,x1,x2,x3,x4,x5,x6,x7,rfl⟩:=hW8
   exact ⟨g,x0,x1,x2,x3,x4,x5,x6,x7,hg,b2,by omega,hW⟩
  ·exact ⟨g2,y0,y1,y2,y3,y4,y5,y6,y7,b1,b2,by omega,(ho g2 (hother k g2 e1 (hLa hk) b1)).trans b4⟩
 ·by_cases e1:k=j
  ·subst e1
   exact ⟨updB_up ha,updB_up hc,g,cs,hg,hcs,hW⟩
  ·obtain ⟨a1,a2,g2,cs2,a3,a4,a5⟩:=h.put k (updB_of hk (hpp k e1))
   exact ⟨updB_up a1,updB_up a2,g2,cs2,a3,a4,(ho g2 (hother k g2 e1 a1 a3)).trans a5⟩
theorem TwoF.done (h:TwoF q kv RR W2 L e w) {j:Bool} (hc:L (q.c j)=true) (ha:L (q.a j)=true) (hp:L (q.p j)=true) :
  ∃ g s en lo cs,e (q.t j)=.pointer (some ⟨g,0,none⟩) ∧ W2.heap.size ≤ g ∧ g < w.heap.size ∧ RR j s en ∧ TraceAt lo w (.agg cs) s en ∧ w.heap[g]?=some (.cells cs 34 (0,0)):=by
 obtain ⟨s,en,lo,hi,h1,h2,_⟩:=h.run j hc
 obtain ⟨g,_,_,_,_,_,_,_,_,e1,h3,h4,_⟩:=h.made j ha
 obtain ⟨_,_,g2,cs,e2,e3,h5⟩:=h.put j hp
 rw [e1] at e2
 have:g=g2:=by injection e2 with e2;injection e2 with e2;injection e2
 subst this
 rw [e3] at h2
 exact ⟨g,s,en,lo,cs,e1,h3,h4,h1,h2.at,h5⟩
end
end Go.Proofs.YtkaifkjbmdcmlaaGreat

namespace Go.Proofs.YtkaifkjbmdcmlaaGreat
open Go.RowKit Go.Maps
theorem load_func (ev:Operand → Value) (w:World) (b t d:Nat) (p0 p1 p2 p3:Value) (pos:String) (af:Array Edge) (g) (ty:TypeId) (ha:ev (.tmp t)=.pointer (some ⟨b,0,none⟩)) (hw:∀ o,w.cell? ⟨b,o,none⟩=(#[p0,p1,p2,p3]:Array Value)[o]?) :
   (execOp ev { dst:=some d,op:=.load 25 (.tmp t),type:=ty,pos:=pos,after:=af,guard:=g }).run Tryz.prog w=.ok (.value (.agg #[p0,p1,p2,p3])) w:=by
 have h0:=hw 0
 have h1:=hw 1
 have h2:=hw 2
 have h3:=hw 3
 clear hw
 go_simp
theorem alloc_trace (ev:Operand → Value) (w:World) (d:Nat) (pos:String) (af:Array Edge) (g) (ty:TypeId) :
   ∃ x0 x1 x2 x3 x4 x5 x6 x7,(execOp ev { dst:=some d,op:=.alloc 34,type:=ty,pos:=pos,after:=af,guard:=g }).run Tryz.prog w=.ok (.value (.pointer (some ⟨w.heap.size,0,none⟩))) (w.alloc (.cells #[x0,x1,x2,x3,x4,x5,x6,x7] 34)):=by
 refine ⟨.int .i64 0,.int .i64 0,.int .i64 0,.slice none 0 0,.slice none 0 0,.int .i64 0,.int .i64 0,.slice none 0 0,?_⟩
 go_simp
theorem store_trace (ev:Operand → Value) (w:World) (t s b:Nat) (x0 x1 x2 x3 x4 x5 x6 x7 v0 v1 v2 v3 v4 v5 v6 v7:Value) (n0 n1 n2 n5 n6:Int) (A3 A4 A7:Option Addr) (l3 c3 l4 c4 l7 c7:Nat) (k0:v0=.int .i64 n0) (k1:v1=.int .i64 n1) (k2:v2=.int .i64 n2) (k3:v3=.slice A3 l3 c3) (k4:v4=.slice A4 l4 c4) (k5:v5=.int .i64 n5) (k6:v6=.int .i64 n6) (k7:v7=.slice A7 l7 c7) (pos:String) (af:Array Edge) (g) (ty:TypeId) (h1:ev (.tmp t)=.pointer (some ⟨b,0,none⟩)) (h2:ev (.tmp s)=.agg #[v0,v1,v2,v3,v4,v5,v6,v7]) (hw:w.heap[b]?=some (.cells #[x0,x1,x2,x3,x4,x5,x6,x7] 34 (0,0))) :
   (execOp ev { dst:=none,op:=.store 34 (.tmp t) (.tmp s),type:=ty,pos:=pos,after:=af,guard:=g }).run Tryz.prog w=.ok .skip ((((((((w.setCell ⟨b,0,none⟩ v0).setCell ⟨b,1,none⟩ v1).setCell ⟨b,2,none⟩ v2).setCell ⟨b,3,none⟩ v3).setCell ⟨b,4,none⟩ v4).setCell ⟨b,5,none⟩ v5).setCell ⟨b,6,none⟩ v6).setCell ⟨b,7,none⟩ v7):=by
 have hx:=row_cells hw rfl
 have hz:=fun o => frozen_of_row w b o _ _ hw
 have y0:w.cell? ⟨b,0,none⟩=some x0:=hx 0
 have y1:w.cell? ⟨b,1,none⟩=some x1:=hx 1
 have y2:w.cell? ⟨b,2,none⟩=some x2:=hx 2
 have y3:w.cell? ⟨b,3,none⟩=some x3:=hx 3
 have y4:w.cell? ⟨b,4,none⟩=some x4:=hx 4
 have y5:w.cell? ⟨b,5,none⟩=some x5:=hx 5
 have y6:w.cell? ⟨b,6,none⟩=some x6:=hx 6
 have y7:w.cell? ⟨b,7,none⟩=some x7:=hx 7
 have z0:=hz 0
 have z1:=hz 1
 have z2:=hz 2
 have z3:=hz 3
 have z4:=hz 4
 have z5:=hz 5
 have z6:=hz 6
 have z7:=hz 7
 clear hx hz
 subst k0 k1 k2 k3 k4 k5 k6 k7
 go_simp
theorem load_input (ev:Operand → Value) (w:World) (b t d:Nat) (p0 p1:Value) (pos:String) (af:Array Edge) (g) (ty:TypeId) (ha:ev (.tmp t)=.pointer (some ⟨b,0,none⟩)) (hw:∀ o,w.cell? ⟨b,o,none⟩=(#[p0,p1]:Array Value)[o]?) :
   (execOp ev { dst:=some d,op:=.load 28 (.tmp t),type:=ty,pos:=pos,after:=af,guard:=g }).run Tryz.prog w=.ok (.value (.agg #[p0,p1])) w:=by
 have h0:=hw 0
 have h1:=hw 1
 clear hw
 go_simp
def maskB (n:Nat) (L:Nat → Bool):Nat → Bool:=fun i => L i && decide (i < n)
theorem mask_of {n i:Nat} {L:Nat → Bool} (h:L i=true) (hi:i < n):maskB n L i=true:=by
 unfold maskB
 rw [h,decide_eq_true hi]
 rfl
theorem mask_upd {n i:Nat} (hi:i < n) (L:Nat → Bool):maskB n (updB L i)=updB (maskB n L) i:=by
 funext x
 unfold maskB updB
 by_cases h:i=x
 ·subst h
  rw [if_pos rfl,if_pos rfl,decide_eq_true hi]
  rfl
 ·rw [if_neg h,if_neg h]
theorem mask_congr {n:Nat} {L L':Nat → Bool} (h:∀ i,i < n → L i=L' i):maskB n L=maskB n L':=by
 funext x
 unfold maskB
 by_cases hx:x < n
 ·rw [h x hx]
 ·rw [decide_eq_false hx,Bool.and_false,Bool.and_false]
def awaitsB (af:List Edge) (ks:List Nat) (n:Nat):Bool:=ks.all fun k => decide (k < n) && af.any fun x => Region.binds .any x && x.on == k
theorem awaits_spec {af:List Edge} {ks:List Nat} {n:Nat} (h:awaitsB af ks n=true):∀ k ∈ ks,k < n ∧ ∃ x ∈ af,Region.binds .any x=true ∧ x.on=k:=by
 intro k hk
 unfold awaitsB at h
 rw [List.all_eq_true] at h
 have:=h k hk
 rw [Bool.and_eq_true,decide_eq_true_iff,List.any_eq_true] at this
 obtain ⟨h1,x,hx,h2⟩:=this
 rw [Bool.and_eq_true,beq_iff_eq] at h2
 exact ⟨h1,x,hx,h2⟩
section
variable {q:TwoP} {kv:Nat → Value} {RR:Bool → StM → EndM → Prop} {W2:World} {Q:Exit → Act → World → Prop} {ops:Array Oper} {a0:Act} {ds:List Nat} {n:Nat}
def RunsF (n:Nat) (q:TwoP) (kv:Nat → Value) (RR:Bool → StM → EndM → Prop) (W2:World):(Nat → Bool) → (Nat → Value) → World → Prop:=fun L e w => TwoF q kv RR W2 (maskB n L) e w
set_option maxRecDepth 100000 in
theorem step_known (ok:q.Ok) {i d:Nat} {o:Oper} (hi:i < n) (hm:(i,d) ∈ q.known) (hd:o.dst=some d) (hg:o.guard=none)
  (hrun:∀ (a:Act) (w:World),Below W2.heap.size W2 w → (∀ x,x ∉ ds → a.eval (.tmp x)=a0.eval (.tmp x)) → (execOp a.eval o).run Tryz.prog w=.ok (.value (kv d)) w):StepOk Tryz.prog ops Q a0 ds (RunsF n q kv RR W2) i o:=by
 intro L e w a _ _ hF _ hout K hK
 rw [if_pos (by unfold Region.wanted;rw [hg])]
 unfold Oper.wp
 rw [hrun a w hF.below hout]
 show K (a.put o.dst (kv d)) w
 refine hK _ _ ?_
 unfold RunsF
 rw [mask_upd hi,hd]
 exact hF.knows ok hm
set_option maxRecDepth 100000 in
theorem step_make (ok:q.Ok) {j:Bool} {o:Oper} (hi:q.a j < n) (hd:o.dst=some (q.t j)) (hg:o.guard=none) (ho:o.op=.alloc 34):StepOk Tryz.prog ops Q a0 ds (RunsF n q kv RR W2) (q.a j) o:=by
 intro L e w a hL _ hF _ hout K hK
 rw [if_pos (by unfold Region.wanted;rw [hg])]
 obtain ⟨dst,op,ty,pos,af,g⟩:=o
 subst hd ho
 obtain ⟨x0,x1,x2,x3,x4,x5,x6,x7,hrun⟩:=alloc_trace a.eval w (q.t j) pos af g ty
 unfold Oper.wp
 rw [hrun]
 refine hK _ _ ?_
 unfold RunsF
 rw [mask_upd hi]
 exact hF.makes ok (by unfold maskB;rw [hL];rfl) x0 x1 x2 x3 x4 x5 x6 x7
set_option maxRecDepth 100000 in
theorem step_store (ok:q.Ok) {j:Bool} {o:Oper} (hi:q.p j < n) (hd:o.dst=none) (hg:o.guard=none) (ho:o.op=.store 34 (.tmp (q.t j)) (.tmp (q.s j)))
  (haw:awaitsB o.after.toList [q.a j,q.c j] n=true) (hds:q.t j ∈ ds ∧ q.s j ∈ ds) :
  StepOk Tryz.prog ops Q a0 ds (RunsF n q kv RR W2) (q.p j) o:=by
 intro L e w a hL haf hF hin hout K hK
 rw [if_pos (by unfold Region.wanted;rw [hg])]
 have hdone:∀ k ∈ [q.a j,q.c j],maskB n L k=true:=fun k hk => by
  obtain ⟨hkn,x,hx,hb,rfl⟩:=awaits_spec haw k hk
  exact mask_of (haf x hx hb) hkn
 have ha:=hdone (q.a j) (by simp)
 have hc:=hdone (q.c j) (by simp)
 obtain ⟨g,x0,x1,x2,x3,x4,x5,x6,x7,e1,hlo,_,hg8⟩:=hF.made j ha
 obtain ⟨s,en,lo,hi2,_,⟨nv,val,e2,hrows⟩,_⟩:=hF.run j hc
 obtain ⟨Ao,co,ho⟩:=row_form (hrows .out _ rfl).1
 obtain ⟨Aa,ca,ha2⟩:=row_form (hrows .arrs _ rfl).1
 obtain ⟨Av,cv,hv⟩:=row_form (hrows .vis _ rfl).1
 obtain ⟨dst,op,ty,pos,af,gd⟩:=o
 subst hd ho
 unfold Oper.wp
 rw [store_trace a.eval w (q.t j) (q.s j) g x0 x1 x2 x3 x4 x5 x6 x7 _ _ _ _ _ _ _ _ _ _ _ _ _ Ao Aa Av _ co _ ca _ cv rfl rfl rfl ho ha2 rfl rfl hv pos af gd ty ((hin _ hds.1).trans e1) ((hin _ hds.2).trans e2) hg8]
 obtain ⟨h1,h2,h3⟩:=eight_set hg8 _ _ _ _ _ _ _ _ rfl
 refine hK _ _ ?_
 unfold RunsF
 rw [mask_upd hi]
 exact hF.stores ok (by unfold maskB;rw [hL];rfl) ha hc e1 e2 h1 ⟨_,_,_,_,_,_,_,_,rfl⟩ h2 (h3 _ hlo) (by simp)
end
end Go.Proofs.YtkaifkjbmdcmlaaGreat

namespace Go.Proofs.YtkaifkjbmdcmlaaGreat
open Go.RowKit Go.Maps
theorem call_runC (ev:Operand → Value) (w:World) (d t1 t2:Nat) (fv iv nv:Value) (pos:String) (af:Array Edge) (g) (ty:TypeId) (h1:ev (.tmp t1)=fv) (h2:ev (.tmp t2)=iv) (h3:ev (.const nv)=nv) (hf:ev (.func 18)=.func (.func 18) #[] #[]) :
   (execOp ev { dst:=some d,op:=.call { callee:=.value (.func 18),args:=#[.tmp t1,.tmp t2,.const nv],argTypes:=#[25,28,3] },type:=ty,pos:=pos,after:=af,guard:=g }).run Tryz.prog w=.ok (.enter 18 #[fv,iv,nv]) w:=by
 go_simp
set_option maxRecDepth 100000 in
theorem step_runC {q:TwoP} {kv:Nat → Value} {RR:Bool → StM → EndM → Prop} {W2:World} {Q:Exit → Act → World → Prop} {ops:Array Oper} {a0:Act} {ds:List Nat} {n:Nat} (ok:q.Ok) {j:Bool} {o:Oper} {t1 t2 k1 k2:Nat} {nv:Value} (hi:q.c j < n) (hd:o.dst=some (q.s j)) (hg:o.guard=none)
  (ho:o.op=.call { callee:=.value (.func 18),args:=#[.tmp t1,.tmp t2,.const nv],argTypes:=#[25,28,3] })
  (haw:awaitsB o.after.toList [k1,k2] n=true) (hk1:(k1,t1) ∈ q.known) (hk2:(k2,t2) ∈ q.known) (hds:t1 ∈ ds ∧ t2 ∈ ds)
  (hcall:∀ W,Below W2.heap.size W2 W → Calls Tryz.prog 18 #[kv t1,kv t2,nv] W fun e w' => ∃ v s en,e=.returned v ∧ RR j s en ∧ TraceAt W.heap.size w' v s en ∧ Below W.heap.size W w') :
  StepOk Tryz.prog ops Q a0 ds (RunsF n q kv RR W2) (q.c j) o:=by
 intro L e w a hL haf hF hin hout K hK
 rw [if_pos (by unfold Region.wanted;rw [hg])]
 have hdone:∀ k ∈ [k1,k2],maskB n L k=true:=fun k hk => by
  obtain ⟨hkn,x,hx,hb,rfl⟩:=awaits_spec haw k hk
  exact mask_of (haf x hx hb) hkn
 have e1:a.eval (.tmp t1)=kv t1:=(hin t1 hds.1).trans (hF.known _ hk1 (hdone k1 (by simp)))
 have e2:a.eval (.tmp t2)=kv t2:=(hin t2 hds.2).trans (hF.known _ hk2 (hdone k2 (by simp)))
 obtain ⟨dst,op,ty,pos,af,g⟩:=o
 subst hd ho
 unfold Oper.wp
 rw [call_runC a.eval w (q.s j) t1 t2 _ _ _ pos af g ty e1 e2 rfl rfl]
 refine (hcall w hF.below).mono ?_
 rintro en w' ⟨v,s,en,rfl,hr,ht,hb⟩
 refine hK _ _ ?_
 unfold RunsF
 rw [mask_upd hi]
 exact hF.ran ok (by unfold maskB;rw [hL];rfl) hr ht hb
end Go.Proofs.YtkaifkjbmdcmlaaGreat

namespace Go.Proofs.YtkaifkjbmdcmlaaGreat
open Go.RowKit
def rowPhi (b:Nat) (t:Int) (d:Int × Int):List Int:=[d.1,t,(b:Int),-1,d.2]
def rowInstr (b i:Nat) (d:Int × Int):List Int:=[d.1,d.2,(b:Int),(i:Int),0]
def rowsPhi (b:Nat) (p:PhiM):List (List Int):=(p.vals.zip p.fr).map (rowPhi b p.typ)
def rowsInstr (b i:Nat) (x:InstrM):List (List Int):=(x.args.zip (takesS x.op)).map (rowInstr b i)
def rowsCode (b:Nat) (xs:List InstrM):Nat → List (List Int)
 | 0 => []
 | i + 1 => rowsCode b xs i ++ match xs[i]? with | some x => rowsInstr b i x | none => []
def rowsTerm (b:Nat) (q:BlockM):List (List Int) :=
 if q.term.op=2 then [[q.term.val,2,(b:Int),(q.code.length:Int),0]] else if q.term.op=3 then [[q.term.val,0,(b:Int),(q.code.length:Int),0]] else []
def rowsBlock (b:Nat) (q:BlockM):List (List Int):=q.phis.flatMap (rowsPhi b) ++ (rowsCode b q.code q.code.length ++ rowsTerm b q)
def rowsTo (bs:List BlockM):Nat → List (List Int)
 | 0 => []
 | b + 1 => rowsTo bs b ++ match bs[b]? with | some q => rowsBlock b q | none => []
def RU5 (w:World) (base:Nat) (v:Value) (us:List (Int × Int)) (rows:List (List Int)):Prop :=
 rows.map (fun r => (r.getD 0 0,r.getD 1 0))=us ∧ (∀ r ∈ rows,r.length=5) ∧ w.ownsRow base 67 5 v us.length (rows.flatten.map (Value.int .i64))
theorem RU5.push {w':World} {base:Nat} {v':Value} {us:List (Int × Int)} {rows:List (List Int)} (h1:rows.map (fun r => (r.getD 0 0,r.getD 1 0))=us) (h2:∀ r ∈ rows,r.length=5) {a b c d e:Int}
  (h:w'.ownsRow base 67 5 v' (us.length + 1) (rows.flatten.map (Value.int .i64) ++ [.int .i64 a,.int .i64 b,.int .i64 c,.int .i64 d,.int .i64 e])):RU5 w' base v' (us ++ [(a,b)]) (rows ++ [[a,b,c,d,e]]):=by
 refine ⟨by rw [List.map_append,h1];rfl,?_,?_⟩
 ·intro r hr
  rcases List.mem_append.1 hr with hr | hr
  ·exact h2 r hr
  ·simp at hr
   subst hr
   rfl
 ·simpa using h
theorem RU5.alloc {w:World} {base:Nat} {v:Value} {us:List (Int × Int)} {rows:List (List Int)} (h:RU5 w base v us rows) (o:Obj):RU5 (w.alloc o) base v us rows:=⟨h.1,h.2.1,h.2.2.alloc o⟩
theorem RU5.below {w w':World} {base:Nat} {v:Value} {us:List (Int × Int)} {rows:List (List Int)} (h:RU5 w base v us rows) (hb:Below w.heap.size w w'):RU5 w' base v us rows:=by
 obtain ⟨h1,h2,h3⟩:=h
 exact ⟨h1,h2,h3.kept (row:=none) ⟨hb.os,hb.tape,hb.output,hb.size,fun k hk _ => hb.block k hk⟩ (by
  cases hv:v.ownBlock with
  | none => exact .inl rfl
  | some k => exact .inr (by simp))⟩
set_option maxRecDepth 100000 in
set_option maxHeartbeats 8000000 in
theorem refUses5_any (bs:List BlockM) (B:Nat) (pv xv cv bv:Value) (w:World) (hbv:BlocksR w B bv bs) (hB:B ≤ w.heap.size) (hfew:Few bs) (hl5:bs.length ≤ 512)
  (hform:∀ b ∈ bs,∀ x ∈ b.code,x.args.length=(takesS x.op).length) (hphi:∀ b ∈ bs,∀ p ∈ b.phis,p.vals.length=p.fr.length) :
  Calls Tryz.prog 35 #[.agg #[pv,xv,cv,bv]] w fun e w' => ∃ v,e=.returned v ∧ RU5 w' w.heap.size v (bs.flatMap usesBlock) (rowsTo bs bs.length) ∧ Below w.heap.size w w':=by
 have HFEW:=hideI hfew
 have HFO:=hideI hform
 have HPH:=hideI hphi
 have HBB:=hideI hbv
 obtain ⟨i0,hi,hz0,hz1,hz2⟩:=info_parts use_info
 obtain ⟨A,c,rfl,hbm,hbx⟩:=hbv
 have HX:=hideI hbx
 clear hbx hfew hform hphi
 obtain ⟨W0,hW0⟩:∃ W0:World,W0=(w.alloc (.cells #[pv,xv,cv,.slice A bs.length c] 25)).alloc (.cells #[] 67):=⟨_,rfl⟩
 have hK0:Hid (Ka w.heap.size w W0):=by rw [hW0];exact ((Ka.refl _ w).alloc (Nat.le_refl _) _).alloc (by simp) _
 have hbox0:Hid (W0.heap[w.heap.size]?=some (.cells #[pv,xv,cv,.slice A bs.length c] 25 (0,0))):=by
  show _=_
  rw [hW0,Below.heap_alloc _ _ _ (by simp)]
  exact heap_alloc_new w _
 have hR0:Hid (RU5 W0 w.heap.size (.slice (some ⟨w.heap.size + 1,0,none⟩) 0 0) [] []):=by
  have:=World.ownsRow_made (base:=w.heap.size) (e:=67) (size:=5) (w.alloc (.cells #[pv,xv,cv,.slice A bs.length c] 25)) #[] 0 (by simp) (by decide) rfl
  show RU5 W0 _ _ _ _
  rw [hW0]
  exact ⟨rfl,(fun _ h => by cases h),by simpa using this⟩
 have HW0:=hideI hW0
 clear hW0
 go_enter Tryz.func35,Tryz.ntmps35
 go_wp2
 rw [← HW0.out]
 go_loopw [3,4] (fun o i wr => ∃ k:Nat,k ≤ bs.length ∧ i=.int .i64 k ∧ RU5 wr w.heap.size o ((bs.take k).flatMap usesBlock) (rowsTo bs k) ∧ Ka w.heap.size W0 wr) (fun _ i _ => bs.length - (intOf i).toNat)
 case atStart => exact ⟨0,Nat.zero_le _,rfl,by simpa [rowsTo] using hR0.out,Ka.refl _ _⟩
 case round =>
  obtain ⟨k,hk,rfl,hIk,hFk⟩:=hrel
  obtain ⟨u3,rfl⟩:∃ u3':Value,u3'=u3:=⟨_,rfl⟩
  have HIk:=hideI hIk
  have HFk:=hideI hFk
  have hx:=hFk.row hbox0.out (by decide)
  have hsz:w.heap.size < wr.heap.size:=by have h1:=hFk.size;have h2:=lt_of_heap hbox0.out;omega
  have HK:=hideI (Keeps.mono' (hK0.out.trans hFk).keeps hB)
  clear hIk hFk
  by_cases hlt:k < bs.length
  ·obtain ⟨q,hq⟩:∃ q,bs[k]?=some q:=⟨_,List.getElem?_eq_getElem hlt⟩
   obtain ⟨b,off,qpv,qcv,qtv,rfl,hb,e0,e1,e2,e3,e4,e5,hpv,hcv,htv,_⟩:=HX.out k q hq
   have c0:=(HK.out b (off + k * 6) hb).trans e0
   have c1:=(HK.out b (off + k * 6 + 1) hb).trans e1
   have c2:=(HK.out b (off + k * 6 + 2) hb).trans e2
   have c3:=(HK.out b (off + k * 6 + 3) hb).trans e3
   have c4:=(HK.out b (off + k * 6 + 4) hb).trans e4
   have c5:=(HK.out b (off + k * 6 + 5) hb).trans e5
   have HQ:=hideI hq
   obtain ⟨PA,pc,rfl,hpm,hpx⟩:=hpv
   obtain ⟨CA,cc,rfl,hcm,hcx⟩:=hcv
   obtain ⟨TA,tc,rfl,_⟩:=htv
   have HPX:=hideI hpx
   have HCX:=hideI hcx
   clear e0 e1 e2 e3 e4 e5 hq hpx hcx
   obtain ⟨wo,rfl⟩:∃ wo:World,wo=wr:=⟨_,rfl⟩
   obtain ⟨W1,hW1⟩:∃ W1:World,W1=wo.alloc (.cells #[.slice PA q.phis.length pc,.slice CA q.code.length cc,.int .i64 q.term.op,.int .i64 q.term.val,.slice TA q.term.to.length tc,.int .i64 q.term.n] 51):=⟨_,rfl⟩
   have HF1:Hid (Ka w.heap.size W0 W1):=by rw [hW1];exact HFk.out.alloc (by omega) _
   have HI1:Hid (RU5 W1 w.heap.size u3 ((bs.take k).flatMap usesBlock) (rowsTo bs k)):=by rw [hW1];exact HIk.out.alloc _
   have HB1:Hid (W1.heap[wo.heap.size]?=some (.cells #[.slice PA q.phis.length pc,.slice CA q.code.length cc,.int .i64 q.term.op,.int .i64 q.term.val,.slice TA q.term.to.length tc,.int .i64 q.term.n] 51 (0,0))):=by rw [hW1];exact heap_alloc_new wo _
   have HW1:=hideI hW1
   clear hW1
   obtain ⟨us1,hus1⟩:∃ us1,us1=(bs.take k).flatMap usesBlock:=⟨_,rfl⟩
   obtain ⟨rs1,hrs1⟩:∃ rs1,rs1=rowsTo bs k:=⟨_,rfl⟩
   rw [← hus1,← hrs1] at HI1
   have HU1:=hideI hus1
   have HRS1:=hideI hrs1
   clear hus1 hrs1
   go_wp2
   rw [← HW1.out]
   go_loopw [3,6] (fun o i wr => ∃ j:Nat,j ≤ q.phis.length ∧ i=.int .i64 j ∧ RU5 wr w.heap.size o (us1 ++ (q.phis.take j).flatMap usesPhi) (rs1 ++ (q.phis.take j).flatMap (rowsPhi k)) ∧ Ka w.heap.size W1 wr) (fun _ i _ => q.phis.length - (intOf i).toNat)
   case atStart => exact ⟨0,Nat.zero_le _,rfl,by simpa using HI1.out,Ka.refl _ _⟩
   case round =>
    obtain ⟨j,hj,rfl,hIj,hFj⟩:=hrel
    have HIj:=hideI hIj
    have HFj:=hideI hFj
    have hx1:=hFj.row HB1.out (by decide)
    have hsz1:wo.heap.size < wr.heap.size:=by have h1:=hFj.size;have h2:=lt_of_heap HB1.out;omega
    have HK1:=hideI (Keeps.mono' ((hK0.out.trans HF1.out).trans hFj).keeps hB)
    clear hIj hFj
    by_cases hlj:j < q.phis.length
    ·obtain ⟨p,hp⟩:∃ p,q.phis[j]?=some p:=⟨_,List.getElem?_eq_getElem hlj⟩
     obtain ⟨b2,off2,fv,vv,rfl,hb2,e0,e1,e2,e3,hf,hv,_⟩:=HPX.out j p hp
     have HQ2:=hideI hp
     have hpl:Hid (p.vals.length=p.fr.length):=HPH.out q (List.mem_of_getElem? HQ.out) p (List.mem_of_getElem? hp)
     obtain ⟨FA,fc,rfl,hfm,hfx⟩:=hf
     obtain ⟨VA,vc,rfl,hvm,hvx⟩:=hv
     have HVX:=hideI hvx
     have HFX:=hideI hfx
     have HE:=hideI (And.intro e1 (And.intro e2 e3))
     have d3:=(HK1.out b2 (off2 + j * 4 + 3) hb2).trans e3
     obtain ⟨wi,rfl⟩:∃ wi:World,wi=wr:=⟨_,rfl⟩
     obtain ⟨us2,hus2⟩:∃ us2,us2=us1 ++ (q.phis.take j).flatMap usesPhi:=⟨_,rfl⟩
     obtain ⟨rs2,hrs2⟩:∃ rs2,rs2=rs1 ++ (q.phis.take j).flatMap (rowsPhi k):=⟨_,rfl⟩
     rw [← hus2,← hrs2] at HIj
     have HU2:=hideI hus2
     have HRS2:=hideI hrs2
     clear e0 e1 e2 e3 hp hvx hfx hus2 hrs2
     go_wp2
     clear d3
     go_loopw [3,7] (fun o i wr => ∃ m:Nat,m ≤ p.vals.length ∧ i=.int .i64 m ∧ RU5 wr w.heap.size o (us2 ++ (p.vals.take m).map fun v => (v,p.typ)) (rs2 ++ ((p.vals.zip p.fr).take m).map (rowPhi k p.typ)) ∧ Ka w.heap.size wi wr) (fun _ i _ => p.vals.length - (intOf i).toNat)
     case atStart => exact ⟨0,Nat.zero_le _,rfl,by simpa using HIj.out,Ka.refl _ _⟩
     case round =>
      obtain ⟨m,hm,rfl,hIm,hFm⟩:=hrel
      have hx2:=(HFj.out.trans hFm).row HB1.out (by decide)
      have HK2:=hideI (Keeps.mono' (((hK0.out.trans HF1.out).trans HFj.out).trans hFm).keeps hB)
      have hsz2:w.heap.size ≤ wr.heap.size:=by have h1:=hFm.size;omega
      have d1:=(HK2.out b2 (off2 + j * 4 + 1) hb2).trans HE.out.1
      have d2:=(HK2.out b2 (off2 + j * 4 + 2) hb2).trans HE.out.2.1
      have d3:=(HK2.out b2 (off2 + j * 4 + 3) hb2).trans HE.out.2.2
      have HIm:=hideI hIm
      have HFm:=hideI hFm
      clear hIm hFm
      by_cases hlm:m < p.vals.length
      ·obtain ⟨b3,off3,rfl,hb3,e3⟩:=HVX.out m hlm
       obtain ⟨v,hv⟩:∃ v,p.vals[m]?=some v:=⟨_,List.getElem?_eq_getElem hlm⟩
       have hlf:m < p.fr.length:=by rw [← hpl.out];exact hlm
       obtain ⟨b4,off4,rfl,hb4,e4⟩:=HFX.out m hlf
       obtain ⟨fr,hfr⟩:∃ fr,p.fr[m]?=some fr:=⟨_,List.getElem?_eq_getElem hlf⟩
       rw [hv] at e3
       rw [hfr] at e4
       have f3:=(HK2.out b3 (off3 + m) hb3).trans e3
       have f4:=(HK2.out b4 (off4 + m) hb4).trans e4
       simp only [Option.getD_some] at f3 f4
       have HV:=hideI hv
       have HZ:Hid ((p.vals.zip p.fr)[m]?=some (v,fr)):=hideI (List.getElem?_zip_eq_some.2 ⟨hv,hfr⟩)
       have hfw:=few_phi HFEW.out HQ.out HQ2.out hlm us1 us2 HU1.out HU2.out
       obtain ⟨uu,huu⟩:∃ uu,uu=us2 ++ (p.vals.take m).map fun v => (v,p.typ):=⟨_,rfl⟩
       obtain ⟨rows,hrows⟩:∃ rows,rows=rs2 ++ ((p.vals.zip p.fr).take m).map (rowPhi k p.typ):=⟨_,rfl⟩
       rw [← huu] at hfw HIm
       rw [← hrows] at HIm
       have HUU:=hideI huu
       have HRW:=hideI hrows
       clear e3 e4 hv hfr huu hrows
       have g0:wr.cell? ⟨wo.heap.size,0,none⟩=some (.slice (some ⟨b2,off2,none⟩) q.phis.length pc):=hx2 0
       clear hx2
       obtain ⟨hrw1,hrw2,hown⟩:=HIm.out
       have HR1:=hideI hrw1
       have HR2:=hideI hrw2
       clear hrw1 hrw2
       have G0:Hid (∀ W,Ka w.heap.size wr W → W.cell? ⟨wo.heap.size,0,none⟩=some (.slice (some ⟨b2,off2,none⟩) q.phis.length pc) ∧ W.cell? ⟨b2,off2 + j * 4 + 1,none⟩=some (.int .i64 p.typ) ∧ W.cell? ⟨b2,off2 + j * 4 + 2,none⟩=some (.slice (some ⟨b4,off4,none⟩) p.fr.length fc) ∧ W.cell? ⟨b2,off2 + j * 4 + 3,none⟩=some (.slice (some ⟨b3,off3,none⟩) p.vals.length vc) ∧ W.cell? ⟨b3,off3 + m,none⟩=some (.int .i64 v) ∧ W.cell? ⟨b4,off4 + m,none⟩=some (.int .i64 fr)) :=
        fun W hW => ⟨((HFj.out.trans HFm.out).trans hW).row HB1.out (by decide) 0,(hW.keeps _ _ (by omega)).trans d1,(hW.keeps _ _ (by omega)).trans d2,(hW.keeps _ _ (by omega)).trans d3,(hW.keeps _ _ (by omega)).trans f3,(hW.keeps _ _ (by omega)).trans f4⟩
       go_wp2
       go_region_held3 (fun w' => w'.cell? ⟨wo.heap.size,0,none⟩=some (.slice (some ⟨b2,off2,none⟩) q.phis.length pc) ∧ w'.cell? ⟨b2,off2 + j * 4 + 1,none⟩=some (.int .i64 p.typ) ∧ w'.cell? ⟨b2,off2 + j * 4 + 2,none⟩=some (.slice (some ⟨b4,off4,none⟩) p.fr.length fc) ∧ w'.cell? ⟨b2,off2 + j * 4 + 3,none⟩=some (.slice (some ⟨b3,off3,none⟩) p.vals.length vc) ∧ w'.cell? ⟨b3,off3 + m,none⟩=some (.int .i64 v) ∧ w'.cell? ⟨b4,off4 + m,none⟩=some (.int .i64 fr)) (first | go_keep | exact G0.out _ ((((Ka.refl _ wr).alloc hsz2 _).drew).trans hka) | exact G0.out _ (((Ka.refl _ wr).alloc hsz2 _).trans hka))
        (first | (refine step_append_lies _ rfl (.tmp 44) (.tmp 71) _ rfl w.heap.size 67 i0 _ 5 40 Tryz.underlying64 hi hz0 hz1 hz2 rfl (by decide) _ _ _ rfl (hown.alloc _) ⟨wr.heap.size,0,none⟩ 1 1 [.int .i64 v,.int .i64 p.typ,.int .i64 k,.int .i64 (-1),.int .i64 fr] rfl rfl (five_new _ _ _) (by simp [Value.oneCell']) (by decide) (by unfold maxLen;omega) (by omega) (by simp;omega) _ rfl ?_;intro g1 cap1 w4 hown1 hgrow1 hor hgl1;have hka:=Ka.grown hgrow1 (hown.alloc _) (by simp;omega)))
       have HIN:Hid (RU5 w4 w.heap.size (.slice (some ⟨g1,0,none⟩) (uu.length + 1) cap1) (us2 ++ (p.vals.take (m + 1)).map fun v => (v,p.typ)) (rs2 ++ ((p.vals.zip p.fr).take (m + 1)).map (rowPhi k p.typ))):=by
        have:=RU5.push (b:=p.typ) HR1.out HR2.out hown1
        rw [map_take' (fun v => (v,p.typ)) p.vals m v HV.out,← List.append_assoc,← HUU.out,map_take' (rowPhi k p.typ) (p.vals.zip p.fr) m (v,fr) HZ.out,← List.append_assoc,← HRW.out]
        exact this
       have HFN:Hid (Ka w.heap.size wi w4):=(HFm.out.trans (((Ka.refl _ wr).alloc hsz2 _).drew)).trans hka
       clear hown1 hgrow1 hor hgl1 hka
       go_wp2
       go_roundw
       case rel => exact ⟨m + 1,by omega,by go_num,HIN.out,HFN.out⟩
       case measure => simp [intOf];omega
      ·have HIend:Hid (RU5 wr w.heap.size u3 (us2 ++ usesPhi p) (rs2 ++ rowsPhi k p)):=by have:=HIm.out;rw [List.take_of_length_le (l:=p.vals) (by omega),List.take_of_length_le (l:=p.vals.zip p.fr) (by rw [List.length_zip];omega)] at this;exact this
       go_wp2
       go_roundw
       case rel => exact ⟨j + 1,by omega,by go_num,by rw [flat_take' _ _ _ _ HQ2.out,flat_take' _ _ _ _ HQ2.out,← List.append_assoc,← List.append_assoc,← HU2.out,← HRS2.out];exact HIend.out,HFj.out.trans HFm.out⟩
       case measure => simp [intOf];omega
    ·have HIend:Hid (RU5 wr w.heap.size u3 (us1 ++ q.phis.flatMap usesPhi) (rs1 ++ q.phis.flatMap (rowsPhi k))):=by have:=HIj.out;rw [List.take_of_length_le (by omega)] at this;exact this
     go_wp2
     obtain ⟨wp,rfl⟩:∃ wp:World,wp=wr:=⟨_,rfl⟩
     clear hx1 hsz1 HK1 hlj
     obtain ⟨us3,hus3⟩:∃ us3,us3=us1 ++ q.phis.flatMap usesPhi:=⟨_,rfl⟩
     obtain ⟨rs3,hrs3⟩:∃ rs3,rs3=rs1 ++ q.phis.flatMap (rowsPhi k):=⟨_,rfl⟩
     rw [← hus3,← hrs3] at HIend
     have HU3:=hideI hus3
     have HRS3:=hideI hrs3
     clear hus3 hrs3
     go_loopw [3,8] (fun o i wr => ∃ j:Nat,j ≤ q.code.length ∧ i=.int .i64 j ∧ RU5 wr w.heap.size o (us3 ++ (q.code.take j).flatMap usesInstr) (rs3 ++ rowsCode k q.code j) ∧ Ka w.heap.size W1 wr) (fun _ i _ => q.code.length - (intOf i).toNat)
     case atStart => exact ⟨0,Nat.zero_le _,rfl,by simpa [rowsCode] using HIend.out,HFj.out⟩
     case round =>
      obtain ⟨j2,hj2,rfl,hIj2,hFj2⟩:=hrel
      have HIj2:=hideI hIj2
      have HFj2:=hideI hFj2
      have hx1:=hFj2.row HB1.out (by decide)
      have hsz1:wo.heap.size < wr.heap.size:=by have h1:=hFj2.size;have h2:=lt_of_heap HB1.out;omega
      have hsz0:w.heap.size ≤ wr.heap.size:=by omega
      have HK1:=hideI (Keeps.mono' ((hK0.out.trans HF1.out).trans hFj2).keeps hB)
      clear hIj2 hFj2
      by_cases hlj2:j2 < q.code.length
      ·obtain ⟨x,hp⟩:∃ x,q.code[j2]?=some x:=⟨_,List.getElem?_eq_getElem hlj2⟩
       have hxl:Hid (x.args.length=(takesS x.op).length):=HFO.out q (List.mem_of_getElem? HQ.out) x (List.mem_of_getElem? hp)
       obtain ⟨b2,off2,av,rfl,hb2,e0,e1,e2,e3,hf,_⟩:=HCX.out j2 x hp
       have d0:=(HK1.out b2 (off2 + j2 * 4) hb2).trans e0
       have HE2:=hideI e2
       have HQ2:=hideI hp
       obtain ⟨AA,ac,rfl,ham,hax⟩:=hf
       have HAX:=hideI hax
       clear e0 e1 e2 e3 hp hax
       obtain ⟨wi,rfl⟩:∃ wi:World,wi=wr:=⟨_,rfl⟩
       go_wp2_with (go_at_call 73;refine (refArgs_any _ _).mono ?_;rintro e w3 ⟨tv,rfl,htv,hbA⟩;obtain ⟨TK,tkc,rfl,htm,htx⟩:=htv;have HTX:=hideI htx;have HBA:=hideI hbA;clear htx hbA)
       have HF3:Hid (Ka w.heap.size W1 w3):=HFj2.out.trans (Ka.of_below HBA.out hsz0)
       have HI3:Hid (RU5 w3 w.heap.size u3 (us3 ++ (q.code.take j2).flatMap usesInstr) (rs3 ++ rowsCode k q.code j2)):=HIj2.out.below HBA.out
       obtain ⟨us4,hus4⟩:∃ us4,us4=us3 ++ (q.code.take j2).flatMap usesInstr:=⟨_,rfl⟩
       obtain ⟨rs4,hrs4⟩:∃ rs4,rs4=rs3 ++ rowsCode k q.code j2:=⟨_,rfl⟩
       rw [← hus4,← hrs4] at HI3
       have HU4:=hideI hus4
       have HRS4:Hid (rs3 ++ rowsCode k q.code (j2 + 1)=rs4 ++ rowsInstr k j2 x):=by show _=_;rw [rowsCode,HQ2.out,hrs4,List.append_assoc]
       clear hrs4
       have hsz3:wi.heap.size ≤ w3.heap.size:=HBA.out.size
       clear hus4 hx1 d0
       go_loopw [3,12] (fun o i wr => ∃ m:Nat,m ≤ (takesS x.op).length ∧ i=.int .i64 m ∧ RU5 wr w.heap.size o (us4 ++ (x.args.take m).zip ((takesS x.op).take m)) (rs4 ++ ((x.args.zip (takesS x.op)).take m).map (rowInstr k j2)) ∧ Ka w.heap.size w3 wr) (fun _ i _ => (takesS x.op).length - (intOf i).toNat)
       case atStart => exact ⟨0,Nat.zero_le _,rfl,by simpa using HI3.out,Ka.refl _ _⟩
       case round =>
        obtain ⟨m,hm,rfl,hIm,hFm⟩:=hrel
        have HIm:=hideI hIm
        have HFm:=hideI hFm
        have HK2:=hideI (Keeps.mono' ((hK0.out.trans HF1.out).trans (HF3.out.trans hFm)).keeps hB)
        have hsz2:w.heap.size ≤ wr.heap.size:=by have h1:=hFm.size;omega
        clear hIm hFm
        by_cases hlm:m < (takesS x.op).length
        ·have hla:m < x.args.length:=by rw [hxl.out];exact hlm
         obtain ⟨b3,off3,rfl,hb3,e3⟩:=HAX.out m hla
         obtain ⟨v,hv⟩:∃ v,x.args[m]?=some v:=⟨_,List.getElem?_eq_getElem hla⟩
         obtain ⟨t,ht⟩:∃ t,(takesS x.op)[m]?=some t:=⟨_,List.getElem?_eq_getElem hlm⟩
         obtain ⟨g,cs,rfl,hg,hgb,hgc⟩:=HTX.out (by omega)
         have hgx:=(HFm.out.row hgb (by decide) m).trans (hgc m hlm)
         rw [hv] at e3
         rw [ht] at hgx
         have f3:=(HK2.out b3 (off3 + m) hb3).trans e3
         have d2:=(HK2.out b2 (off2 + j2 * 4 + 2) hb2).trans HE2.out
         simp only [Option.getD_some] at f3 hgx
         have HV:=hideI hv
         have HT2:=hideI ht
         have HZ:Hid ((x.args.zip (takesS x.op))[m]?=some (v,t)):=hideI (List.getElem?_zip_eq_some.2 ⟨hv,ht⟩)
         have HGB:=hideI (And.intro hgb (hgc m hlm))
         have hfw:=few_instr HFEW.out HQ.out HQ2.out hla hxl.out us1 us3 us4 HU1.out HU3.out HU4.out
         obtain ⟨uu,huu⟩:∃ uu,uu=us4 ++ (x.args.take m).zip ((takesS x.op).take m):=⟨_,rfl⟩
         obtain ⟨rows,hrows⟩:∃ rows,rows=rs4 ++ ((x.args.zip (takesS x.op)).take m).map (rowInstr k j2):=⟨_,rfl⟩
         rw [← huu] at hfw HIm
         rw [← hrows] at HIm
         have HUU:=hideI huu
         have HRW:=hideI hrows
         clear hrows
         obtain ⟨hrw1,hrw2,hown⟩:=HIm.out
         have HR1:=hideI hrw1
         have HR2:=hideI hrw2
         have g0:wr.cell? ⟨wo.heap.size,1,none⟩=some (.slice (some ⟨b2,off2,none⟩) q.code.length cc):=((HF3.out.trans HFm.out).row HB1.out (by decide) 1)
         clear e3 hv ht hgb hgc huu hrw1 hrw2
         have G0:Hid (∀ W,Ka w.heap.size wr W → W.cell? ⟨wo.heap.size,1,none⟩=some (.slice (some ⟨b2,off2,none⟩) q.code.length cc) ∧ W.cell? ⟨b2,off2 + j2 * 4 + 2,none⟩=some (.slice (some ⟨b3,off3,none⟩) x.args.length ac) ∧ W.cell? ⟨b3,off3 + m,none⟩=some (.int .i64 v) ∧ W.cell? ⟨g,m,none⟩=some (.int .i64 t)) :=
          fun W hW => ⟨((HF3.out.trans HFm.out).trans hW).row HB1.out (by decide) 1,(hW.keeps _ _ (by omega)).trans d2,(hW.keeps _ _ (by omega)).trans f3,(by rw [((HFm.out.trans hW).row HGB.out.1 (by decide) m),← hgx,HFm.out.row HGB.out.1 (by decide) m])⟩
         go_wp2
         go_region_held3 (fun w' => w'.cell? ⟨wo.heap.size,1,none⟩=some (.slice (some ⟨b2,off2,none⟩) q.code.length cc) ∧ w'.cell? ⟨b2,off2 + j2 * 4 + 2,none⟩=some (.slice (some ⟨b3,off3,none⟩) x.args.length ac) ∧ w'.cell? ⟨b3,off3 + m,none⟩=some (.int .i64 v) ∧ w'.cell? ⟨g,m,none⟩=some (.int .i64 t)) (first | go_keep | exact G0.out _ ((((Ka.refl _ wr).alloc hsz2 _).drew).trans hka) | exact G0.out _ (((Ka.refl _ wr).alloc hsz2 _).trans hka))
          (first | (refine step_append_lies _ rfl (.tmp 97) (.tmp 114) _ rfl w.heap.size 67 i0 _ 5 40 Tryz.underlying64 hi hz0 hz1 hz2 rfl (by decide) _ _ _ rfl (hown.alloc _) ⟨wr.heap.size,0,none⟩ 1 1 [.int .i64 v,.int .i64 t,.int .i64 k,.int .i64 j2,.int .i64 0] rfl rfl (five_new _ _ _) (by simp [Value.oneCell']) (by decide) (by unfold maxLen;omega) (by omega) (by simp;omega) _ rfl ?_;intro g1 cap1 w4 hown1 hgrow1 hor hgl1;have hka:=Ka.grown hgrow1 (hown.alloc _) (by simp;omega)))
         have HIN:Hid (RU5 w4 w.heap.size (.slice (some ⟨g1,0,none⟩) (uu.length + 1) cap1) (us4 ++ (x.args.take (m + 1)).zip ((takesS x.op).take (m + 1))) (rs4 ++ ((x.args.zip (takesS x.op)).take (m + 1)).map (rowInstr k j2))):=by
          have:=RU5.push (b:=t) HR1.out HR2.out hown1
          rw [zip_take' _ _ _ _ _ HV.out HT2.out,← List.append_assoc,← HUU.out,map_take' (rowInstr k j2) (x.args.zip (takesS x.op)) m (v,t) HZ.out,← List.append_assoc,← HRW.out]
          exact this
         have HFN:Hid (Ka w.heap.size w3 w4):=(HFm.out.trans (((Ka.refl _ wr).alloc hsz2 _).drew)).trans hka
         clear hown1 hgrow1 hor hgl1 hka
         go_wp2
         go_roundw
         case rel => exact ⟨m + 1,by omega,by go_num,HIN.out,HFN.out⟩
         case measure => simp [intOf];omega
        ·have HIe:Hid (RU5 wr w.heap.size u3 (us4 ++ usesInstr x) (rs4 ++ rowsInstr k j2 x)):=by
          have:=HIm.out
          rw [List.take_of_length_le (l:=x.args) (by rw [hxl.out];omega),List.take_of_length_le (l:=takesS x.op) (by omega),List.take_of_length_le (l:=x.args.zip (takesS x.op)) (by rw [List.length_zip];omega)] at this
          exact this
         go_wp2
         go_roundw
         case rel => exact ⟨j2 + 1,by omega,by go_num,by rw [flat_take' _ _ _ _ HQ2.out,← List.append_assoc,← HU4.out,HRS4.out];exact HIe.out,HF3.out.trans HFm.out⟩
         case measure => simp [intOf];omega
      ·have HIe:Hid (RU5 wr w.heap.size u3 (us3 ++ q.code.flatMap usesInstr) (rs3 ++ rowsCode k q.code q.code.length)):=by have:=HIj2.out;rw [List.take_of_length_le (by omega),show j2=q.code.length by omega] at this;exact this
       have HUB:Hid ((bs.take (k + 1)).flatMap usesBlock=(us3 ++ q.code.flatMap usesInstr) ++ usesTerm q.term):=by
        show _=_
        rw [flat_take' _ _ _ _ HQ.out,HU3.out,HU1.out]
        simp only [usesBlock,List.append_assoc]
       have HRB:Hid (rowsTo bs (k + 1)=(rs3 ++ rowsCode k q.code q.code.length) ++ rowsTerm k q):=by
        show _=_
        rw [rowsTo,HQ.out,HRS3.out,HRS1.out]
        simp only [rowsBlock,List.append_assoc]
       cases h2:q.term.op == 2
       ·cases h3:q.term.op == 3
        ·have hu:usesTerm q.term=[]:=by
          unfold usesTerm
          rw [if_neg (by simpa using h2),if_neg (by simpa using h3)]
         have HU:=hideI hu
         have HRT:Hid (rowsTerm k q=[]):=by
          show _=_
          unfold rowsTerm
          rw [if_neg (by simpa using h2),if_neg (by simpa using h3)]
         clear hu
         go_wp2
         go_roundw
         case rel => exact ⟨k + 1,by omega,by go_num,by rw [HUB.out,HU.out,List.append_nil,HRB.out,HRT.out,List.append_nil];exact HIe.out,HF1.out.trans HFj2.out⟩
         case measure => simp [intOf];omega
        ·have hu:usesTerm q.term=[(q.term.val,0)]:=by
          unfold usesTerm
          rw [if_neg (by simpa using h2),if_pos (by simpa using h3)]
         have HU:=hideI hu
         have HRT:Hid (rowsTerm k q=[[q.term.val,0,(k:Int),(q.code.length:Int),0]]):=by
          show _=_
          unfold rowsTerm
          rw [if_neg (by simpa using h2),if_pos (by simpa using h3)]
         have hfw:=few_term HFEW.out HQ.out (by rw [hu];exact Nat.zero_lt_one) us1 us3 HU1.out HU3.out
         clear hu
         obtain ⟨uu,huu⟩:∃ uu,uu=us3 ++ q.code.flatMap usesInstr:=⟨_,rfl⟩
         obtain ⟨rows,hrows⟩:∃ rows,rows=rs3 ++ rowsCode k q.code q.code.length:=⟨_,rfl⟩
         rw [← huu] at hfw HIe HUB
         rw [← hrows] at HIe HRB
         clear huu hrows
         obtain ⟨hrw1,hrw2,hown⟩:=HIe.out
         have HR1:=hideI hrw1
         have HR2:=hideI hrw2
         clear hrw1 hrw2
         go_wp2_with (at_builtin;refine wpList_append_lies _ rfl _ _ _ rfl w.heap.size 67 i0 _ 5 40 Tryz.underlying64 hi hz0 hz1 hz2 rfl (by decide) _ _ _ rfl (hown.alloc _) ⟨wr.heap.size,0,none⟩ 1 1 [.int .i64 q.term.val,.int .i64 0,.int .i64 k,.int .i64 q.code.length,.int .i64 0] rfl rfl (five_new _ _ _) (by simp [Value.oneCell']) (by decide) (by unfold maxLen;omega) (by omega) (by simp;omega) _ rfl ?_;intro g1 cap1 w4 hown1 hgrow1 hor hgl1;have hka:=hideI (Ka.grown hgrow1 (hown.alloc _) (by simp;omega));have HO1:=hideI hown1;clear hown1 hgrow1 hor hgl1)
         go_roundw
         case rel => exact ⟨k + 1,by omega,by go_num,by rw [HUB.out,HU.out,HRB.out,HRT.out];exact RU5.push HR1.out HR2.out HO1.out,(HF1.out.trans (HFj2.out.alloc hsz0 _)).trans hka.out⟩
         case measure => simp [intOf];omega
       ·have hu:usesTerm q.term=[(q.term.val,2)]:=by
         unfold usesTerm
         rw [if_pos (by simpa using h2)]
        have HU:=hideI hu
        have HRT:Hid (rowsTerm k q=[[q.term.val,2,(k:Int),(q.code.length:Int),0]]):=by
         show _=_
         unfold rowsTerm
         rw [if_pos (by simpa using h2)]
        have hfw:=few_term HFEW.out HQ.out (by rw [hu];exact Nat.zero_lt_one) us1 us3 HU1.out HU3.out
        clear hu
        have h3:(q.term.op == 3)=false:=by
         have:q.term.op=2:=by simpa using h2
         rw [this];rfl
        obtain ⟨uu,huu⟩:∃ uu,uu=us3 ++ q.code.flatMap usesInstr:=⟨_,rfl⟩
        obtain ⟨rows,hrows⟩:∃ rows,rows=rs3 ++ rowsCode k q.code q.code.length:=⟨_,rfl⟩
        rw [← huu] at hfw HIe HUB
        rw [← hrows] at HIe HRB
        clear huu hrows
        obtain ⟨hrw1,hrw2,hown⟩:=HIe.out
        have HR1:=hideI hrw1
        have HR2:=hideI hrw2
        clear hrw1 hrw2
        go_wp2_with (at_builtin;refine wpList_append_lies _ rfl _ _ _ rfl w.heap.size 67 i0 _ 5 40 Tryz.underlying64 hi hz0 hz1 hz2 rfl (by decide) _ _ _ rfl (hown.alloc _) ⟨wr.heap.size,0,none⟩ 1 1 [.int .i64 q.term.val,.int .i64 2,.int .i64 k,.int .i64 q.code.length,.int .i64 0] rfl rfl (five_new _ _ _) (by simp [Value.oneCell']) (by decide) (by unfold maxLen;omega) (by omega) (by simp;omega) _ rfl ?_;intro g1 cap1 w4 hown1 hgrow1 hor hgl1;have hka:=hideI (Ka.grown hgrow1 (hown.alloc _) (by simp;omega));have HO1:=hideI hown1;have hx4:=((HFj2.out.alloc hsz0 _).trans hka.out).row HB1.out (by decide);clear hown1 hgrow1 hor hgl1)
        go_roundw
        case rel => exact ⟨k + 1,by omega,by go_num,by rw [HUB.out,HU.out,HRB.out,HRT.out];exact RU5.push HR1.out HR2.out HO1.out,(HF1.out.trans (HFj2.out.alloc hsz0 _)).trans hka.out⟩
        case measure => simp [intOf];omega
  ·go_wp2
   go_ret
   refine ⟨_,rfl,?_,(hK0.out.trans HFk.out).below⟩
   have:=HIk.out
   rw [List.take_of_length_le (by omega),show k=bs.length by omega] at this
   exact this
end Go.Proofs.YtkaifkjbmdcmlaaGreat

namespace Go.Proofs.YtkaifkjbmdcmlaaGreat
open Go.RowKit
def justR (fr ps:List Int):Bool:=fr.length == ps.length && ps.all fun b => decide (b ∈ fr)
theorem justR_eq {fr ps:List Int} (h1:fr.Nodup) (h2:ps.Nodup):justR fr ps=justB fr ps:=by
 unfold justR justB
 cases hl:fr.length == ps.length
 ·rfl
 ·have hl':fr.length=ps.length:=by simpa using hl
  rw [Bool.true_and,Bool.true_and,Bool.eq_iff_iff,List.all_eq_true,List.all_eq_true]
  have sub:∀ {a b:List Int},a.Nodup → a.length=b.length → b.Nodup → (∀ x ∈ a,x ∈ b) → ∀ x ∈ b,x ∈ a:=by
   intro a b ha hab hb hs x hx
   by_cases hxa:x ∈ a
   ·exact hxa
   ·have:=sub_len (x :: a) b (List.nodup_cons.2 ⟨hxa,ha⟩) (fun y hy => by rcases List.mem_cons.1 hy with rfl | hy;exact hx;exact hs y hy)
    rw [List.length_cons] at this
    omega
  constructor
  ·intro h x hx
   exact decide_eq_true (sub h2 hl'.symm h1 (fun y hy => of_decide_eq_true (h y hy)) x hx)
  ·intro h x hx
   exact decide_eq_true (sub h1 hl' h2 (fun y hy => of_decide_eq_true (h y hy)) x hx)
def phisFitR (bs:List BlockM) (b:Nat) (q:BlockM):Bool:=q.phis.all fun p => justR p.fr (predsI bs b)
theorem predsI_nodup (bs:List BlockM) (b:Nat):(predsI bs b).Nodup:=(predsI_rising bs b).imp (fun h => by omega)
theorem look_once {f:FuncM} (h:(lookM f).1=0) {q:BlockM} (hq:q ∈ f.blocks) {p:PhiM} (hp:p ∈ q.phis):p.fr.Nodup ∧ ∀ x ∈ p.fr,0 ≤ x ∧ x < f.blocks.length:=by
 have hon:=((formed_all (look_formed h)).1 q hq).1 p hp
 unfold phiB at hon
 simp only [Bool.and_eq_true] at hon
 have:=once_nodup _ _ hon.2.2
 exact ⟨this.1,fun x hx => by have:=this.2.1 x hx;omega⟩
theorem phisFitR_eq {f:FuncM} (h:(lookM f).1=0) {b:Nat} {q:BlockM} (hq:f.blocks[b]?=some q):phisFitR f.blocks b q=phisFitB f.blocks b q:=by
 have h1:∀ p ∈ q.phis,justR p.fr (predsI f.blocks b)=justB p.fr (predsI f.blocks b):=fun p hp => justR_eq (look_once h (List.mem_of_getElem? hq) hp).1 (predsI_nodup _ _)
 unfold phisFitR phisFitB
 rw [Bool.eq_iff_iff,List.all_eq_true,List.all_eq_true]
 exact ⟨fun h2 p hp => by rw [← h1 p hp];exact h2 p hp,fun h2 p hp => by rw [h1 p hp];exact h2 p hp⟩
def okRow (f:FuncM) (o:List Nat) (r:List Int):Prop:=∀ m,(placedM f).last (r.getD 0 0)=some m →
 if r.getD 3 0 < 0 then OverP f.blocks o m.1 (r.getD 4 0).toNat else if (m.1:Int)=r.getD 2 0 then m.2 < r.getD 3 0 else OverP f.blocks o m.1 (r.getD 2 0).toNat
theorem made_end {f:FuncM} {id:Int} {b:Nat} {a:Int} {q:BlockM} (h:MadeAt f id b a) (hq:f.blocks[b]?=some q):a < q.code.length:=by
 cases h with
 | param => omega
 | phi => omega
 | instr hq' hx =>
  rw [hq] at hq'
  cases hq'
  have:=(List.getElem?_eq_some_iff.1 hx).1
  omega
theorem okRow_phi {f:FuncM} {o:List Nat} (hall:∀ b,b < f.blocks.length → b ∈ o) {b fr:Nat} {t id:Int} {q':BlockM} (hq:f.blocks[fr]?=some q'):okRow f o (rowPhi b t (id,(fr:Int))) ↔ okP f o id fr q'.code.length:=by
 unfold okRow okP rowPhi
 refine forall_congr' fun m => forall_congr' fun hm => ?_
 have hfr:=(List.getElem?_eq_some_iff.1 hq).1
 simp only [List.getD_cons_zero,List.getD_cons_succ,Int.toNat_natCast]
 rw [if_pos (by omega)]
 unfold aheadP
 by_cases h:m.1=fr
 ·subst h
  exact ⟨fun _ => .inl ⟨rfl,made_end (last_made hm) hq⟩,fun _ => OverP.refl (hall _ hfr)⟩
 ·exact ⟨fun k => .inr ⟨h,k⟩,fun k => k.elim (fun k => absurd k.1 h) (fun k => k.2)⟩
theorem okRow_at {f:FuncM} {o:List Nat} {b i:Nat} {t id c:Int}:okRow f o [id,t,(b:Int),(i:Int),c] ↔ okP f o id b i:=by
 unfold okRow okP
 refine forall_congr' fun m => forall_congr' fun _ => ?_
 simp only [List.getD_cons_zero,List.getD_cons_succ,Int.toNat_natCast]
 rw [if_neg (by omega)]
 unfold aheadP
 by_cases h:m.1=b
 ·rw [if_pos (by omega)]
  exact ⟨fun k => .inl ⟨h,k⟩,fun k => k.elim (fun k => k.2) (fun k => absurd h k.1)⟩
 ·rw [if_neg (by omega)]
  exact ⟨fun k => .inr ⟨h,k⟩,fun k => k.elim (fun k => absurd k.1 h) (fun k => k.2)⟩
theorem rowsCode_mem {b:Nat} {xs:List InstrM} {r:List Int}:∀ n,n ≤ xs.length → (r ∈ rowsCode b xs n ↔ ∃ (i:Nat) (x:InstrM),i < n ∧ xs[i]?=some x ∧ r ∈ rowsInstr b i x):=by
 intro n
 induction n with
 | zero => intro _;exact ⟨fun h => (by cases h),fun ⟨i,_,h,_⟩ => (by omega)⟩
 | succ n ih =>
  intro hn
  have hx:xs[n]?=some xs[n]:=List.getElem?_eq_getElem (by omega)
  rw [rowsCode,hx,List.mem_append,ih (by omega)]
  constructor
  ·rintro (⟨i,x,h1,h2,h3⟩ | h)
   ·exact ⟨i,x,by omega,h2,h3⟩
   ·exact ⟨n,_,by omega,hx,h⟩
  ·rintro ⟨i,x,h1,h2,h3⟩
   rcases Nat.lt_or_ge i n with h | h
   ·exact .inl ⟨i,x,h,h2,h3⟩
   ·have:i=n:=by omega
    subst this
    rw [hx] at h2
    cases h2
    exact .inr h3
theorem rows_uses {f:FuncM} (h0:(lookM f).1=0) {o:List Nat} (hall:∀ b,b < f.blocks.length → b ∈ o) {b:Nat} {q:BlockM} (hq:f.blocks[b]?=some q):(∀ r ∈ rowsBlock b q,okRow f o r) ↔ UsesP f o b q:=by
 have hmq:=List.mem_of_getElem? hq
 constructor
 ·intro h
  refine ⟨fun p hp i id fr q' h1 h2 h3 => ?_,fun i x hx id hid => ?_,fun ht => ?_⟩
  ·refine (okRow_phi (b:=b) (t:=p.typ) hall h3).1 (h _ (List.mem_append.2 (.inl (List.mem_flatMap.2 ⟨p,hp,List.mem_map.2 ⟨(id,(fr:Int)),?_,rfl⟩⟩))))
   exact List.mem_of_getElem? (i:=i) (List.getElem?_zip_eq_some.2 ⟨h1,h2⟩)
  ·obtain ⟨m,hm⟩:=List.getElem?_of_mem hid
   have hl:=look_form h0 q hmq x (List.mem_of_getElem? hx)
   have hml:=(List.getElem?_eq_some_iff.1 hm).1
   obtain ⟨t,ht⟩:∃ t,(takesS x.op)[m]?=some t:=⟨_,List.getElem?_eq_getElem (by omega)⟩
   refine (okRow_at (t:=t) (c:=0)).1 (h _ (List.mem_append.2 (.inr (List.mem_append.2 (.inl ((rowsCode_mem _ (Nat.le_refl _)).2 ⟨i,x,(List.getElem?_eq_some_iff.1 hx).1,hx,List.mem_map.2 ⟨(id,t),?_,rfl⟩⟩))))))
   exact List.mem_of_getElem? (i:=m) (List.getElem?_zip_eq_some.2 ⟨hm,ht⟩)
  ·have hr:∃ t,rowsTerm b q=[[q.term.val,t,(b:Int),(q.code.length:Int),0]]:=by
    unfold rowsTerm
    rcases ht with ht | ht
    ·exact ⟨2,by rw [if_pos ht]⟩
    ·exact ⟨0,by rw [if_neg (by omega),if_pos ht]⟩
   obtain ⟨t,hr⟩:=hr
   exact (okRow_at (t:=t) (c:=0)).1 (h _ (List.mem_append.2 (.inr (List.mem_append.2 (.inr (by rw [hr];exact List.mem_singleton.2 rfl))))))
 ·rintro ⟨h1,h2,h3⟩ r hr
  rcases List.mem_append.1 hr with hr | hr
  ·obtain ⟨p,hp,hr⟩:=List.mem_flatMap.1 hr
   obtain ⟨d,hd,rfl⟩:=List.mem_map.1 hr
   obtain ⟨i,hi⟩:=List.getElem?_of_mem hd
   obtain ⟨ha,hb⟩:=List.getElem?_zip_eq_some.1 hi
   have hrg:=(look_once h0 hmq hp).2 d.2 (List.mem_of_getElem? hb)
   obtain ⟨x,y⟩:=d
   simp only at ha hb hrg
   obtain ⟨fr,rfl⟩:∃ fr:Nat,y=(fr:Int):=⟨y.toNat,by omega⟩
   have hq':f.blocks[fr]?=some (f.blocks[fr]'(by omega)):=List.getElem?_eq_getElem _
   exact (okRow_phi hall hq').2 (h1 p hp i x fr _ ha hb hq')
  ·rcases List.mem_append.1 hr with hr | hr
   ·obtain ⟨i,x,hi,hx,hr⟩:=(rowsCode_mem _ (Nat.le_refl _)).1 hr
    obtain ⟨d,hd,rfl⟩:=List.mem_map.1 hr
    obtain ⟨m,hm⟩:=List.getElem?_of_mem hd
    obtain ⟨ha,hb⟩:=List.getElem?_zip_eq_some.1 hm
    exact okRow_at.2 (h2 i x hx d.1 (List.mem_of_getElem? ha))
   ·unfold rowsTerm at hr
    split at hr
    ·rename_i ht
     rw [List.mem_singleton] at hr
     subst hr
     exact okRow_at.2 (h3 (.inl ht))
    ·split at hr
     ·rename_i ht
      rw [List.mem_singleton] at hr
      subst hr
      exact okRow_at.2 (h3 (.inr ht))
     ·cases hr
theorem rowsBlock_blk {b:Nat} {q:BlockM} {r:List Int} (h:r ∈ rowsBlock b q):r.getD 2 0=(b:Int):=by
 rcases List.mem_append.1 h with hr | hr
 ·obtain ⟨p,hp,hr⟩:=List.mem_flatMap.1 hr
  obtain ⟨d,hd,rfl⟩:=List.mem_map.1 hr
  rfl
 ·rcases List.mem_append.1 hr with hr | hr
  ·obtain ⟨i,x,hi,hx,hr⟩:=(rowsCode_mem _ (Nat.le_refl _)).1 hr
   obtain ⟨d,hd,rfl⟩:=List.mem_map.1 hr
   rfl
  ·unfold rowsTerm at hr
   split at hr
   ·rw [List.mem_singleton] at hr;subst hr;rfl
   ·split at hr
    ·rw [List.mem_singleton] at hr;subst hr;rfl
    ·cases hr
theorem rowsTo_at (bs:List BlockM) {r:List Int}:∀ (n i:Nat),n ≤ bs.length → (rowsTo bs n)[i]?=some r → ∃ (b:Nat) (q:BlockM),b < n ∧ bs[b]?=some q ∧ r ∈ rowsBlock b q ∧ (rowsTo bs b).length ≤ i:=by
 intro n
 induction n with
 | zero => intro i _ h;simp [rowsTo] at h
 | succ n ih =>
  intro i hn h
  have hq:bs[n]?=some bs[n]:=List.getElem?_eq_getElem (by omega)
  rw [rowsTo,hq] at h
  rcases Nat.lt_or_ge i (rowsTo bs n).length with hi | hi
  ·rw [List.getElem?_append_left hi] at h
   obtain ⟨b,q,h1,h2⟩:=ih i (by omega) h
   exact ⟨b,q,by omega,h2⟩
  ·rw [List.getElem?_append_right hi] at h
   exact ⟨n,_,by omega,hq,List.mem_of_getElem? h,hi⟩
theorem rowsTo_prefix (bs:List BlockM):∀ (n b:Nat),b ≤ n → ∃ t,rowsTo bs n=rowsTo bs b ++ t:=by
 intro n
 induction n with
 | zero => intro b hb;have:b=0:=by omega
           subst this;exact ⟨[],by simp⟩
 | succ n ih =>
  intro b hb
  rcases Nat.eq_or_lt_of_le hb with rfl | hb
  ·exact ⟨[],by simp⟩
  ·obtain ⟨t,ht⟩:=ih b (by omega)
   rw [rowsTo,ht]
   exact ⟨t ++ _,by rw [List.append_assoc]⟩
theorem rowsTo_has (bs:List BlockM) {b:Nat} {q:BlockM} (hq:bs[b]?=some q) {n:Nat} (hb:b < n) {r:List Int} (hr:r ∈ rowsBlock b q):r ∈ rowsTo bs n:=by
 obtain ⟨t,ht⟩:=rowsTo_prefix bs n (b + 1) hb
 rw [ht,rowsTo,hq]
 exact List.mem_append.2 (.inl (List.mem_append.2 (.inr hr)))
theorem rows_bad {f:FuncM} (h0:(lookM f).1=0) {o:List Nat} (hall:∀ b,b < f.blocks.length → b ∈ o) {i:Nat} {r:List Int} (hr:(rowsTo f.blocks f.blocks.length)[i]?=some r) (hlow:∀ (j:Nat) (s:List Int),j < i → (rowsTo f.blocks f.blocks.length)[j]?=some s → okRow f o s) (hbad:¬ okRow f o r) :
  ∃ b:Nat,FirstBad f.blocks.length (usesPR f o) b ∧ r.getD 2 0=(b:Int):=by
 obtain ⟨b,q,hb,hq,hrb,hle⟩:=rowsTo_at f.blocks _ i (Nat.le_refl _) hr
 refine ⟨b,⟨hb,fun hp => hbad ((rows_uses h0 hall hq).2 (hp q hq) r hrb),fun a ha q' hq' => (rows_uses h0 hall hq').1 fun s hs => ?_⟩,rowsBlock_blk hrb⟩
 obtain ⟨j,hj⟩:=List.getElem?_of_mem (rowsTo_has f.blocks hq' ha hs)
 have hjl:=(List.getElem?_eq_some_iff.1 hj).1
 obtain ⟨t,ht⟩:=rowsTo_prefix f.blocks f.blocks.length b (by omega)
 exact hlow j s (by omega) (by rw [ht,List.getElem?_append_left hjl];exact hj)
theorem rows_good {f:FuncM} (h0:(lookM f).1=0) {o:List Nat} (hall:∀ b,b < f.blocks.length → b ∈ o) (h:∀ r ∈ rowsTo f.blocks f.blocks.length,okRow f o r):∀ b,b < f.blocks.length → usesPR f o b :=
 fun _ hb _ hq => (rows_uses h0 hall hq).1 fun s hs => h s (rowsTo_has f.blocks hq hb hs)
structure RowIs (f:FuncM) (r:List Int):Prop where
 known:Known f (r.getD 0 0)
 blk:∃ b:Nat,r.getD 2 0=(b:Int) ∧ b < f.blocks.length
 frm:∃ b:Nat,r.getD 4 0=(b:Int) ∧ b < f.blocks.length
theorem row_is {f:FuncM} (h0:(lookM f).1=0) (hid:∀ u ∈ usesM f,I64 u.1) {r:List Int} (hr:r ∈ rowsTo f.blocks f.blocks.length):RowIs f r:=by
 obtain ⟨i,hi⟩:=List.getElem?_of_mem hr
 obtain ⟨b,q,hb,hq,hrb,_⟩:=rowsTo_at f.blocks _ i (Nat.le_refl _) hi
 have hn:=(look_some_block h0).1
 have hmq:=List.mem_of_getElem? hq
 have hK:=uses_known h0 hid
 refine ⟨?_,⟨b,rowsBlock_blk hrb,hb⟩,?_⟩
 all_goals
  rcases List.mem_append.1 hrb with hr | hr
  ·obtain ⟨p,hp,hr⟩:=List.mem_flatMap.1 hr
   obtain ⟨d,hd,rfl⟩:=List.mem_map.1 hr
   obtain ⟨j,hj⟩:=List.getElem?_of_mem hd
   obtain ⟨ha,hb'⟩:=List.getElem?_zip_eq_some.1 hj
   first
    | (obtain ⟨_,_,_,_,hk⟩:=hK.phi b q p j d.1 hq hp ha
       exact hk)
    | (have hrg:=(look_once h0 hmq hp).2 d.2 (List.mem_of_getElem? hb')
       exact ⟨d.2.toNat,by simp [rowPhi];omega,by omega⟩)
  ·rcases List.mem_append.1 hr with hr | hr
   ·obtain ⟨k,x,hk,hx,hr⟩:=(rowsCode_mem _ (Nat.le_refl _)).1 hr
    obtain ⟨d,hd,rfl⟩:=List.mem_map.1 hr
    obtain ⟨m,hm⟩:=List.getElem?_of_mem hd
    obtain ⟨ha,_⟩:=List.getElem?_zip_eq_some.1 hm
    first
     | exact hK.arg b q x d.1 hq (List.mem_of_getElem? hx) (List.mem_of_getElem? ha)
     | exact ⟨0,rfl,hn⟩
   ·unfold rowsTerm at hr
    split at hr
    ·rename_i ht
     rw [List.mem_singleton] at hr
     subst hr
     first
      | exact hK.term b q hq (.inl ht)
      | exact ⟨0,rfl,hn⟩
    ·split at hr
     ·rename_i ht
      rw [List.mem_singleton] at hr
      subst hr
      first
       | exact hK.term b q hq (.inr ht)
       | exact ⟨0,rfl,hn⟩
     ·cases hr
end Go.Proofs.YtkaifkjbmdcmlaaGreat
