/- What CanonChecks rests on, part 19: RBlocks, RWith9, RefOver. -/
import Derived.Test.YtaehbgppfahdeaaGreatPkCanonChecks18
import Derived.Deep.LoopGhost
import Derived.BigQuiet
import Derived.Deep.QuietTactic
import Derived.Deep.AppendLies

namespace Go.Proofs.YtaehbgppfahdeaaGreat
open Go.RowKit Go.Maps
structure BkSt (bs:List BlockM) (o:List Nat) (h:Nat) (S:List Nat):Prop where
 nodup:S.Nodup
 lt:∀ x ∈ S,x < bs.length
 head:h ∈ S
 sound:∀ x ∈ S,InL bs o h x
 lat:∀ p,BackP bs o h p → p ∈ S
def shutAt (bs:List BlockM) (h:Nat) (S:List Nat) (b:Nat):Prop:=b ∈ S → b ≠ h → ∀ p,b ∈ succM bs p → p ∈ S
section
variable {bs:List BlockM} {o:List Nat} {h k j p:Nat} {S S0:List Nat} {ch:Bool}
theorem BkSt.all (B:BkSt bs o h S) (hc:∀ b,b < bs.length → shutAt bs h S b) (x:Nat):x ∈ S ↔ InL bs o h x:=by
 refine ⟨B.sound x,fun m => ?_⟩
 induction m with
 | head => exact B.head
 | latch q => exact B.lat _ q
 | step _ hne e ih => exact hc _ (B.lt _ ih) ih hne _ e
theorem BkSt.add (B:BkSt bs o h S) (hk:k ∈ S) (hne:k ≠ h) (hp:p ∈ predsTo bs bs.length k) (hn:p ∉ S):BkSt bs o h (p :: S):=by
 refine ⟨List.nodup_cons.2 ⟨hn,B.nodup⟩,fun x hx => ?_,List.mem_cons_of_mem _ B.head,fun x hx => ?_,fun q hq => List.mem_cons_of_mem _ (B.lat q hq)⟩
 ·rcases List.mem_cons.1 hx with rfl | hx
  ·exact predsTo_lt hp
  ·exact B.lt x hx
 ·rcases List.mem_cons.1 hx with rfl | hx
  ·exact .step (B.sound k hk) hne (mem_predsTo.1 hp)
  ·exact B.sound x hx
structure BkMid (bs:List BlockM) (o:List Nat) (h:Nat) (S0 S:List Nat) (ch:Bool) (k:Nat) (l:List Nat) (j:Nat):Prop where
 st:BkSt bs o h S
 no:ch=false → S=S0 ∧ (∀ b,b < k → shutAt bs h S b) ∧ (∀ p ∈ l.take j,p ∈ S)
 yes:ch=true → S0.length < S.length
theorem BkMid.begin {l l':List Nat} (B:BkMid bs o h S0 S ch k l 0):BkMid bs o h S0 S ch k l' 0 :=
 ⟨B.st,fun e => ⟨(B.no e).1,(B.no e).2.1,fun p hp => by simp at hp⟩,B.yes⟩
theorem BkMid.skip {l:List Nat} (B:BkMid bs o h S0 S ch k l j) (hp:l[j]?=some p) (hm:p ∈ S):BkMid bs o h S0 S ch k l (j + 1) :=
 ⟨B.st,fun e => ⟨(B.no e).1,(B.no e).2.1,fun q hq => by
  rw [List.take_add_one,hp] at hq
  rcases List.mem_append.1 hq with hq | hq
  ·exact (B.no e).2.2 q hq
  ·simp at hq;subst hq;exact hm⟩,B.yes⟩
theorem BkMid.add {l:List Nat} (B:BkMid bs o h S0 S ch k l j) (hp:l[j]?=some p) (hl:l=predsTo bs bs.length k) (hk:k ∈ S) (hne:k ≠ h) (hn:p ∉ S):BkMid bs o h S0 (p :: S) true k l (j + 1) :=
 ⟨B.st.add hk hne (by rw [← hl];exact List.mem_of_getElem? hp) hn,fun e => (by cases e),fun _ => by
  rw [List.length_cons]
  cases ch with
  | false => rw [(B.no rfl).1];omega
  | true => have:=B.yes rfl;omega⟩
theorem BkMid.next {l:List Nat} (B:BkMid bs o h S0 S ch k l j) (hl:l=predsTo bs bs.length k) (hj:l.length ≤ j):BkMid bs o h S0 S ch (k + 1) l 0 :=
 ⟨B.st,fun e => ⟨(B.no e).1,fun b hb => by
  by_cases hbk:b=k
  ·subst hbk
   intro _ _ p hp
   exact (B.no e).2.2 p (by rw [List.take_of_length_le hj,hl];exact mem_predsTo.2 hp)
  ·exact (B.no e).2.1 b (by omega),fun p hp => by simp at hp⟩,B.yes⟩
theorem BkMid.pass {l:List Nat} (B:BkMid bs o h S0 S ch k l 0) (hx:k ∉ S ∨ k=h):BkMid bs o h S0 S ch (k + 1) l 0 :=
 ⟨B.st,fun e => ⟨(B.no e).1,fun b hb => by
  by_cases hbk:b=k
  ·subst hbk
   intro h1 h2
   rcases hx with h3 | h3
   ·exact absurd h1 h3
   ·exact absurd h3 h2
  ·exact (B.no e).2.1 b (by omega),fun p hp => by simp at hp⟩,B.yes⟩
end
theorem exit_any {bs:List BlockM} {L:Nat → Nat → Bool} {h t:Nat}:((predsTo bs bs.length t).any fun p => L h p)=outB bs L h t:=by
 unfold outB predsTo
 rw [Bool.eq_iff_iff,List.any_eq_true,List.any_eq_true]
 constructor
 ·rintro ⟨p,hp,hl⟩
  rw [List.mem_filter] at hp
  exact ⟨p,hp.1,by rw [hl,Bool.true_and];exact hp.2⟩
 ·rintro ⟨p,hp,hl⟩
  rw [Bool.and_eq_true] at hl
  exact ⟨p,List.mem_filter.2 ⟨hp,hl.2⟩,hl.1⟩
structure TwoR (w:World) (base:Nat) (v u:Value) (l m:List Nat):Prop where
 one:w.ownsRow base 3 1 v l.length (natInts l)
 two:w.ownsRow base 3 1 u m.length (natInts m)
 apart:∀ k,v.ownBlock=some k → u.ownBlock ≠ some k
section
variable {w w' w1:World} {base:Nat} {v u:Value} {l m:List Nat} {o:Obj}
theorem TwoR.swap (h:TwoR w base v u l m):TwoR w base u v m l:=⟨h.two,h.one,fun k hk e => h.apart k e hk⟩
theorem TwoR.other {j off:Nat} (h:TwoR w base v u l m) (hj:j < base) (x:Value):TwoR (w.setCell ⟨j,off,none⟩ x) base v u l m :=
 ⟨ownsRow_setCell_other h.one (a:=⟨j,off,none⟩) (by intro e;have:=(h.one.lt j e).1;omega) x,ownsRow_setCell_other h.two (a:=⟨j,off,none⟩) (by intro e;have:=(h.two.lt j e).1;omega) x,h.apart⟩
theorem TwoR.push {g cap x:Nat} (h:TwoR w base v u l m) (hown:w1.ownsRow base 3 1 (.slice (some ⟨g,0,none⟩) (l.length + 1) cap) (l.length + 1) (natInts l ++ [.int .i64 (x:Int)])) (hg:(w.alloc o).grownBy w1 v.ownBlock) (hor:v.ownBlock=some g ∨ g=(w.alloc o).heap.size) :
  TwoR w1 base (.slice (some ⟨g,0,none⟩) (l.length + 1) cap) u (l ++ [x]) m:=by
 refine ⟨by rw [List.length_append,natInts_snoc];exact hown,(h.two.alloc o).kept hg ?_,fun k hk e => ?_⟩
 ·cases e:u.ownBlock with
  | none => exact .inl rfl
  | some k => exact .inr (fun e2 => h.apart k e2.symm e)
 ·have e1:g=k:=by simpa [Value.ownBlock] using hk
  subst e1
  rcases hor with h1 | h1
  ·exact h.apart g h1 e
  ·have:=(h.two.lt g e).2
   simp at h1
   omega
end
structure BkAt (N G n h:Nat) (fnc:Array Value) (w wr:World) (s v1 v3:Value) (P:Nat → Bool) (l m:List Nat):Prop where
 hG:N + 2 < G
 box:wr.heap[N + 1]?=some (.cells #[.int .i64 (h:Int),v1,s,v3,.int .i64 0] 88 (0,0))
 res:wr.heap[N + 2]?=some (.cells #[.int .i64 0,.slice none 0 0,.slice none 0 0,.slice none 0 0,.int .i64 0] 88 (0,0))
 fn:wr.heap[N]?=some (.cells fnc 25 (0,0))
 row:wr.ownsRow G 4 1 (.slice (some ⟨G,0,none⟩) n n) n (boolsM n P)
 two:TwoR wr (G + 1) v1 v3 l m
 bel:Below N w wr
section
variable {N G n h:Nat} {fnc:Array Value} {w wr w1:World} {s v1 v3:Value} {P:Nat → Bool} {l m:List Nat} {o:Obj}
theorem BkAt.lt (H:BkAt N G n h fnc w wr s v1 v3 P l m):G < wr.heap.size:=(H.row.lt G rfl).2
theorem BkAt.grown {v:Value} {off g len cap:Nat} (H:BkAt N G n h fnc w wr s v1 v3 P l m) (hv:∀ k,v.ownBlock=some k → G + 1 ≤ k) (hg:(wr.alloc o).grownBy w1 v.ownBlock) :
  w1.heap[N + 1]?=some (.cells #[.int .i64 (h:Int),v1,s,v3,.int .i64 0] 88 (0,0)) ∧
  (w1.setCell ⟨N + 1,off,none⟩ (.slice (some ⟨g,0,none⟩) len cap)).heap[N + 2]?=some (.cells #[.int .i64 0,.slice none 0 0,.slice none 0 0,.slice none 0 0,.int .i64 0] 88 (0,0)) ∧
  (w1.setCell ⟨N + 1,off,none⟩ (.slice (some ⟨g,0,none⟩) len cap)).heap[N]?=some (.cells fnc 25 (0,0)) ∧
  (w1.setCell ⟨N + 1,off,none⟩ (.slice (some ⟨g,0,none⟩) len cap)).ownsRow G 4 1 (.slice (some ⟨G,0,none⟩) n n) n (boolsM n P) ∧
  Below N w (w1.setCell ⟨N + 1,off,none⟩ (.slice (some ⟨g,0,none⟩) len cap)):=by
 have hl:=H.lt
 have hG:=H.hG
 have key:∀ j,j ≤ G → w1.heap[j]?=wr.heap[j]?:=fun j hj => by
  have h1:=hg.block j (by simp;omega) (fun e => by have:=hv j e.symm;omega)
  rw [h1]
  exact Below.heap_alloc _ _ _ (by omega)
 refine ⟨(key (N + 1) (by omega)).trans H.box,?_,?_,?_,?_⟩
 ·rw [heap_setCell_other w1 ⟨N + 1,off,none⟩ (N + 2) _ (Nat.ne_of_gt (Nat.lt_succ_self (N + 1)))]
  exact (key _ (by omega)).trans H.res
 ·rw [heap_setCell_other w1 ⟨N + 1,off,none⟩ N _ (Nat.ne_of_lt (Nat.lt_succ_self N))]
  exact (key _ (by omega)).trans H.fn
 ·refine ownsRow_setCell_other ?_ (a:=⟨N + 1,off,none⟩) (by intro e;have e2:G=N + 1:=Option.some.inj e;omega) _
  refine (H.row.alloc o).kept hg ?_
  cases e:v.ownBlock with
  | none => exact .inr (by simp [Value.ownBlock])
  | some k =>
   refine .inr (fun e2 => ?_)
   have e3:G=k:=by simpa [Value.ownBlock] using e2
   have:=hv k e
   omega
 ·exact (((H.bel).alloc (by have:=H.bel.size;omega) o).grown hg (by have:=H.bel.size;simp;omega) (fun k hk => by have:=hv k hk;omega)).setCell (Nat.le_succ N) _
theorem BkAt.push1 {g cap x:Nat} (H:BkAt N G n h fnc w wr s v1 v3 P l m) (hown:w1.ownsRow (G + 1) 3 1 (.slice (some ⟨g,0,none⟩) (l.length + 1) cap) (l.length + 1) (natInts l ++ [.int .i64 (x:Int)])) (hg:(wr.alloc o).grownBy w1 v1.ownBlock) (hor:v1.ownBlock=some g ∨ g=(wr.alloc o).heap.size) :
  BkAt N G n h fnc w (w1.setCell ⟨N + 1,1,none⟩ (.slice (some ⟨g,0,none⟩) (l.length + 1) cap)) s (.slice (some ⟨g,0,none⟩) (l.length + 1) cap) v3 P (l ++ [x]) m:=by
 obtain ⟨a1,a2,a3,a4,a5⟩:=H.grown (off:=1) (g:=g) (len:=l.length + 1) (cap:=cap) (fun k hk => (H.two.one.lt k hk).1) hg
 refine ⟨H.hG,?_,a2,a3,a4,(H.two.push hown hg hor).other (by have:=H.hG;omega) _,a5⟩
 rw [heap_setCell_same _ (N + 1) 1 _ _ _ a1]
 rfl
theorem BkAt.push3 {g cap x:Nat} (H:BkAt N G n h fnc w wr s v1 v3 P l m) (hown:w1.ownsRow (G + 1) 3 1 (.slice (some ⟨g,0,none⟩) (m.length + 1) cap) (m.length + 1) (natInts m ++ [.int .i64 (x:Int)])) (hg:(wr.alloc o).grownBy w1 v3.ownBlock) (hor:v3.ownBlock=some g ∨ g=(wr.alloc o).heap.size) :
  BkAt N G n h fnc w (w1.setCell ⟨N + 1,3,none⟩ (.slice (some ⟨g,0,none⟩) (m.length + 1) cap)) s v1 (.slice (some ⟨g,0,none⟩) (m.length + 1) cap) P l (m ++ [x]):=by
 obtain ⟨a1,a2,a3,a4,a5⟩:=H.grown (off:=3) (g:=g) (len:=m.length + 1) (cap:=cap) (fun k hk => (H.two.two.lt k hk).1) hg
 refine ⟨H.hG,?_,a2,a3,a4,((H.two.swap.push hown hg hor).other (by have:=H.hG;omega) _).swap,a5⟩
 rw [heap_setCell_same _ (N + 1) 3 _ _ _ a1]
 rfl
end
theorem range_more {P:Nat → Bool} {b:Nat} (h:P b=true):(List.range (b + 1)).filter P=(List.range b).filter P ++ [b]:=by
 rw [List.range_succ,List.filter_append]
 simp [h]
theorem range_skip {P:Nat → Bool} {b:Nat} (h:P b=false):(List.range (b + 1)).filter P=(List.range b).filter P:=by
 rw [List.range_succ,List.filter_append]
 simp [h]
theorem range_len {P:Nat → Bool} {b:Nat}:((List.range b).filter P).length ≤ b:=by
 have:=List.length_filter_le P (List.range b)
 rwa [List.length_range] at this
theorem any_next {P:Nat → Bool} {l:List Nat} {j p:Nat} (hp:l[j]?=some p):(l.take (j + 1)).any P=((l.take j).any P || P p):=by
 rw [List.take_add_one,hp,List.any_append]
 simp
def RBlocksPost (n:Nat) (h:Nat) (s:Value) (L:Nat → Nat → Bool) (bs:List BlockM) (w:World) (e:Ending) (w':World):Prop :=
 ∃ b1 b3:Value,e=.returned (.agg #[.int .i64 (h:Int),b1,s,b3,.int .i64 0]) ∧ TwoR w' w.heap.size b1 b3 (blocksM n L h) (exitsM bs L h) ∧ Below w.heap.size w w'
set_option maxRecDepth 100000 in
set_option maxHeartbeats 8000000 in
theorem refBlocks_any (bs:List BlockM) (o:List Nat) (pl:Nat → Nat) (par:Nat → Option Nat) (D L:Nat → Nat → Bool) (h gp B nl cs base:Nat) (As:Option Addr) (vs:List Value) (pv av cv bv:Value) (w:World) (K:LoopOk bs o pl par D L) (hh:h < bs.length) (hin:EndsIn bs) (hbv:BlocksR w B bv bs) (_hB:B ≤ w.heap.size) (hls:Lists w base gp bs.length vs (predsAt bs bs.length bs.length 0)) (hs:Ints w w.heap.size (.slice As nl cs) ((latchesM bs D h).map fun (x:Nat) => (x:Int))) (_hav:∃ x,av=.int .i64 x) :
  Calls Tryz.prog 84 #[.agg #[pv,av,cv,bv],.agg #[.int .i64 (h:Int),.slice none 0 0,.slice As nl cs,.slice none 0 0,.int .i64 0],.slice (some ⟨gp,0,none⟩) bs.length bs.length] w (RBlocksPost bs.length h (.slice As nl cs) L bs w):=by
 have HK:=hideI K
 have hn5:=K.n5
 have HIN:=hideI hin
 have HLS:=hideI hls
 obtain ⟨A,c,rfl,hbm,_⟩:=hbv
 obtain ⟨W0,hW0⟩:∃ W0,W0=((w.alloc (.cells #[pv,av,cv,.slice A bs.length c] 25)).alloc (.cells #[.int .i64 (h:Int),.slice none 0 0,.slice As nl cs,.slice none 0 0,.int .i64 0] 88)).alloc (.cells #[.int .i64 0,.slice none 0 0,.slice none 0 0,.slice none 0 0,.int .i64 0] 88):=⟨_,rfl⟩
 have hB0:Below w.heap.size w W0:=by rw [hW0];exact (((Below.refl _ w).alloc (Nat.le_refl _) _).alloc (by simp) _).alloc (by simp;omega) _
 have hs0:W0.heap.size=w.heap.size + 3:=by rw [hW0];simp
 have hb0:W0.heap[w.heap.size]?=some (.cells #[pv,av,cv,.slice A bs.length c] 25 (0,0)):=by
  rw [hW0,Below.heap_alloc _ _ _ (by simp;omega),Below.heap_alloc _ _ _ (by simp)]
  exact heap_alloc_new w _
 have hb1:W0.heap[w.heap.size + 1]?=some (.cells #[.int .i64 (h:Int),.slice none 0 0,.slice As nl cs,.slice none 0 0,.int .i64 0] 88 (0,0)):=by
  rw [hW0,Below.heap_alloc _ _ _ (by simp)]
  have:=heap_alloc_new (w.alloc (.cells #[pv,av,cv,.slice A bs.length c] 25)) (.cells #[.int .i64 (h:Int),.slice none 0 0,.slice As nl cs,.slice none 0 0,.int .i64 0] 88)
  simpa using this
 have hb2:W0.heap[w.heap.size + 2]?=some (.cells #[.int .i64 0,.slice none 0 0,.slice none 0 0,.slice none 0 0,.int .i64 0] 88 (0,0)):=by
  rw [hW0]
  have:=heap_alloc_new ((w.alloc (.cells #[pv,av,cv,.slice A bs.length c] 25)).alloc (.cells #[.int .i64 (h:Int),.slice none 0 0,.slice As nl cs,.slice none 0 0,.int .i64 0] 88)) (.cells #[.int .i64 0,.slice none 0 0,.slice none 0 0,.slice none 0 0,.int .i64 0] 88)
  simpa using this
 have HW0:=hideI hW0
 have HB0:=hideI hB0
 have HS0:=hideI hs0
 have HX0:=hideI hb0
 have HX1:=hideI hb1
 have HX2:=hideI hb2
 have HLS0:=hideI (HLS.out.kept hB0)
 have hnl:nl=(latchesM bs D h).length:=by
  obtain ⟨_,_,e,_⟩:=hs
  rw [List.length_map] at e
  injection e
 have HNL:=hideI hnl
 obtain ⟨As',_,e1,_,hpx⟩:=hs.keep hB0
 rw [List.length_map,← hnl] at hpx
 have ea:As'=As:=by injection e1 with e2 _ _;exact e2.symm
 subst ea
 have HPX:=hideI hpx
 have hnl5:nl ≤ 512:=by
  rw [hnl]
  unfold latchesM
  exact Nat.le_trans (List.length_filter_le _ _) (Nat.le_trans (predsTo_len _ _ _) hn5)
 have g3:=(row_cells hb0 rfl) 3
 obtain ⟨i0,hix,hz0,hz1,hz2⟩:=info_parts bool_info
 have hgm:w.heap.size + 2 < W0.heap.size:=by omega
 clear K hin hls hW0 hB0 hs0 hb0 hb1 hb2 hnl hs hpx e1
 go_enter Tryz.func84,Tryz.ntmps84
 go_upto_region 1 with fail
 rw [← HW0.out]
 go_wp2_with (at_make;go_must (refine wpList_make_full _ rfl _ _ 91 rfl W0.heap.size 4 i0 (.bool false) 1 Tryz.underlying91 hix hz0 hz1 .i64 .i64 _ _ bs.length rfl rfl rfl rfl (by rw [hz2];omega) (by unfold maxLen;omega) (Nat.le_refl _) ?_);intro w1 hown1 hg1;go_must (rw [marks_made] at hown1;have HO1:=hideI hown1;have HB1:Hid (Below W0.heap.size W0 w1):=hideI ((Below.refl _ _).grown hg1 (Nat.le_refl _) (by simp));clear hown1 hg1 g3))
 clear hix hz0 hz1 hz2
 go_loopw [8] (fun u wr => ∃ k:Nat,k ≤ nl ∧ u=.int .i64 k ∧ Hid (wr.ownsRow W0.heap.size 4 1 (.slice (some ⟨W0.heap.size,0,none⟩) bs.length bs.length) bs.length (marks bs.length ((latchesM bs D h).take k).reverse)) ∧ Hid (Below W0.heap.size W0 wr)) (fun u _ => nl - (intOf u).toNat)
 case atStart => exact ⟨0,Nat.zero_le _,rfl,by rw [List.take_zero,List.reverse_nil];exact HO1,HB1⟩
 case round =>
  obtain ⟨k,hk,rfl,HO,HBr⟩:=hrel
  have x2:=(row_cells HX1.out (HBr.out.block _ (by omega))) 2
  by_cases hlt:k < nl
  ·obtain ⟨p,hp⟩:∃ p,(latchesM bs D h)[k]?=some p:=⟨_,List.getElem?_eq_getElem (by rw [← HNL.out];exact hlt)⟩
   have hpl:p < bs.length:=lsucc_lt (HK.out.fn.mem_latches.1 (List.mem_of_getElem? hp)).1
   obtain ⟨pb,po,rfl,hpb,d0⟩:=HPX.out k hlt
   rw [List.getElem?_map,hp] at d0
   simp only [Option.map_some,Option.getD_some] at d0
   have d1:=(HBr.out.cell (p:=⟨pb,po + k,none⟩) (by show pb < _;omega)).trans d0
   obtain ⟨S,hS⟩:∃ S,S=((latchesM bs D h).take k).reverse:=⟨_,rfl⟩
   rw [← hS] at HO
   have HSN:Hid (((latchesM bs D h).take (k + 1)).reverse=p :: S):=by show _=_;rw [List.take_add_one,hp,hS];simp
   have c2:wr.cell? ⟨W0.heap.size,p,none⟩=some (.bool (decide (p ∈ S))):=by rw [World.ownsRow.cellAt HO.out p (by omega),marks_at hpl]
   obtain ⟨old,hold⟩:∃ old:Bool,old=decide (p ∈ S):=⟨_,rfl⟩
   rw [← hold] at c2
   have c3:wr.frozen? ⟨W0.heap.size,p,none⟩=false:=World.ownsRow.frozenAt HO.out p
   have hst:=(World.ownsRow.stored HO.out p (.bool true)).1
   rw [marks_set] at hst
   have HST:=hideI hst
   have HBS:Hid (Below W0.heap.size W0 (wr.setCell ⟨W0.heap.size,p,none⟩ (.bool true))):=HBr.out.setCell (Nat.le_refl _) _
   clear hp d0 hS hold hst
   go_wp2
   go_roundw
   case rel => exact ⟨k + 1,by omega,by go_num,by rw [HSN.out];exact HST,HBS⟩
   case measure => simp [intOf];omega
  ·obtain ⟨S,hS⟩:∃ S,S=(latchesM bs D h).reverse:=⟨_,rfl⟩
   have HO':Hid (wr.ownsRow W0.heap.size 4 1 (.slice (some ⟨W0.heap.size,0,none⟩) bs.length bs.length) bs.length (marks bs.length S)):=by
    have h1:=HO.out
    rw [List.take_of_length_le (by rw [← HNL.out];omega),← hS] at h1
    exact h1
   obtain ⟨S1,hS1⟩:∃ S1,S1=h :: S:=⟨_,rfl⟩
   have c2:wr.cell? ⟨W0.heap.size,h,none⟩=some (.bool (decide (h ∈ S))):=by rw [World.ownsRow.cellAt HO'.out h (by omega),marks_at hh]
   obtain ⟨old,hold⟩:∃ old:Bool,old=decide (h ∈ S):=⟨_,rfl⟩
   rw [← hold] at c2
   have c3:wr.frozen? ⟨W0.heap.size,h,none⟩=false:=World.ownsRow.frozenAt HO'.out h
   have hst:=(World.ownsRow.stored HO'.out h (.bool true)).1
   rw [marks_set,← hS1] at hst
   have x0:=(row_cells HX1.out (HBr.out.block _ (by omega))) 0
   obtain ⟨S2,hS2,hmm⟩:∃ S2,BkSt bs o h S2 ∧ ∀ x,x ∈ S2 ↔ x ∈ S1:=by
    refine ⟨h :: (latchesM bs D h).filter (fun x => decide (x ≠ h)),⟨?_,?_,List.mem_cons_self ..,?_,?_⟩,?_⟩
    ·refine List.nodup_cons.2 ⟨fun hm => ?_,List.Pairwise.filter _ ?_⟩
     ·rw [List.mem_filter] at hm
      simp at hm
     ·unfold latchesM predsTo
      exact List.Pairwise.filter _ (List.Pairwise.filter _ List.nodup_range)
    ·intro x hx
     rcases List.mem_cons.1 hx with rfl | hx
     ·exact hh
     ·exact lsucc_lt (HK.out.fn.mem_latches.1 (List.mem_filter.1 hx).1).1
    ·intro x hx
     rcases List.mem_cons.1 hx with rfl | hx
     ·exact .head
     ·exact .latch (HK.out.fn.mem_latches.1 (List.mem_filter.1 hx).1)
    ·intro p hp
     by_cases e:p=h
     ·exact e ▸ List.mem_cons_self ..
     ·exact List.mem_cons_of_mem _ (List.mem_filter.2 ⟨HK.out.fn.mem_latches.2 hp,by simpa using e⟩)
    ·intro x
     rw [hS1,hS,List.mem_cons,List.mem_cons,List.mem_filter,List.mem_reverse]
     constructor
     ·rintro (e | e)
      ·exact .inl e
      ·exact .inr e.1
     ·rintro (e | e)
      ·exact .inl e
      ·by_cases e2:x=h
       ·exact .inl e2
       ·exact .inr ⟨e,by simpa using e2⟩
   have HST:Hid ((wr.setCell ⟨W0.heap.size,h,none⟩ (.bool true)).ownsRow W0.heap.size 4 1 (.slice (some ⟨W0.heap.size,0,none⟩) bs.length bs.length) bs.length (marks bs.length S2)):=by
    have h1:=hst
    rw [show marks bs.length S1=marks bs.length S2 from marks_congr (fun x => (hmm x).symm)] at h1
    exact h1
   have HBS:Hid (Below W0.heap.size W0 (wr.setCell ⟨W0.heap.size,h,none⟩ (.bool true))):=HBr.out.setCell (Nat.le_refl _) _
   have HBK:=hideI hS2
   have hS2l:=below_len _ _ hS2.nodup hS2.lt
   clear hS hS1 hold hst hS2 hmm HO HO'
   go_wp2
   clear x2 x0 c2 c3 HBr
   go_loopg [9] (2 * bs.length + 1) (fun gk ch wr => ∃ (S:List Nat) (cb:Bool),ch=.bool cb ∧ 2 * (bs.length - S.length) + (if cb then 1 else 0) ≤ gk ∧ gk ≤ 2 * bs.length + 1 ∧ Hid (BkSt bs o h S) ∧ Hid (cb=false → ∀ b,b < bs.length → shutAt bs h S b) ∧ Hid (wr.ownsRow W0.heap.size 4 1 (.slice (some ⟨W0.heap.size,0,none⟩) bs.length bs.length) bs.length (marks bs.length S)) ∧ Hid (Below W0.heap.size W0 wr))
   case atStart => exact ⟨S2,true,rfl,by simp;omega,Nat.le_refl _,HBK,hideI (fun h => by cases h),HST,HBS⟩
   case round =>
    clear HBK HST HBS
    obtain ⟨S,cb,rfl,hgk,hgm2,HS,HC,HO,HBr⟩:=hrel
    cases cb with
    | false =>
     have HLI:Hid (∀ x,decide (x ∈ S)=L h x):=fun x => by
      rw [Bool.eq_iff_iff,decide_eq_true_iff,HK.out.fn.inL]
      exact HS.out.all (HC.out (by first | rfl | trivial)) x
     have HA0:Hid (BkAt w.heap.size W0.heap.size bs.length h #[pv,av,cv,.slice A bs.length c] w wr (.slice As' nl cs) (.slice none 0 0) (.slice none 0 0) (L h) ((List.range 0).filter (L h)) ((List.range 0).filter fun t => !L h t && outB bs L h t)):=by
      refine ⟨hgm,(HBr.out.block _ (by omega)).trans HX1.out,(HBr.out.block _ (by omega)).trans HX2.out,(HBr.out.block _ (by omega)).trans HX0.out,?_,⟨World.ownsRow_nil _ _ _ _,World.ownsRow_nil _ _ _ _,fun k hk => by cases hk⟩,HB0.out.trans (HBr.out.mono (by omega))⟩
      have h1:=HO.out
      rw [marks_bools,boolsM_congr (Q:=L h) (fun b _ => HLI.out b)] at h1
      exact h1
     clear HO HBr HC hgk hgm2
     obtain ⟨i1,hjx,hy0,hy1,hy2⟩:=info_parts int_info
     go_wp2_with fail
     go_loopw [12] (fun u wr => ∃ (b:Nat) (v1 v3:Value),b ≤ bs.length ∧ u=.int .i64 b ∧ Hid (BkAt w.heap.size W0.heap.size bs.length h #[pv,av,cv,.slice A bs.length c] w wr (.slice As' nl cs) v1 v3 (L h) ((List.range b).filter (L h)) ((List.range b).filter fun t => !L h t && outB bs L h t))) (fun u _ => bs.length - (intOf u).toNat)
     case atStart => exact ⟨0,_,_,Nat.zero_le _,rfl,HA0⟩
     case round =>
      clear HA0
      obtain ⟨b,v1,v3,hb,rfl,HA⟩:=hrel
      have g3:=(row_cells HA.out.fn rfl) 3
      have x1:=(row_cells HA.out.box rfl) 1
      have x3:=(row_cells HA.out.box rfl) 3
      have hGl:=HA.out.lt
      by_cases hlt:b < bs.length
      ·have cb:wr.cell? ⟨W0.heap.size,b,none⟩=some (.bool (L h b)):=by rw [World.ownsRow.cellAt HA.out.row b (by omega)];exact boolsM_at hlt
       obtain ⟨l1,hl1⟩:∃ l1,l1=(List.range b).filter (L h):=⟨_,rfl⟩
       obtain ⟨l3,hl3⟩:∃ l3,l3=(List.range b).filter fun t => !L h t && outB bs L h t:=⟨_,rfl⟩
       have hl1l:l1.length ≤ 512:=by rw [hl1];exact Nat.le_trans range_len (by omega)
       have hl3l:l3.length ≤ 512:=by rw [hl3];exact Nat.le_trans range_len (by omega)
       rw [← hl1,← hl3] at HA
       cases hr:L h b with
       | true =>
        rw [hr] at cb
        have HN1:Hid ((List.range (b + 1)).filter (L h)=l1 ++ [b]):=by show _=_;rw [hl1];exact range_more hr
        have HN3:Hid (((List.range (b + 1)).filter fun t => !L h t && outB bs L h t)=l3):=by show _=_;rw [hl3];exact range_skip (by simp [hr])
        have H63:Hid (l1.length + 1 ≤ maxLen):=by show _ ≤ _;simp only [maxLen];omega
        have HBY:Hid ((l1.length + 1) * 8 ≤ 140737488355328):=by show _ ≤ _;omega
        clear hr hl1 hl3 x3
        go_wp2_with (at_builtin;go_must (refine wpList_append_lies _ rfl _ _ _ rfl (W0.heap.size + 1) 3 i1 (.int .i64 0) 1 8 Tryz.underlying22 hjx hy0 hy1 hy2 rfl (by decide) _ _ _ rfl (HA.out.two.one.alloc _) ⟨wr.heap.size,0,none⟩ 1 1 [.int .i64 b] rfl rfl (one_new wr _) (by simp [Value.oneCell']) (by decide) H63.out HBY.out (by simp;omega) _ rfl ?_);intro g1 cap1 w3 hown1 hgrow1 hor1 _;go_must (have HGR:=hideI (HA.out.grown (off:=1) (g:=g1) (len:=l1.length + 1) (cap:=cap1) (fun k hk => (HA.out.two.one.lt k hk).1) hgrow1);have HPU:=hideI (HA.out.push1 hown1 hgrow1 hor1);have zz:=row_cells HGR.out.1 rfl 1;have ff:=free_rowN HGR.out.1 rfl 1;clear hown1 hgrow1 hor1))
        go_roundw
        case rel => exact ⟨b + 1,_,_,by omega,by go_num,by rw [HN1.out,HN3.out];exact HPU⟩
        case measure => simp [intOf];omega
       | false =>
        rw [hr] at cb
        have HN1:Hid ((List.range (b + 1)).filter (L h)=l1):=by show _=_;rw [hl1];exact range_skip hr
        obtain ⟨v,hv⟩:∃ v,vs[b]?=some v:=⟨_,List.getElem?_eq_getElem (by rw [HLS0.out.vl];exact hlt)⟩
        have hl:(predsAt bs bs.length bs.length 0)[b]?=some (predsTo bs bs.length b):=by rw [predsAt_at hlt];simp
        have cgp0:w.cell? ⟨gp,b,none⟩=some v:=by rw [World.ownsRow.cellAt HLS.out.row b (by omega)];exact hv
        have hgpl:=HLS.out.lt.2
        have hown:=HLS.out.own b v _ hv hl
        obtain ⟨l,hll2⟩:∃ l,l=predsTo bs bs.length b:=⟨_,rfl⟩
        rw [← hll2] at hown
        have HLL:=hideI hll2
        have hlll:l.length ≤ 512:=by rw [hll2];exact Nat.le_trans (predsTo_len _ _ _) hn5
        obtain ⟨PA,pc2,e1,_,hpy⟩:=nat_ints hown (by omega)
        rw [List.length_map] at e1 hpy
        subst e1
        have HPY:=hideI hpy
        have cgp:=(HA.out.bel.cell (p:=⟨gp,b,none⟩) hgpl).trans cgp0
        have HR:=hideI hr
        have HL3:=hideI hl3
        clear hv hl hown hll2 hpy cgp0 hr hl1 hl3 x1
        go_wp2_with fail
        go_loopw [13,14] (fun ev u wr2 => ∃ (j:Nat),j ≤ l.length ∧ u=.int .i64 j ∧ ev=.bool ((l.take j).any (L h)) ∧ wr2=wr) (fun _ u _ => l.length - (intOf u).toNat)
        case atStart => exact ⟨0,Nat.zero_le _,rfl,rfl,rfl⟩
        case round =>
         obtain ⟨j,hj,rfl,rfl,hw⟩:=hrel
         obtain rfl:=hw.symm
         obtain ⟨ex,hex⟩:∃ ex,ex=(l.take j).any (L h):=⟨_,rfl⟩
         rw [← hex]
         by_cases hltj:j < l.length
         ·obtain ⟨p,hp⟩:∃ p,l[j]?=some p:=⟨_,List.getElem?_eq_getElem hltj⟩
          have hpl:p < bs.length:=predsTo_lt (by rw [← HLL.out];exact List.mem_of_getElem? hp)
          have HAN:Hid ((l.take (j + 1)).any (L h)=(ex || L h p)):=by show _=_;rw [any_next hp,hex]
          obtain ⟨pb,po,rfl,hpb,d0⟩:=HPY.out j hltj
          rw [List.getElem?_map,hp] at d0
          simp only [Option.map_some,Option.getD_some] at d0
          have d1:=(HA.out.bel.cell (p:=⟨pb,po + j,none⟩) hpb).trans d0
          have cp:wr.cell? ⟨W0.heap.size,p,none⟩=some (.bool (L h p)):=by rw [World.ownsRow.cellAt HA.out.row p (by omega)];exact boolsM_at hpl
          obtain ⟨r,hr⟩:∃ r,r=L h p:=⟨_,rfl⟩
          rw [← hr] at cp HAN
          clear hp d0 hr hex
          cases ex with
          | true =>
           go_wp2_with fail
           go_roundw
           case rel => exact ⟨j + 1,by omega,by go_num,by rw [HAN.out];rfl,by first | rfl | trivial⟩
           case measure => simp [intOf];omega
          | false =>
           go_wp2_with fail
           go_roundw
           case rel => exact ⟨j + 1,by omega,by go_num,by rw [HAN.out];simp,by first | rfl | trivial⟩
           case measure => simp [intOf];omega
         ·have HEX:Hid (ex=outB bs L h b):=by
           show _=_
           rw [hex,List.take_of_length_le (by omega),HLL.out]
           exact exit_any
          clear hex
          cases ex with
          | true =>
           have HN3:Hid (((List.range (b + 1)).filter fun t => !L h t && outB bs L h t)=l3 ++ [b]):=by show _=_;rw [HL3.out];exact range_more (by rw [HR.out,← HEX.out];rfl)
           have H63:Hid (l3.length + 1 ≤ maxLen):=by show _ ≤ _;simp only [maxLen];omega
           have HBY:Hid ((l3.length + 1) * 8 ≤ 140737488355328):=by show _ ≤ _;omega
           go_wp2_with (at_builtin;go_must (refine wpList_append_lies _ rfl _ _ _ rfl (W0.heap.size + 1) 3 i1 (.int .i64 0) 1 8 Tryz.underlying22 hjx hy0 hy1 hy2 rfl (by decide) _ _ _ rfl (HA.out.two.two.alloc _) ⟨wr.heap.size,0,none⟩ 1 1 [.int .i64 b] rfl rfl (one_new wr _) (by simp [Value.oneCell']) (by decide) H63.out HBY.out (by simp;omega) _ rfl ?_);intro g1 cap1 w3 hown1 hgrow1 hor1 _;go_must (have HGR:=hideI (HA.out.grown (off:=3) (g:=g1) (len:=l3.length + 1) (cap:=cap1) (fun k hk => (HA.out.two.two.lt k hk).1) hgrow1);have HPU:=hideI (HA.out.push3 hown1 hgrow1 hor1);have zz:=row_cells HGR.out.1 rfl 3;have ff:=free_rowN HGR.out.1 rfl 3;clear hown1 hgrow1 hor1))
           go_roundw
           case rel => exact ⟨b + 1,_,_,by omega,by go_num,by rw [HN1.out,HN3.out];exact HPU⟩
           case measure => simp [intOf];omega
          | false =>
           have HN3:Hid (((List.range (b + 1)).filter fun t => !L h t && outB bs L h t)=l3):=by show _=_;rw [HL3.out];exact range_skip (by rw [HR.out,← HEX.out];rfl)
           go_wp2_with fail
           go_roundw
           case rel => exact ⟨b + 1,_,_,by omega,by go_num,by rw [HN1.out,HN3.out];exact HA⟩
           case measure => simp [intOf];omega
      ·have hbn:b=bs.length:=by omega
       subst hbn
       obtain ⟨A1,c1,rfl⟩:=own_sl HA.out.two.one
       obtain ⟨A3,c3,rfl⟩:=own_sl HA.out.two.two
       obtain ⟨m1,hm1⟩:∃ m1,m1=((List.range bs.length).filter (L h)).length:=⟨_,rfl⟩
       obtain ⟨m3,hm3⟩:∃ m3,m3=((List.range bs.length).filter fun t => !L h t && outB bs L h t).length:=⟨_,rfl⟩
       rw [← hm1,← hm3] at HA x1 x3
       have hbx:=row_cells HA.out.box rfl
       have x0:=hbx 0
       have x2:=hbx 2
       have x4:=hbx 4
       have hrs:=row_cells HA.out.res rfl
       have s0:=hrs 0
       have s1:=hrs 1
       have s2:=hrs 2
       have s3:=hrs 3
       have s4:=hrs 4
       have f0:=free_rowN HA.out.res rfl 0
       have f1:=free_rowN HA.out.res rfl 1
       have f2:=free_rowN HA.out.res rfl 2
       have f3:=free_rowN HA.out.res rfl 3
       have f4:=free_rowN HA.out.res rfl 4
       clear hbx hrs hm1 hm3
       go_wp2_with fail
       have hj:w.heap.size + 2 < W0.heap.size + 1:=by omega
       refine bodyPost_ret (v:=.agg #[.int .i64 (h:Int),.slice A1 m1 c1,.slice As' nl cs,.slice A3 m3 c3,.int .i64 0]) (by simp [results,Tryz.results84,go_sem,s0,s1,s2,s3,s4]) rfl ⟨_,_,rfl,?_,?_⟩
       ·have h1:TwoR _ (W0.heap.size + 1) _ _ _ _:=((((HA.out.two.other (j:=w.heap.size + 2) (off:=0) hj (.int .i64 (h:Int))).other (j:=w.heap.size + 2) (off:=1) hj (.slice A1 m1 c1)).other (j:=w.heap.size + 2) (off:=2) hj (.slice As' nl cs)).other (j:=w.heap.size + 2) (off:=3) hj (.slice A3 m3 c3)).other (j:=w.heap.size + 2) (off:=4) hj (.int .i64 0)
        exact ⟨World.ownsRow.mono h1.one (by omega),World.ownsRow.mono h1.two (by omega),h1.apart⟩
       ·exact ((((HA.out.bel.setCell (by simp;omega) _).setCell (by simp;omega) _).setCell (by simp;omega) _).setCell (by simp;omega) _).setCell (by simp;omega) _
    | true =>
     clear HC
     have hgk2:2 * (bs.length - S.length) + 1 ≤ gk:=by simpa using hgk
     have HGK:=hideI hgk2
     clear hgk hgk2
     go_wp2_with fail
     go_loopw [9,10] (fun ch u wr => ∃ (k:Nat) (S2:List Nat) (cb:Bool),k ≤ bs.length ∧ u=.int .i64 k ∧ ch=.bool cb ∧ Hid (BkMid bs o h S S2 cb k [] 0) ∧ Hid (wr.ownsRow W0.heap.size 4 1 (.slice (some ⟨W0.heap.size,0,none⟩) bs.length bs.length) bs.length (marks bs.length S2)) ∧ Hid (Below W0.heap.size W0 wr)) (fun _ u _ => bs.length - (intOf u).toNat)
     case atStart => exact ⟨0,S,false,Nat.zero_le _,rfl,rfl,hideI ⟨HS.out,fun _ => ⟨rfl,fun b hb => by omega,fun p hp => by simp at hp⟩,fun e => by cases e⟩,HO,HBr⟩
     case round =>
      clear HO HBr
      obtain ⟨k,S2,cb,hk,rfl,rfl,HM,HO,HBr⟩:=hrel
      have g3:=(row_cells HX0.out (HBr.out.block _ (by omega))) 3
      have x0:=(row_cells HX1.out (HBr.out.block _ (by omega))) 0
      by_cases hlt:k < bs.length
      ·obtain ⟨v,hv⟩:∃ v,vs[k]?=some v:=⟨_,List.getElem?_eq_getElem (by rw [HLS0.out.vl];exact hlt)⟩
       have hl:(predsAt bs bs.length bs.length 0)[k]?=some (predsTo bs bs.length k):=by rw [predsAt_at hlt];simp
       have cgp0:W0.cell? ⟨gp,k,none⟩=some v:=by rw [World.ownsRow.cellAt HLS0.out.row k (by omega)];exact hv
       have hgpl:=HLS0.out.lt.2
       have hown:=HLS0.out.own k v _ hv hl
       obtain ⟨l,hll2⟩:∃ l,l=predsTo bs bs.length k:=⟨_,rfl⟩
       rw [← hll2] at hown
       have HLL:=hideI hll2
       have hlll:l.length ≤ 512:=by rw [hll2];exact Nat.le_trans (predsTo_len _ _ _) hn5
       obtain ⟨PA,pc2,e1,_,hpy⟩:=nat_ints hown (by omega)
       rw [List.length_map] at e1 hpy
       subst e1
       have HPY:=hideI hpy
       have HMK:=hideI (HM.out.begin (l':=l))
       have CGP:=hideI cgp0
       clear hv hl hown hll2 hpy cgp0
       go_wp2_with fail
       go_loopw [9,11] (fun ch u wr => ∃ (j:Nat) (S2:List Nat) (cb:Bool),j ≤ l.length ∧ u=.int .i64 j ∧ ch=.bool cb ∧ Hid (BkMid bs o h S S2 cb k l j) ∧ Hid (j=0 ∨ (k ∈ S2 ∧ k ≠ h)) ∧ Hid (wr.ownsRow W0.heap.size 4 1 (.slice (some ⟨W0.heap.size,0,none⟩) bs.length bs.length) bs.length (marks bs.length S2)) ∧ Hid (Below W0.heap.size W0 wr)) (fun _ u _ => l.length - (intOf u).toNat)
       case atStart => exact ⟨0,S2,cb,Nat.zero_le _,rfl,rfl,HMK,hideI (.inl rfl),HO,HBr⟩
       case round =>
        clear HM HMK HO HBr g3 x0
        obtain ⟨j,S2,cb,hj,rfl,rfl,HM,HJ,HO,HBr⟩:=hrel
        have x0:=(row_cells HX1.out (HBr.out.block _ (by omega))) 0
        have cgp:=(HBr.out.cell (p:=⟨gp,k,none⟩) hgpl).trans CGP.out
        have cm:wr.cell? ⟨W0.heap.size,k,none⟩=some (.bool (decide (k ∈ S2))):=by rw [World.ownsRow.cellAt HO.out k (by omega),marks_at hlt]
        by_cases hltj:j < l.length
        ·by_cases hkS:k ∈ S2
         ·rw [show decide (k ∈ S2)=true from by simpa using hkS] at cm
          by_cases hkh:k=h
          ·have e1:((k:Int) != (h:Int))=false:=by rw [hkh];simp
           have hj0:j=0:=by
            rcases HJ.out with e | e
            ·exact e
            ·exact absurd hkh e.2
           have HN:Hid (BkMid bs o h S S2 cb (k + 1) [] 0):=by
            have h1:=HM.out
            rw [hj0] at h1
            exact (h1.pass (.inr hkh)).begin
           clear hkS hkh hj0
           go_wp2_with fail
           go_roundw
           case rel => exact ⟨k + 1,S2,cb,by omega,by go_num,rfl,HN,HO,HBr⟩
           case measure => simp [intOf];omega
          ·have e1:((k:Int) != (h:Int))=true:=by rw [bne_iff_ne];omega
           obtain ⟨p,hp⟩:∃ p,l[j]?=some p:=⟨_,List.getElem?_eq_getElem hltj⟩
           have hpl:p < bs.length:=predsTo_lt (by rw [← HLL.out];exact List.mem_of_getElem? hp)
           obtain ⟨pb,po,rfl,hpb,d0⟩:=HPY.out j hltj
           rw [List.getElem?_map,hp] at d0
           simp only [Option.map_some,Option.getD_some] at d0
           have d1:=(HBr.out.cell (p:=⟨pb,po + j,none⟩) hpb).trans d0
           have cp:wr.cell? ⟨W0.heap.size,p,none⟩=some (.bool (decide (p ∈ S2))):=by rw [World.ownsRow.cellAt HO.out p (by omega),marks_at hpl]
           have fp:wr.frozen? ⟨W0.heap.size,p,none⟩=false:=World.ownsRow.frozenAt HO.out p
           have HKK:Hid (k ∈ S2 ∧ k ≠ h):=⟨hkS,hkh⟩
           by_cases hpS:p ∈ S2
           ·rw [show decide (p ∈ S2)=true from by simpa using hpS] at cp
            have HN:=hideI (HM.out.skip hp hpS)
            clear hkS hkh hp d0 hpS
            go_wp2_with fail
            go_roundw
            case rel => exact ⟨j + 1,S2,cb,by omega,by go_num,rfl,HN,hideI (.inr HKK.out),HO,HBr⟩
            case measure => simp [intOf];omega
           ·rw [show decide (p ∈ S2)=false from by simpa using hpS] at cp
            have HN:=hideI (HM.out.add hp HLL.out hkS hkh hpS)
            have hst:=(World.ownsRow.stored HO.out p (.bool true)).1
            rw [marks_set] at hst
            have HST:=hideI hst
            have HBS:Hid (Below W0.heap.size W0 (wr.setCell ⟨W0.heap.size,p,none⟩ (.bool true))):=HBr.out.setCell (Nat.le_refl _) _
            have hpne:pb ≠ W0.heap.size:=by omega
            have hgne:gp ≠ W0.heap.size:=by omega
            clear hkS hkh hp d0 hpS hst
            go_wp2_with fail
            go_roundw
            case rel => exact ⟨j + 1,p :: S2,true,by omega,by go_num,rfl,HN,hideI (.inr ⟨List.mem_cons_of_mem _ HKK.out.1,HKK.out.2⟩),HST,HBS⟩
            case measure => simp [intOf];omega
         ·rw [show decide (k ∈ S2)=false from by simpa using hkS] at cm
          have hj0:j=0:=by
           rcases HJ.out with e | e
           ·exact e
           ·exact absurd e.1 hkS
          have HN:Hid (BkMid bs o h S S2 cb (k + 1) [] 0):=by
           have h1:=HM.out
           rw [hj0] at h1
           exact (h1.pass (.inl hkS)).begin
          clear hkS hj0
          go_wp2_with fail
          go_roundw
          case rel => exact ⟨k + 1,S2,cb,by omega,by go_num,rfl,HN,HO,HBr⟩
          case measure => simp [intOf];omega
        ·have HN:=hideI ((HM.out.next HLL.out (by omega)).begin (l':=[]))
         go_wp2_with fail
         go_roundw
         case rel => exact ⟨k + 1,S2,cb,by omega,by go_num,rfl,HN,HO,HBr⟩
         case measure => simp [intOf];omega
      ·have hkn:k=bs.length:=by omega
       have HN2:Hid (cb=false → ∀ b,b < bs.length → shutAt bs h S2 b):=fun e b hb => (HM.out.no e).2.1 b (by omega)
       have hS2l:=below_len _ _ HM.out.st.nodup HM.out.st.lt
       have hms:2 * (bs.length - S2.length) + (if cb then 1 else 0) + 1 ≤ gk:=by
        have:=HGK.out
        cases cb with
        | false => have:=(HM.out.no rfl).1;subst this;simp;omega
        | true => have:=HM.out.yes rfl;simp;omega
       have HMS:=hideI hms
       have HST:=hideI HM.out.st
       clear hkn hms
       go_wp2_with fail
       go_roundg (2 * (bs.length - S2.length) + (if cb then 1 else 0))
       case rel => exact ⟨S2,cb,rfl,Nat.le_refl _,by have:=HMS.out;omega,HST,HN2,HO,HBr⟩
       case measure => have:=HMS.out;omega
end Go.Proofs.YtaehbgppfahdeaaGreat

namespace Go.Proofs.YtaehbgppfahdeaaGreat
open Go.RowKit Go.Maps
theorem all_no {P:Nat → Bool} {l:List Nat} {j b:Nat} (hb:l[j]?=some b) (h:P b=false):l.all P=false:=by
 rw [List.all_eq_false]
 exact ⟨b,List.mem_of_getElem? hb,by rw [h];simp⟩
theorem all_next {P:Nat → Bool} {l:List Nat} {j b:Nat} (hb:l[j]?=some b) (h:P b=true) (ha:(l.take j).all P=true):(l.take (j + 1)).all P=true:=by
 rw [List.take_add_one,hb,List.all_append,ha]
 simp [h]
set_option maxRecDepth 100000 in
set_option maxHeartbeats 2000000 in
theorem refWithin_any (xs ys:List Nat) (nx ny cx cy:Nat) (Ax Ay:Option Addr) (v0 v2 v3 v4 u0 u2 u3 u4:Value) (w:World) (hx:Ints w w.heap.size (.slice Ax nx cx) (xs.map fun (x:Nat) => (x:Int))) (hy:Ints w w.heap.size (.slice Ay ny cy) (ys.map fun (x:Nat) => (x:Int))) (hn:nx=xs.length) (hn5:nx ≤ 512) :
  Calls Tryz.prog 85 #[.agg #[v0,.slice Ax nx cx,v2,v3,v4],.agg #[u0,.slice Ay ny cy,u2,u3,u4]] w fun e w' => e=.returned (.bool (xs.all fun b => decide (b ∈ ys))) ∧ Below w.heap.size w w':=by
 obtain ⟨W,hW⟩:∃ W,W=(w.alloc (.cells #[v0,.slice Ax nx cx,v2,v3,v4] 88)).alloc (.cells #[u0,.slice Ay ny cy,u2,u3,u4] 88):=⟨_,rfl⟩
 have HBW:Hid (Below w.heap.size w W):=by show Below _ _ _;rw [hW];exact ((Below.refl _ w).alloc (Nat.le_refl _) _).alloc (by simp) _
 have hx1:W.heap[w.heap.size]?=some (.cells #[v0,.slice Ax nx cx,v2,v3,v4] 88 (0,0)):=by
  rw [hW,Below.heap_alloc _ _ _ (by simp)]
  exact heap_alloc_new w _
 have hx2:W.heap[w.heap.size + 1]?=some (.cells #[u0,.slice Ay ny cy,u2,u3,u4] 88 (0,0)):=by
  rw [hW]
  have:=heap_alloc_new (w.alloc (.cells #[v0,.slice Ax nx cx,v2,v3,v4] 88)) (.cells #[u0,.slice Ay ny cy,u2,u3,u4] 88)
  simpa using this
 have HX1:=hideI hx1
 have HX2:=hideI hx2
 have HIX:=hideI (hx.keep HBW.out)
 have HIY:=hideI (hy.keep HBW.out)
 have HN:=hideI hn
 have HW0:=hideI hW
 obtain ⟨Ax',_,e1,_,hpx⟩:=HIX.out
 have ea:Ax'=Ax:=by injection e1 with e2 _ _;exact e2.symm
 subst ea
 rw [List.length_map,← hn] at hpx
 have HPX:=hideI hpx
 have q1:=row_cells hx1 rfl 1
 have q2:=row_cells hx2 rfl 1
 clear hW hx1 hx2 hx hy hn e1 hpx
 go_enter Tryz.func85,Tryz.ntmps85
 go_upto_region 1 with fail
 rw [← HW0.out]
 go_wp2_with fail
 go_loopw [5] (fun u wr => ∃ k m:Nat,k ≤ nx ∧ u=.int .i64 k ∧ Hid ((xs.take k).all (fun b => decide (b ∈ ys))=true) ∧ wr=W.drewN m) (fun u _ => nx - (intOf u).toNat)
 case atStart => exact ⟨0,0,Nat.zero_le _,rfl,hideI rfl,rfl⟩
 case round =>
  obtain ⟨k,m,hk,rfl,HA,hwr⟩:=hrel
  have HWR:=hideI hwr
  have r1:wr.cell? ⟨w.heap.size,1,none⟩=some (.slice Ax' nx cx):=by rw [hwr];exact q1
  have r2:wr.cell? ⟨w.heap.size + 1,1,none⟩=some (.slice Ay ny cy):=by rw [hwr];exact q2
  by_cases hlt:k < nx
  ·obtain ⟨b,hb⟩:∃ b,xs[k]?=some b:=⟨_,List.getElem?_eq_getElem (by have:=HN.out;omega)⟩
   obtain ⟨pb,po,rfl,hpb,d0⟩:=HPX.out k hlt
   rw [List.getElem?_map,hb] at d0
   simp only [Option.map_some,Option.getD_some] at d0
   have d1:wr.cell? ⟨pb,po + k,none⟩=some (.int .i64 (b:Int)):=by rw [hwr];exact d0
   obtain ⟨r,hr⟩:∃ r,r=decide (b ∈ ys):=⟨_,rfl⟩
   have HH:Hid (∀ a,_):=hideI (has_at (w:=wr) (p:=b) (r:=r) (by rw [hwr];exact HIY.out) hr.symm)
   cases r with
   | false =>
    have HF:Hid ((xs.all fun b => decide (b ∈ ys))=false):=all_no hb hr.symm
    clear hb d0 hr hwr q1 q2
    go_wp2_with fail
    go_quiet ((go_at_call 56;exact Calls.quiet_of_same (HH.out _)))
    go_wp2_with fail
    go_ret
    refine ⟨by rw [HF.out];rfl,?_⟩
    have h1:=drew_below HBW.out m
    rw [← HWR.out] at h1
    exact drew_below h1 _
   | true =>
    have HT:Hid ((xs.take (k + 1)).all (fun b => decide (b ∈ ys))=true):=all_next hb hr.symm HA.out
    clear hb d0 hr hwr q1 q2
    go_wp2_with fail
    go_quiet ((go_at_call 56;exact Calls.quiet_of_same (HH.out _)))
    go_wp2_with fail
    go_roundw
    case rel => exact ⟨k + 1,_,by omega,by go_num,HT,by rw [HWR.out];exact World.drewN_drewN ..⟩
    case measure => simp [intOf];omega
  ·have HE:Hid ((xs.all fun b => decide (b ∈ ys))=true):=by
    show _=_
    have h1:=HA.out
    rwa [List.take_of_length_le (by have:=HN.out;omega)] at h1
   clear hwr q1 q2
   go_wp2_with fail
   go_ret
   refine ⟨by rw [HE.out];rfl,?_⟩
   rw [HWR.out]
   exact drew_below HBW.out m
end Go.Proofs.YtaehbgppfahdeaaGreat

namespace Go.Proofs.YtaehbgppfahdeaaGreat
open Go.RowKit Go.Maps
set_option maxRecDepth 100000 in
set_option maxHeartbeats 1000000 in
theorem refWithout_zero (bs:List BlockM) (B:Nat) (pv av cv bv:Value) (w:World) (hbv:BlocksR w B bv bs) (_hB:B ≤ w.heap.size) (hn5:bs.length ≤ 512) :
  Calls Tryz.prog 44 #[.agg #[pv,av,cv,bv],.int .i64 0] w (WithoutPost bs 0 w):=by
 obtain ⟨A,c,rfl,hbm,_⟩:=hbv
 obtain ⟨i0,hix,hz0,hz1,hz2⟩:=info_parts bool_info
 go_enter Tryz.func44,Tryz.ntmps44
 go_wp2_with (first
  | (at_make;go_must (refine wpList_make_full _ rfl _ _ 91 rfl (w.heap.size + 1) 4 i0 (.bool false) 1 Tryz.underlying91 hix hz0 hz1 .i64 .i64 _ _ bs.length rfl rfl rfl rfl (by rw [hz2];omega) (by unfold maxLen;omega) (by simp) ?_);intro w1 hown1 hg1;rw [World.size_alloc] at hown1;go_must (rw [marks_made] at hown1;have HO1:=hideI hown1;have HB0:Hid (Below w.heap.size w w1):=((Below.refl _ _).alloc (Nat.le_refl _) _).grown hg1 (by simp) (by simp);clear hown1 hg1)))
 go_ret
 exact ⟨[],_,rfl,no_zero,World.ownsRow.mono HO1.out (by omega),HB0.out⟩
theorem refWithout_all (bs:List BlockM) (B:Nat) (pv av cv bv:Value) (gone:Int) (w:World) (hbv:BlocksR w B bv bs) (hB:B ≤ w.heap.size) (h0:0 < bs.length) (hn5:bs.length ≤ 512) (hin:EndsIn bs) :
  Calls Tryz.prog 44 #[.agg #[pv,av,cv,bv],.int .i64 gone] w (WithoutPost bs gone w):=by
 by_cases hg:gone=0
 ·subst hg
  exact refWithout_zero bs B pv av cv bv w hbv hB hn5
 ·exact refWithout_any bs B pv av cv bv gone w hbv hB h0 hn5 hin hg
def GridR (w:World) (v:Value) (n:Nat) (G:Nat → Nat → Bool):Prop :=
 ∃ gv c,v=.slice (some ⟨gv,0,none⟩) n c ∧ gv < w.heap.size ∧ ∀ a,a < n → ∃ ga,ga < w.heap.size ∧ w.cell? ⟨gv,a,none⟩=some (.slice (some ⟨ga,0,none⟩) n n) ∧ ∀ b,b < n → w.cell? ⟨ga,b,none⟩=some (.bool (G a b))
theorem GridR.kept {w w':World} {v:Value} {n:Nat} {G:Nat → Nat → Bool} (h:GridR w v n G) (hb:Below w.heap.size w w'):GridR w' v n G:=by
 obtain ⟨gv,c,e,h1,h2⟩:=h
 refine ⟨gv,c,e,Nat.lt_of_lt_of_le h1 hb.size,fun a ha => ?_⟩
 obtain ⟨ga,h3,h4,h5⟩:=h2 a ha
 exact ⟨ga,Nat.lt_of_lt_of_le h3 hb.size,(hb.cell (p:=⟨gv,a,none⟩) h1).trans h4,fun b hb' => (hb.cell (p:=⟨ga,b,none⟩) h3).trans (h5 b hb')⟩
def rowTo (n:Nat) (G:Nat → Nat → Bool) (a k:Nat):List Value:=(List.range n).map fun b => .bool (decide (b < k) && G a b)
theorem rowTo_zero (n:Nat) (G:Nat → Nat → Bool) (a:Nat):rowTo n G a 0=marks n []:=by
 unfold rowTo marks
 apply List.map_congr_left
 intro b _
 simp
theorem rowTo_at {n a k b:Nat} {G:Nat → Nat → Bool} (h:b < n):(rowTo n G a k)[b]?=some (.bool (decide (b < k) && G a b)):=by
 unfold rowTo
 rw [List.getElem?_map,List.getElem?_eq_getElem (by simpa using h)]
 simp
theorem rowTo_set {n a k:Nat} {G:Nat → Nat → Bool}:(rowTo n G a k).set k (.bool (G a k))=rowTo n G a (k + 1):=by
 apply List.ext_getElem?
 intro i
 by_cases hi:i < n
 ·by_cases e:k=i
  ·subst e
   rw [List.getElem?_set_self (by simpa [rowTo] using hi),rowTo_at hi]
   simp
  ·rw [List.getElem?_set_ne e,rowTo_at hi,rowTo_at hi]
   have:decide (i < k + 1)=decide (i < k):=by
    apply decide_eq_decide.2
    omega
   rw [this]
 ·rw [List.getElem?_eq_none (by simp [rowTo];omega),List.getElem?_eq_none (by simp [rowTo];omega)]
structure Square (w:World) (base n k:Nat) (G:Nat → Nat → Bool) (v:Value) (vs:List Value):Prop where
 row:w.ownsRow base 91 1 v k vs
 each:∀ a,a < k → ∃ ga,vs[a]?=some (.slice (some ⟨ga,0,none⟩) n n) ∧ w.ownsRow base 4 1 (.slice (some ⟨ga,0,none⟩) n n) n (rowTo n G a n) ∧ v.ownBlock ≠ some ga
theorem Square.kept {w w':World} {base n k:Nat} {G:Nat → Nat → Bool} {v:Value} {vs:List Value} (h:Square w base n k G v vs) (hb:Below w.heap.size w w'):Square w' base n k G v vs:=by
 refine ⟨own_kept_below h.row hb (fun j hj => (h.row.lt j hj).2),fun a ha => ?_⟩
 obtain ⟨ga,h1,h2,h3⟩:=h.each a ha
 exact ⟨ga,h1,own_kept_below h2 hb (fun j hj => (h2.lt j hj).2),h3⟩
theorem Square.push {w w1:World} {base n k g' cap' gr:Nat} {G:Nat → Nat → Bool} {v:Value} {vs:List Value} {o:Obj} (h:Square w base n k G v vs) (hr:w.ownsRow base 4 1 (.slice (some ⟨gr,0,none⟩) n n) n (rowTo n G k n)) (hne:v.ownBlock ≠ some gr)
  (hown:w1.ownsRow base 91 1 (.slice (some ⟨g',0,none⟩) (k + 1) cap') (k + 1) (vs ++ [.slice (some ⟨gr,0,none⟩) n n])) (hg:(w.alloc o).grownBy w1 v.ownBlock) (hor:v.ownBlock=some g' ∨ g'=(w.alloc o).heap.size) :
  Square w1 base n (k + 1) G (.slice (some ⟨g',0,none⟩) (k + 1) cap') (vs ++ [.slice (some ⟨gr,0,none⟩) n n]):=by
 have hvl:vs.length=k:=by have:=h.row.1;simpa using this
 have hnew:∀ ga,ga < w.heap.size → v.ownBlock ≠ some ga → (Value.slice (some ⟨g',0,none⟩) (k + 1) cap').ownBlock ≠ some ga:=by
  intro ga hlt hne e
  have e2:g'=ga:=Option.some.inj e
  subst e2
  rcases hor with h1 | h1
  ·exact hne h1
  ·simp at h1;omega
 refine ⟨hown,fun a ha => ?_⟩
 by_cases e:a=k
 ·subst e
  refine ⟨gr,by rw [List.getElem?_append_right (by omega),hvl];simp,(hr.alloc o).kept hg (.inr fun e => hne e.symm),hnew gr (hr.lt gr rfl).2 hne⟩
 ·obtain ⟨ga,h1,h2,h3⟩:=h.each a (by omega)
  refine ⟨ga,by rw [List.getElem?_append_left (by omega)];exact h1,(h2.alloc o).kept hg (.inr fun e => h3 e.symm),hnew ga (h2.lt ga rfl).2 h3⟩
theorem Square.grid {w:World} {base n:Nat} {G:Nat → Nat → Bool} {v:Value} {vs:List Value} (h:Square w base n n G v vs) (hn:0 < n):GridR w v n G:=by
 rcases h.row.2 with ⟨_,h1⟩ | ⟨gv,c,_,rfl,_,_,_,_⟩
 ·omega
 ·refine ⟨gv,c,rfl,(h.row.lt gv rfl).2,fun a ha => ?_⟩
  obtain ⟨ga,h1,h2,_⟩:=h.each a ha
  refine ⟨ga,(h2.lt ga rfl).2,by rw [World.ownsRow.cellAt h.row a (by omega)];exact h1,fun b hb => ?_⟩
  rw [World.ownsRow.cellAt h2 b (by omega),rowTo_at hb]
  simp [hb]
theorem bools_info:(Tryz.prog.info? 91).map (fun i => (i.zero,i.size,i.bytes))=some (some (.slice none 0 0),1,24):=by kernel_rfl
theorem one_newB (w:World) (x:Value):∀ (j:Nat) (y:Value),[x][j]?=some y → (w.alloc (.cells #[x] 91)).cell? ((⟨w.heap.size,0,none⟩:Addr).add j)=some y:=by
 intro j y hy
 rcases j with _ | j
 ·simp at hy
  subst hy
  exact row_cells (heap_alloc_new w (.cells #[x] 91)) (rfl:(w.alloc (.cells #[x] 91)).heap[w.heap.size]?=_) 0
 ·simp at hy
def OverPost (n:Nat) (G:Nat → Nat → Bool) (w:World) (e:Ending) (w':World):Prop:=∃ v,e=.returned v ∧ GridR w' v n G ∧ Below w.heap.size w w'
def overG (S0:List Nat) (S:Nat → List Nat) (a b:Nat):Bool:=decide (a ∈ S0) && (decide (b ∈ S0) && !decide (b ∈ S a))
set_option maxRecDepth 100000 in
set_option maxHeartbeats 4000000 in
theorem refOver_any (bs:List BlockM) (o:List Nat) (G:Nat → Nat → Bool) (B:Nat) (pv av cv bv:Value) (w:World) (hbv:BlocksR w B bv bs) (hB:B ≤ w.heap.size) (h0:0 < bs.length) (hn5:bs.length ≤ 512) (hin:EndsIn bs) (ho:OrderIs bs o) (hG:∀ a b,G a b=true ↔ OverP bs o a b) :
  Calls Tryz.prog 47 #[.agg #[pv,av,cv,bv]] w (OverPost bs.length G w):=by
 have HBL:=hideI hbv
 have HIN:=hideI hin
 have HO:=hideI ho
 have HG:=hideI hG
 obtain ⟨A,c,rfl,hbm,_⟩:=hbv
 obtain ⟨W,hW⟩:∃ W:World,W=w.alloc (.cells #[pv,av,cv,.slice A bs.length c] 25):=⟨_,rfl⟩
 have HBW:Hid (Below w.heap.size w W):=by show Below _ _ _;rw [hW];exact (Below.refl _ _).alloc (Nat.le_refl _) _
 have HXW:Hid (W.heap[w.heap.size]?=some (.cells #[pv,av,cv,.slice A bs.length c] 25 (0,0))):=by show _=_;rw [hW];exact heap_alloc_new w _
 have hwW:w.heap.size < W.heap.size:=lt_of_heap HXW.out
 have HW0:=hideI hW
 have G0:Hid (∀ W2,Below W.heap.size W W2 → (∀ o,W2.cell? ⟨w.heap.size,o,none⟩=(#[pv,av,cv,.slice A bs.length c]:Array Value)[o]?) ∧ BlocksR W2 B (.slice A bs.length c) bs ∧ B ≤ W2.heap.size):=fun W2 h2 => by
  have h3:Below w.heap.size w W2:=HBW.out.trans (h2.mono HBW.out.size)
  exact ⟨row_cells HXW.out (h2.block _ hwW),HBL.out.keeps (Keeps.of_below (h3.mono hB)),Nat.le_trans hB h3.size⟩
 obtain ⟨hx,_,_⟩:=G0.out W (Below.refl _ _)
 have q0:=hx 0
 have q1:=hx 1
 have q2:=hx 2
 have q3:=hx 3
 clear hin ho hG hW hx
 go_enter Tryz.func47,Tryz.ntmps47
 go_upto_region 1 with fail
 rw [← HW0.out]
 clear HW0
 go_wp2_with (first
  | (go_at_call 44;go_must (refine (refWithout_all bs B pv av cv _ (-1) _ (G0.out _ (Below.refl _ _)).2.1 (G0.out _ (Below.refl _ _)).2.2 h0 hn5 HIN.out).mono ?_);rintro e w1 ⟨S0,gA,rfl,hS,hown,hb1⟩;have HS0:Hid (∀ x,x ∈ S0 ↔ x ∈ o):=hideI (fun x => (hS x).trans (HO.out.reach x).symm);have HOA:=hideI hown;have HB1:=hideI hb1;clear hS hown hb1 q0 q1 q2;(obtain ⟨hx,_,_⟩:=G0.out _ HB1.out);clear q3;have q3:=hx 3;clear hx))
 obtain ⟨W2,hW2⟩:∃ W2,W2=w1.alloc (.cells #[] 91):=⟨_,rfl⟩
 have hb12:Below w1.heap.size w1 W2:=by rw [hW2];exact (Below.refl _ _).alloc (Nat.le_refl _) _
 have HB12:=hideI hb12
 have HSQ0:Hid (Square W2 w1.heap.size bs.length 0 G (.slice (some ⟨w1.heap.size,0,none⟩) 0 0) []):=by
  refine hideI ⟨?_,fun a ha => by omega⟩
  rw [hW2]
  exact World.ownsRow_made w1 #[] 0 (Nat.le_refl _) (by decide) rfl
 have hs12:w1.heap.size < W2.heap.size:=by rw [hW2];simp
 have hsW1:W.heap.size ≤ w1.heap.size:=HB1.out.size
 rw [← hW2]
 clear hW2 hb12 q3
 go_loopw [4,5] (fun u4 u5 wr => ∃ (a:Nat) (v:Value) (vs:List Value),a ≤ bs.length ∧ v=u4 ∧ u5=.int .i64 a ∧ Hid (Square wr w1.heap.size bs.length a G v vs) ∧ Hid (Below w1.heap.size w1 wr)) (fun _ u5 _ => bs.length - (intOf u5).toNat)
 case atStart => exact ⟨0,_,[],Nat.zero_le _,rfl,rfl,HSQ0,HB12⟩
 case round =>
  obtain ⟨a,v,vs,ha,rfl,rfl,HSQ,HBr⟩:=hrel
  have hb1r:Below w1.heap.size w1 wr:=HBr.out
  have HB1r:=hideI hb1r
  have HBWr:Hid (Below W.heap.size W wr):=HB1.out.trans (hb1r.mono hsW1)
  obtain ⟨hx,_,_⟩:=G0.out wr HBWr.out
  have q0:=hx 0
  have q1:=hx 1
  have q2:=hx 2
  have q3:=hx 3
  clear hx hb1r
  by_cases hlt:a < bs.length
  ·obtain ⟨i0,hix,hz0,hz1,hz2⟩:=info_parts bool_info
   have hsr:w1.heap.size ≤ wr.heap.size:=HB1r.out.size
   go_wp2_with (first
    | (go_at_call 44;go_must (refine (refWithout_all bs B pv av cv _ a _ (G0.out _ HBWr.out).2.1 (G0.out _ HBWr.out).2.2 h0 hn5 HIN.out).mono ?_);rintro e w3 ⟨Sa,gB,rfl,hSa,hown,hb3⟩;have HSA:=hideI hSa;have HOB:=hideI hown;have HB3:=hideI (HB1r.out.trans (hb3.mono hsr));have HSQ3:=hideI (HSQ.out.kept hb3);clear hSa hown hb3 q0 q1 q2 q3;(obtain ⟨hx,_,_⟩:=G0.out _ (HB1.out.trans (HB3.out.mono hsW1)));have q3:=hx 3;clear hx)
    | (at_make;go_must (refine wpList_make_full _ rfl _ _ 91 rfl w3.heap.size 4 i0 (.bool false) 1 Tryz.underlying91 hix hz0 hz1 .i64 .i64 _ _ bs.length rfl rfl rfl rfl (by rw [hz2];omega) (by unfold maxLen;omega) (Nat.le_refl _) ?_);intro w4 hown4 hg4;go_must (rw [marks_made,← rowTo_zero bs.length G a] at hown4;have HR0:=hideI hown4;have HG4:Hid (Below w3.heap.size w3 w4):=(Below.refl _ _).grown hg4 (Nat.le_refl _) (by simp);clear hown4 hg4 q3)))
   clear hix hz0 hz1 hz2
   have hs3:w1.heap.size ≤ w3.heap.size:=HB3.out.size
   have HSQ4:=hideI (HSQ3.out.kept HG4.out)
   have HOB4:=hideI (own_kept_below HOB.out HG4.out (fun k hk => (HOB.out.lt k hk).2))
   have HB4:Hid (Below w1.heap.size w1 w4):=HB3.out.trans (HG4.out.mono hs3)
   have hgB:gB < w3.heap.size:=(HOB.out.lt gB rfl).2
   have hgA:gA < w1.heap.size:=(HOA.out.lt gA rfl).2
   have hvb:v.ownBlock ≠ some w3.heap.size:=fun e => by have:=(HSQ3.out.row.lt _ e).2;omega
   have HVB:=hideI hvb
   clear hvb
   go_loopw [8] (fun u8 wr2 => ∃ b:Nat,b ≤ bs.length ∧ u8=.int .i64 b ∧ Hid (wr2.ownsRow w3.heap.size 4 1 (.slice (some ⟨w3.heap.size,0,none⟩) bs.length bs.length) bs.length (rowTo bs.length G a b)) ∧ Hid (w4.grownBy wr2 (some w3.heap.size))) (fun u8 _ => bs.length - (intOf u8).toNat)
   case atStart => exact ⟨0,Nat.zero_le _,rfl,HR0,hideI (World.grownBy.refl _ _)⟩
   case round =>
    obtain ⟨b,hb,rfl,HR,HGr⟩:=hrel
    have hb4:Below w3.heap.size w4 wr:=(Below.refl _ w4).grown HGr.out HG4.out.size (fun k hk => by cases hk;exact Nat.le_refl _)
    have HB5:Hid (Below w1.heap.size w1 wr):=HB4.out.trans (hb4.mono hs3)
    obtain ⟨hx,_,_⟩:=G0.out wr (HB1.out.trans (HB5.out.mono hsW1))
    have q3:=hx 3
    clear hx
    by_cases hltb:b < bs.length
    ·have hA:=own_kept_below HOA.out HB5.out (fun k hk => (HOA.out.lt k hk).2)
     have hBk:=own_kept_below HOB4.out hb4 (fun k hk => by cases hk;exact hgB)
     have c1:wr.cell? ⟨gA,a,none⟩=some (.bool (decide (a ∈ S0))):=by rw [World.ownsRow.cellAt hA a (by omega),marks_at hlt]
     have c2:wr.cell? ⟨gA,b,none⟩=some (.bool (decide (b ∈ S0))):=by rw [World.ownsRow.cellAt hA b (by omega),marks_at hltb]
     have c3:wr.cell? ⟨gB,b,none⟩=some (.bool (decide (b ∈ Sa))):=by rw [World.ownsRow.cellAt hBk b (by omega),marks_at hltb]
     have c4:wr.cell? ⟨w3.heap.size,b,none⟩=some (.bool (decide (b < b) && G a b)):=by rw [World.ownsRow.cellAt HR.out b (by omega),rowTo_at hltb]
     have c5:wr.frozen? ⟨w3.heap.size,b,none⟩=false:=World.ownsRow.frozenAt HR.out b
     have hGab:G a b=(decide (a ∈ S0) && (decide (b ∈ S0) && !decide (b ∈ Sa))):=by
      rw [Bool.eq_iff_iff,HG.out a b]
      unfold OverP
      simp only [Bool.and_eq_true,Bool.not_eq_true',decide_eq_true_eq,decide_eq_false_iff_not]
      rw [HS0.out a,HS0.out b,HSA.out b]
     have hst:=World.ownsRow.stored HR.out b (.bool (G a b))
     rw [rowTo_set] at hst
     have HST:=hideI hst
     obtain ⟨p,hp⟩:∃ p,p=decide (a ∈ S0):=⟨_,rfl⟩
     obtain ⟨q,hq⟩:∃ q,q=decide (b ∈ S0):=⟨_,rfl⟩
     obtain ⟨s,hs⟩:∃ s,s=decide (b ∈ Sa):=⟨_,rfl⟩
     rw [← hp,← hq,← hs] at hGab
     rw [← hp] at c1
     rw [← hq] at c2
     rw [← hs] at c3
     rw [hGab] at HST
     clear hp hq hs hA hBk hst hGab hb4
     cases p with
     | false =>
      go_wp2
      go_roundw
      case rel => exact ⟨b + 1,by omega,by go_num,hideI HST.out.1,hideI (HGr.out.trans HST.out.2)⟩
      case measure => simp [intOf];omega
     | true =>
      cases q with
      | false =>
       go_wp2
       go_roundw
       case rel => exact ⟨b + 1,by omega,by go_num,hideI HST.out.1,hideI (HGr.out.trans HST.out.2)⟩
       case measure => simp [intOf];omega
      | true =>
       cases s
       all_goals
        go_wp2
        go_roundw
        case rel => exact ⟨b + 1,by omega,by go_num,hideI HST.out.1,hideI (HGr.out.trans HST.out.2)⟩
        case measure => simp [intOf];omega
    ·obtain rfl:b=bs.length:=by omega
     have HSQ5:Hid (Square wr w1.heap.size bs.length a G v vs):=by
      refine hideI ⟨own_kept_below HSQ4.out.row hb4 (fun k hk => ?_),fun a' ha' => ?_⟩
      ·exact (HSQ3.out.row.lt k hk).2
      ·obtain ⟨ga,h1,h2,h3⟩:=HSQ3.out.each a' ha'
       exact ⟨ga,h1,own_kept_below (own_kept_below h2 HG4.out (fun k hk => (h2.lt k hk).2)) hb4 (fun k hk => (h2.lt k hk).2),h3⟩
     obtain ⟨i1,hjx,hy0,hy1,hy2⟩:=info_parts bools_info
     have H63:Hid (a + 1 ≤ maxLen):=by show _ ≤ _;simp only [maxLen];omega
     have HBY:Hid ((a + 1) * 24 ≤ 140737488355328):=by show _ ≤ _;omega
     have HBS:Hid (w1.heap.size ≤ wr.heap.size):=HB5.out.size
     clear hb4
     go_wp2_with (at_builtin;go_must (refine wpList_append_lies _ rfl _ _ _ rfl w1.heap.size 91 i1 (.slice none 0 0) 1 24 Tryz.underlying95 hjx hy0 hy1 hy2 rfl (by decide) _ _ _ rfl (HSQ5.out.row.alloc _) ⟨wr.heap.size,0,none⟩ 1 1 [.slice (some ⟨w3.heap.size,0,none⟩) bs.length bs.length] rfl rfl (one_newB wr _) (by simp [Value.oneCell']) (by decide) H63.out HBY.out (by have:=HBS.out;simp;omega) _ rfl ?_);intro g1 cap1 w6 hown1 hgrow1 hor1 _;go_must (have HP:=hideI (HSQ5.out.push (World.ownsRow.mono HR.out hs3) HVB.out hown1 hgrow1 hor1);have HPB:Hid (Below w1.heap.size w1 w6):=(HB5.out.alloc HBS.out _).grown hgrow1 (by have:=HBS.out;simp;omega) (fun k hk => (HSQ5.out.row.lt k hk).1);clear hown1 hgrow1 hor1))
     go_roundw
     case rel => exact ⟨a + 1,_,_,by omega,rfl,by go_num,HP,HPB⟩
     case measure => simp [intOf];omega
  ·obtain rfl:a=bs.length:=by omega
   go_wp2
   go_ret
   exact ⟨v,rfl,HSQ.out.grid h0,HBW.out.trans (HBWr.out.mono HBW.out.size)⟩
end Go.Proofs.YtaehbgppfahdeaaGreat
