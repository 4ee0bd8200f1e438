/- What CanonChecks rests on, part 9: RWithout, DOverM, LoopM, LfM, LDom, LLatch, LpM, CAw1. -/
import Derived.Test.YtikogmpibkefdaaGreatPkCanonChecks8
import Derived.Deep.LoopGhost
import Derived.ArgAppend
import Derived.BigQuiet
import Derived.Deep.QuietTactic

namespace Go.Proofs.YtikogmpibkefdaaGreat
inductive ReachW (bs:List BlockM) (gone:Int):Nat → Prop
 | start (h:gone ≠ 0):ReachW bs gone 0
 | step {x y:Nat} (h:ReachW bs gone y) (hx:x ∈ succM bs y) (hg:(x:Int) ≠ gone):ReachW bs gone x
structure Bfs (bs:List BlockM) (gone:Int) (b:Option (Nat × Nat)) (S ws:List Nat):Prop where
 nodup:S.Nodup
 lt:∀ x ∈ S,x < bs.length
 sound:∀ x ∈ S,ReachW bs gone x
 zero:0 ∈ S
 sub:∀ x ∈ ws,x ∈ S
 closed:∀ x ∈ S,x ∈ ws ∨ ∀ (j y:Nat),(succM bs x)[j]?=some y → (y:Int) ≠ gone → (∀ i,b=some (x,i) → j < i) → y ∈ S
 here:∀ x i,b=some (x,i) → x ∈ S
variable {bs:List BlockM} {gone:Int} {b i t:Nat} {S ws:List Nat}
theorem Bfs.start (h:gone ≠ 0) (hn:0 < bs.length):Bfs bs gone none [0] [0] :=
 ⟨by simp,by simpa using hn,by simpa using ReachW.start h,by simp,by simp,fun x hx => .inl (by simpa using hx),fun _ _ h => by cases h⟩
theorem Bfs.pop (h:Bfs bs gone none S (b :: ws)):Bfs bs gone (some (b,0)) S ws:=by
 refine ⟨h.nodup,h.lt,h.sound,h.zero,fun x hx => h.sub x (List.mem_cons_of_mem _ hx),fun x hx => ?_,fun x i e => by cases e;exact h.sub _ (List.mem_cons_self ..)⟩
 by_cases e:x=b
 ·subst e
  exact .inr fun j y _ _ hi => absurd (hi 0 rfl) (by omega)
 ·rcases h.closed x hx with h1 | h1
  ·rcases List.mem_cons.1 h1 with h2 | h2
   ·exact absurd h2 e
   ·exact .inl h2
  ·exact .inr fun j y hj hy _ => h1 j y hj hy (fun i e => by cases e)
theorem Bfs.skip (h:Bfs bs gone (some (b,i)) S ws) (ht:(succM bs b)[i]?=some t) (hs:t ∈ S ∨ (t:Int)=gone):Bfs bs gone (some (b,i + 1)) S ws:=by
 refine ⟨h.nodup,h.lt,h.sound,h.zero,h.sub,fun x hx => ?_,fun x k e => by cases e;exact h.here _ _ rfl⟩
 rcases h.closed x hx with h1 | h1
 ·exact .inl h1
 ·right
  intro j y hj hy hi
  by_cases e:x=b
  ·subst e
   have hji:=hi _ rfl
   by_cases e2:j=i
   ·subst e2
    rw [ht] at hj
    cases hj
    exact hs.resolve_right hy
   ·exact h1 j y hj hy (fun k ek => by cases ek;omega)
  ·exact h1 j y hj hy (fun k ek => by cases ek;exact absurd rfl e)
theorem Bfs.push (h:Bfs bs gone (some (b,i)) S ws) (ht:(succM bs b)[i]?=some t) (hs:t ∉ S) (hg:(t:Int) ≠ gone) (hl:t < bs.length):Bfs bs gone (some (b,i + 1)) (t :: S) (ws ++ [t]):=by
 refine ⟨List.nodup_cons.2 ⟨hs,h.nodup⟩,fun x hx => ?_,fun x hx => ?_,List.mem_cons_of_mem _ h.zero,fun x hx => ?_,fun x hx => ?_,fun x k e => by cases e;exact List.mem_cons_of_mem _ (h.here _ _ rfl)⟩
 ·rcases List.mem_cons.1 hx with rfl | hx
  ·exact hl
  ·exact h.lt x hx
 ·rcases List.mem_cons.1 hx with rfl | hx
  ·exact .step (h.sound b (h.here _ _ rfl)) (List.mem_of_getElem? ht) hg
  ·exact h.sound x hx
 ·rcases List.mem_append.1 hx with hx | hx
  ·exact List.mem_cons_of_mem _ (h.sub x hx)
  ·rw [List.mem_singleton] at hx
   subst hx
   exact List.mem_cons_self ..
 ·rcases List.mem_cons.1 hx with rfl | hx
  ·exact .inl (by simp)
  ·rcases h.closed x hx with h1 | h1
   ·exact .inl (List.mem_append_left _ h1)
   ·right
    intro j y hj hy hi
    by_cases e:x=b
    ·subst e
     have hji:=hi _ rfl
     by_cases e2:j=i
     ·subst e2
      rw [ht] at hj
      cases hj
      exact List.mem_cons_self ..
     ·exact List.mem_cons_of_mem _ (h1 j y hj hy (fun k ek => by cases ek;omega))
    ·exact List.mem_cons_of_mem _ (h1 j y hj hy (fun k ek => by cases ek;exact absurd rfl e))
theorem Bfs.next (h:Bfs bs gone (some (b,i)) S ws) (hi:(succM bs b).length ≤ i):Bfs bs gone none S ws:=by
 refine ⟨h.nodup,h.lt,h.sound,h.zero,h.sub,fun x hx => ?_,fun _ _ e => by cases e⟩
 rcases h.closed x hx with h1 | h1
 ·exact .inl h1
 ·right
  intro j y hj hy _
  refine h1 j y hj hy (fun k ek => ?_)
  cases ek
  have:=(List.getElem?_eq_some_iff.1 hj).1
  omega
theorem Bfs.all (h:Bfs bs gone none S []) (x:Nat):x ∈ S ↔ ReachW bs gone x:=by
 refine ⟨h.sound x,fun hr => ?_⟩
 induction hr with
 | start => exact h.zero
 | step _ hx hg ih =>
  rcases h.closed _ ih with h1 | h1
  ·cases h1
  ·obtain ⟨j,hj⟩:=List.getElem?_of_mem hx
   exact h1 j _ hj hg (fun _ e => by cases e)
theorem OrderIs.reach {o:List Nat} (h:OrderIs bs o) (x:Nat):x ∈ o ↔ ReachW bs (-1) x:=by
 obtain ⟨h0,hn,hc,hp⟩:=h.facts
 constructor
 ·intro hx
  obtain ⟨i,hi⟩:=List.getElem?_of_mem hx
  clear hx
  induction i using Nat.strongRecOn generalizing x with
  | ind i ih =>
   rcases Nat.eq_zero_or_pos i with rfl | hpos
   ·rw [h0] at hi
    cases hi
    exact .start (by decide)
   ·obtain ⟨j,y,hj,hy,hs⟩:=hp i x hpos hi
    exact .step (ih j hj y hy) hs (by omega)
 ·intro hr
  induction hr with
  | start => exact List.mem_of_getElem? h0
  | step _ hx _ ih => exact hc _ ih _ hx
end Go.Proofs.YtikogmpibkefdaaGreat
namespace Go.Proofs.YtikogmpibkefdaaGreat
open Go.RowKit Go.Maps
def WorkR (w:World) (base:Nat) (v:Value) (ws:List Nat):Prop :=
 ∃ g off cap cur,v=.slice (some ⟨g,off,none⟩) ws.length cap ∧ base ≤ g ∧ w.heap[g]?=some (.cells cur 3 (0,0)) ∧ ws.length ≤ cap ∧ off + cap ≤ cur.size ∧ cap ≤ maxLen ∧ ∀ i (x:Nat),ws[i]?=some x → cur[off + i]?=some (.int .i64 (x:Int))
theorem WorkR.start {w:World} {base:Nat} (hb:base ≤ w.heap.size):WorkR (w.alloc (.cells #[.int .i64 0] 3)) base (.slice (some ⟨w.heap.size,0,none⟩) 1 1) [0] :=
 ⟨_,0,1,_,rfl,hb,heap_alloc_new w _,Nat.le_refl _,by simp,by decide,fun i x hx => by
  rcases i with _ | i
  ·simp at hx;subst hx;rfl
  ·simp at hx⟩
theorem WorkR.room {w:World} {base g off cap t:Nat} {cur:Array Value} {ws:List Nat} {o:Obj} (hb:base ≤ g) (hg:w.heap[g]?=some (.cells cur 3 (0,0))) (h1:off + cap ≤ cur.size) (h2:cap ≤ maxLen) (h3:∀ i (x:Nat),ws[i]?=some x → cur[off + i]?=some (.int .i64 (x:Int))) (hr:ws.length + 1 ≤ cap) :
  WorkR ((w.alloc o).setCells g (off + ws.length) [.int .i64 (t:Int)]) base (.slice (some ⟨g,off,none⟩) (ws.length + 1) cap) (ws ++ [t]):=by
 have hgl:=(Array.getElem?_eq_some_iff.1 hg).1
 have hg2:(w.alloc o).heap[g]?=some (.cells cur 3 (0,0)):=(Below.heap_alloc w o g hgl).trans hg
 refine ⟨g,off,cap,cur.setIfInBounds (off + ws.length) (.int .i64 (t:Int)),by rw [List.length_append];rfl,hb,?_,by rw [List.length_append];exact hr,by simpa using h1,h2,fun i x hx => ?_⟩
 ·exact heap_setCell_same _ g _ cur _ _ hg2
 ·rw [Array.getElem?_setIfInBounds]
  by_cases hi:i < ws.length
  ·rw [List.getElem?_append_left hi] at hx
   rw [if_neg (by omega)]
   exact h3 i x hx
  ·rw [List.getElem?_append_right (by omega)] at hx
   have hi2:i=ws.length:=by
    have:=(List.getElem?_eq_some_iff.1 hx).1
    simp at this
    omega
   subst hi2
   simp at hx
   subst hx
   rw [if_pos rfl,if_pos (by omega)]
theorem WorkR.own {w:World} {base b0 t:Nat} {v:Value} {ws:List Nat} {xs:List Value} (hown:w.ownsRow b0 3 1 v (ws.length + 1) (xs ++ [.int .i64 (t:Int)])) (hb:base ≤ b0) (hxs:xs=natInts ws):WorkR w base v (ws ++ [t]):=by
 subst hxs
 rcases hown.2 with ⟨_,h⟩ | ⟨g,cap,cur,rfl,hbg,hg,hc,hm,hs,ht⟩
 ·omega
 ·refine ⟨g,0,cap,cur,by rw [List.length_append];rfl,by omega,hg,by rw [List.length_append];exact hc,by omega,hm,fun i x hx => ?_⟩
  have hi:=(List.getElem?_eq_some_iff.1 hx).1
  rw [List.length_append,List.length_singleton] at hi
  have h1:(cur.toList.take ((ws.length + 1) * 1))[i]?=(natInts (ws ++ [t]))[i]?:=by rw [ht];unfold natInts;rw [List.map_append];rfl
  rw [List.getElem?_take,if_pos (by omega)] at h1
  rw [Nat.zero_add,← Array.getElem?_toList,h1]
  unfold natInts
  rw [List.getElem?_map,hx]
  rfl
theorem work_spare {X:World} {g off n:Nat} {cur:Array Value} (hg:X.heap[g]?=some (.cells cur 3 (0,0))) (h:off + n < cur.size) (x:Value):∀ j,j < [x].length → (X.cell? ⟨g,off + n * 1 + j,none⟩).isSome=true ∧ X.frozen? ⟨g,off + n * 1 + j,none⟩=false:=by
 intro j hj
 simp at hj
 subst hj
 rw [Nat.mul_one,Nat.add_zero]
 refine ⟨?_,frozen_of_row X g (off + n) cur _ hg⟩
 rw [row_cells hg rfl,Array.getElem?_eq_getElem h]
 rfl
theorem one_new' (w:World) (a:Addr) (u x:Value):∀ (j:Nat) (y:Value),[x][j]?=some y → ((w.setCell a u).alloc (.cells #[x] 3)).cell? ((⟨w.heap.size,0,none⟩:Addr).add j)=some y:=by
 have:=one_new (w.setCell a u) x
 simpa using this
theorem without_room {wr w1:World} {N n g i t:Nat} {S:List Nat} {o:Obj} {x:Value} (hs:(wr.setCell ⟨N + 1,t,none⟩ (.bool true)).ownsRow (N + 1) 4 1 (.slice (some ⟨N + 1,0,none⟩) n n) n (marks n S)) (hb:Below (N + 1) w1 wr) (hg:N + 2 ≤ g) (hsz:N + 1 ≤ w1.heap.size) :
  (((wr.setCell ⟨N + 1,t,none⟩ (.bool true)).alloc o).setCells g i [x]).ownsRow (N + 1) 4 1 (.slice (some ⟨N + 1,0,none⟩) n n) n (marks n S) ∧ Below (N + 1) w1 (((wr.setCell ⟨N + 1,t,none⟩ (.bool true)).alloc o).setCells g i [x]):=by
 refine ⟨ownsRow_setCell_other (hs.alloc o) (by simp [Value.ownBlock];omega) _,?_⟩
 exact ((hb.setCell (Nat.le_refl _) _).alloc (by have:=hb.size;simp;omega) _).setCell (by simp;omega) _
theorem without_grow {wr w1 w3:World} {N n t:Nat} {S:List Nat} {o:Obj} (hs:(wr.setCell ⟨N + 1,t,none⟩ (.bool true)).ownsRow (N + 1) 4 1 (.slice (some ⟨N + 1,0,none⟩) n n) n (marks n S)) (hb:Below (N + 1) w1 wr) (hsz:N + 1 ≤ w1.heap.size) (hg:((wr.setCell ⟨N + 1,t,none⟩ (.bool true)).alloc o).grownBy w3 none) :
  w3.ownsRow (N + 1) 4 1 (.slice (some ⟨N + 1,0,none⟩) n n) n (marks n S) ∧ Below (N + 1) w1 w3:=by
 refine ⟨(hs.alloc o).kept hg (.inr (by simp [Value.ownBlock])),?_⟩
 exact ((hb.setCell (Nat.le_refl _) _).alloc (by have:=hb.size;simp;omega) _).grown hg (by have:=hb.size;simp;omega) (by simp)
theorem natInts_at {ws:List Nat} {cur:Array Value} {off:Nat} (h:∀ i (x:Nat),ws[i]?=some x → cur[off + i]?=some (.int .i64 (x:Int))) {w:World} {g:Nat} (hg:w.heap[g]?=some (.cells cur 3 (0,0))) :
  ∀ j u,(natInts ws)[j]?=some u → w.cell? ⟨g,off + j,none⟩=some u:=by
 intro j u hu
 unfold natInts at hu
 rw [List.getElem?_map] at hu
 cases hx:ws[j]? with
 | none => rw [hx] at hu;cases hu
 | some x =>
  rw [hx] at hu
  cases hu
  rw [row_cells hg rfl]
  exact h j x hx
def WithoutPost (bs:List BlockM) (gone:Int) (w:World) (e:Ending) (w':World):Prop :=
 ∃ (S:List Nat) (g:Nat),e=.returned (.slice (some ⟨g,0,none⟩) bs.length bs.length) ∧ (∀ x,x ∈ S ↔ ReachW bs gone x) ∧ w'.ownsRow w.heap.size 4 1 (.slice (some ⟨g,0,none⟩) bs.length bs.length) bs.length (marks bs.length S) ∧ Below w.heap.size w w'
theorem no_zero {bs:List BlockM} (x:Nat):x ∈ ([]:List Nat) ↔ ReachW bs 0 x:=by
 constructor
 ·intro h;cases h
 ·intro h
  exfalso
  induction h with
  | start h => exact h rfl
  | step _ _ _ ih => exact ih
set_option maxRecDepth 100000 in
set_option maxHeartbeats 4000000 in
theorem refWithout_any (bs:List BlockM) (B:Nat) (pv av cv bv:Value) (gone:Int) (w:World) (hbv:BlocksR w B bv bs) (hB:B ≤ w.heap.size) (h0:0 < bs.length) (hn5:bs.length ≤ 512) (hin:EndsIn bs) (hg0:gone ≠ 0) :
  Calls Tryz.prog 67 #[.agg #[pv,av,cv,bv],.int .i64 gone] w (WithoutPost bs gone w):=by
 have HBL:=hideI hbv
 have HIN:=hideI hin
 have HG0:=hideI hg0
 obtain ⟨A,c,rfl,hbm,_⟩:=hbv
 obtain ⟨i0,hix,hz0,hz1,hz2⟩:=info_parts bool_info
 have hgb:(gone == 0)=false:=by simpa using hg0
 clear hin hg0
 go_enter Tryz.func67,Tryz.ntmps67
 go_wp2_with (first
  | (at_make;go_must (refine wpList_make_full _ rfl _ _ 114 rfl (w.heap.size + 1) 4 i0 (.bool false) 1 Tryz.underlying114 hix hz0 hz1 .i64 .i64 _ _ bs.length rfl rfl rfl rfl (by rw [hz2];omega) (by unfold maxLen;omega) (by simp) ?_);intro w1 hown1 hg1;rw [World.size_alloc] at hown1;go_must (rw [marks_made] at hown1;have HBX:=hideI ((hg1.block w.heap.size (by simp) (by simp)).trans (heap_alloc_new w _));have HB0:Hid (Below w.heap.size w w1):=((Below.refl _ _).alloc (Nat.le_refl _) _).grown hg1 (by simp) (by simp);have hlt1:w.heap.size + 1 < w1.heap.size:=(hown1.lt _ rfl).2;have HO1:=hideI hown1;have c0:w1.cell? ⟨w.heap.size + 1,0,none⟩=some (.bool (decide (0 ∈ ([]:List Nat)))):=(by rw [World.ownsRow.cellAt hown1 0 (by omega),marks_at h0]);have f0:w1.frozen? ⟨w.heap.size + 1,0,none⟩=false:=World.ownsRow.frozenAt hown1 0;clear hown1 hg1;have hne:=fun (h:bs=[]) => (by rw [h] at h0;simp at h0:False))))
 clear hix hz0 hz1 hz2 hgb
 obtain ⟨ws,hws⟩:∃ ws:World,ws=(w1.setCell ⟨w.heap.size + 1,0,none⟩ (.bool true)).alloc (.cells #[.int .i64 0] 3):=⟨_,rfl⟩
 have HK0:Hid (WorkR ws (w.heap.size + 2) (.slice (some ⟨w1.heap.size,0,none⟩) 1 1) [0]):=by
  show WorkR _ _ _ _
  rw [hws]
  have:=WorkR.start (w:=w1.setCell ⟨w.heap.size + 1,0,none⟩ (.bool true)) (base:=w.heap.size + 2) (by simp;omega)
  simpa using this
 have HOS:Hid (ws.ownsRow (w.heap.size + 1) 4 1 (.slice (some ⟨w.heap.size + 1,0,none⟩) bs.length bs.length) bs.length (marks bs.length [0])):=by
  show World.ownsRow _ _ _ _ _ _ _
  rw [hws]
  have:=(World.ownsRow.stored HO1.out 0 (.bool true)).1.alloc (.cells #[.int .i64 0] 3)
  rwa [marks_set] at this
 have HBS:Hid (Below (w.heap.size + 1) w1 ws):=by show Below _ _ _;rw [hws];exact ((Below.refl _ _).setCell (by simp) _).alloc (by simp;omega) _
 rw [← hws]
 clear hws c0 f0
 go_loopg [6] (2 * bs.length + 2) (fun gk vo wr => ∃ (S ws:List Nat) (v:Value),v=vo ∧ (bs.length - S.length) * 2 + ws.length ≤ gk ∧ gk ≤ 2 * bs.length + 2 ∧ Hid (Bfs bs gone none S ws) ∧ Hid (WorkR wr (w.heap.size + 2) v ws) ∧ Hid (wr.ownsRow (w.heap.size + 1) 4 1 (.slice (some ⟨w.heap.size + 1,0,none⟩) bs.length bs.length) bs.length (marks bs.length S)) ∧ Hid (Below (w.heap.size + 1) w1 wr))
 case atStart => exact ⟨[0],[0],_,rfl,by simp;omega,Nat.le_refl _,hideI (Bfs.start HG0.out h0),HK0,HOS,HBS⟩
 case round =>
  obtain ⟨S,ws,v,rfl,hgk,hgm,HF,HK,HO,HBr⟩:=hrel
  obtain ⟨g,off,cap,cur,rfl,hwb,hwg,hwc,hws,hwm,hwx⟩:=HK.out
  have HWX:=hideI hwx
  have HWG:=hideI hwg
  obtain ⟨L,hL⟩:∃ L,L=ws.length:=⟨_,rfl⟩
  rw [← hL]
  cases ws with
  | nil =>
   obtain rfl:L=0:=hL
   clear hwx hwg
   go_wp2
   go_ret
   exact ⟨S,_,rfl,HF.out.all,World.ownsRow.mono HO.out (by omega),HB0.out.trans (HBr.out.mono (by omega))⟩
  | cons b ws =>
   rw [List.length_cons] at hL
   have hbl:b < bs.length:=HF.out.lt b (HF.out.sub b (List.mem_cons_self ..))
   have hSl:=below_len _ _ HF.out.nodup HF.out.lt
   have hhead:wr.cell? ⟨g,off,none⟩=some (.int .i64 (b:Int)):=by rw [row_cells hwg rfl];exact hwx 0 b rfl
   have HP:=hideI HF.out.pop
   obtain ⟨q,hq⟩:∃ q,bs[b]?=some q:=⟨_,List.getElem?_eq_getElem hbl⟩
   obtain ⟨A',c',e0,_,hbx⟩:=(HBL.out.more' hB).keeps (Keeps.of_below (HB0.out.trans (HBr.out.mono (Nat.le_succ _))))
   cases e0
   obtain ⟨ab,boff,pq,cq,tv,rfl,hab,x0,x1,x2,x3,x4,x5,_,_,htv,_⟩:=hbx b q hq
   have HTV:=hideI htv
   have HQ:=hideI hq
   have HSU:Hid (succM bs b=q.term.to.map Int.toNat):=by show _=_;unfold succM;rw [hq]
   obtain ⟨TA,tc,rfl,htm,_⟩:=htv
   obtain ⟨m,hm⟩:∃ m,m=q.term.to.length:=⟨_,rfl⟩
   have HM:=hideI hm
   rw [← hm] at x4 htm
   have hxr:=row_cells HBX.out (HBr.out.block w.heap.size (by omega))
   have g3:=hxr 3
   simp only [List.length_cons] at hgk hwc
   have HWX1:Hid (∀ i (x:Nat),ws[i]?=some x → cur[off + 1 + i]?=some (.int .i64 (x:Int))):=fun i x hx => by
    have:=HWX.out (i + 1) x (by simpa using hx)
    rwa [show off + (i + 1)=off + 1 + i by omega] at this
   clear hbx hq x0 x1 x2 x3 x5 hm hxr hwx hwg
   have HBo:=HBr
   by_cases hc1:cap=1
   ·subst hc1
    obtain rfl:ws=[]:=List.eq_nil_of_length_eq_zero (by omega)
    obtain rfl:L=1:=hL
    have HK1:Hid (WorkR wr (w.heap.size + 2) (.slice (some ⟨g,off,none⟩) 0 0) []):=⟨g,off,0,cur,rfl,hwb,HWG.out,Nat.le_refl _,by omega,by unfold maxLen;omega,fun i x hx => by simp at hx⟩
    go_wp2
    obtain ⟨wo,rfl⟩:∃ wo:World,wo=wr:=⟨_,rfl⟩
    clear x4 hhead g3
    go_loopw [6,9] (fun vo u wr => ∃ (i:Nat) (S ws:List Nat) (v:Value),v=vo ∧ i ≤ m ∧ u=.int .i64 i ∧ (bs.length - S.length) * 2 + ws.length + 1 ≤ gk ∧ Hid (Bfs bs gone (some (b,i)) S ws) ∧ Hid (WorkR wr (w.heap.size + 2) v ws) ∧ Hid (wr.ownsRow (w.heap.size + 1) 4 1 (.slice (some ⟨w.heap.size + 1,0,none⟩) bs.length bs.length) bs.length (marks bs.length S)) ∧ Hid (Below (w.heap.size + 1) w1 wr)) (fun _ u _ => m - (intOf u).toNat)
    case atStart => exact ⟨0,S,_,_,rfl,Nat.zero_le _,rfl,by simp;omega,HP,HK1,HO,HBr⟩
    case round =>
     obtain ⟨i,S,ws,v,rfl,hi,rfl,hg2,HF,HK,HO,HBr⟩:=hrel
     obtain ⟨g,off,cap,cur,rfl,hwb,hwg,hwc,hws,hwm,hwx⟩:=HK.out
     have hSl:=below_len _ _ HF.out.nodup HF.out.lt
     have hgl:=(Array.getElem?_eq_some_iff.1 hwg).1
     have HWX:=hideI hwx
     have HWG:=hideI hwg
     clear hwx hwg
     by_cases hlt:i < m
     ·obtain ⟨t,ht⟩:∃ t,q.term.to[i]?=some t:=⟨_,List.getElem?_eq_getElem (by rw [HM.out] at hlt;exact hlt)⟩
      have htn:=HIN.out q (List.mem_of_getElem? HQ.out) t (List.mem_of_getElem? ht)
      obtain ⟨tn,rfl⟩:∃ tn:Nat,t=(tn:Int):=⟨t.toNat,by omega⟩
      have htl:tn < bs.length:=by omega
      have HTI:Hid ((succM bs b)[i]?=some tn):=by
       show _=_
       rw [HSU.out,List.getElem?_map,ht]
       rfl
      obtain ⟨TA',tc',e0,_,hxx⟩:=(HTV.out.keeps (Keeps.refl _))
      cases e0
      obtain ⟨tb,toff,rfl,htb,hcell0⟩:=hxx i (by rw [← HM.out];exact hlt)
      rw [ht] at hcell0
      simp only [Option.getD_some] at hcell0
      have hcell:wr.cell? ⟨tb,toff + i,none⟩=some (.int .i64 (tn:Int)):=by
       rw [← hcell0]
       exact World.cell?_of_block (a:=⟨tb,toff + i,none⟩) ((HBr.out.block tb (by omega)).trans (HBo.out.block tb (by omega)).symm)
      have hmk:wr.cell? ⟨w.heap.size + 1,tn,none⟩=some (.bool (decide (tn ∈ S))):=by rw [World.ownsRow.cellAt HO.out tn (by omega),marks_at htl]
      have hmf:wr.frozen? ⟨w.heap.size + 1,tn,none⟩=false:=World.ownsRow.frozenAt HO.out tn
      have hne1:tb ≠ w.heap.size + 1:=by omega
      clear hxx ht htn hcell0
      by_cases hin2:tn ∈ S
      ·have HIN2:=hideI hin2
       rw [show decide (tn ∈ S)=true from by simpa using hin2] at hmk
       clear hin2 hmf
       go_wp2
       go_roundw
       case rel => exact ⟨i + 1,S,ws,_,rfl,by omega,by go_num,hg2,hideI (HF.out.skip HTI.out (.inl HIN2.out)),HK,HO,HBr⟩
       case measure => simp [intOf];omega
      ·have HIN2:=hideI hin2
       rw [show decide (tn ∈ S)=false from by simpa using hin2] at hmk
       have HSL:=hideI (fresh_len HF.out.nodup HF.out.lt htl hin2)
       clear hin2
       by_cases htg:(tn:Int)=gone
       ·have HTG:=hideI htg
        have e1:((tn:Int) != gone)=false:=by simpa using htg
        clear htg hmf
        go_wp2
        go_roundw
        case rel => exact ⟨i + 1,S,ws,_,rfl,by omega,by go_num,hg2,hideI (HF.out.skip HTI.out (.inr HTG.out)),HK,HO,HBr⟩
        case measure => simp [intOf];omega
       ·have HTG:=hideI htg
        have e1:((tn:Int) != gone)=true:=by simpa using htg
        clear htg
        have HS:=World.ownsRow.stored HO.out tn (.bool true)
        rw [marks_set] at HS
        have HOS:=hideI HS.1
        have HGS:=hideI HS.2
        have HFN:=hideI (HF.out.push HTI.out HIN2.out HTG.out htl)
        have hgne:g ≠ w.heap.size + 1:=by omega
        have HWG2:=hideI ((HGS.out.block g hgl (by simpa using hgne)).trans HWG.out)
        have hlen:(bs.length - (tn :: S).length) * 2 + (ws ++ [tn]).length + 1 ≤ gk:=by have:=HSL.out;simp;omega
        have HLEN:=hideI hlen
        have hwl:ws.length ≤ 2000:=by omega
        obtain ⟨i1,hjx,hy0,hy1,hy2⟩:=info_parts int_info
        clear HS hlen
        have HWG3:Hid (((wr.setCell ⟨w.heap.size + 1,tn,none⟩ (.bool true)).alloc (.cells #[.int .i64 (tn:Int)] 3)).heap[g]?=some (.cells cur 3 (0,0))):=(Below.heap_alloc _ _ g (by simpa using hgl)).trans HWG2.out
        by_cases hrm:ws.length + 1 ≤ cap
        ·have HSP:=hideI (work_spare HWG3.out (n:=ws.length) (off:=off) (by omega) (.int .i64 (tn:Int)))
         have HWB:=hideI (without_room (i:=off + ws.length) (o:=.cells #[.int .i64 (tn:Int)] 3) (x:=.int .i64 (tn:Int)) HOS.out HBr.out hwb (by omega))
         have HWN:=hideI (WorkR.room (t:=tn) (o:=.cells #[.int .i64 (tn:Int)] 3) hwb HWG2.out hws hwm HWX.out hrm)
         go_wp2_with (at_builtin;go_must (refine wpList_append_arg _ rfl _ _ _ rfl 3 i1 (.int .i64 0) 1 8 Tryz.underlying22 hjx hy0 hy1 hy2 rfl (by decide) g off ws.length cap (natInts ws) rfl (by unfold natInts;simp) (natInts_at HWX.out HWG3.out) ⟨wr.heap.size,0,none⟩ 1 1 [.int .i64 tn] rfl rfl (one_new' _ _ _ _) (by simp [Value.oneCell']) (fun _ => HSP.out) (by simp only [maxLen];omega) (by omega) (fun _ => ?_) (fun h => absurd h (by omega))))
         go_roundw
         case rel => exact ⟨i + 1,tn :: S,ws ++ [tn],_,rfl,by omega,by go_num,HLEN.out,HFN,HWN,hideI HWB.out.1,hideI HWB.out.2⟩
         case measure => simp [intOf];omega
        ·go_wp2_with (at_builtin;go_must (refine wpList_append_arg _ rfl _ _ _ rfl 3 i1 (.int .i64 0) 1 8 Tryz.underlying22 hjx hy0 hy1 hy2 rfl (by decide) g off ws.length cap (natInts ws) rfl (by unfold natInts;simp) (natInts_at HWX.out HWG3.out) ⟨wr.heap.size,0,none⟩ 1 1 [.int .i64 tn] rfl rfl (one_new' _ _ _ _) (by simp [Value.oneCell']) (fun h => absurd h (by omega)) (by simp only [maxLen];omega) (by omega) (fun h => absurd h (by omega)) (fun _ v2 w3 hown3 hg3 => ?_));have HWN:=hideI (WorkR.own hown3 (base:=w.heap.size + 2) (by simp;omega) rfl);have HWB:=hideI (without_grow HOS.out HBr.out (by omega) hg3);clear hown3 hg3)
         go_roundw
         case rel => exact ⟨i + 1,tn :: S,ws ++ [tn],v2,rfl,by omega,by go_num,HLEN.out,HFN,HWN,hideI HWB.out.1,hideI HWB.out.2⟩
         case measure => simp [intOf];omega
     ·have HF2:=hideI (HF.out.next (by rw [HSU.out,List.length_map,← HM.out];omega))
      go_wp2
      go_roundg ((bs.length - S.length) * 2 + ws.length)
      case rel => exact ⟨S,ws,_,rfl,Nat.le_refl _,by omega,HF2,HK,HO,HBr⟩
      case measure => omega
   ·have HK1:Hid (WorkR wr (w.heap.size + 2) (.slice (some ⟨g,off + 1,none⟩) (L - 1) (cap - 1)) ws):=⟨g,off + 1,cap - 1,cur,by rw [hL];rfl,hwb,HWG.out,by omega,by omega,by omega,HWX1.out⟩
    have hLp:1 ≤ L:=by omega
    have hLb:decide (0 < L)=true:=by simp;omega
    have hcp:¬ cap ≤ 1:=by omega
    have HLL:=hideI hL
    clear hL
    go_wp2
    obtain ⟨wo,rfl⟩:∃ wo:World,wo=wr:=⟨_,rfl⟩
    clear x4 hhead g3
    go_loopw [6,9] (fun vo u wr => ∃ (i:Nat) (S ws:List Nat) (v:Value),v=vo ∧ i ≤ m ∧ u=.int .i64 i ∧ (bs.length - S.length) * 2 + ws.length + 1 ≤ gk ∧ Hid (Bfs bs gone (some (b,i)) S ws) ∧ Hid (WorkR wr (w.heap.size + 2) v ws) ∧ Hid (wr.ownsRow (w.heap.size + 1) 4 1 (.slice (some ⟨w.heap.size + 1,0,none⟩) bs.length bs.length) bs.length (marks bs.length S)) ∧ Hid (Below (w.heap.size + 1) w1 wr)) (fun _ u _ => m - (intOf u).toNat)
    case atStart => exact ⟨0,S,_,_,rfl,Nat.zero_le _,rfl,by omega,HP,HK1,HO,HBr⟩
    case round =>
     obtain ⟨i,S,ws,v,rfl,hi,rfl,hg2,HF,HK,HO,HBr⟩:=hrel
     obtain ⟨g,off,cap,cur,rfl,hwb,hwg,hwc,hws,hwm,hwx⟩:=HK.out
     have hSl:=below_len _ _ HF.out.nodup HF.out.lt
     have hgl:=(Array.getElem?_eq_some_iff.1 hwg).1
     have HWX:=hideI hwx
     have HWG:=hideI hwg
     clear hwx hwg
     by_cases hlt:i < m
     ·obtain ⟨t,ht⟩:∃ t,q.term.to[i]?=some t:=⟨_,List.getElem?_eq_getElem (by rw [HM.out] at hlt;exact hlt)⟩
      have htn:=HIN.out q (List.mem_of_getElem? HQ.out) t (List.mem_of_getElem? ht)
      obtain ⟨tn,rfl⟩:∃ tn:Nat,t=(tn:Int):=⟨t.toNat,by omega⟩
      have htl:tn < bs.length:=by omega
      have HTI:Hid ((succM bs b)[i]?=some tn):=by
       show _=_
       rw [HSU.out,List.getElem?_map,ht]
       rfl
      obtain ⟨TA',tc',e0,_,hxx⟩:=(HTV.out.keeps (Keeps.refl _))
      cases e0
      obtain ⟨tb,toff,rfl,htb,hcell0⟩:=hxx i (by rw [← HM.out];exact hlt)
      rw [ht] at hcell0
      simp only [Option.getD_some] at hcell0
      have hcell:wr.cell? ⟨tb,toff + i,none⟩=some (.int .i64 (tn:Int)):=by
       rw [← hcell0]
       exact World.cell?_of_block (a:=⟨tb,toff + i,none⟩) ((HBr.out.block tb (by omega)).trans (HBo.out.block tb (by omega)).symm)
      have hmk:wr.cell? ⟨w.heap.size + 1,tn,none⟩=some (.bool (decide (tn ∈ S))):=by rw [World.ownsRow.cellAt HO.out tn (by omega),marks_at htl]
      have hmf:wr.frozen? ⟨w.heap.size + 1,tn,none⟩=false:=World.ownsRow.frozenAt HO.out tn
      have hne1:tb ≠ w.heap.size + 1:=by omega
      clear hxx ht htn hcell0
      by_cases hin2:tn ∈ S
      ·have HIN2:=hideI hin2
       rw [show decide (tn ∈ S)=true from by simpa using hin2] at hmk
       clear hin2 hmf
       go_wp2
       go_roundw
       case rel => exact ⟨i + 1,S,ws,_,rfl,by omega,by go_num,hg2,hideI (HF.out.skip HTI.out (.inl HIN2.out)),HK,HO,HBr⟩
       case measure => simp [intOf];omega
      ·have HIN2:=hideI hin2
       rw [show decide (tn ∈ S)=false from by simpa using hin2] at hmk
       have HSL:=hideI (fresh_len HF.out.nodup HF.out.lt htl hin2)
       clear hin2
       by_cases htg:(tn:Int)=gone
       ·have HTG:=hideI htg
        have e1:((tn:Int) != gone)=false:=by simpa using htg
        clear htg hmf
        go_wp2
        go_roundw
        case rel => exact ⟨i + 1,S,ws,_,rfl,by omega,by go_num,hg2,hideI (HF.out.skip HTI.out (.inr HTG.out)),HK,HO,HBr⟩
        case measure => simp [intOf];omega
       ·have HTG:=hideI htg
        have e1:((tn:Int) != gone)=true:=by simpa using htg
        clear htg
        have HS:=World.ownsRow.stored HO.out tn (.bool true)
        rw [marks_set] at HS
        have HOS:=hideI HS.1
        have HGS:=hideI HS.2
        have HFN:=hideI (HF.out.push HTI.out HIN2.out HTG.out htl)
        have hgne:g ≠ w.heap.size + 1:=by omega
        have HWG2:=hideI ((HGS.out.block g hgl (by simpa using hgne)).trans HWG.out)
        have hlen:(bs.length - (tn :: S).length) * 2 + (ws ++ [tn]).length + 1 ≤ gk:=by have:=HSL.out;simp;omega
        have HLEN:=hideI hlen
        have hwl:ws.length ≤ 2000:=by omega
        obtain ⟨i1,hjx,hy0,hy1,hy2⟩:=info_parts int_info
        clear HS hlen
        have HWG3:Hid (((wr.setCell ⟨w.heap.size + 1,tn,none⟩ (.bool true)).alloc (.cells #[.int .i64 (tn:Int)] 3)).heap[g]?=some (.cells cur 3 (0,0))):=(Below.heap_alloc _ _ g (by simpa using hgl)).trans HWG2.out
        by_cases hrm:ws.length + 1 ≤ cap
        ·have HSP:=hideI (work_spare HWG3.out (n:=ws.length) (off:=off) (by omega) (.int .i64 (tn:Int)))
         have HWB:=hideI (without_room (i:=off + ws.length) (o:=.cells #[.int .i64 (tn:Int)] 3) (x:=.int .i64 (tn:Int)) HOS.out HBr.out hwb (by omega))
         have HWN:=hideI (WorkR.room (t:=tn) (o:=.cells #[.int .i64 (tn:Int)] 3) hwb HWG2.out hws hwm HWX.out hrm)
         go_wp2_with (at_builtin;go_must (refine wpList_append_arg _ rfl _ _ _ rfl 3 i1 (.int .i64 0) 1 8 Tryz.underlying22 hjx hy0 hy1 hy2 rfl (by decide) g off ws.length cap (natInts ws) rfl (by unfold natInts;simp) (natInts_at HWX.out HWG3.out) ⟨wr.heap.size,0,none⟩ 1 1 [.int .i64 tn] rfl rfl (one_new' _ _ _ _) (by simp [Value.oneCell']) (fun _ => HSP.out) (by simp only [maxLen];omega) (by omega) (fun _ => ?_) (fun h => absurd h (by omega))))
         go_roundw
         case rel => exact ⟨i + 1,tn :: S,ws ++ [tn],_,rfl,by omega,by go_num,HLEN.out,HFN,HWN,hideI HWB.out.1,hideI HWB.out.2⟩
         case measure => simp [intOf];omega
        ·go_wp2_with (at_builtin;go_must (refine wpList_append_arg _ rfl _ _ _ rfl 3 i1 (.int .i64 0) 1 8 Tryz.underlying22 hjx hy0 hy1 hy2 rfl (by decide) g off ws.length cap (natInts ws) rfl (by unfold natInts;simp) (natInts_at HWX.out HWG3.out) ⟨wr.heap.size,0,none⟩ 1 1 [.int .i64 tn] rfl rfl (one_new' _ _ _ _) (by simp [Value.oneCell']) (fun h => absurd h (by omega)) (by simp only [maxLen];omega) (by omega) (fun h => absurd h (by omega)) (fun _ v2 w3 hown3 hg3 => ?_));have HWN:=hideI (WorkR.own hown3 (base:=w.heap.size + 2) (by simp;omega) rfl);have HWB:=hideI (without_grow HOS.out HBr.out (by omega) hg3);clear hown3 hg3)
         go_roundw
         case rel => exact ⟨i + 1,tn :: S,ws ++ [tn],v2,rfl,by omega,by go_num,HLEN.out,HFN,HWN,hideI HWB.out.1,hideI HWB.out.2⟩
         case measure => simp [intOf];omega
     ·have HF2:=hideI (HF.out.next (by rw [HSU.out,List.length_map,← HM.out];omega))
      go_wp2
      go_roundg ((bs.length - S.length) * 2 + ws.length)
      case rel => exact ⟨S,ws,_,rfl,Nat.le_refl _,by omega,HF2,HK,HO,HBr⟩
      case measure => omega
end Go.Proofs.YtikogmpibkefdaaGreat

namespace Go.Proofs.YtikogmpibkefdaaGreat
open Go.RowKit Go.Maps
def OverP (bs:List BlockM) (o:List Nat) (a b:Nat):Prop:=a ∈ o ∧ b ∈ o ∧ ¬ ReachW bs (a:Int) b
theorem way_reach {bs:List BlockM} {pl:Nat → Nat} {x b:Nat}:(∃ k,Way (succM bs) pl x b k) ↔ ReachW bs (x:Int) b:=by
 constructor
 ·rintro ⟨k,w⟩
  induction w with
  | start h => exact .start (by omega)
  | fwd _ e n _ ih => exact .step ih e (by omega)
  | back _ e n _ ih => exact .step ih e (by omega)
 ·intro h
  induction h with
  | start h => exact ⟨0,.start (by omega)⟩
  | step _ hx hg ih =>
   obtain ⟨k,w⟩:=ih
   exact w.next hx (by omega)
theorem dom_reach {bs:List BlockM} {pl:Nat → Nat} {x b:Nat}:Dom (succM bs) pl x b ↔ ¬ ReachW bs (x:Int) b:=by
 rw [← way_reach (pl:=pl)]
 exact ⟨fun h ⟨k,w⟩ => h k w,fun h k w => h ⟨k,w⟩⟩
theorem over_anc {bs:List BlockM} {o:List Nat} {pl:Nat → Nat} {par:Nat → Option Nat} (hO:Ord (succM bs) o pl) (hD:Done (succM bs) o pl par) {a b:Nat} (hb:b ∈ o):OverP bs o a b ↔ Anc par a b:=by
 unfold OverP
 rw [← dom_reach (pl:=pl),← hD.is b hb a]
 exact ⟨fun h => h.2.2,fun h => ⟨hD.tree.anc_mem hO h (hD.grown b hb),hb,h⟩⟩
theorem OverP.refl {bs:List BlockM} {o:List Nat} {a:Nat} (h:a ∈ o):OverP bs o a a:=by
 refine ⟨h,h,fun hr => ?_⟩
 cases hr with
 | start h => exact h rfl
 | step _ _ hg => exact hg rfl
end Go.Proofs.YtikogmpibkefdaaGreat

namespace Go.Proofs.YtikogmpibkefdaaGreat
open Go.RowKit Go.Maps
def BackP (bs:List BlockM) (o:List Nat) (h p:Nat):Prop:=h ∈ succM bs p ∧ OverP bs o h p
inductive InL (bs:List BlockM) (o:List Nat) (h:Nat):Nat → Prop
 | head:InL bs o h h
 | latch {p:Nat} (k:BackP bs o h p):InL bs o h p
 | step {b p:Nat} (k:InL bs o h b) (hne:b ≠ h) (e:b ∈ succM bs p):InL bs o h p
def AllIn (bs:List BlockM) (o:List Nat):Prop:=∀ b,b < bs.length → b ∈ o
theorem lsucc_lt {bs:List BlockM} {b p:Nat} (h:b ∈ succM bs p):p < bs.length:=by
 unfold succM at h
 cases e:bs[p]? with
 | none => rw [e] at h;cases h
 | some q => exact (List.getElem?_eq_some_iff.1 e).1
theorem reachW_back {bs:List BlockM} {x b p:Nat} (h:ReachW bs (x:Int) p) (e:b ∈ succM bs p) (hne:b ≠ x):ReachW bs (x:Int) b :=
 .step h e (by omega)
section
variable {bs:List BlockM} {o:List Nat} {h k b p:Nat}
theorem InL.over (hA:AllIn bs o) (hh:h ∈ o) (l:InL bs o h b):OverP bs o h b:=by
 induction l with
 | head => exact OverP.refl hh
 | latch k => exact k.2
 | step l hne e ih =>
  refine ⟨hh,hA _ (lsucc_lt e),fun hr => ih.2.2 (reachW_back hr e hne)⟩
theorem OverP.antisymm {pl:Nat → Nat} {par:Nat → Option Nat} (hO:Ord (succM bs) o pl) (hD:Done (succM bs) o pl par) (h1:OverP bs o h k) (h2:OverP bs o k h):h=k :=
 hD.tree.antisymm ((over_anc hO hD h1.2.1).1 h1) ((over_anc hO hD h2.2.1).1 h2)
theorem InL.sub {pl:Nat → Nat} {par:Nat → Option Nat} (hO:Ord (succM bs) o pl) (hD:Done (succM bs) o pl par) (hA:AllIn bs o) (hh:h ∈ o) (hk:k ∈ o) (hne:h ≠ k) (l:InL bs o k h) (m:InL bs o h b):InL bs o k b:=by
 induction m with
 | head => exact l
 | latch q => exact .step l hne q.1
 | @step b p m hb e ih =>
  by_cases hbk:b=k
  ·subst hbk
   exact absurd (OverP.antisymm hO hD (m.over hA hh) (l.over hA hk)) hne
  ·exact .step ih hbk e
end
structure LoopF (bs:List BlockM) (o:List Nat) (D L:Nat → Nat → Bool):Prop where
 dom:∀ a b,D a b=true ↔ OverP bs o a b
 inL:∀ h b,L h b=true ↔ InL bs o h b
theorem loopF_exists (bs:List BlockM) (o:List Nat):∃ D L,LoopF bs o D L:=by
 have hb:∀ p:Prop,∃ r:Bool,r=true ↔ p:=fun p => by
  by_cases h:p
  ·exact ⟨true,by simp [h]⟩
  ·exact ⟨false,by simp [h]⟩
 exact ⟨fun a b => Classical.choose (hb (OverP bs o a b)),fun h b => Classical.choose (hb (InL bs o h b)),fun a b => Classical.choose_spec (hb (OverP bs o a b)),fun h b => Classical.choose_spec (hb (InL bs o h b))⟩
def latchesM (bs:List BlockM) (D:Nat → Nat → Bool) (h:Nat):List Nat:=(predsTo bs bs.length h).filter (D h)
def blocksM (n:Nat) (L:Nat → Nat → Bool) (h:Nat):List Nat:=(List.range n).filter (L h)
def outB (bs:List BlockM) (L:Nat → Nat → Bool) (h t:Nat):Bool:=(List.range bs.length).any fun b => L h b && decide (t ∈ succM bs b)
def exitsM (bs:List BlockM) (L:Nat → Nat → Bool) (h:Nat):List Nat:=(List.range bs.length).filter fun t => !L h t && outB bs L h t
def headsM (bs:List BlockM) (D:Nat → Nat → Bool) (k:Nat):List Nat:=(List.range k).filter fun h => !(latchesM bs D h).isEmpty
def lsizeM (n:Nat) (L:Nat → Nat → Bool) (h:Nat):Nat:=(blocksM n L h).length
def aroundM (n:Nat) (L:Nat → Nat → Bool) (hs:List Nat) (i:Nat):Nat → Int
 | 0 => -1
 | k + 1 =>
  let a:=aroundM n L hs i k
  if k ≠ i ∧ L (hs.getD k 0) (hs.getD i 0)=true ∧ (a=-1 ∨ lsizeM n L (hs.getD k 0) < lsizeM n L (hs.getD a.toNat 0)) then (k:Int) else a
def depthM (L:Nat → Nat → Bool) (hs:List Nat) (b:Nat):Nat:=(hs.filter fun h => L h b).length
def oddB (bs:List BlockM) (D:Nat → Nat → Bool) (pl:Nat → Nat) (b:Nat):Bool:=(predsTo bs bs.length b).any fun p => decide (pl b ≤ pl p) && !D b p
def oddsM (bs:List BlockM) (D:Nat → Nat → Bool) (pl:Nat → Nat):List Nat:=(List.range bs.length).filter (oddB bs D pl)
theorem mem_predsTo {bs:List BlockM} {t p:Nat}:p ∈ predsTo bs bs.length t ↔ t ∈ succM bs p:=by
 unfold predsTo
 rw [List.mem_filter,List.mem_range,decide_eq_true_iff]
 exact ⟨fun h => h.2,fun h => ⟨lsucc_lt h,h⟩⟩
section
variable {bs:List BlockM} {o:List Nat} {D L:Nat → Nat → Bool} {h k b p:Nat}
theorem LoopF.mem_latches (F:LoopF bs o D L):p ∈ latchesM bs D h ↔ BackP bs o h p:=by
 unfold latchesM
 rw [List.mem_filter,mem_predsTo,F.dom]
 exact Iff.rfl
theorem LoopF.lt (F:LoopF bs o D L) (hh:h < bs.length) (hb:L h b=true):b < bs.length:=by
 cases (F.inL h b).1 hb with
 | head => exact hh
 | latch k => exact lsucc_lt k.1
 | step _ _ e => exact lsucc_lt e
theorem LoopF.mem_blocks (F:LoopF bs o D L) (hh:h < bs.length):b ∈ blocksM bs.length L h ↔ InL bs o h b:=by
 unfold blocksM
 rw [List.mem_filter,List.mem_range]
 exact ⟨fun x => (F.inL h b).1 x.2,fun x => ⟨F.lt hh ((F.inL h b).2 x),(F.inL h b).2 x⟩⟩
theorem mem_heads {n:Nat}:h ∈ headsM bs D n ↔ h < n ∧ latchesM bs D h ≠ []:=by
 unfold headsM
 rw [List.mem_filter,List.mem_range]
 cases latchesM bs D h <;> simp
end
structure LoopOk (bs:List BlockM) (o:List Nat) (pl:Nat → Nat) (par:Nat → Option Nat) (D L:Nat → Nat → Bool):Prop where
 ord:Ord (succM bs) o pl
 done:Done (succM bs) o pl par
 all:AllIn bs o
 lt:∀ x ∈ o,x < bs.length
 n5:bs.length ≤ 512
 fn:LoopF bs o D L
section
variable {bs:List BlockM} {o:List Nat} {pl:Nat → Nat} {par:Nat → Option Nat} {D L:Nat → Nat → Bool} {h k b p:Nat}
theorem LoopOk.sub (K:LoopOk bs o pl par D L) (hh:h < bs.length) (hk:k < bs.length) (hne:h ≠ k) (l:L k h=true) (hb:L h b=true):L k b=true :=
 (K.fn.inL k b).2 (InL.sub K.ord K.done K.all (K.all h hh) (K.all k hk) hne ((K.fn.inL k h).1 l) ((K.fn.inL h b).1 hb))
theorem LoopOk.within (K:LoopOk bs o pl par D L) (hh:h < bs.length) (hk:k < bs.length) (hne:h ≠ k):(∀ b ∈ blocksM bs.length L h,b ∈ blocksM bs.length L k) ↔ L k h=true:=by
 constructor
 ·intro a
  exact (K.fn.inL k h).2 ((K.fn.mem_blocks hk).1 (a h ((K.fn.mem_blocks hh).2 .head)))
 ·intro l b hb
  rw [K.fn.mem_blocks hk,← K.fn.inL]
  exact K.sub hh hk hne l ((K.fn.inL h b).2 ((K.fn.mem_blocks hh).1 hb))
end
structure LWk (bs:List BlockM) (o:List Nat) (h:Nat) (S ws:List Nat):Prop where
 nodup:S.Nodup
 lt:∀ x ∈ S,x < bs.length
 head:h ∈ S
 sound:∀ x ∈ S,InL bs o h x
 ok:∀ x ∈ ws,InL bs o h x ∧ x < bs.length
 closed:∀ x ∈ S,x ≠ h → ∀ p,x ∈ succM bs p → p ∈ S ∨ p ∈ ws
 lat:∀ p,BackP bs o h p → p ∈ S ∨ p ∈ ws
section
variable {bs:List BlockM} {o:List Nat} {h b:Nat} {S ws:List Nat}
theorem LWk.start {D L:Nat → Nat → Bool} (F:LoopF bs o D L) (hh:h < bs.length):LWk bs o h [h] (latchesM bs D h):=by
 refine ⟨by simp,by simpa using hh,by simp,by simpa using InL.head,fun x hx => ?_,fun x hx hne => ?_,fun p hp => .inr (F.mem_latches.2 hp)⟩
 ·have:=F.mem_latches.1 hx
  exact ⟨.latch this,lsucc_lt this.1⟩
 ·rw [List.mem_singleton] at hx
  exact absurd hx hne
theorem LWk.skip (W:LWk bs o h S (ws ++ [b])) (hb:b ∈ S):LWk bs o h S ws:=by
 have key:∀ p,p ∈ S ∨ p ∈ ws ++ [b] → p ∈ S ∨ p ∈ ws:=by
  rintro p (h1 | h1)
  ·exact .inl h1
  ·rcases List.mem_append.1 h1 with h2 | h2
   ·exact .inr h2
   ·rw [List.mem_singleton] at h2
    subst h2
    exact .inl hb
 exact ⟨W.nodup,W.lt,W.head,W.sound,fun x hx => W.ok x (List.mem_append_left _ hx),fun x hx hne p hp => key p (W.closed x hx hne p hp),fun p hp => key p (W.lat p hp)⟩
theorem LWk.mark (W:LWk bs o h S (ws ++ [b])) (hb:b ∉ S):LWk bs o h (b :: S) (ws ++ predsTo bs bs.length b):=by
 have hbo:=W.ok b (by simp)
 have hne:b ≠ h:=fun e => hb (e ▸ W.head)
 have key:∀ p,p ∈ S ∨ p ∈ ws ++ [b] → p ∈ b :: S ∨ p ∈ ws ++ predsTo bs bs.length b:=by
  rintro p (h1 | h1)
  ·exact .inl (List.mem_cons_of_mem _ h1)
  ·rcases List.mem_append.1 h1 with h2 | h2
   ·exact .inr (List.mem_append_left _ h2)
   ·rw [List.mem_singleton] at h2
    subst h2
    exact .inl (List.mem_cons_self ..)
 refine ⟨List.nodup_cons.2 ⟨hb,W.nodup⟩,fun x hx => ?_,List.mem_cons_of_mem _ W.head,fun x hx => ?_,fun x hx => ?_,fun x hx hnx p hp => ?_,fun p hp => key p (W.lat p hp)⟩
 ·rcases List.mem_cons.1 hx with rfl | hx
  ·exact hbo.2
  ·exact W.lt x hx
 ·rcases List.mem_cons.1 hx with rfl | hx
  ·exact hbo.1
  ·exact W.sound x hx
 ·rcases List.mem_append.1 hx with hx | hx
  ·exact W.ok x (List.mem_append_left _ hx)
  ·exact ⟨.step hbo.1 hne (mem_predsTo.1 hx),predsTo_lt hx⟩
 ·rcases List.mem_cons.1 hx with rfl | hx
  ·exact .inr (List.mem_append_right _ (mem_predsTo.2 hp))
  ·exact key p (W.closed x hx hnx p hp)
theorem LWk.all (W:LWk bs o h S []) (x:Nat):x ∈ S ↔ InL bs o h x:=by
 refine ⟨W.sound x,fun m => ?_⟩
 induction m with
 | head => exact W.head
 | latch k => exact (W.lat _ k).resolve_right (by simp)
 | step _ hne e ih => exact (W.closed _ ih hne _ e).resolve_right (by simp)
end
end Go.Proofs.YtikogmpibkefdaaGreat

namespace Go.Proofs.YtikogmpibkefdaaGreat
open Go.RowKit Go.Maps
def plcs (n:Nat) (o:List Nat) (pl:Nat → Nat):List Value:=(List.range n).map fun b => .int .i64 (if b ∈ o then ((pl b:Nat):Int) else 0)
theorem plcs_none (n:Nat) (pl:Nat → Nat):plcs n [] pl=List.replicate n (.int .i64 0):=by
 unfold plcs
 apply List.ext_getElem?
 intro i
 by_cases hi:i < n
 ·rw [List.getElem?_map,List.getElem?_eq_getElem (by simpa using hi),List.getElem?_replicate,if_pos hi]
  simp
 ·rw [List.getElem?_eq_none (by simp;omega),List.getElem?_eq_none (by simp;omega)]
theorem plcs_set {n i x:Nat} {o:List Nat} {pl:Nat → Nat} (hx:o[i]?=some x) (hp:pl x=i):(plcs n (o.take i) pl).set x (.int .i64 (i:Int))=plcs n (o.take (i + 1)) pl:=by
 unfold plcs
 apply List.ext_getElem?
 intro j
 by_cases hj:j < n
 ·by_cases e:x=j
  ·subst e
   rw [List.getElem?_set_self (by simpa using hj),List.getElem?_map,List.getElem?_eq_getElem (by simpa using hj)]
   have:x ∈ o.take (i + 1):=by rw [List.take_add_one,hx];simp
   simp [this,hp]
  ·rw [List.getElem?_set_ne e,List.getElem?_map,List.getElem?_map,List.getElem?_eq_getElem (by simpa using hj)]
   have:j ∈ o.take (i + 1) ↔ j ∈ o.take i:=by
    rw [List.take_add_one,hx]
    simp only [Option.toList_some,List.mem_append,List.mem_singleton]
    exact ⟨fun h => h.resolve_right (fun h2 => e h2.symm),.inl⟩
   simp [this]
 ·rw [List.getElem?_eq_none (by simp;omega),List.getElem?_eq_none (by simp;omega)]
theorem plcs_at {n b:Nat} {o:List Nat} {pl:Nat → Nat} (h:b < n) (ho:b ∈ o):(plcs n o pl)[b]?=some (.int .i64 ((pl b:Nat):Int)):=by
 unfold plcs
 rw [List.getElem?_map,List.getElem?_eq_getElem (by simpa using h)]
 simp [ho]
theorem plcs_any {n b:Nat} {o:List Nat} {pl:Nat → Nat} (h:b < n):(plcs n o pl)[b]?=some (.int .i64 (if b ∈ o then ((pl b:Nat):Int) else 0)):=by
 unfold plcs
 rw [List.getElem?_map,List.getElem?_eq_getElem (by simpa using h)]
 simp
structure LfAt (w:World) (lo:Nat) (bs:List BlockM) (o:List Nat) (pl:Nat → Nat) (par:Nat → Option Nat) (gp:Nat) (vs:List Value) (gi gl:Nat):Prop where
 preds:Lists w lo gp bs.length vs (predsAt bs bs.length bs.length 0)
 idoms:w.ownsRow lo 3 1 (.slice (some ⟨gi,0,none⟩) bs.length bs.length) bs.length (tops bs.length par)
 place:w.ownsRow lo 3 1 (.slice (some ⟨gl,0,none⟩) bs.length bs.length) bs.length (plcs bs.length o pl)
section
variable {w w':World} {lo lo':Nat} {bs:List BlockM} {o:List Nat} {pl:Nat → Nat} {par:Nat → Option Nat} {gp:Nat} {vs:List Value} {gi gl:Nat}
theorem LfAt.kept (h:LfAt w lo bs o pl par gp vs gi gl) (hb:Below w.heap.size w w'):LfAt w' lo bs o pl par gp vs gi gl :=
 ⟨h.preds.kept hb,own_kept_below h.idoms hb (fun k hk => (h.idoms.lt k hk).2),own_kept_below h.place hb (fun k hk => (h.place.lt k hk).2)⟩
theorem LfAt.mono (h:LfAt w lo bs o pl par gp vs gi gl) (hl:lo' ≤ lo):LfAt w lo' bs o pl par gp vs gi gl :=
 ⟨h.preds.mono hl,World.ownsRow.mono h.idoms hl,World.ownsRow.mono h.place hl⟩
theorem Lists.other {w:World} {base gb n:Nat} {ls:List (List Nat)} {j off:Nat} (h:Lists w base gb n vs ls) (hj:j < base) (u:Value):Lists (w.setCell ⟨j,off,none⟩ u) base gb n vs ls:=by
 have hl:=h.lt
 refine ⟨h.vl,h.ll,ownsRow_setCell_other h.row (a:=⟨j,off,none⟩) (by intro e;cases e;omega) u,fun t v l hv hl2 => ?_,h.apart⟩
 exact ownsRow_setCell_other (h.own t v l hv hl2) (a:=⟨j,off,none⟩) (by intro e;have:=((h.own t v l hv hl2).lt j e).1;omega) u
theorem LfAt.other {j off:Nat} (h:LfAt w lo bs o pl par gp vs gi gl) (hj:j < lo) (u:Value):LfAt (w.setCell ⟨j,off,none⟩ u) lo bs o pl par gp vs gi gl:=by
 have h1:=(h.idoms.lt gi rfl).1
 have h2:=(h.place.lt gl rfl).1
 exact ⟨h.preds.other hj u,ownsRow_setCell_other h.idoms (a:=⟨j,off,none⟩) (by intro e;cases e;omega) u,ownsRow_setCell_other h.place (a:=⟨j,off,none⟩) (by intro e;cases e;omega) u⟩
theorem LfAt.top (h:LfAt w lo bs o pl par gp vs gi gl) {b:Nat} (hb:b < bs.length):w.cell? ⟨gi,b,none⟩=some (.int .i64 (topI (par b))):=by
 rw [World.ownsRow.cellAt h.idoms b (by omega)];exact tops_at hb
theorem LfAt.at (h:LfAt w lo bs o pl par gp vs gi gl) {b:Nat} (hb:b < bs.length) (ho:b ∈ o):w.cell? ⟨gl,b,none⟩=some (.int .i64 ((pl b:Nat):Int)):=by
 rw [World.ownsRow.cellAt h.place b (by omega)];exact plcs_at hb ho
theorem LfAt.list (h:LfAt w lo bs o pl par gp vs gi gl) {b:Nat} (hb:b < bs.length):∃ v,w.cell? ⟨gp,b,none⟩=some v ∧ w.ownsRow lo 3 1 v (predsTo bs bs.length b).length (natInts (predsTo bs bs.length b)):=by
 obtain ⟨v,hv⟩:∃ v,vs[b]?=some v:=⟨_,List.getElem?_eq_getElem (by rw [h.preds.vl];exact hb)⟩
 have hl:(predsAt bs bs.length bs.length 0)[b]?=some (predsTo bs bs.length b):=by rw [predsAt_at hb];simp
 exact ⟨v,by rw [World.ownsRow.cellAt h.preds.row b (by omega)];exact hv,World.ownsRow.mono (h.preds.own b v _ hv hl) (by have:=h.preds.lt;omega)⟩
theorem LfAt.lt (h:LfAt w lo bs o pl par gp vs gi gl):(lo ≤ gp ∧ gp < w.heap.size) ∧ (lo ≤ gi ∧ gi < w.heap.size) ∧ (lo ≤ gl ∧ gl < w.heap.size):=⟨h.preds.lt,h.idoms.lt gi rfl,h.place.lt gl rfl⟩
end
end Go.Proofs.YtikogmpibkefdaaGreat

namespace Go.Proofs.YtikogmpibkefdaaGreat
open Go.RowKit Go.Maps
theorem dom_up {bs:List BlockM} {o:List Nat} {pl:Nat → Nat} {par:Nat → Option Nat} {D L:Nat → Nat → Bool} (K:LoopOk bs o pl par D L) {a b c:Nat} (_ha:a < bs.length) (hb:b < bs.length) (h1:Anc par c b) (h2:Anc par a b ↔ Anc par a c) (h3:¬ pl a < pl c):D a b=((a:Int) == (c:Int)):=by
 have hbo:=K.all b hb
 have hco:c ∈ o:=K.done.tree.anc_mem K.ord h1 (K.done.grown b hbo)
 have key:D a b=true ↔ a=c:=by
  rw [K.fn.dom,over_anc K.ord K.done hbo,h2]
  constructor
  ·intro h
   rcases K.done.tree.anc_pl h with e | ⟨e,_⟩
   ·exact e
   ·exact absurd e h3
  ·rintro rfl;exact .refl
 cases hd:D a b with
 | true => have:=key.1 hd;subst this;simp
 | false =>
  symm
  rw [beq_eq_false_iff_ne]
  intro e
  have:=key.2 (by omega)
  rw [hd] at this
  cases this
set_option maxRecDepth 100000 in
set_option maxHeartbeats 2000000 in
theorem lDom_any (bs:List BlockM) (o:List Nat) (pl:Nat → Nat) (par:Nat → Option Nat) (D L:Nat → Nat → Bool) (lo gp gi gl a b:Nat) (vs:List Value) (p0 p1 p2 p3:Value) (w:World) (K:LoopOk bs o pl par D L) (H:LfAt w lo bs o pl par gp vs gi gl) (ha:a < bs.length) (hb:b < bs.length) :
  Calls Tryz.prog 241 #[.agg #[p0,p1,p2,p3,.slice (some ⟨gp,0,none⟩) bs.length bs.length,.slice (some ⟨gi,0,none⟩) bs.length bs.length,.slice (some ⟨gl,0,none⟩) bs.length bs.length],.int .i64 a,.int .i64 b] w fun e w' => e=.returned (.bool (D a b)) ∧ Below w.heap.size w w':=by
 have HK:=hideI K
 obtain ⟨W,hW⟩:∃ W:World,W=w.alloc (.cells #[p0,p1,p2,p3,.slice (some ⟨gp,0,none⟩) bs.length bs.length,.slice (some ⟨gi,0,none⟩) bs.length bs.length,.slice (some ⟨gl,0,none⟩) bs.length bs.length] 224):=⟨_,rfl⟩
 have HBW:Hid (Below w.heap.size w W):=by show Below _ _ _;rw [hW];exact (Below.refl _ _).alloc (Nat.le_refl _) _
 have HXW:Hid (W.heap[w.heap.size]?=some (.cells #[p0,p1,p2,p3,.slice (some ⟨gp,0,none⟩) bs.length bs.length,.slice (some ⟨gi,0,none⟩) bs.length bs.length,.slice (some ⟨gl,0,none⟩) bs.length bs.length] 224 (0,0))):=by show _=_;rw [hW];exact heap_alloc_new w _
 have HLW:=hideI (H.kept HBW.out)
 have HW0:=hideI hW
 have hx:=row_cells HXW.out rfl
 have q5:=hx 5
 have q6:=hx 6
 have ca:=HLW.out.at ha (K.all a ha)
 obtain ⟨pa,hpa⟩:∃ pa,pa=pl a:=⟨_,rfl⟩
 rw [← hpa] at ca
 have HPA:=hideI hpa
 clear K H hW hx hpa
 go_enter Tryz.func241,Tryz.ntmps241
 go_upto_region 1 with fail
 rw [← HW0.out]
 go_loopw [2] (fun u wr => ∃ c m:Nat,u=.int .i64 c ∧ Hid (Anc par c b ∧ (Anc par a b ↔ Anc par a c)) ∧ wr=W.drewN m) (fun u _ => pl (intOf u).toNat)
 case atStart => exact ⟨b,0,rfl,hideI ⟨.refl,Iff.rfl⟩,rfl⟩
 case round =>
  obtain ⟨c,m,rfl,HC,rfl⟩:=hrel
  have hco:c ∈ o:=HK.out.done.tree.anc_mem HK.out.ord HC.out.1 (HK.out.done.grown b (HK.out.all b hb))
  have hcl:=HK.out.lt c hco
  have cc:=HLW.out.at hcl hco
  have ct:=HLW.out.top hcl
  obtain ⟨pc,hpc⟩:∃ pc,pc=pl c:=⟨_,rfl⟩
  rw [← hpc] at cc
  by_cases hlt:pa < pc
  ·obtain ⟨d,hd⟩:∃ d,par c=some d:=by
    rcases HK.out.done.grown c hco with e | e
    ·subst e
     rw [HK.out.ord.pl_zero] at hpc
     omega
    ·exact e
   rw [hd] at ct
   simp only [topI] at ct
   have HD:=hideI hd
   have HPC:=hideI hpc
   clear hd hpc hco
   go_wp2_with fail
   go_quiet (fail)
   go_wp2
   go_roundw
   case rel =>
    refine ⟨d,_,rfl,hideI ⟨(Anc.up HD.out .refl:Anc par d c).trans HC.out.1,HC.out.2.trans ⟨fun h => ?_,fun h => .up HD.out h⟩⟩,rfl⟩
    rcases h.step HD.out with e | e
    ·subst e
     have:=HPA.out
     have:=HPC.out
     omega
    ·exact e
   case measure =>
    have h1:=(HK.out.done.tree.up c d HD.out).2.2.1
    simpa [intOf] using h1
  ·have HR:=hideI (dom_up HK.out ha hb HC.out.1 HC.out.2 (by rw [← HPA.out,← hpc];exact hlt))
   clear hpc hco ct
   go_wp2_with fail
   go_quiet (fail)
   go_wp2
   go_ret
   exact ⟨by rw [HR.out];rfl,drew_below HBW.out _⟩
end Go.Proofs.YtikogmpibkefdaaGreat

namespace Go.Proofs.YtikogmpibkefdaaGreat
open Go.RowKit Go.Maps
def RowPost (l:List Nat) (w:World) (e:Ending) (w':World):Prop :=
 ∃ v,e=.returned v ∧ w'.ownsRow w.heap.size 3 1 v l.length (natInts l) ∧ Below w.heap.size w w'
theorem filter_skip {P:Nat → Bool} {l:List Nat} {i p:Nat} (hp:l[i]?=some p) (h:P p=false):(l.take (i + 1)).filter P=(l.take i).filter P:=by
 rw [List.take_add_one,hp,List.filter_append]
 simp [h]
theorem filter_more {P:Nat → Bool} {l:List Nat} {i p:Nat} (hp:l[i]?=some p) (h:P p=true):(l.take (i + 1)).filter P=(l.take i).filter P ++ [p]:=by
 rw [List.take_add_one,hp,List.filter_append]
 simp [h]
theorem filter_len {P:Nat → Bool} {l:List Nat} {i:Nat}:((l.take i).filter P).length ≤ l.length:=by
 have h1:=List.length_filter_le P (l.take i)
 have h2:=List.length_take_le i l
 have h3:(l.take i).length ≤ l.length:=by rw [List.length_take];omega
 omega
theorem natInts_snoc (l:List Nat) (x:Nat):natInts (l ++ [x])=natInts l ++ [.int .i64 (x:Int)]:=by
 unfold natInts
 rw [List.map_append]
 rfl
set_option maxRecDepth 100000 in
set_option maxHeartbeats 2000000 in
theorem lLatch_any (bs:List BlockM) (o:List Nat) (pl:Nat → Nat) (par:Nat → Option Nat) (D L:Nat → Nat → Bool) (lo gp gi gl h:Nat) (vs:List Value) (p0 p1 p2 p3:Value) (w:World) (K:LoopOk bs o pl par D L) (H:LfAt w lo bs o pl par gp vs gi gl) (hh:h < bs.length) :
  Calls Tryz.prog 211 #[.agg #[p0,p1,p2,p3,.slice (some ⟨gp,0,none⟩) bs.length bs.length,.slice (some ⟨gi,0,none⟩) bs.length bs.length,.slice (some ⟨gl,0,none⟩) bs.length bs.length],.int .i64 h] w (RowPost (latchesM bs D h) w):=by
 have HK:=hideI K
 have hn5:=K.n5
 obtain ⟨W,hW⟩:∃ W:World,W=w.alloc (.cells #[p0,p1,p2,p3,.slice (some ⟨gp,0,none⟩) bs.length bs.length,.slice (some ⟨gi,0,none⟩) bs.length bs.length,.slice (some ⟨gl,0,none⟩) bs.length bs.length] 224):=⟨_,rfl⟩
 have HBW:Hid (Below w.heap.size w W):=by show Below _ _ _;rw [hW];exact (Below.refl _ _).alloc (Nat.le_refl _) _
 have HXW:Hid (W.heap[w.heap.size]?=some (.cells #[p0,p1,p2,p3,.slice (some ⟨gp,0,none⟩) bs.length bs.length,.slice (some ⟨gi,0,none⟩) bs.length bs.length,.slice (some ⟨gl,0,none⟩) bs.length bs.length] 224 (0,0))):=by show _=_;rw [hW];exact heap_alloc_new w _
 have hwW:w.heap.size < W.heap.size:=lt_of_heap HXW.out
 have HLW:=hideI (H.kept HBW.out)
 have HW0:=hideI hW
 obtain ⟨v,hc0,hown⟩:=HLW.out.list hh
 obtain ⟨l,hl⟩:∃ l,l=predsTo bs bs.length h:=⟨_,rfl⟩
 have HL:Hid (latchesM bs D h=l.filter (D h)):=by show _=_;rw [hl];rfl
 have HLB:Hid (∀ x ∈ l,x < bs.length):=fun x hx => by rw [hl] at hx;exact predsTo_lt hx
 rw [← hl] at hown
 have hll:l.length ≤ 512:=by rw [hl];exact Nat.le_trans (predsTo_len _ _ _) hn5
 obtain ⟨PA,pc2,e1,_,hpx⟩:=nat_ints hown (by omega)
 rw [List.length_map] at e1 hpx
 subst e1
 have HPX:=hideI hpx
 obtain ⟨i1,hjx,hy0,hy1,hy2⟩:=info_parts int_info
 have hx:=row_cells HXW.out rfl
 have q4:=hx 4
 clear K H hW hx hown hl hpx
 go_enter Tryz.func211,Tryz.ntmps211
 go_upto_region 1 with fail
 rw [← HW0.out]
 go_wp2
 clear q4 hc0
 go_loopw [5,14] (fun vo u wr => ∃ (i:Nat) (v:Value),v=vo ∧ i ≤ l.length ∧ u=.int .i64 i ∧ Hid (wr.ownsRow W.heap.size 3 1 v ((l.take i).filter (D h)).length (natInts ((l.take i).filter (D h)))) ∧ Hid (Below W.heap.size W wr)) (fun _ u _ => l.length - (intOf u).toNat)
 case atStart => exact ⟨0,_,rfl,Nat.zero_le _,rfl,hideI (World.ownsRow_nil _ _ _ _),hideI (Below.refl _ _)⟩
 case round =>
  obtain ⟨i,v,rfl,hi,rfl,HO,HBr⟩:=hrel
  by_cases hlt:i < l.length
  ·obtain ⟨p,hp⟩:∃ p,l[i]?=some p:=⟨_,List.getElem?_eq_getElem hlt⟩
   have hpl:=HLB.out p (List.mem_of_getElem? hp)
   obtain ⟨pb,po,rfl,hpb,d0⟩:=HPX.out i hlt
   rw [List.getElem?_map,hp] at d0
   simp only [Option.map_some,Option.getD_some] at d0
   have d1:=(HBr.out.cell (p:=⟨pb,po + i,none⟩) hpb).trans d0
   have hx:=row_cells HXW.out (HBr.out.block _ hwW)
   have q0:=hx 0
   have q1:=hx 1
   have q2:=hx 2
   have q3:=hx 3
   have q4:=hx 4
   have q5:=hx 5
   have q6:=hx 6
   have HDM:=hideI (lDom_any bs o pl par D L lo gp gi gl h p vs p0 p1 p2 p3 wr HK.out (HLW.out.kept HBr.out) hh hpl)
   have HP:=hideI hp
   obtain ⟨m,hm⟩:∃ m,m=((l.take i).filter (D h)).length:=⟨_,rfl⟩
   obtain ⟨xs,hxs⟩:∃ xs,xs=(l.take i).filter (D h):=⟨_,rfl⟩
   have hml:m ≤ 512:=by rw [hm];exact Nat.le_trans filter_len hll
   have HXS:=hideI hxs
   have HM:=hideI hm
   cases hr:D h p with
   | false =>
    have HS:Hid ((l.take (i + 1)).filter (D h)=(l.take i).filter (D h)):=filter_skip hp hr
    rw [hr] at HDM
    clear hx hp d0 hr hxs hm
    go_wp2_with (go_at_call 241;go_must (refine HDM.out.mono ?_);rintro e w2 ⟨rfl,hb2⟩;have HO2:=hideI (own_kept_below HO.out hb2 (fun k hk => (HO.out.lt k hk).2));have HB2:=hideI (HBr.out.trans (hb2.mono HBr.out.size));clear hb2 q0 q1 q2 q3 q4 q5 q6 d1)
    go_roundw
    case rel => exact ⟨i + 1,_,rfl,by omega,by go_num,by rw [HS.out];exact HO2,HB2⟩
    case measure => simp [intOf];omega
   | true =>
    have HS:Hid ((l.take (i + 1)).filter (D h)=xs ++ [p]):=by show _=_;rw [hxs];exact filter_more hp hr
    rw [← hxs] at HO hm
    have hmx:xs.length=m:=hm.symm
    have H63:Hid (xs.length + 1 ≤ maxLen):=by show _ ≤ _;simp only [maxLen];omega
    have HBY:Hid ((xs.length + 1) * 8 ≤ 140737488355328):=by show _ ≤ _;omega
    have HMX:=hideI hmx
    rw [hr] at HDM
    clear hx hp d0 hr hxs hm hmx
    go_wp2_with (first
     | (go_at_call 241;go_must (refine HDM.out.mono ?_);rintro e w2 ⟨rfl,hb2⟩;have HO2:=hideI (own_kept_below HO.out hb2 (fun k hk => (HO.out.lt k hk).2));have HB2:=hideI (HBr.out.trans (hb2.mono HBr.out.size));have HBS:Hid (W.heap.size ≤ w2.heap.size):=HB2.out.size;clear hb2 q0 q1 q2 q3 q4 q5 q6 d1)
     | (at_builtin;go_must (refine wpList_append_lies _ rfl _ _ _ rfl W.heap.size 3 i1 (.int .i64 0) 1 8 Tryz.underlying22 hjx hy0 hy1 hy2 rfl (by decide) _ _ _ rfl (HO2.out.alloc _) ⟨w2.heap.size,0,none⟩ 1 1 [.int .i64 p] rfl rfl (one_new w2 _) (by simp [Value.oneCell']) (by decide) H63.out HBY.out (by simp;exact Nat.le_succ_of_le HBS.out) _ rfl ?_);intro g1 cap1 w3 hown1 hgrow1 hor1 _;go_must (have HO3:=hideI hown1;have HB3:Hid (Below W.heap.size W w3):=(HB2.out.alloc HB2.out.size _).grown hgrow1 (by simp;exact Nat.le_succ_of_le HBS.out) (fun k hk => (HO2.out.lt k hk).1);clear hown1 hgrow1 hor1)))
    go_roundw
    case rel => exact ⟨i + 1,_,rfl,by omega,by go_num,by rw [HS.out,List.length_append,natInts_snoc];exact HO3,HB3⟩
    case measure => simp [intOf];omega
  ·have HE:Hid ((l.take i).filter (D h)=latchesM bs D h):=by show _=_;rw [HL.out,List.take_of_length_le (by omega)]
   rw [HE.out] at HO
   go_wp2
   go_ret
   exact ⟨_,rfl,World.ownsRow.mono HO.out (Nat.le_of_lt hwW),HBW.out.trans (HBr.out.mono (Nat.le_of_lt hwW))⟩
end Go.Proofs.YtikogmpibkefdaaGreat

namespace Go.Proofs.YtikogmpibkefdaaGreat
open Go.RowKit Go.Maps
structure LpM where
 head:Nat
 blocks:List Nat
 latches:List Nat
 exits:List Nat
 parent:Int
theorem loop_info:(Tryz.prog.info? 112).map (fun i => (i.zero,i.size,i.bytes))=some (some (.agg #[.int .i64 0,.slice none 0 0,.slice none 0 0,.slice none 0 0,.int .i64 0]),5,88):=by kernel_rfl
def SubR (w:World) (base:Nat) (vr b:Value) (l:List Nat):Prop :=
 w.ownsRow base 3 1 b l.length (natInts l) ∧ ∀ k,b.ownBlock=some k → vr.ownBlock ≠ some k
structure LpAt (w:World) (base:Nat) (vr:Value) (cs:List Value) (i:Nat) (lp:LpM):Prop where
 ex:∃ b1 b2 b3:Value,cs[i * 5]?=some (.int .i64 (lp.head:Int)) ∧ cs[i * 5 + 1]?=some b1 ∧ cs[i * 5 + 2]?=some b2 ∧ cs[i * 5 + 3]?=some b3 ∧ cs[i * 5 + 4]?=some (.int .i64 lp.parent) ∧
  SubR w base vr b1 lp.blocks ∧ SubR w base vr b2 lp.latches ∧ SubR w base vr b3 lp.exits
structure LoopsR (w:World) (base:Nat) (v:Value) (ls:List LpM):Prop where
 ex:∃ cs:List Value,w.ownsRow base 112 5 v ls.length cs ∧ ∀ (i:Nat) lp,ls[i]?=some lp → LpAt w base v cs i lp
section
variable {w w' w1:World} {base base' B:Nat} {v vr b:Value} {l:List Nat} {ls:List LpM} {o:Obj}
theorem SubR.kept (h:SubR w base vr b l) (hb:Below w.heap.size w w'):SubR w' base vr b l :=
 ⟨own_kept_below h.1 hb (fun k hk => (h.1.lt k hk).2),h.2⟩
theorem SubR.mono (h:SubR w base vr b l) (hb:base' ≤ base):SubR w base' vr b l:=⟨World.ownsRow.mono h.1 hb,h.2⟩
theorem SubR.grow {g' n' cap':Nat} (h:SubR w base vr b l) (hg:(w.alloc o).grownBy w1 vr.ownBlock) (hor:vr.ownBlock=some g' ∨ g'=(w.alloc o).heap.size):SubR w1 base (.slice (some ⟨g',0,none⟩) n' cap') b l:=by
 refine ⟨(h.1.alloc o).kept hg ?_,fun k hk => ?_⟩
 ·cases e:b.ownBlock with
  | none => exact .inl rfl
  | some k => exact .inr (fun e2 => h.2 k e e2.symm)
 ·intro e
  have e1:g'=k:=by simpa [Value.ownBlock] using e
  subst e1
  rcases hor with h1 | h1
  ·exact h.2 g' hk h1
  ·have:=(h.1.lt g' hk).2
   simp at h1
   omega
theorem SubR.ints (h:SubR w base vr b l) (hl:l.length ≤ 100000):Ints w w.heap.size b (l.map fun (x:Nat) => (x:Int)):=nat_ints h.1 hl
theorem LpAt.map {cs:List Value} {i:Nat} {lp:LpM} {vr':Value} (h:LpAt w base vr cs i lp) (f:∀ b l,SubR w base vr b l → SubR w' base' vr' b l):LpAt w' base' vr' cs i lp:=by
 obtain ⟨b1,b2,b3,h0,h1,h2,h3,h4,s1,s2,s3⟩:=h.ex
 exact ⟨b1,b2,b3,h0,h1,h2,h3,h4,f _ _ s1,f _ _ s2,f _ _ s3⟩
theorem LoopsR.nil (w:World) (base:Nat):LoopsR w base (.slice none 0 0) []:=⟨[],World.ownsRow_nil _ _ _ _,fun i lp h => by simp at h⟩
theorem LoopsR.kept (h:LoopsR w base v ls) (hb:Below w.heap.size w w'):LoopsR w' base v ls:=by
 obtain ⟨cs,h1,h2⟩:=h.ex
 exact ⟨cs,own_kept_below h1 hb (fun k hk => (h1.lt k hk).2),fun i lp hi => (h2 i lp hi).map fun _ _ s => s.kept hb⟩
theorem LoopsR.mono (h:LoopsR w base v ls) (hb:base' ≤ base):LoopsR w base' v ls:=by
 obtain ⟨cs,h1,h2⟩:=h.ex
 exact ⟨cs,World.ownsRow.mono h1 hb,fun i lp hi => (h2 i lp hi).map fun _ _ s => s.mono hb⟩
theorem LoopsR.other {j off:Nat} (h:LoopsR w base v ls) (hj:j < base) (u:Value):LoopsR (w.setCell ⟨j,off,none⟩ u) base v ls:=by
 obtain ⟨cs,h1,h2⟩:=h.ex
 refine ⟨cs,ownsRow_setCell_other h1 (a:=⟨j,off,none⟩) (by intro e;have:=(h1.lt j e).1;omega) u,fun i lp hi => (h2 i lp hi).map fun b l s => ⟨ownsRow_setCell_other s.1 (a:=⟨j,off,none⟩) (by intro e;have:=(s.1.lt j e).1;omega) u,s.2⟩⟩
theorem LoopsR.push {cs:List Value} {lp:LpM} {b1 b2 b3:Value} {g' cap':Nat} (h1:w.ownsRow base 112 5 v ls.length cs) (h2:∀ (i:Nat) lp,ls[i]?=some lp → LpAt w base v cs i lp)
  (s1:SubR w base v b1 lp.blocks) (s2:SubR w base v b2 lp.latches) (s3:SubR w base v b3 lp.exits)
  (hown:w1.ownsRow base 112 5 (.slice (some ⟨g',0,none⟩) (ls.length + 1) cap') (ls.length + 1) (cs ++ [.int .i64 (lp.head:Int),b1,b2,b3,.int .i64 lp.parent])) (hg:(w.alloc o).grownBy w1 v.ownBlock) (hor:v.ownBlock=some g' ∨ g'=(w.alloc o).heap.size) :
  LoopsR w1 base (.slice (some ⟨g',0,none⟩) (ls.length + 1) cap') (ls ++ [lp]):=by
 have hl:cs.length=ls.length * 5:=h1.1
 refine ⟨cs ++ [.int .i64 (lp.head:Int),b1,b2,b3,.int .i64 lp.parent],by rw [List.length_append];exact hown,fun i lp' hi => ?_⟩
 by_cases hlt:i < ls.length
 ·rw [List.getElem?_append_left hlt] at hi
  obtain ⟨c1,c2,c3,k0,k1,k2,k3,k4,t1,t2,t3⟩:=(h2 i lp' hi).ex
  refine ⟨c1,c2,c3,?_,?_,?_,?_,?_,t1.grow hg hor,t2.grow hg hor,t3.grow hg hor⟩
  ·rw [List.getElem?_append_left (by omega)];exact k0
  ·rw [List.getElem?_append_left (by omega)];exact k1
  ·rw [List.getElem?_append_left (by omega)];exact k2
  ·rw [List.getElem?_append_left (by omega)];exact k3
  ·rw [List.getElem?_append_left (by omega)];exact k4
 ·rw [List.getElem?_append_right (by omega)] at hi
  have hi0:i=ls.length:=by
   have:=(List.getElem?_eq_some_iff.1 hi).1
   simp at this
   omega
  subst hi0
  simp at hi
  subst hi
  refine ⟨b1,b2,b3,?_,?_,?_,?_,?_,s1.grow hg hor,s2.grow hg hor,s3.grow hg hor⟩
  ·rw [List.getElem?_append_right (by omega),show ls.length * 5 - cs.length=0 by omega];rfl
  ·rw [List.getElem?_append_right (by omega),show ls.length * 5 + 1 - cs.length=1 by omega];rfl
  ·rw [List.getElem?_append_right (by omega),show ls.length * 5 + 2 - cs.length=2 by omega];rfl
  ·rw [List.getElem?_append_right (by omega),show ls.length * 5 + 3 - cs.length=3 by omega];rfl
  ·rw [List.getElem?_append_right (by omega),show ls.length * 5 + 4 - cs.length=4 by omega];rfl
theorem LoopsR.cells (h:LoopsR w base v ls) {i:Nat} {lp:LpM} (hi:ls[i]?=some lp):∃ (g cap:Nat) (b1 b2 b3:Value),v=.slice (some ⟨g,0,none⟩) ls.length cap ∧ base ≤ g ∧ g < w.heap.size ∧
  w.cell? ⟨g,i * 5,none⟩=some (.int .i64 (lp.head:Int)) ∧ w.cell? ⟨g,i * 5 + 1,none⟩=some b1 ∧ w.cell? ⟨g,i * 5 + 2,none⟩=some b2 ∧ w.cell? ⟨g,i * 5 + 3,none⟩=some b3 ∧ w.cell? ⟨g,i * 5 + 4,none⟩=some (.int .i64 lp.parent) ∧
  SubR w base v b1 lp.blocks ∧ SubR w base v b2 lp.latches ∧ SubR w base v b3 lp.exits ∧ ∀ o,w.frozen? ⟨g,o,none⟩=false:=by
 obtain ⟨cs,h1,h2⟩:=h.ex
 obtain ⟨b1,b2,b3,k0,k1,k2,k3,k4,s1,s2,s3⟩:=(h2 i lp hi).ex
 have hil:=(List.getElem?_eq_some_iff.1 hi).1
 obtain ⟨g,cap,rfl⟩:∃ g cap,v=.slice (some ⟨g,0,none⟩) ls.length cap:=by
  rcases h1.2 with ⟨_,e⟩ | ⟨g,cap,_,e,_⟩
  ·omega
  ·exact ⟨g,cap,e⟩
 have hg:=h1.lt g rfl
 refine ⟨g,cap,b1,b2,b3,rfl,hg.1,hg.2,?_,?_,?_,?_,?_,s1,s2,s3,fun o => World.ownsRow.frozenAt h1 o⟩
 ·rw [World.ownsRow.cellAt h1 _ (by omega)];exact k0
 ·rw [World.ownsRow.cellAt h1 _ (by omega)];exact k1
 ·rw [World.ownsRow.cellAt h1 _ (by omega)];exact k2
 ·rw [World.ownsRow.cellAt h1 _ (by omega)];exact k3
 ·rw [World.ownsRow.cellAt h1 _ (by omega)];exact k4
theorem LoopsR.free {g n cap:Nat} (h:LoopsR w base (.slice (some ⟨g,0,none⟩) n cap) ls) (i:Nat):w.frozen? ⟨g,i,none⟩=false:=by
 obtain ⟨cs,h1,_⟩:=h.ex
 rcases h1.2 with ⟨e,_⟩ | ⟨g1,cap1,cur,e,_,hg,_⟩
 ·cases e
 ·cases e
  exact free_rowN hg rfl i
theorem LoopsR.parent {g cap i:Nat} {lp:LpM} {p:Int} (h:LoopsR w base (.slice (some ⟨g,0,none⟩) ls.length cap) ls) (hi:ls[i]?=some lp):LoopsR (w.setCell ⟨g,i * 5 + 4,none⟩ (.int .i64 p)) base (.slice (some ⟨g,0,none⟩) ls.length cap) (ls.set i { lp with parent:=p }):=by
 obtain ⟨cs,h1,h2⟩:=h.ex
 have hil:=(List.getElem?_eq_some_iff.1 hi).1
 have hl:cs.length=ls.length * 5:=h1.1
 have key:∀ b l,SubR w base (.slice (some ⟨g,0,none⟩) ls.length cap) b l → SubR (w.setCell ⟨g,i * 5 + 4,none⟩ (.int .i64 p)) base (.slice (some ⟨g,0,none⟩) ls.length cap) b l:=fun b l s =>
  ⟨ownsRow_setCell_other s.1 (a:=⟨g,i * 5 + 4,none⟩) (by intro e;exact s.2 g e rfl) _,s.2⟩
 refine ⟨cs.set (i * 5 + 4) (.int .i64 p),by rw [List.length_set];exact (h1.stored (i * 5 + 4) _).1,fun j lp' hj => ?_⟩
 by_cases e:i=j
 ·subst e
  rw [List.getElem?_set_self hil] at hj
  cases hj
  obtain ⟨b1,b2,b3,k0,k1,k2,k3,k4,s1,s2,s3⟩:=(h2 i lp hi).ex
  refine ⟨b1,b2,b3,?_,?_,?_,?_,?_,key _ _ s1,key _ _ s2,key _ _ s3⟩
  ·rw [List.getElem?_set_ne (by omega)];exact k0
  ·rw [List.getElem?_set_ne (by omega)];exact k1
  ·rw [List.getElem?_set_ne (by omega)];exact k2
  ·rw [List.getElem?_set_ne (by omega)];exact k3
  ·rw [List.getElem?_set_self (by omega)]
 ·rw [List.getElem?_set_ne e] at hj
  obtain ⟨b1,b2,b3,k0,k1,k2,k3,k4,s1,s2,s3⟩:=(h2 j lp' hj).ex
  refine ⟨b1,b2,b3,?_,?_,?_,?_,?_,key _ _ s1,key _ _ s2,key _ _ s3⟩
  ·rw [List.getElem?_set_ne (by omega)];exact k0
  ·rw [List.getElem?_set_ne (by omega)];exact k1
  ·rw [List.getElem?_set_ne (by omega)];exact k2
  ·rw [List.getElem?_set_ne (by omega)];exact k3
  ·rw [List.getElem?_set_ne (by omega)];exact k4
end
end Go.Proofs.YtikogmpibkefdaaGreat

namespace Go.Proofs.YtikogmpibkefdaaGreat
open Go.RowKit Go.Maps
set_option maxRecDepth 100000 in
set_option maxHeartbeats 2000000 in
theorem idxNone_any (A:Option Addr) (c:Nat) (fv:Value) (w:World) :
  Calls Tryz.prog 64 #[.slice A 0 c,fv] w fun e w' => e=.returned (.int .i64 (-1)) ∧ w'=w:=by
 go_enter Tryz.func64,Tryz.ntmps64
 go_wp2
 go_loopg [5,8] 0 (fun gg _ s8 wr => s8=.int .i64 0 ∧ wr=w)
 case atStart => exact ⟨rfl,rfl⟩
 case round =>
  obtain ⟨rfl,rfl⟩:=hrel
  go_wp2
  go_ret
  exact ⟨rfl,rfl⟩
set_option maxRecDepth 100000 in
set_option maxHeartbeats 4000000 in
theorem leastNone_any (n c cl gp:Nat) (A Al:Option Addr) (p0 p1 p2:Value) (w:World) (hn:0 < n) (hn5:n ≤ 512) :
  Calls Tryz.prog 118 #[.agg #[p0,p1,p2,.slice A n c,.slice Al 0 cl,.slice (some ⟨gp,0,none⟩) n n]] w fun e w' => ∃ A1 n1 c1,e=.returned (.slice A1 n1 c1) ∧ Below w.heap.size w w':=by
 obtain ⟨W,hW⟩:∃ W:World,W=w.alloc (.cells #[p0,p1,p2,.slice A n c,.slice Al 0 cl,.slice (some ⟨gp,0,none⟩) n n] 107):=⟨_,rfl⟩
 have HB0:Hid (Below w.heap.size w W):=by show Below _ _ _;rw [hW];exact (Below.refl _ w).alloc (Nat.le_refl _) _
 have hx1:W.heap[w.heap.size]?=some (.cells #[p0,p1,p2,.slice A n c,.slice Al 0 cl,.slice (some ⟨gp,0,none⟩) n n] 107 (0,0)):=by
  rw [hW]
  exact heap_alloc_new w _
 have HX1:=hideI hx1
 have HW0:=hideI hW
 have hwW:w.heap.size < W.heap.size:=lt_of_heap hx1
 have HR:Hid (∀ W2,W2=W.alloc (.cells #[.int .i64 (-1)] 3) → Calls Tryz.prog 179 #[.slice (some ⟨W.heap.size,0,none⟩) 1 1,.int .i64 n] W2 (RepPost (-1) n W2)):=fun W2 h2 => by
  subst h2
  exact repeat_any (-1) n W.heap.size _ hn (by omega) (row_cells (heap_alloc_new W _) rfl 0) (by simp)
 have hq:∀ W2,W2=W.alloc (.cells #[.int .i64 (-1)] 3) → W2.heap[w.heap.size]?=some (.cells #[p0,p1,p2,.slice A n c,.slice Al 0 cl,.slice (some ⟨gp,0,none⟩) n n] 107 (0,0)):=fun W2 h2 => by
  subst h2
  rw [Below.heap_alloc _ _ _ hwW]
  exact hx1
 have HQ:=hideI hq
 clear hW hx1 hq
 go_enter Tryz.func118,Tryz.ntmps118
 go_upto_region 1 with fail
 rw [← HW0.out]
 have hxq:=row_cells HX1.out rfl
 have q3:=hxq 3
 have q4:=hxq 4
 clear hxq
 go_wp2_with (go_at_call 179;go_must (refine (HR.out _ rfl).mono ?_);rintro e w3 ⟨gi,rfl,hrep,hb3⟩;have HB3:=hideI hb3;have hxq:=row_cells ((hb3.block _ (by simp;omega)).trans (HQ.out _ rfl)) rfl;clear q3 q4;have q4:=hxq 4;clear hxq hb3 hrep)
 go_loopg [17] 0 (fun gg s8 wr => s8=.int .i64 0 ∧ wr=w3)
 case atStart => exact ⟨rfl,rfl⟩
 case round =>
  obtain ⟨rfl,rfl⟩:=hrel
  go_wp2
  go_ret
  exact ⟨_,_,_,rfl,(HB0.out.alloc HB0.out.size _).trans (HB3.out.mono (by have:=HB0.out.size;simp;omega))⟩
set_option maxRecDepth 100000 in
set_option maxHeartbeats 4000000 in
theorem partsNone_any (A:Option Addr) (c:Nat) (sv:Value) (b:Int) (w:World) :
  Calls Tryz.prog 121 #[sv,.int .i64 b,.slice A 0 c] w fun e w' => ∃ cl,e=.returned (.map (some w.heap.size)) ∧ w'.heap[w.heap.size]?=some (.map #[] cl) ∧ Below w.heap.size w w':=by
 have hmm:=@run_makeMap Tryz.prog
 go_enter Tryz.func121,Tryz.ntmps121
 go_wp2
 go_loopg [14] 0 (fun gg s8 wr => s8=.int .i64 0 ∧ wr=w.alloc (.map #[] 0))
 case atStart => exact ⟨rfl,rfl⟩
 case round =>
  obtain ⟨rfl,rfl⟩:=hrel
  go_wp2
  go_ret
  exact ⟨0,rfl,heap_alloc_new w _,(Below.refl _ w).alloc (Nat.le_refl _) _⟩
end Go.Proofs.YtikogmpibkefdaaGreat
