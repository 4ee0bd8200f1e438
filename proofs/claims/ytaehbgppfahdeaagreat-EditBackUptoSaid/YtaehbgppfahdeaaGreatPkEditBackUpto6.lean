/- What EditBackUpto rests on, part 6: STree, RefUses, Used. -/
import Derived.Test.YtaehbgppfahdeaaGreatPkEditBackUpto5
import Derived.Laws.EntriesVeiled
import Derived.Deep.RegionHeld3
import Derived.Deep.AppendLies

namespace Go.Proofs.YtaehbgppfahdeaaGreat
open Go.RowKit Go.Maps
def kidsAt (par:Nat → Option Nat) (n k:Nat):List (List Nat):=(List.range n).map fun d => kidsTo par k d
theorem kidsAt_at {par:Nat → Option Nat} {n k d:Nat} (h:d < n):(kidsAt par n k)[d]?=some (kidsTo par k d):=by
 unfold kidsAt
 rw [List.getElem?_map,List.getElem?_range h]
 rfl
theorem kidsAt_zero (par:Nat → Option Nat) (n:Nat):kidsAt par n 0=(List.range n).map fun _ => []:=rfl
theorem kidsAt_skip {par:Nat → Option Nat} {n k:Nat} (h:par k=none):kidsAt par n (k + 1)=kidsAt par n k:=by
 unfold kidsAt
 apply List.map_congr_left
 intro d _
 rw [kidsTo_succ,h,if_neg (by simp),List.append_nil]
theorem kidsAt_push {par:Nat → Option Nat} {n k d:Nat} (h:par k=some d) (_hd:d < n):(kidsAt par n k).set d (kidsTo par k d ++ [k])=kidsAt par n (k + 1):=by
 unfold kidsAt
 apply List.ext_getElem?
 intro i
 by_cases hi:i < n
 ·by_cases e:d=i
  ·subst e
   rw [List.getElem?_set_self (by simpa using hi),List.getElem?_map,List.getElem?_range hi,Option.map_some,kidsTo_succ,if_pos h]
  ·rw [List.getElem?_set_ne e,List.getElem?_map,List.getElem?_map,List.getElem?_range hi,Option.map_some,Option.map_some,kidsTo_succ,if_neg (by rw [h];simpa using e),List.append_nil]
 ·rw [List.getElem?_eq_none (by simp;omega),List.getElem?_eq_none (by simp;omega)]
structure BelowAt (w:World) (gb cB n:Nat) (vs:List Value) (ls:List (List Nat)):Prop where
 lists:Lists w gb gb n vs ls
 cell:w.heap[cB]?=some (.cells #[.slice (some ⟨gb,0,none⟩) n n] 44 (0,0))
 apart:∀ (t:Nat) v,vs[t]?=some v → v.ownBlock ≠ some cB
 ne:gb < cB
theorem BelowAt.push {w w1:World} {gb cB n t b g' cap':Nat} {v:Value} {vs:List Value} {l:List Nat} {ls:List (List Nat)} {o:Obj} (h:BelowAt w gb cB n vs ls) (hv:vs[t]?=some v) (hl:ls[t]?=some l)
  (hown':w1.ownsRow (gb + 1) 3 1 (.slice (some ⟨g',0,none⟩) (l.length + 1) cap') (l.length + 1) (natInts l ++ [.int .i64 (b:Int)])) (hg:(w.alloc o).grownBy w1 v.ownBlock) (hor:v.ownBlock=some g' ∨ g'=(w.alloc o).heap.size) :
  BelowAt (w1.setCell ⟨gb,t,none⟩ (.slice (some ⟨g',0,none⟩) (l.length + 1) cap')) gb cB n (vs.set t (.slice (some ⟨g',0,none⟩) (l.length + 1) cap')) (ls.set t (l ++ [b])):=by
 have hz:cB < w.heap.size:=lt_of_heap h.cell
 have hne:=h.ne
 refine ⟨h.lists.push hv hl hown' hg hor,?_,fun t' v' h' e => ?_,h.ne⟩
 ·rw [heap_setCell_other w1 ⟨gb,t,none⟩ _ _ (by simp;omega),hg.block _ (by simp;omega) (fun e => h.apart t v hv e.symm),Below.heap_alloc _ _ _ hz]
  exact h.cell
 ·by_cases e2:t=t'
  ·subst e2
   rw [List.getElem?_set_self (List.getElem?_eq_some_iff.1 hv).1] at h'
   cases h'
   have e3:g'=cB:=by simpa [Value.ownBlock] using e
   rcases hor with h3 | h3
   ·exact h.apart t v hv (by rw [h3,e3])
   ·simp at h3
    omega
  ·rw [List.getElem?_set_ne e2] at h'
   exact h.apart t' v' h' e
theorem BelowAt.drew {w:World} {gb cB n:Nat} {vs:List Value} {ls:List (List Nat)} (h:BelowAt w gb cB n vs ls):BelowAt w.drew gb cB n vs ls:=⟨⟨h.lists.vl,h.lists.ll,h.lists.row,h.lists.own,h.lists.apart⟩,h.cell,h.apart,h.ne⟩
theorem BelowAt.kids {w:World} {gb cB n:Nat} {vs:List Value} {par:Nat → Option Nat} (h:BelowAt w gb cB n vs (kidsAt par n n)) (hn:n ≤ 512):KidsR w w.heap.size n gb cB (kidsTo par n) :=
 ⟨lt_of_heap h.cell,h.lists.lt.2,h.cell,fun b hb => by
  obtain ⟨v,hv⟩:∃ v,vs[b]?=some v:=⟨_,List.getElem?_eq_getElem (by rw [h.lists.vl];exact hb)⟩
  exact ⟨v,by rw [World.ownsRow.cellAt h.lists.row b (by omega)];exact hv,nat_ints (h.lists.own b v _ hv (kidsAt_at hb)) (by have:=kidsTo_len par n b;omega)⟩⟩
structure TN (W1 W:World) (n:Nat) (A R M:Option Nat) (T:Option (Nat × Array Value)):Prop where
 below:Below W1.heap.size W1 W
 a:∀ g,A=some g → W1.heap.size ≤ g ∧ g < W.heap.size ∧ W.cell? ⟨g,0,none⟩=some (.int .i64 (-1))
 r:∀ g,R=some g → W.ownsRow W1.heap.size 3 1 (.slice (some ⟨g,0,none⟩) n n) n (List.replicate n (.int .i64 (-1)))
 m:∀ g,M=some g → W.ownsRow W1.heap.size 3 1 (.slice (some ⟨g,0,none⟩) n n) n (List.replicate n (.int .i64 0))
 t:∀ g cs,T=some (g,cs) → W1.heap.size ≤ g ∧ W.heap[g]?=some (.cells cs 120 (0,0))
 rm:∀ g h,R=some g → M=some h → g ≠ h
 rt:∀ g h cs,R=some g → T=some (h,cs) → g ≠ h
 mt:∀ g h cs,M=some g → T=some (h,cs) → g ≠ h
section
variable {W1 W w3:World} {n g gA:Nat} {A R M:Option Nat} {T:Option (Nat × Array Value)}
theorem TN.start (W1:World) (n:Nat):TN W1 W1 n none none none none :=
 ⟨Below.refl _ _,by simp,by simp,by simp,by simp,by simp,by simp,by simp⟩
theorem TN.drew (h:TN W1 W n A R M T):TN W1 W.drew n A R M T:=⟨drew1_below h.below,h.a,h.r,h.m,h.t,h.rm,h.rt,h.mt⟩
theorem TN.keep (h:TN W1 W n A R M T) (hb:Below W.heap.size W w3):TN W1 w3 n A R M T:=by
 have hs:=h.below.size
 refine ⟨h.below.trans (hb.mono hs),fun g e => ?_,fun g e => ?_,fun g e => ?_,fun g cs e => ?_,h.rm,h.rt,h.mt⟩
 ·obtain ⟨h1,h2,h3⟩:=h.a g e
  exact ⟨h1,Nat.lt_of_lt_of_le h2 hb.size,(hb.cell (p:=⟨g,0,none⟩) h2).trans h3⟩
 ·exact own_kept_below (h.r g e) hb (fun k hk => ((h.r g e).lt k hk).2)
 ·exact own_kept_below (h.m g e) hb (fun k hk => ((h.m g e).lt k hk).2)
 ·obtain ⟨h1,h2⟩:=h.t g cs e
  exact ⟨h1,(hb.block _ (lt_of_heap h2)).trans h2⟩
theorem TN.other (h:TN W1 W n A R M T) (o:Obj):TN W1 (W.alloc o) n A R M T:=h.keep ((Below.refl _ _).alloc (Nat.le_refl _) o)
theorem TN.mkA (hg:g=W.heap.size) (h:TN W1 W n none R M T):TN W1 (W.alloc (.cells #[.int .i64 (-1)] 3)) n (some g) R M T:=by
 have k:=h.other (.cells #[.int .i64 (-1)] 3)
 refine ⟨k.below,fun g' e => ?_,k.r,k.m,k.t,k.rm,k.rt,k.mt⟩
 cases e
 subst hg
 exact ⟨h.below.size,by simp,row_cells (heap_alloc_new W _) rfl 0⟩
theorem TN.mkM {Z:Array Value} (hZ:Z=(List.replicate n (Value.int .i64 0)).toArray) (hn:n ≤ 100000) (hg:g=W.heap.size) (h:TN W1 W n A R none T):TN W1 (W.alloc (.cells Z 3)) n A R (some g) T:=by
 subst hZ
 have k:=h.other (.cells (List.replicate n (.int .i64 0)).toArray 3)
 subst hg
 refine ⟨k.below,k.a,k.r,fun g' e => ?_,k.t,fun g' h' e1 e2 => ?_,k.rt,fun g' h' cs e1 e2 => ?_⟩
 ·cases e
  exact own_of_row (v:=0) (fillR_full 0 n).symm (heap_alloc_new W _) h.below.size hn
 ·cases e2
  have:=((h.r _ e1).lt g' rfl).2
  omega
 ·cases e1
  have:=lt_of_heap (h.t _ _ e2).2
  omega
theorem TN.mkT {cs:Array Value} (hg:g=W.heap.size) (h:TN W1 W n A R M none):TN W1 (W.alloc (.cells cs 120)) n A R M (some (g,cs)):=by
 have k:=h.other (.cells cs 120)
 subst hg
 refine ⟨k.below,k.a,k.r,k.m,fun g' cs' e => ?_,k.rm,fun g' h' cs' e1 e2 => ?_,fun g' h' cs' e1 e2 => ?_⟩
 ·cases e
  exact ⟨h.below.size,heap_alloc_new W _⟩
 ·cases e2
  have:=((h.r _ e1).lt g' rfl).2
  omega
 ·cases e2
  have:=((h.m _ e1).lt g' rfl).2
  omega
theorem TN.rep (h0:0 < n) (hn:n ≤ 100000) (h:TN W1 W n (some gA) none M T) :
  Calls Tryz.prog 147 #[.slice (some ⟨gA,0,none⟩) 1 1,.int .i64 n] W fun e w3 => ∃ gi,e=.returned (.slice (some ⟨gi,0,none⟩) n n) ∧ TN W1 w3 n none (some gi) M T:=by
 obtain ⟨_,ha,hc⟩:=h.a gA rfl
 refine (repeat_any (-1) n gA W h0 hn hc ha).mono ?_
 rintro e w3 ⟨gi,rfl,hown,hb⟩
 have k:=h.keep hb
 have hs:=h.below.size
 refine ⟨gi,rfl,k.below,by simp,fun g e => ?_,k.m,k.t,fun g h' e1 e2 => ?_,fun g h' cs e1 e2 => ?_,k.mt⟩
 ·cases e
  exact World.ownsRow.mono hown hs
 ·cases e1
  have h1:W.heap.size ≤ gi:=(hown.lt gi rfl).1
  have h2:=((h.m _ e2).lt h' rfl).2
  omega
 ·cases e1
  have h1:W.heap.size ≤ gi:=(hown.lt gi rfl).1
  have h2:=lt_of_heap (h.t _ _ e2).2
  omega
theorem TN.set0 {x y u:Value} (h:TN W1 W n none R M (some (g,#[x,y]))):TN W1 (W.setCell ⟨g,0,none⟩ u) n none R M (some (g,#[u,y])):=by
 obtain ⟨h1,h2⟩:=h.t _ _ rfl
 refine ⟨h.below.setCell (by simpa using h1) _,by simp,fun g' e => ownsRow_setCell_other (h.r g' e) (by have:=h.rt g' _ _ e rfl;simpa [Value.ownBlock] using this) _,fun g' e => ownsRow_setCell_other (h.m g' e) (by have:=h.mt g' _ _ e rfl;simpa [Value.ownBlock] using this) _,fun g' cs e => ?_,h.rm,fun g' h' cs e1 e2 => ?_,fun g' h' cs e1 e2 => ?_⟩
 ·cases e
  exact ⟨h1,by simpa using heap_setCell_same W g 0 _ _ u h2⟩
 ·cases e2
  exact h.rt _ _ _ e1 rfl
 ·cases e2
  exact h.mt _ _ _ e1 rfl
theorem TN.set1 {x y u:Value} (h:TN W1 W n none R M (some (g,#[x,y]))):TN W1 (W.setCell ⟨g,1,none⟩ u) n none R M (some (g,#[x,u])):=by
 obtain ⟨h1,h2⟩:=h.t _ _ rfl
 refine ⟨h.below.setCell (by simpa using h1) _,by simp,fun g' e => ownsRow_setCell_other (h.r g' e) (by have:=h.rt g' _ _ e rfl;simpa [Value.ownBlock] using this) _,fun g' e => ownsRow_setCell_other (h.m g' e) (by have:=h.mt g' _ _ e rfl;simpa [Value.ownBlock] using this) _,fun g' cs e => ?_,h.rm,fun g' h' cs e1 e2 => ?_,fun g' h' cs e1 e2 => ?_⟩
 ·cases e
  exact ⟨h1,by simpa using heap_setCell_same W g 1 _ _ u h2⟩
 ·cases e2
  exact h.rt _ _ _ e1 rfl
 ·cases e2
  exact h.mt _ _ _ e1 rfl
end
theorem wk_new {wx wc:World} {n gF gL g6 cB:Nat} (h:TN wx wc n none (some gF) (some gL) (some (g6,#[.slice (some ⟨gF,0,none⟩) n n,.slice (some ⟨gL,0,none⟩) n n]))) :
  Wk wx.heap.size n gF gL g6 wc.heap.size cB (fun _ => -1) (fun _ => 0) 0 ((wc.alloc (.cells #[.int .i64 0] 3)).alloc (.cells #[.func (.func 153) #[] #[.pointer (some ⟨wc.heap.size,0,none⟩),.pointer (some ⟨g6,0,none⟩),.pointer (some ⟨cB,0,none⟩),.pointer (some ⟨wc.heap.size + 1,0,none⟩)]] 221)):=by
 have h6:=h.t _ _ rfl
 have hF:=h.r _ rfl
 have hL:=h.m _ rfl
 have l6:=lt_of_heap h6.2
 refine ⟨?_,?_,?_,?_,?_,h.rm _ _ rfl rfl,h.rt _ _ _ rfl rfl,h.mt _ _ _ rfl rfl,(hF.lt gF rfl).2,(hL.lt gL rfl).2,l6,h6.1⟩
 ·rw [Below.heap_alloc _ _ _ (by simp;omega),Below.heap_alloc _ _ _ (by omega)]
  exact h6.2
 ·rw [numsL_rep]
  exact (hF.alloc _).alloc _
 ·rw [numsL_rep]
  exact (hL.alloc _).alloc _
 ·rw [Below.heap_alloc _ _ _ (by simp)]
  exact heap_alloc_new wc _
 ·have:=heap_alloc_new (wc.alloc (.cells #[.int .i64 0] 3)) (.cells #[.func (.func 153) #[] #[.pointer (some ⟨wc.heap.size,0,none⟩),.pointer (some ⟨g6,0,none⟩),.pointer (some ⟨cB,0,none⟩),.pointer (some ⟨wc.heap.size + 1,0,none⟩)]] 221)
  simpa using this
set_option maxRecDepth 100000 in
set_option maxHeartbeats 4000000 in
theorem sTree_any {o:List Nat} {pl:Nat → Nat} {par:Nat → Option Nat} {succ:Nat → List Nat} (O:Ord succ o pl) (T:Tree o pl par) (hg:∀ b ∈ o,Grown par b) (n:Nat) (h0:0 < n) (hn5:n ≤ 512) (hn:∀ x ∈ o,x < n) (base gi:Nat) (w:World)
  (hi:w.ownsRow base 3 1 (.slice (some ⟨gi,0,none⟩) n n) n (tops n par)) :
  Calls Tryz.prog 104 #[.slice (some ⟨gi,0,none⟩) n n] w fun e w' => ∃ (gF gL:Nat) (F L:Nat → Int),e=.returned (.agg #[.slice (some ⟨gF,0,none⟩) n n,.slice (some ⟨gL,0,none⟩) n n]) ∧ Numbered o par F L ∧
   w'.ownsRow w.heap.size 3 1 (.slice (some ⟨gF,0,none⟩) n n) n (numsL n F) ∧ w'.ownsRow w.heap.size 3 1 (.slice (some ⟨gL,0,none⟩) n n) n (numsL n L) ∧ Below w.heap.size w w':=by
 have HO:=hideI O
 have HT:=hideI T
 have HGR:=hideI hg
 have HNN:=hideI hn
 have HI:=hideI hi
 have hgi:=(hi.lt gi rfl).2
 obtain ⟨i0,hix,hz0,hz1,hz2⟩:=info_parts ints_info
 obtain ⟨i1,hjx,hy0,hy1,hy2⟩:=info_parts int_info
 clear O T hg hn hi
 go_enter Tryz.func104,Tryz.ntmps104
 go_wp2_with (first
  | (at_make;go_must (refine wpList_make_full _ rfl _ _ 44 rfl (w.heap.size + 1) 22 i0 (.slice none 0 0) 1 Tryz.underlying44 hix hz0 hz1 .i64 .i64 _ _ n rfl rfl rfl rfl (by rw [hz2];omega) (by unfold maxLen;omega) (by simp) ?_);intro w1 hown1 hg1;rw [World.size_alloc] at hown1;go_must (have HL1:=hideI (Lists.made hown1);have HX1:=hideI ((hg1.block w.heap.size (by simp) (by simp)).trans (heap_alloc_new w _));have HB0:Hid (Below w.heap.size w w1):=((Below.refl _ _).alloc (Nat.le_refl _) _).grown hg1 (by simp) (by simp);clear hown1 hg1)))
 obtain ⟨cB,hcB⟩:∃ cB,cB=w1.heap.size:=⟨_,rfl⟩
 obtain ⟨W1,hW1⟩:∃ W1:World,W1=w1.alloc (.cells #[.slice (some ⟨w.heap.size + 1,0,none⟩) n n] 44):=⟨_,rfl⟩
 have HBA:Hid (BelowAt W1 (w.heap.size + 1) cB n (List.replicate n (.slice none 0 0)) (kidsAt par n 0)):=by
  refine hideI ⟨?_,?_,fun t v hv e => ?_,?_⟩
  ·rw [kidsAt_zero,hW1]
   exact HL1.out.kept ((Below.refl _ _).alloc (Nat.le_refl _) _)
  ·rw [hW1,hcB]
   exact heap_alloc_new w1 _
  ·have e1:=List.mem_of_getElem? hv
   rw [List.mem_replicate] at e1
   obtain ⟨_,rfl⟩:=e1
   cases e
  ·rw [hcB]
   exact HL1.out.lt.2
 have HBW:Hid (Below w.heap.size w W1):=by rw [hW1];exact hideI (HB0.out.alloc HB0.out.size _)
 have HXW:Hid (W1.heap[w.heap.size]?=some (.cells #[.slice none 0 0,.slice none 0 0] 120 (0,0))):=by
  rw [hW1,Below.heap_alloc _ _ _ (lt_of_heap HX1.out)]
  exact HX1
 have hcB0:w.heap.size + 1 < cB:=by rw [hcB];exact HL1.out.lt.2
 rw [← hW1,← hcB]
 clear hW1 hcB
 go_loopw [14] (fun u wr => ∃ (k:Nat) (vs:List Value),k ≤ n ∧ u=.int .i64 k ∧ Hid (BelowAt wr (w.heap.size + 1) cB n vs (kidsAt par n k)) ∧ Hid (Below (w.heap.size + 1) W1 wr)) (fun u _ => n - (intOf u).toNat)
 case atStart => exact ⟨0,_,Nat.zero_le _,rfl,HBA,hideI (Below.refl _ _)⟩
 case round =>
  obtain ⟨k,vs,hk,rfl,HA,HBr⟩:=hrel
  by_cases hlt:k < n
  ·have qi:wr.cell? ⟨gi,k,none⟩=some (.int .i64 (topI (par k))):=by
    rw [(HBr.out.cell (p:=⟨gi,k,none⟩) (by simp;omega)).trans (HBW.out.cell (p:=⟨gi,k,none⟩) hgi),World.ownsRow.cellAt HI.out k (by omega),tops_at hlt]
   cases hp:par k with
   | none =>
    rw [hp] at qi
    have qi2:wr.cell? ⟨gi,k,none⟩=some (.int .i64 (-1)):=qi
    have HS:Hid (kidsAt par n (k + 1)=kidsAt par n k):=kidsAt_skip hp
    clear qi hp
    go_wp2
    go_roundw
    case rel => exact ⟨k + 1,vs,by omega,by go_num,by rw [HS.out];exact HA,HBr⟩
    case measure => simp [intOf];omega
   | some d =>
    rw [hp] at qi
    have qi2:wr.cell? ⟨gi,k,none⟩=some (.int .i64 (d:Int)):=qi
    have hdn:d < n:=HNN.out d (HT.out.up _ _ hp).2.1
    obtain ⟨v,hv⟩:∃ v,vs[d]?=some v:=⟨_,List.getElem?_eq_getElem (by rw [HA.out.lists.vl];exact hdn)⟩
    have hl:(kidsAt par n k)[d]?=some (kidsTo par k d):=kidsAt_at hdn
    have hll:(kidsTo par k d).length ≤ 512:=by have:=kidsTo_len par k d;omega
    have q1:wr.cell? ⟨w.heap.size + 1,d,none⟩=some v:=by rw [World.ownsRow.cellAt HA.out.lists.row d (by omega)];exact hv
    have q2:=cell_of_one HA.out.cell
    have HOWN:=hideI (HA.out.lists.own d v _ hv hl)
    have hsz:=HA.out.lists.lt.2
    have hne:d ≠ k:=by
     intro e
     have:=(HT.out.up _ _ hp).2.2.1
     rw [e] at this
     omega
    have HS:Hid ((kidsAt par n k).set d (kidsTo par k d ++ [k])=kidsAt par n (k + 1)):=kidsAt_push hp hdn
    have HV:=hideI hv
    have HL:=hideI hl
    have hd1:(d:Int) ≠ -1:=by omega
    have hd2:((d:Int) != -1)=true:=by simp;try omega
    clear qi hp hv hl hd1
    go_wp2
    have hS0:wr.drew.cell? ⟨cB,0,none⟩=some (.slice (some ⟨w.heap.size + 1,0,none⟩) n n) ∧ wr.drew.cell? ⟨w.heap.size + 1,d,none⟩=some v:=⟨q2,q1⟩
    refine wp_region_late (by kernel_rfl) (fun W => W.cell? ⟨cB,0,none⟩=some (.slice (some ⟨w.heap.size + 1,0,none⟩) n n) ∧ W.cell? ⟨w.heap.size + 1,d,none⟩=some v) [10] ?_
    refine wpAnyT_take [9,10] (i:=0) (v:=?_) rfl (by kernel_rfl) (by kernel_rfl) (by kernel_rfl) (by kernel_rfl) (by kernel_rfl) (by kernel_rfl) (fun _ _ _ h => h) hS0 (Or.inl ⟨by rfl,?_⟩) ?_
    rotate_left
    ·(intro w hSw;go_split_ands;go_simp;try with_reducible rfl)
    simp only [Act.put,List.setIfInBounds_toArray,List.set_cons_zero,List.set_cons_succ]
    refine wpAnyT_quiet (i:=1) (v:=?_) rfl (by kernel_rfl) (by kernel_rfl) (by kernel_rfl) (fun _ _ _ h => h) (Or.inl ⟨by rfl,?_⟩) ?_
    rotate_left
    ·(intro w;go_simp;try with_reducible rfl)
    simp only [Act.put,List.setIfInBounds_toArray,List.set_cons_zero,List.set_cons_succ]
    refine wpAnyT_take [4,5,8,10] (i:=2) (v:=?_) rfl (by kernel_rfl) (by kernel_rfl) (by kernel_rfl) (by kernel_rfl) (by kernel_rfl) (by kernel_rfl) (fun _ _ _ h => h) hS0 (Or.inl ⟨by rfl,?_⟩) ?_
    rotate_left
    ·(intro w hSw;go_split_ands;go_simp;try with_reducible rfl)
    simp only [Act.put,List.setIfInBounds_toArray,List.set_cons_zero,List.set_cons_succ]
    refine wpAnyT_quiet (i:=3) (v:=?_) rfl (by kernel_rfl) (by kernel_rfl) (by kernel_rfl) (fun _ _ _ h => h) (Or.inl ⟨by rfl,?_⟩) ?_
    rotate_left
    ·(intro w;go_simp;try with_reducible rfl)
    simp only [Act.put,List.setIfInBounds_toArray,List.set_cons_zero,List.set_cons_succ]
    refine wpAnyT_quiet (i:=4) (v:=?_) rfl (by kernel_rfl) (by kernel_rfl) (by kernel_rfl) (fun _ _ _ h => h) (Or.inl ⟨by rfl,?_⟩) ?_
    rotate_left
    ·(intro w;go_simp;try with_reducible rfl)
    simp only [Act.put,List.setIfInBounds_toArray,List.set_cons_zero,List.set_cons_succ]
    refine wpAnyT_take [8,10] (i:=5) (v:=?_) rfl (by kernel_rfl) (by kernel_rfl) (by kernel_rfl) (by kernel_rfl) (by kernel_rfl) (by kernel_rfl) (fun _ _ _ h => h) hS0 (Or.inl ⟨by rfl,?_⟩) ?_
    rotate_left
    ·(intro w hSw;go_split_ands;go_simp;try with_reducible rfl)
    simp only [Act.put,List.setIfInBounds_toArray,List.set_cons_zero,List.set_cons_succ]
    refine wpAnyT_quiet (i:=6) (v:=?_) rfl (by kernel_rfl) (by kernel_rfl) (by kernel_rfl) (fun _ _ _ h => h) (Or.inl ⟨by rfl,?_⟩) ?_
    rotate_left
    ·(intro w;go_simp;try with_reducible rfl)
    simp only [Act.put,List.setIfInBounds_toArray,List.set_cons_zero,List.set_cons_succ]
    refine wpAnyT_ready (rs:=[7]) (by kernel_rfl) (by simp) ?_
    refine AllReadyT.cons rfl (fun K hK => ?_) AllReadyT.nil
    go_simp
    have hsA:(wr.drew.alloc (.cells #[.int .i64 k] 3)).cell? ⟨cB,0,none⟩=some (.slice (some ⟨w.heap.size + 1,0,none⟩) n n) ∧ (wr.drew.alloc (.cells #[.int .i64 k] 3)).cell? ⟨w.heap.size + 1,d,none⟩=some v:=by
     have hb:=(Below.refl wr.heap.size wr.drew).alloc (Nat.le_refl _) (.cells #[.int .i64 (k:Int)] 3)
     exact ⟨(hb.cell (p:=⟨cB,0,none⟩) (lt_of_heap HA.out.cell)).trans q2,(hb.cell (p:=⟨w.heap.size + 1,d,none⟩) hsz).trans q1⟩
    refine hK.out _ _ (fun _ _ => hsA) ?_
    clear hK K
    try simp only [Act.put,List.setIfInBounds_toArray,List.set_cons_zero,List.set_cons_succ]
    refine wpAnyT_ready (rs:=[8]) (by kernel_rfl) (by simp) ?_
    refine AllReadyT.cons rfl (fun K hK => ?_) AllReadyT.nil
    refine step_append_lies _ rfl (.tmp 26) (.tmp 28) _ rfl (w.heap.size + 1 + 1) 3 i1 (.int .i64 0) 1 8 Tryz.underlying22 hjx hy0 hy1 hy2 rfl (by decide) _ _ _ rfl (World.ownsRow.drew HOWN.out |>.alloc _) ⟨wr.heap.size,0,none⟩ 1 1 [.int .i64 k] rfl rfl (one_new wr.drew _) (by simp [Value.oneCell']) (by decide) (by simp only [maxLen];omega) (by omega) (by simp;omega) _ rfl ?_
    intro g1 cap1 w3 hown1 hgrow1 hor1 _
    have HP:=hideI (HA.out.drew.push HV.out HL.out hown1 hgrow1 hor1)
    have HPB:=hideI (HA.out.drew.lists.pushed (u:=.slice (some ⟨g1,0,none⟩) ((kidsTo par k d).length + 1) cap1) HV.out HL.out hgrow1 (drew1_below HBr.out) (Nat.le_refl _))
    obtain ⟨hc4,hf4⟩:=HA.out.drew.lists.held HV.out HL.out hgrow1
    rw [HS.out] at HP
    have hcBk:w3.cell? ⟨cB,0,none⟩=some (.slice (some ⟨w.heap.size + 1,0,none⟩) n n) :=
     (World.cell?_of_block (a:=⟨cB,0,none⟩) (hgrow1.block cB (by have:=lt_of_heap HA.out.cell;simp;omega) (fun e => HA.out.apart d v HV.out e.symm))).trans hsA.1
    refine hK.out _ _ (fun _ _ => ⟨hcBk,hc4⟩) ?_
    clear hK K hown1 hgrow1 hor1 hsA hS0 q1 q2 hcBk
    try simp only [Act.put,List.setIfInBounds_toArray,List.set_cons_zero,List.set_cons_succ]
    refine wpAnyT_quiet (i:=9) (v:=?_) rfl (by kernel_rfl) (by kernel_rfl) (by kernel_rfl) (fun _ _ _ h => h) (Or.inl ⟨by rfl,?_⟩) ?_
    rotate_left
    ·(intro w;go_simp;try with_reducible rfl)
    simp only [Act.put,List.setIfInBounds_toArray,List.set_cons_zero,List.set_cons_succ]
    refine wpAnyT_ready (rs:=[10]) (by kernel_rfl) (by simp) ?_
    refine AllReadyT.cons rfl (fun K hK => ?_) AllReadyT.nil
    go_simp
    refine hK.out _ _ (fun h => absurd (by simp) h) ?_
    clear hK K hc4 hf4
    try simp only [Act.put,List.setIfInBounds_toArray,List.set_cons_zero,List.set_cons_succ]
    refine wpAnyT_done (by kernel_rfl) ?_ _
    go_wp2
    go_roundw
    case rel => exact ⟨k + 1,_,by omega,by go_num,HP,HPB⟩
    case measure => simp [intOf];omega
  ·have hkn:k=n:=by omega
   rw [hkn] at HA
   have HKD:=hideI (HA.out.kids hn5)
   have HB2:=hideI (HBW.out.trans (HBr.out.mono (Nat.le_succ _)))
   have HX2:=hideI ((HBr.out.block w.heap.size (Nat.lt_succ_self _)).trans HXW.out)
   have hn6:n ≤ 100000:=by omega
   obtain ⟨Z,hZ⟩:∃ Z:Array Value,Z=(List.replicate n (Value.int .i64 0)).toArray:=⟨_,rfl⟩
   have hmk:∀ W:World,(Instr.makeSlice 22 (.int .i64 (n:Int)) (.int .i64 (n:Int))).run Tryz.prog W=.ok (.slice (some ⟨W.heap.size,0,none⟩) n n) (W.alloc (.cells Z 3)):=by
    intro W
    have:=run_make (P:=Tryz.prog) W 22 3 i1 (.int .i64 0) Tryz.underlying22 hjx hy0 .i64 .i64 (n:Int) (n:Int) (by omega) (Int.le_refl _) (by rw [hy2];omega) (by omega)
    rw [hy1] at this
    have e:madeCells (Value.int .i64 0).cells (n * 1)=Z:=by
     rw [hZ]
     apply Array.toList_inj.1
     rw [show (Value.int .i64 0).cells=#[Value.int .i64 0] from rfl,toList_madeCells_one,Nat.mul_one]
    simp only [Int.toNat_natCast] at this
    rw [e] at this
    exact this
   have HZ:=hideI hZ
   clear hZ
   clear hkn
   go_wp2
   obtain ⟨wx,rfl⟩:∃ wx:World,wx=wr:=⟨_,rfl⟩
   go_cut [6] (fun s6 wc => ∃ g6 gF gL:Nat,s6=.pointer (some ⟨g6,0,none⟩) ∧ Hid (TN wx wc n none (some gF) (some gL) (some (g6,#[.slice (some ⟨gF,0,none⟩) n n,.slice (some ⟨gL,0,none⟩) n n]))))
   case first =>
    go_region_held3 (fun _ => True) (first | trivial | go_keep) (first
     | (go_at_call 147;(with_reducible refine (TN.rep (M:=none) (T:=none) h0 hn6 (TN.drew (TN.mkA (by simp) (TN.start wx n)))).mono ?_);rintro e w3 ⟨gR,rfl,hTN⟩)
     | (go_at_call 147;(with_reducible refine (TN.rep (M:=some (wx.heap.size + 1)) (T:=none) h0 hn6 (TN.drew (TN.mkM HZ.out hn6 (by simp) (TN.mkA (by simp) (TN.start wx n))))).mono ?_);rintro e w3 ⟨gR,rfl,hTN⟩)
     | (go_at_call 147;(with_reducible refine (TN.rep (M:=none) (T:=some ((wx.heap.size + 1),#[.slice none 0 0,.slice none 0 0])) h0 hn6 (TN.drew (TN.mkT (by simp) (TN.mkA (by simp) (TN.start wx n))))).mono ?_);rintro e w3 ⟨gR,rfl,hTN⟩;obtain ⟨_,h6⟩:=hTN.t _ _ rfl;have hx6:=row_cells h6 rfl;have hz6:=free_rowN h6 rfl;have s0:=hx6 0;have s1:=hx6 1;have z0:=hz6 0;have z1:=hz6 1;have l6:=lt_of_heap h6;clear hx6 hz6)
     | (go_at_call 147;(with_reducible refine (TN.rep (M:=some wx.heap.size) (T:=none) h0 hn6 (TN.drew (TN.mkA (by simp) (TN.mkM HZ.out hn6 (by simp) (TN.start wx n))))).mono ?_);rintro e w3 ⟨gR,rfl,hTN⟩)
     | (go_at_call 147;(with_reducible refine (TN.rep (M:=none) (T:=some (wx.heap.size,#[.slice none 0 0,.slice none 0 0])) h0 hn6 (TN.drew (TN.mkA (by simp) (TN.mkT (by simp) (TN.start wx n))))).mono ?_);rintro e w3 ⟨gR,rfl,hTN⟩;obtain ⟨_,h6⟩:=hTN.t _ _ rfl;have hx6:=row_cells h6 rfl;have hz6:=free_rowN h6 rfl;have s0:=hx6 0;have s1:=hx6 1;have z0:=hz6 0;have z1:=hz6 1;have l6:=lt_of_heap h6;clear hx6 hz6)
     | (go_at_call 147;(with_reducible refine (TN.rep (M:=some (wx.heap.size + 1)) (T:=some ((wx.heap.size + 1 + 1),#[.slice none 0 0,.slice none 0 0])) h0 hn6 (TN.drew (TN.mkT (by simp) (TN.mkM HZ.out hn6 (by simp) (TN.mkA (by simp) (TN.start wx n)))))).mono ?_);rintro e w3 ⟨gR,rfl,hTN⟩;obtain ⟨_,h6⟩:=hTN.t _ _ rfl;have hx6:=row_cells h6 rfl;have hz6:=free_rowN h6 rfl;have s0:=hx6 0;have s1:=hx6 1;have z0:=hz6 0;have z1:=hz6 1;have l6:=lt_of_heap h6;clear hx6 hz6)
     | (go_at_call 147;(with_reducible refine (TN.rep (M:=some (wx.heap.size + 1 + 1)) (T:=some ((wx.heap.size + 1),#[.slice none 0 0,.slice none 0 0])) h0 hn6 (TN.drew (TN.mkM HZ.out hn6 (by simp) (TN.mkT (by simp) (TN.mkA (by simp) (TN.start wx n)))))).mono ?_);rintro e w3 ⟨gR,rfl,hTN⟩;obtain ⟨_,h6⟩:=hTN.t _ _ rfl;have hx6:=row_cells h6 rfl;have hz6:=free_rowN h6 rfl;have s0:=hx6 0;have s1:=hx6 1;have z0:=hz6 0;have z1:=hz6 1;have l6:=lt_of_heap h6;clear hx6 hz6)
     | (go_at_call 147;(with_reducible refine (TN.rep (M:=some wx.heap.size) (T:=some ((wx.heap.size + 1 + 1),#[.slice none 0 0,.slice none 0 0])) h0 hn6 (TN.drew (TN.mkT (by simp) (TN.mkA (by simp) (TN.mkM HZ.out hn6 (by simp) (TN.start wx n)))))).mono ?_);rintro e w3 ⟨gR,rfl,hTN⟩;obtain ⟨_,h6⟩:=hTN.t _ _ rfl;have hx6:=row_cells h6 rfl;have hz6:=free_rowN h6 rfl;have s0:=hx6 0;have s1:=hx6 1;have z0:=hz6 0;have z1:=hz6 1;have l6:=lt_of_heap h6;clear hx6 hz6)
     | (go_at_call 147;(with_reducible refine (TN.rep (M:=some wx.heap.size) (T:=some ((wx.heap.size + 1),#[.slice none 0 0,.slice none 0 0])) h0 hn6 (TN.drew (TN.mkA (by simp) (TN.mkT (by simp) (TN.mkM HZ.out hn6 (by simp) (TN.start wx n)))))).mono ?_);rintro e w3 ⟨gR,rfl,hTN⟩;obtain ⟨_,h6⟩:=hTN.t _ _ rfl;have hx6:=row_cells h6 rfl;have hz6:=free_rowN h6 rfl;have s0:=hx6 0;have s1:=hx6 1;have z0:=hz6 0;have z1:=hz6 1;have l6:=lt_of_heap h6;clear hx6 hz6)
     | (go_at_call 147;(with_reducible refine (TN.rep (M:=some (wx.heap.size + 1 + 1)) (T:=some (wx.heap.size,#[.slice none 0 0,.slice none 0 0])) h0 hn6 (TN.drew (TN.mkM HZ.out hn6 (by simp) (TN.mkA (by simp) (TN.mkT (by simp) (TN.start wx n)))))).mono ?_);rintro e w3 ⟨gR,rfl,hTN⟩;obtain ⟨_,h6⟩:=hTN.t _ _ rfl;have hx6:=row_cells h6 rfl;have hz6:=free_rowN h6 rfl;have s0:=hx6 0;have s1:=hx6 1;have z0:=hz6 0;have z1:=hz6 1;have l6:=lt_of_heap h6;clear hx6 hz6)
     | (go_at_call 147;(with_reducible refine (TN.rep (M:=some (wx.heap.size + 1)) (T:=some (wx.heap.size,#[.slice none 0 0,.slice none 0 0])) h0 hn6 (TN.drew (TN.mkA (by simp) (TN.mkM HZ.out hn6 (by simp) (TN.mkT (by simp) (TN.start wx n)))))).mono ?_);rintro e w3 ⟨gR,rfl,hTN⟩;obtain ⟨_,h6⟩:=hTN.t _ _ rfl;have hx6:=row_cells h6 rfl;have hz6:=free_rowN h6 rfl;have s0:=hx6 0;have s1:=hx6 1;have z0:=hz6 0;have z1:=hz6 1;have l6:=lt_of_heap h6;clear hx6 hz6))
    all_goals (go_wp2_with fail;go_meet)
    all_goals
     first
      | (refine ⟨_,gR,wx.heap.size,rfl,hideI ?_⟩;(repeat (first | with_reducible exact hTN | with_reducible apply TN.set1 | with_reducible apply TN.set0 | with_reducible apply TN.mkM HZ.out hn6 (by simp) | with_reducible apply TN.mkT (by simp) | with_reducible apply TN.drew));done)
      | (refine ⟨_,gR,wx.heap.size + 1,rfl,hideI ?_⟩;(repeat (first | with_reducible exact hTN | with_reducible apply TN.set1 | with_reducible apply TN.set0 | with_reducible apply TN.mkM HZ.out hn6 (by simp) | with_reducible apply TN.mkT (by simp) | with_reducible apply TN.drew));done)
      | (refine ⟨_,gR,wx.heap.size + 1 + 1,rfl,hideI ?_⟩;(repeat (first | with_reducible exact hTN | with_reducible apply TN.set1 | with_reducible apply TN.set0 | with_reducible apply TN.mkM HZ.out hn6 (by simp) | with_reducible apply TN.mkT (by simp) | with_reducible apply TN.drew));done)
      | (refine ⟨_,gR,w3.heap.size,rfl,hideI ?_⟩;(repeat (first | with_reducible exact hTN | with_reducible apply TN.set1 | with_reducible apply TN.set0 | with_reducible apply TN.mkM HZ.out hn6 (by simp) | with_reducible apply TN.mkT (by simp) | with_reducible apply TN.drew));done)
      | (refine ⟨_,gR,w3.heap.size + 1,rfl,hideI ?_⟩;(repeat (first | with_reducible exact hTN | with_reducible apply TN.set1 | with_reducible apply TN.set0 | with_reducible apply TN.mkM HZ.out hn6 (by simp) | with_reducible apply TN.mkT (by simp) | with_reducible apply TN.drew));done)
   case rest =>
    obtain ⟨g6,gF,gL,rfl,HTN⟩:=hcut
    have HWK:=hideI (wk_new (cB:=cB) HTN.out)
    have HB3:Hid (Below wx.heap.size wx ((wc.alloc (.cells #[.int .i64 0] 3)).alloc (.cells #[.func (.func 153) #[] #[.pointer (some ⟨wc.heap.size,0,none⟩),.pointer (some ⟨g6,0,none⟩),.pointer (some ⟨cB,0,none⟩),.pointer (some ⟨wc.heap.size + 1,0,none⟩)]] 221))):=by
     have h1:=HTN.out.below
     have h2:=h1.size
     exact hideI ((h1.alloc h2 _).alloc (by simp;omega) _)
    have hxl:=lt_of_heap HX2.out
    go_wp2_with (go_at_call 153;go_must (refine (walk_any HT.out n hn5 HNN.out (fun x hx => HO.out.lt hx) wx.heap.size gF gL g6 wc.heap.size cB (w.heap.size + 1) o.length [] 0 _ _ _ (Nat.le_add_left _ _) HO.out.zero_mem List.nodup_nil (by simp) (HKD.out.kept HB3.out) HWK.out).mono ?_);rintro e w2 ⟨us,F1,L1,rfl,hnum,hwk,hb2⟩;have HNUM:=hideI hnum;have HW2:=hideI hwk;have HB4:=hideI (HB3.out.trans hb2);clear hnum hwk hb2;have hxt:=row_cells HW2.out.tree rfl;have q0:=hxt 0;have q1:=hxt 1;have hxr:=row_cells HX2.out (HB4.out.block _ hxl);have r0:=hxr 0;have r1:=hxr 1;have z:=free_rowN HX2.out (HB4.out.block _ hxl);have z0:=z 0;have z1:=z 1;clear hxt hxr z)
    have HFin:Hid (Numbered o par F1 (updF L1 0 ((0 + us.length:Nat):Int))):=by
     have:=Num.one HNUM.out
     exact hideI (Num.numbered HO.out HT.out HGR.out HNN.out this)
    refine bodyPost_ret (v:=.agg #[.slice (some ⟨gF,0,none⟩) n n,.slice (some ⟨gL,0,none⟩) n n]) (by simp [results,Tryz.results104,go_sem,r0,r1]) rfl ?_
    have hb5:=HB2.out.trans (HB4.out.mono HB2.out.size)
    have hlo:w.heap.size ≤ wx.heap.size:=HB2.out.size
    refine ⟨gF,gL,F1,_,rfl,HFin.out,?_,?_,(hb5.setCell (by simp) _).setCell (by simp) _⟩
    ·exact ownsRow_setCell_other (ownsRow_setCell_other (World.ownsRow.mono HW2.out.rF hlo) (by have:=(HW2.out.rF.lt gF rfl).1;simp [Value.ownBlock];omega) _) (by have:=(HW2.out.rF.lt gF rfl).1;simp [Value.ownBlock];omega) _
    ·exact ownsRow_setCell_other (ownsRow_setCell_other (World.ownsRow.mono HW2.out.rL hlo) (by have:=(HW2.out.rL.lt gL rfl).1;simp [Value.ownBlock];omega) _) (by have:=(HW2.out.rL.lt gL rfl).1;simp [Value.ownBlock];omega) _
end Go.Proofs.YtaehbgppfahdeaaGreat

namespace Go.Proofs.YtaehbgppfahdeaaGreat
open Go.RowKit
theorem use_info:(Tryz.prog.info? 39).map (fun i => (i.zero,i.size,i.bytes))=some (some (.agg #[.int .i64 0,.int .i64 0,.int .i64 0,.int .i64 0,.int .i64 0]),5,40):=by kernel_rfl
def RU (w:World) (base:Nat) (v:Value) (us:List (Int × Int)):Prop :=
 ∃ rows:List (List Int),rows.map (fun r => (r.getD 0 0,r.getD 1 0))=us ∧ (∀ r ∈ rows,r.length=5) ∧ w.ownsRow base 39 5 v us.length (rows.flatten.map (Value.int .i64))
theorem RU.push {w':World} {base:Nat} {v':Value} {us:List (Int × Int)} {rows:List (List Int)} (h1:rows.map (fun r => (r.getD 0 0,r.getD 1 0))=us) (h2:∀ r ∈ rows,r.length=5) {a b c d e:Int}
  (h:w'.ownsRow base 39 5 v' (us.length + 1) (rows.flatten.map (Value.int .i64) ++ [.int .i64 a,.int .i64 b,.int .i64 c,.int .i64 d,.int .i64 e])):RU w' base v' (us ++ [(a,b)]):=by
 refine ⟨rows ++ [[a,b,c,d,e]],by rw [List.map_append,h1];rfl,?_,?_⟩
 ·intro r hr
  rcases List.mem_append.1 hr with hr | hr
  ·exact h2 r hr
  ·simp at hr
   subst hr
   rfl
 ·simpa using h
theorem RU.alloc {w:World} {base:Nat} {v:Value} {us:List (Int × Int)} (h:RU w base v us) (o:Obj):RU (w.alloc o) base v us:=by
 obtain ⟨rows,h1,h2,h3⟩:=h
 exact ⟨rows,h1,h2,h3.alloc o⟩
theorem RU.below {w w':World} {base:Nat} {v:Value} {us:List (Int × Int)} (h:RU w base v us) (hb:Below w.heap.size w w'):RU w' base v us:=by
 obtain ⟨rows,h1,h2,h3⟩:=h
 exact ⟨rows,h1,h2,h3.kept (row:=none) ⟨hb.os,hb.tape,hb.output,hb.size,fun k hk _ => hb.block k hk⟩ (by
  cases hv:v.ownBlock with
  | none => exact .inl rfl
  | some k => exact .inr (by simp))⟩
theorem five_new (w:World) (cs:List Value) (t:TypeId):∀ (j:Nat) (u:Value),cs[j]?=some u → (w.alloc (.cells cs.toArray t)).cell? ((⟨w.heap.size,0,none⟩:Addr).add j)=some u:=by
 intro j u hu
 rw [Go.WideShapes.add_plain,cell_of_row _ _ _ _ _ _ (heap_alloc_new w _),Nat.zero_add]
 simpa using hu
structure Ka (base:Nat) (w w':World):Prop where
 os:w'.os=w.os
 tape:w'.tape=w.tape
 output:w'.output=w.output
 size:w.heap.size ≤ w'.heap.size
 low:∀ b,b < base → w'.heap[b]?=w.heap[b]?
 other:∀ (b:Nat) (cs:Array Value) (t:TypeId),w.heap[b]?=some (Obj.cells cs t (0,0)) → t ≠ 39 → w'.heap[b]?=some (Obj.cells cs t (0,0))
theorem Ka.refl (base:Nat) (w:World):Ka base w w:=⟨rfl,rfl,rfl,Nat.le_refl _,fun _ _ => rfl,fun _ _ _ h _ => h⟩
theorem Ka.trans {base:Nat} {a b c:World} (h:Ka base a b) (k:Ka base b c):Ka base a c :=
 ⟨k.os.trans h.os,k.tape.trans h.tape,k.output.trans h.output,Nat.le_trans h.size k.size,fun i hi => (k.low i hi).trans (h.low i hi),fun i cs t hi ht => k.other i cs t (h.other i cs t hi ht) ht⟩
theorem Ka.of_below {base:Nat} {w w':World} (h:Below w.heap.size w w') (hb:base ≤ w.heap.size):Ka base w w' :=
 ⟨h.os,h.tape,h.output,h.size,fun i hi => h.block i (by omega),fun i cs t hi _ => (h.block i (lt_of_heap hi)).trans hi⟩
theorem Ka.alloc {base:Nat} {a w:World} (h:Ka base a w) (hb:base ≤ w.heap.size) (o:Obj):Ka base a (w.alloc o):=h.trans (Ka.of_below ((Below.refl _ _).alloc (Nat.le_refl _) o) hb)
theorem Ka.drew {base:Nat} {a w:World} (h:Ka base a w):Ka base a w.drew:=h.trans ⟨rfl,rfl,rfl,Nat.le_refl _,fun _ _ => rfl,fun _ _ _ h _ => h⟩
theorem own_ne' {w:World} {base:Nat} {e t:TypeId} {size n g:Nat} {v:Value} {xs:List Value} {cs:Array Value} (h:w.ownsRow base e size v n xs) (hg:w.heap[g]?=some (.cells cs t (0,0))) (hne:e ≠ t):some g ≠ v.ownBlock:=by
 rcases h.2 with ⟨rfl,_⟩ | ⟨g2,cap,cur,rfl,_,hh,_⟩
 ·simp [Value.ownBlock]
 ·intro he
  have:g=g2:=by simpa [Value.ownBlock] using he
  subst this
  rw [hg] at hh
  injection hh with hh
  injection hh with _ ht
  exact hne ht.symm
theorem Ka.grown {base n:Nat} {w w':World} {v:Value} {xs:List Value} (hg:w.grownBy w' v.ownBlock) (ho:w.ownsRow base 39 5 v n xs) (hb:base ≤ w.heap.size):Ka base w w' :=
 ⟨hg.os,hg.tape,hg.output,hg.size,fun i hi => hg.block i (by omega) (fun e => by have:=(ho.lt i e.symm).1;omega),fun i cs t hi ht => (hg.block i (lt_of_heap hi) (own_ne' ho hi (fun e => ht e.symm))).trans hi⟩
theorem Ka.keeps {base:Nat} {w w':World} (h:Ka base w w'):Keeps base w w':=fun b o hb => World.cell?_of_block (a:=⟨b,o,none⟩) (h.low b hb)
theorem Keeps.mono' {B B':Nat} {w w':World} (h:Keeps B' w w') (hB:B ≤ B'):Keeps B w w':=fun b o hb => h b o (by omega)
theorem Ka.row {base g:Nat} {w w':World} {cs:Array Value} {t:TypeId} (h:Ka base w w') (hg:w.heap[g]?=some (.cells cs t (0,0))) (ht:t ≠ 39):∀ o,w'.cell? ⟨g,o,none⟩=cs[o]? :=
 row_cells hg ((h.other g cs t hg ht).trans hg.symm)
theorem Ka.below {w w':World} (h:Ka w.heap.size w w'):Below w.heap.size w w':=⟨h.os,h.tape,h.output,h.size,h.low⟩
theorem nodup_lt:∀ (n:Nat) (l:List Nat),l.Nodup → (∀ x ∈ l,x < n) → l.length ≤ n:=by
 intro n
 induction n with
 | zero =>
  intro l _ h
  cases l with
  | nil => simp
  | cons a l => exact absurd (h a (List.mem_cons_self ..)) (by omega)
 | succ n ih =>
  intro l hn h
  have h1:=ih (l.erase n) (hn.erase _) (fun x hx => by
   have h2:=h x (List.mem_of_mem_erase hx)
   have h3:x ≠ n:=fun e => by subst e;exact (hn.not_mem_erase) hx
   omega)
  have h2:=List.length_erase (a:=n) (l:=l)
  split at h2 <;> omega
theorem once_nodup {nb:Nat}:∀ (l seen:List Int),onceB nb seen l=true → l.Nodup ∧ (∀ x ∈ l,0 ≤ x ∧ x ≤ nb - 1) ∧ ∀ x ∈ l,x ∉ seen:=by
 intro l
 induction l with
 | nil => intro seen _;exact ⟨List.nodup_nil,(fun _ h => by cases h),(fun _ h => by cases h)⟩
 | cons b l ih =>
  intro seen h
  unfold onceB at h
  simp only [Bool.and_eq_true,Bool.not_eq_true'] at h
  obtain ⟨h1,h2,h3⟩:=ih _ h.2
  have hb:=within_bd h.1.1
  have hbs:b ∉ seen:=fun hm => by have:=h.1.2;rw [List.contains_eq_mem] at this;simp [hm] at this
  refine ⟨List.nodup_cons.2 ⟨fun hm => h3 b hm (List.mem_cons_self ..),h1⟩,fun x hx => ?_,fun x hx => ?_⟩
  ·rcases List.mem_cons.1 hx with rfl | hx
   ·exact hb
   ·exact h2 x hx
  ·rcases List.mem_cons.1 hx with rfl | hx
   ·exact hbs
   ·exact fun hm => h3 x hx (List.mem_cons_of_mem _ hm)
theorem once_len {nb:Nat} {l:List Int} (h:onceB nb [] l=true):l.length ≤ nb:=by
 obtain ⟨h1,h2,_⟩:=once_nodup l [] h
 have h3:=nodup_lt nb (l.map Int.toNat) (by
  rw [List.Nodup,List.pairwise_map]
  refine List.Pairwise.imp_of_mem ?_ h1
  intro a b ha hb hne e
  have:=h2 a ha
  have:=h2 b hb
  omega) (fun x hx => by
  obtain ⟨a,ha,rfl⟩:=List.mem_map.1 hx
  have:=h2 a ha
  omega)
 rw [List.length_map] at h3
 exact h3
theorem flat_take' {α β:Type} (g:α → List β) (l:List α) (k:Nat) (a:α) (h:l[k]?=some a):(l.take (k + 1)).flatMap g=(l.take k).flatMap g ++ g a:=by
 obtain ⟨hk,rfl⟩:=List.getElem?_eq_some_iff.1 h
 rw [List.take_succ_eq_append_getElem hk,List.flatMap_append]
 simp
theorem map_take' {α β:Type} (g:α → β) (l:List α) (k:Nat) (a:α) (h:l[k]?=some a):(l.take (k + 1)).map g=(l.take k).map g ++ [g a]:=by
 obtain ⟨hk,rfl⟩:=List.getElem?_eq_some_iff.1 h
 rw [List.take_succ_eq_append_getElem hk,List.map_append]
 rfl
theorem zip_take' {α β:Type} (l:List α) (r:List β) (k:Nat) (a:α) (b:β) (h:l[k]?=some a) (h2:r[k]?=some b):(l.take (k + 1)).zip (r.take (k + 1))=(l.take k).zip (r.take k) ++ [(a,b)]:=by
 obtain ⟨hk,rfl⟩:=List.getElem?_eq_some_iff.1 h
 obtain ⟨hk2,rfl⟩:=List.getElem?_eq_some_iff.1 h2
 rw [List.take_succ_eq_append_getElem hk,List.take_succ_eq_append_getElem hk2,List.zip_append (by simp;omega)]
 rfl
theorem flat_take_le {α β:Type} (g:α → List β) (l:List α) (k:Nat):((l.take k).flatMap g).length ≤ (l.flatMap g).length:=by
 conv => rhs;rw [← List.take_append_drop k l,List.flatMap_append,List.length_append]
 omega
theorem flat_at_le {α β:Type} (g:α → List β) (l:List α) (k:Nat) (a:α) (h:l[k]?=some a):((l.take k).flatMap g).length + (g a).length ≤ (l.flatMap g).length:=by
 have h1:=flat_take_le g l (k + 1)
 rw [flat_take' g l k a h,List.length_append] at h1
 exact h1
theorem usesBlock_parts (q:BlockM):(usesBlock q).length=(q.phis.flatMap usesPhi).length + ((q.code.flatMap usesInstr).length + (usesTerm q.term).length):=by
 unfold usesBlock
 rw [List.length_append,List.length_append]
def Few (bs:List BlockM):Prop:=(bs.flatMap usesBlock).length ≤ 3000000
theorem few_phi {bs:List BlockM} (hf:Few bs) {k j m:Nat} {q:BlockM} {p:PhiM} (hq:bs[k]?=some q) (hp:q.phis[j]?=some p) (hm:m < p.vals.length) (us1 us2:List (Int × Int)) (h1:us1=(bs.take k).flatMap usesBlock) (h2:us2=us1 ++ (q.phis.take j).flatMap usesPhi) :
  (us2 ++ (p.vals.take m).map fun v => (v,p.typ)).length < 3000000:=by
 have a:=flat_at_le usesBlock bs k q hq
 have b:=flat_at_le usesPhi q.phis j p hp
 have c:=usesBlock_parts q
 have d:(usesPhi p).length=p.vals.length:=by unfold usesPhi;rw [List.length_map]
 unfold Few at hf
 rw [h2,h1]
 simp only [List.length_append,List.length_map,List.length_take]
 omega
theorem few_instr {bs:List BlockM} (hf:Few bs) {k j m:Nat} {q:BlockM} {x:InstrM} (hq:bs[k]?=some q) (hp:q.code[j]?=some x) (hm:m < x.args.length) (hl:x.args.length=(takesS x.op).length) (us1 us2 us3:List (Int × Int)) (h1:us1=(bs.take k).flatMap usesBlock) (h2:us2=us1 ++ q.phis.flatMap usesPhi) (h3:us3=us2 ++ (q.code.take j).flatMap usesInstr) :
  (us3 ++ (x.args.take m).zip ((takesS x.op).take m)).length < 3000000:=by
 have a:=flat_at_le usesBlock bs k q hq
 have b:=flat_at_le usesInstr q.code j x hp
 have c:=usesBlock_parts q
 have d:(usesInstr x).length=x.args.length:=by unfold usesInstr;rw [List.length_zip];omega
 unfold Few at hf
 rw [h3,h2,h1]
 simp only [List.length_append,List.length_zip,List.length_take]
 omega
theorem few_term {bs:List BlockM} (hf:Few bs) {k:Nat} {q:BlockM} (hq:bs[k]?=some q) (hm:0 < (usesTerm q.term).length) (us1 us2:List (Int × Int)) (h1:us1=(bs.take k).flatMap usesBlock) (h2:us2=us1 ++ q.phis.flatMap usesPhi) :
  (us2 ++ q.code.flatMap usesInstr).length < 3000000:=by
 have a:=flat_at_le usesBlock bs k q hq
 have c:=usesBlock_parts q
 unfold Few at hf
 rw [h2,h1]
 simp only [List.length_append]
 omega
set_option maxRecDepth 100000 in
set_option maxHeartbeats 8000000 in
theorem refUses_any (bs:List BlockM) (B:Nat) (pv xv cv bv:Value) (w:World) (hbv:BlocksR w B bv bs) (hB:B ≤ w.heap.size) (hfew:Few bs) (hl5:bs.length ≤ 512)
  (hform:∀ b ∈ bs,∀ x ∈ b.code,x.args.length=(takesS x.op).length) (hphi:∀ b ∈ bs,∀ p ∈ b.phis,p.vals.length=p.fr.length) :
  Calls Tryz.prog 15 #[.agg #[pv,xv,cv,bv]] w fun e w' => ∃ v,e=.returned v ∧ RU w' w.heap.size v (bs.flatMap usesBlock) ∧ Below w.heap.size w w':=by
 have HFEW:=hideI hfew
 have HFO:=hideI hform
 have HPH:=hideI hphi
 have HBB:=hideI hbv
 obtain ⟨i0,hi,hz0,hz1,hz2⟩:=info_parts use_info
 obtain ⟨A,c,rfl,hbm,hbx⟩:=hbv
 have HX:=hideI hbx
 clear hbx hfew hform hphi
 obtain ⟨W0,hW0⟩:∃ W0:World,W0=(w.alloc (.cells #[pv,xv,cv,.slice A bs.length c] 25)).alloc (.cells #[] 39):=⟨_,rfl⟩
 have hK0:Hid (Ka w.heap.size w W0):=by rw [hW0];exact ((Ka.refl _ w).alloc (Nat.le_refl _) _).alloc (by simp) _
 have hbox0:Hid (W0.heap[w.heap.size]?=some (.cells #[pv,xv,cv,.slice A bs.length c] 25 (0,0))):=by
  show _=_
  rw [hW0,Below.heap_alloc _ _ _ (by simp)]
  exact heap_alloc_new w _
 have hR0:Hid (RU W0 w.heap.size (.slice (some ⟨w.heap.size + 1,0,none⟩) 0 0) []):=by
  have:=World.ownsRow_made (base:=w.heap.size) (e:=39) (size:=5) (w.alloc (.cells #[pv,xv,cv,.slice A bs.length c] 25)) #[] 0 (by simp) (by decide) rfl
  show RU W0 _ _ _
  rw [hW0]
  exact ⟨[],rfl,(fun _ h => by cases h),by simpa using this⟩
 have HW0:=hideI hW0
 clear hW0
 go_enter Tryz.func15,Tryz.ntmps15
 go_wp2
 rw [← HW0.out]
 go_loopw [3,4] (fun o i wr => ∃ k:Nat,k ≤ bs.length ∧ i=.int .i64 k ∧ RU wr w.heap.size o ((bs.take k).flatMap usesBlock) ∧ Ka w.heap.size W0 wr) (fun _ i _ => bs.length - (intOf i).toNat)
 case atStart => exact ⟨0,Nat.zero_le _,rfl,by simpa using hR0.out,Ka.refl _ _⟩
 case round =>
  obtain ⟨k,hk,rfl,hIk,hFk⟩:=hrel
  obtain ⟨u3,rfl⟩:∃ u3':Value,u3'=u3:=⟨_,rfl⟩
  have HIk:=hideI hIk
  have HFk:=hideI hFk
  have hx:=hFk.row hbox0.out (by decide)
  have hsz:w.heap.size < wr.heap.size:=by have h1:=hFk.size;have h2:=lt_of_heap hbox0.out;omega
  have HK:=hideI (Keeps.mono' (hK0.out.trans hFk).keeps hB)
  clear hIk hFk
  by_cases hlt:k < bs.length
  ·obtain ⟨q,hq⟩:∃ q,bs[k]?=some q:=⟨_,List.getElem?_eq_getElem hlt⟩
   obtain ⟨b,off,qpv,qcv,qtv,rfl,hb,e0,e1,e2,e3,e4,e5,hpv,hcv,htv,_⟩:=HX.out k q hq
   have c0:=(HK.out b (off + k * 6) hb).trans e0
   have c1:=(HK.out b (off + k * 6 + 1) hb).trans e1
   have c2:=(HK.out b (off + k * 6 + 2) hb).trans e2
   have c3:=(HK.out b (off + k * 6 + 3) hb).trans e3
   have c4:=(HK.out b (off + k * 6 + 4) hb).trans e4
   have c5:=(HK.out b (off + k * 6 + 5) hb).trans e5
   have HQ:=hideI hq
   obtain ⟨PA,pc,rfl,hpm,hpx⟩:=hpv
   obtain ⟨CA,cc,rfl,hcm,hcx⟩:=hcv
   obtain ⟨TA,tc,rfl,_⟩:=htv
   have HPX:=hideI hpx
   have HCX:=hideI hcx
   clear e0 e1 e2 e3 e4 e5 hq hpx hcx
   obtain ⟨wo,rfl⟩:∃ wo:World,wo=wr:=⟨_,rfl⟩
   obtain ⟨W1,hW1⟩:∃ W1:World,W1=wo.alloc (.cells #[.slice PA q.phis.length pc,.slice CA q.code.length cc,.int .i64 q.term.op,.int .i64 q.term.val,.slice TA q.term.to.length tc,.int .i64 q.term.n] 62):=⟨_,rfl⟩
   have HF1:Hid (Ka w.heap.size W0 W1):=by rw [hW1];exact HFk.out.alloc (by omega) _
   have HI1:Hid (RU W1 w.heap.size u3 ((bs.take k).flatMap usesBlock)):=by rw [hW1];exact HIk.out.alloc _
   have HB1:Hid (W1.heap[wo.heap.size]?=some (.cells #[.slice PA q.phis.length pc,.slice CA q.code.length cc,.int .i64 q.term.op,.int .i64 q.term.val,.slice TA q.term.to.length tc,.int .i64 q.term.n] 62 (0,0))):=by rw [hW1];exact heap_alloc_new wo _
   have HW1:=hideI hW1
   clear hW1
   obtain ⟨us1,hus1⟩:∃ us1,us1=(bs.take k).flatMap usesBlock:=⟨_,rfl⟩
   rw [← hus1] at HI1
   have HU1:=hideI hus1
   clear hus1
   go_wp2
   rw [← HW1.out]
   go_loopw [3,6] (fun o i wr => ∃ j:Nat,j ≤ q.phis.length ∧ i=.int .i64 j ∧ RU wr w.heap.size o (us1 ++ (q.phis.take j).flatMap usesPhi) ∧ Ka w.heap.size W1 wr) (fun _ i _ => q.phis.length - (intOf i).toNat)
   case atStart => exact ⟨0,Nat.zero_le _,rfl,by simpa using HI1.out,Ka.refl _ _⟩
   case round =>
    obtain ⟨j,hj,rfl,hIj,hFj⟩:=hrel
    have HIj:=hideI hIj
    have HFj:=hideI hFj
    have hx1:=hFj.row HB1.out (by decide)
    have hsz1:wo.heap.size < wr.heap.size:=by have h1:=hFj.size;have h2:=lt_of_heap HB1.out;omega
    have HK1:=hideI (Keeps.mono' ((hK0.out.trans HF1.out).trans hFj).keeps hB)
    clear hIj hFj
    by_cases hlj:j < q.phis.length
    ·obtain ⟨p,hp⟩:∃ p,q.phis[j]?=some p:=⟨_,List.getElem?_eq_getElem hlj⟩
     obtain ⟨b2,off2,fv,vv,rfl,hb2,e0,e1,e2,e3,hf,hv,_⟩:=HPX.out j p hp
     have HQ2:=hideI hp
     have hpl:Hid (p.vals.length=p.fr.length):=HPH.out q (List.mem_of_getElem? HQ.out) p (List.mem_of_getElem? hp)
     obtain ⟨FA,fc,rfl,hfm,hfx⟩:=hf
     obtain ⟨VA,vc,rfl,hvm,hvx⟩:=hv
     have HVX:=hideI hvx
     have HFX:=hideI hfx
     have HE:=hideI (And.intro e1 (And.intro e2 e3))
     have d3:=(HK1.out b2 (off2 + j * 4 + 3) hb2).trans e3
     obtain ⟨wi,rfl⟩:∃ wi:World,wi=wr:=⟨_,rfl⟩
     obtain ⟨us2,hus2⟩:∃ us2,us2=us1 ++ (q.phis.take j).flatMap usesPhi:=⟨_,rfl⟩
     rw [← hus2] at HIj
     have HU2:=hideI hus2
     clear e0 e1 e2 e3 hp hvx hfx hus2
     go_wp2
     clear d3
     go_loopw [3,7] (fun o i wr => ∃ m:Nat,m ≤ p.vals.length ∧ i=.int .i64 m ∧ RU wr w.heap.size o (us2 ++ (p.vals.take m).map fun v => (v,p.typ)) ∧ Ka w.heap.size wi wr) (fun _ i _ => p.vals.length - (intOf i).toNat)
     case atStart => exact ⟨0,Nat.zero_le _,rfl,by simpa using HIj.out,Ka.refl _ _⟩
     case round =>
      obtain ⟨m,hm,rfl,hIm,hFm⟩:=hrel
      have hx2:=(HFj.out.trans hFm).row HB1.out (by decide)
      have HK2:=hideI (Keeps.mono' (((hK0.out.trans HF1.out).trans HFj.out).trans hFm).keeps hB)
      have hsz2:w.heap.size ≤ wr.heap.size:=by have h1:=hFm.size;omega
      have d1:=(HK2.out b2 (off2 + j * 4 + 1) hb2).trans HE.out.1
      have d2:=(HK2.out b2 (off2 + j * 4 + 2) hb2).trans HE.out.2.1
      have d3:=(HK2.out b2 (off2 + j * 4 + 3) hb2).trans HE.out.2.2
      have HIm:=hideI hIm
      have HFm:=hideI hFm
      clear hIm hFm
      by_cases hlm:m < p.vals.length
      ·obtain ⟨b3,off3,rfl,hb3,e3⟩:=HVX.out m hlm
       obtain ⟨v,hv⟩:∃ v,p.vals[m]?=some v:=⟨_,List.getElem?_eq_getElem hlm⟩
       have hlf:m < p.fr.length:=by rw [← hpl.out];exact hlm
       obtain ⟨b4,off4,rfl,hb4,e4⟩:=HFX.out m hlf
       obtain ⟨fr,hfr⟩:∃ fr,p.fr[m]?=some fr:=⟨_,List.getElem?_eq_getElem hlf⟩
       rw [hv] at e3
       rw [hfr] at e4
       have f3:=(HK2.out b3 (off3 + m) hb3).trans e3
       have f4:=(HK2.out b4 (off4 + m) hb4).trans e4
       simp only [Option.getD_some] at f3 f4
       have HV:=hideI hv
       have hfw:=few_phi HFEW.out HQ.out HQ2.out hlm us1 us2 HU1.out HU2.out
       obtain ⟨uu,huu⟩:∃ uu,uu=us2 ++ (p.vals.take m).map fun v => (v,p.typ):=⟨_,rfl⟩
       rw [← huu] at hfw HIm
       have HUU:=hideI huu
       clear e3 e4 hv hfr huu
       have g0:wr.cell? ⟨wo.heap.size,0,none⟩=some (.slice (some ⟨b2,off2,none⟩) q.phis.length pc):=hx2 0
       clear hx2
       obtain ⟨rows,hrw1,hrw2,hown⟩:=HIm.out
       have HR1:=hideI hrw1
       have HR2:=hideI hrw2
       clear hrw1 hrw2
       have G0:Hid (∀ W,Ka w.heap.size wr W → W.cell? ⟨wo.heap.size,0,none⟩=some (.slice (some ⟨b2,off2,none⟩) q.phis.length pc) ∧ W.cell? ⟨b2,off2 + j * 4 + 1,none⟩=some (.int .i64 p.typ) ∧ W.cell? ⟨b2,off2 + j * 4 + 2,none⟩=some (.slice (some ⟨b4,off4,none⟩) p.fr.length fc) ∧ W.cell? ⟨b2,off2 + j * 4 + 3,none⟩=some (.slice (some ⟨b3,off3,none⟩) p.vals.length vc) ∧ W.cell? ⟨b3,off3 + m,none⟩=some (.int .i64 v) ∧ W.cell? ⟨b4,off4 + m,none⟩=some (.int .i64 fr)) :=
        fun W hW => ⟨((HFj.out.trans HFm.out).trans hW).row HB1.out (by decide) 0,(hW.keeps _ _ (by omega)).trans d1,(hW.keeps _ _ (by omega)).trans d2,(hW.keeps _ _ (by omega)).trans d3,(hW.keeps _ _ (by omega)).trans f3,(hW.keeps _ _ (by omega)).trans f4⟩
       go_wp2
       go_region_held3 (fun w' => w'.cell? ⟨wo.heap.size,0,none⟩=some (.slice (some ⟨b2,off2,none⟩) q.phis.length pc) ∧ w'.cell? ⟨b2,off2 + j * 4 + 1,none⟩=some (.int .i64 p.typ) ∧ w'.cell? ⟨b2,off2 + j * 4 + 2,none⟩=some (.slice (some ⟨b4,off4,none⟩) p.fr.length fc) ∧ w'.cell? ⟨b2,off2 + j * 4 + 3,none⟩=some (.slice (some ⟨b3,off3,none⟩) p.vals.length vc) ∧ w'.cell? ⟨b3,off3 + m,none⟩=some (.int .i64 v) ∧ w'.cell? ⟨b4,off4 + m,none⟩=some (.int .i64 fr)) (first | go_keep | exact G0.out _ ((((Ka.refl _ wr).alloc hsz2 _).drew).trans hka) | exact G0.out _ (((Ka.refl _ wr).alloc hsz2 _).trans hka))
        (first | (refine step_append_lies _ rfl (.tmp 44) (.tmp 71) _ rfl w.heap.size 39 i0 _ 5 40 Tryz.underlying36 hi hz0 hz1 hz2 rfl (by decide) _ _ _ rfl (hown.alloc _) ⟨wr.heap.size,0,none⟩ 1 1 [.int .i64 v,.int .i64 p.typ,.int .i64 k,.int .i64 (-1),.int .i64 fr] rfl rfl (five_new _ _ _) (by simp [Value.oneCell']) (by decide) (by unfold maxLen;omega) (by omega) (by simp;omega) _ rfl ?_;intro g1 cap1 w4 hown1 hgrow1 hor hgl1;have hka:=Ka.grown hgrow1 (hown.alloc _) (by simp;omega)))
       have HIN:Hid (RU w4 w.heap.size (.slice (some ⟨g1,0,none⟩) (uu.length + 1) cap1) (us2 ++ (p.vals.take (m + 1)).map fun v => (v,p.typ))):=by
        have:=RU.push (b:=p.typ) HR1.out HR2.out hown1
        rw [map_take' (fun v => (v,p.typ)) p.vals m v HV.out,← List.append_assoc,← HUU.out]
        exact this
       have HFN:Hid (Ka w.heap.size wi w4):=(HFm.out.trans (((Ka.refl _ wr).alloc hsz2 _).drew)).trans hka
       clear hown1 hgrow1 hor hgl1 hka
       go_wp2
       go_roundw
       case rel => exact ⟨m + 1,by omega,by go_num,HIN.out,HFN.out⟩
       case measure => simp [intOf];omega
      ·have HIend:Hid (RU wr w.heap.size u3 (us2 ++ usesPhi p)):=by have:=HIm.out;rw [List.take_of_length_le (by omega)] at this;exact this
       go_wp2
       go_roundw
       case rel => exact ⟨j + 1,by omega,by go_num,by rw [flat_take' _ _ _ _ HQ2.out,← List.append_assoc,← HU2.out];exact HIend.out,HFj.out.trans HFm.out⟩
       case measure => simp [intOf];omega
    ·have HIend:Hid (RU wr w.heap.size u3 (us1 ++ q.phis.flatMap usesPhi)):=by have:=HIj.out;rw [List.take_of_length_le (by omega)] at this;exact this
     go_wp2
     obtain ⟨wp,rfl⟩:∃ wp:World,wp=wr:=⟨_,rfl⟩
     clear hx1 hsz1 HK1 hlj
     obtain ⟨us3,hus3⟩:∃ us3,us3=us1 ++ q.phis.flatMap usesPhi:=⟨_,rfl⟩
     rw [← hus3] at HIend
     have HU3:=hideI hus3
     clear hus3
     go_loopw [3,8] (fun o i wr => ∃ j:Nat,j ≤ q.code.length ∧ i=.int .i64 j ∧ RU wr w.heap.size o (us3 ++ (q.code.take j).flatMap usesInstr) ∧ Ka w.heap.size W1 wr) (fun _ i _ => q.code.length - (intOf i).toNat)
     case atStart => exact ⟨0,Nat.zero_le _,rfl,by simpa using HIend.out,HFj.out⟩
     case round =>
      obtain ⟨j2,hj2,rfl,hIj2,hFj2⟩:=hrel
      have HIj2:=hideI hIj2
      have HFj2:=hideI hFj2
      have hx1:=hFj2.row HB1.out (by decide)
      have hsz1:wo.heap.size < wr.heap.size:=by have h1:=hFj2.size;have h2:=lt_of_heap HB1.out;omega
      have hsz0:w.heap.size ≤ wr.heap.size:=by omega
      have HK1:=hideI (Keeps.mono' ((hK0.out.trans HF1.out).trans hFj2).keeps hB)
      clear hIj2 hFj2
      by_cases hlj2:j2 < q.code.length
      ·obtain ⟨x,hp⟩:∃ x,q.code[j2]?=some x:=⟨_,List.getElem?_eq_getElem hlj2⟩
       have hxl:Hid (x.args.length=(takesS x.op).length):=HFO.out q (List.mem_of_getElem? HQ.out) x (List.mem_of_getElem? hp)
       obtain ⟨b2,off2,av,rfl,hb2,e0,e1,e2,e3,hf,_⟩:=HCX.out j2 x hp
       have d0:=(HK1.out b2 (off2 + j2 * 4) hb2).trans e0
       have HE2:=hideI e2
       have HQ2:=hideI hp
       obtain ⟨AA,ac,rfl,ham,hax⟩:=hf
       have HAX:=hideI hax
       clear e0 e1 e2 e3 hp hax
       obtain ⟨wi,rfl⟩:∃ wi:World,wi=wr:=⟨_,rfl⟩
       go_wp2_with (go_at_call 38;refine (refArgs_any _ _).mono ?_;rintro e w3 ⟨tv,rfl,htv,hbA⟩;obtain ⟨TK,tkc,rfl,htm,htx⟩:=htv;have HTX:=hideI htx;have HBA:=hideI hbA;clear htx hbA)
       have HF3:Hid (Ka w.heap.size W1 w3):=HFj2.out.trans (Ka.of_below HBA.out hsz0)
       have HI3:Hid (RU w3 w.heap.size u3 (us3 ++ (q.code.take j2).flatMap usesInstr)):=HIj2.out.below HBA.out
       obtain ⟨us4,hus4⟩:∃ us4,us4=us3 ++ (q.code.take j2).flatMap usesInstr:=⟨_,rfl⟩
       rw [← hus4] at HI3
       have HU4:=hideI hus4
       have hsz3:wi.heap.size ≤ w3.heap.size:=HBA.out.size
       clear hus4 hx1 d0
       go_loopw [3,12] (fun o i wr => ∃ m:Nat,m ≤ (takesS x.op).length ∧ i=.int .i64 m ∧ RU wr w.heap.size o (us4 ++ (x.args.take m).zip ((takesS x.op).take m)) ∧ Ka w.heap.size w3 wr) (fun _ i _ => (takesS x.op).length - (intOf i).toNat)
       case atStart => exact ⟨0,Nat.zero_le _,rfl,by simpa using HI3.out,Ka.refl _ _⟩
       case round =>
        obtain ⟨m,hm,rfl,hIm,hFm⟩:=hrel
        have HIm:=hideI hIm
        have HFm:=hideI hFm
        have HK2:=hideI (Keeps.mono' ((hK0.out.trans HF1.out).trans (HF3.out.trans hFm)).keeps hB)
        have hsz2:w.heap.size ≤ wr.heap.size:=by have h1:=hFm.size;omega
        clear hIm hFm
        by_cases hlm:m < (takesS x.op).length
        ·have hla:m < x.args.length:=by rw [hxl.out];exact hlm
         obtain ⟨b3,off3,rfl,hb3,e3⟩:=HAX.out m hla
         obtain ⟨v,hv⟩:∃ v,x.args[m]?=some v:=⟨_,List.getElem?_eq_getElem hla⟩
         obtain ⟨t,ht⟩:∃ t,(takesS x.op)[m]?=some t:=⟨_,List.getElem?_eq_getElem hlm⟩
         obtain ⟨g,cs,rfl,hg,hgb,hgc⟩:=HTX.out (by omega)
         have hgx:=(HFm.out.row hgb (by decide) m).trans (hgc m hlm)
         rw [hv] at e3
         rw [ht] at hgx
         have f3:=(HK2.out b3 (off3 + m) hb3).trans e3
         have d2:=(HK2.out b2 (off2 + j2 * 4 + 2) hb2).trans HE2.out
         simp only [Option.getD_some] at f3 hgx
         have HV:=hideI hv
         have HT2:=hideI ht
         have HGB:=hideI (And.intro hgb (hgc m hlm))
         have hfw:=few_instr HFEW.out HQ.out HQ2.out hla hxl.out us1 us3 us4 HU1.out HU3.out HU4.out
         obtain ⟨uu,huu⟩:∃ uu,uu=us4 ++ (x.args.take m).zip ((takesS x.op).take m):=⟨_,rfl⟩
         rw [← huu] at hfw HIm
         have HUU:=hideI huu
         obtain ⟨rows,hrw1,hrw2,hown⟩:=HIm.out
         have HR1:=hideI hrw1
         have HR2:=hideI hrw2
         have g0:wr.cell? ⟨wo.heap.size,1,none⟩=some (.slice (some ⟨b2,off2,none⟩) q.code.length cc):=((HF3.out.trans HFm.out).row HB1.out (by decide) 1)
         clear e3 hv ht hgb hgc huu hrw1 hrw2
         have G0:Hid (∀ W,Ka w.heap.size wr W → W.cell? ⟨wo.heap.size,1,none⟩=some (.slice (some ⟨b2,off2,none⟩) q.code.length cc) ∧ W.cell? ⟨b2,off2 + j2 * 4 + 2,none⟩=some (.slice (some ⟨b3,off3,none⟩) x.args.length ac) ∧ W.cell? ⟨b3,off3 + m,none⟩=some (.int .i64 v) ∧ W.cell? ⟨g,m,none⟩=some (.int .i64 t)) :=
          fun W hW => ⟨((HF3.out.trans HFm.out).trans hW).row HB1.out (by decide) 1,(hW.keeps _ _ (by omega)).trans d2,(hW.keeps _ _ (by omega)).trans f3,(by rw [((HFm.out.trans hW).row HGB.out.1 (by decide) m),← hgx,HFm.out.row HGB.out.1 (by decide) m])⟩
         go_wp2
         go_region_held3 (fun w' => w'.cell? ⟨wo.heap.size,1,none⟩=some (.slice (some ⟨b2,off2,none⟩) q.code.length cc) ∧ w'.cell? ⟨b2,off2 + j2 * 4 + 2,none⟩=some (.slice (some ⟨b3,off3,none⟩) x.args.length ac) ∧ w'.cell? ⟨b3,off3 + m,none⟩=some (.int .i64 v) ∧ w'.cell? ⟨g,m,none⟩=some (.int .i64 t)) (first | go_keep | exact G0.out _ ((((Ka.refl _ wr).alloc hsz2 _).drew).trans hka) | exact G0.out _ (((Ka.refl _ wr).alloc hsz2 _).trans hka))
          (first | (refine step_append_lies _ rfl (.tmp 97) (.tmp 114) _ rfl w.heap.size 39 i0 _ 5 40 Tryz.underlying36 hi hz0 hz1 hz2 rfl (by decide) _ _ _ rfl (hown.alloc _) ⟨wr.heap.size,0,none⟩ 1 1 [.int .i64 v,.int .i64 t,.int .i64 k,.int .i64 j2,.int .i64 0] rfl rfl (five_new _ _ _) (by simp [Value.oneCell']) (by decide) (by unfold maxLen;omega) (by omega) (by simp;omega) _ rfl ?_;intro g1 cap1 w4 hown1 hgrow1 hor hgl1;have hka:=Ka.grown hgrow1 (hown.alloc _) (by simp;omega)))
         have HIN:Hid (RU w4 w.heap.size (.slice (some ⟨g1,0,none⟩) (uu.length + 1) cap1) (us4 ++ (x.args.take (m + 1)).zip ((takesS x.op).take (m + 1)))):=by
          have:=RU.push (b:=t) HR1.out HR2.out hown1
          rw [zip_take' _ _ _ _ _ HV.out HT2.out,← List.append_assoc,← HUU.out]
          exact this
         have HFN:Hid (Ka w.heap.size w3 w4):=(HFm.out.trans (((Ka.refl _ wr).alloc hsz2 _).drew)).trans hka
         clear hown1 hgrow1 hor hgl1 hka
         go_wp2
         go_roundw
         case rel => exact ⟨m + 1,by omega,by go_num,HIN.out,HFN.out⟩
         case measure => simp [intOf];omega
        ·have HIe:Hid (RU wr w.heap.size u3 (us4 ++ usesInstr x)):=by
          have:=HIm.out
          rw [List.take_of_length_le (by rw [hxl.out];omega),List.take_of_length_le (by omega)] at this
          exact this
         go_wp2
         go_roundw
         case rel => exact ⟨j2 + 1,by omega,by go_num,by rw [flat_take' _ _ _ _ HQ2.out,← List.append_assoc,← HU4.out];exact HIe.out,HF3.out.trans HFm.out⟩
         case measure => simp [intOf];omega
      ·have HIe:Hid (RU wr w.heap.size u3 (us3 ++ q.code.flatMap usesInstr)):=by have:=HIj2.out;rw [List.take_of_length_le (by omega)] at this;exact this
       have HUB:Hid ((bs.take (k + 1)).flatMap usesBlock=(us3 ++ q.code.flatMap usesInstr) ++ usesTerm q.term):=by
        show _=_
        rw [flat_take' _ _ _ _ HQ.out,HU3.out,HU1.out]
        simp only [usesBlock,List.append_assoc]
       cases h2:q.term.op == 2
       ·cases h3:q.term.op == 3
        ·have hu:usesTerm q.term=[]:=by
          unfold usesTerm
          rw [if_neg (by simpa using h2),if_neg (by simpa using h3)]
         have HU:=hideI hu
         clear hu
         go_wp2
         go_roundw
         case rel => exact ⟨k + 1,by omega,by go_num,by rw [HUB.out,HU.out,List.append_nil];exact HIe.out,HF1.out.trans HFj2.out⟩
         case measure => simp [intOf];omega
        ·have hu:usesTerm q.term=[(q.term.val,0)]:=by
          unfold usesTerm
          rw [if_neg (by simpa using h2),if_pos (by simpa using h3)]
         have HU:=hideI hu
         have hfw:=few_term HFEW.out HQ.out (by rw [hu];exact Nat.zero_lt_one) us1 us3 HU1.out HU3.out
         clear hu
         obtain ⟨uu,huu⟩:∃ uu,uu=us3 ++ q.code.flatMap usesInstr:=⟨_,rfl⟩
         rw [← huu] at hfw HIe HUB
         clear huu
         obtain ⟨rows,hrw1,hrw2,hown⟩:=HIe.out
         have HR1:=hideI hrw1
         have HR2:=hideI hrw2
         clear hrw1 hrw2
         go_wp2_with (at_builtin;refine wpList_append_lies _ rfl _ _ _ rfl w.heap.size 39 i0 _ 5 40 Tryz.underlying36 hi hz0 hz1 hz2 rfl (by decide) _ _ _ rfl (hown.alloc _) ⟨wr.heap.size,0,none⟩ 1 1 [.int .i64 q.term.val,.int .i64 0,.int .i64 k,.int .i64 q.code.length,.int .i64 0] rfl rfl (five_new _ _ _) (by simp [Value.oneCell']) (by decide) (by unfold maxLen;omega) (by omega) (by simp;omega) _ rfl ?_;intro g1 cap1 w4 hown1 hgrow1 hor hgl1;have hka:=hideI (Ka.grown hgrow1 (hown.alloc _) (by simp;omega));have HO1:=hideI hown1;clear hown1 hgrow1 hor hgl1)
         go_roundw
         case rel => exact ⟨k + 1,by omega,by go_num,by rw [HUB.out,HU.out];exact RU.push HR1.out HR2.out HO1.out,(HF1.out.trans (HFj2.out.alloc hsz0 _)).trans hka.out⟩
         case measure => simp [intOf];omega
       ·have hu:usesTerm q.term=[(q.term.val,2)]:=by
         unfold usesTerm
         rw [if_pos (by simpa using h2)]
        have HU:=hideI hu
        have hfw:=few_term HFEW.out HQ.out (by rw [hu];exact Nat.zero_lt_one) us1 us3 HU1.out HU3.out
        clear hu
        have h3:(q.term.op == 3)=false:=by
         have:q.term.op=2:=by simpa using h2
         rw [this];rfl
        obtain ⟨uu,huu⟩:∃ uu,uu=us3 ++ q.code.flatMap usesInstr:=⟨_,rfl⟩
        rw [← huu] at hfw HIe HUB
        clear huu
        obtain ⟨rows,hrw1,hrw2,hown⟩:=HIe.out
        have HR1:=hideI hrw1
        have HR2:=hideI hrw2
        clear hrw1 hrw2
        go_wp2_with (at_builtin;refine wpList_append_lies _ rfl _ _ _ rfl w.heap.size 39 i0 _ 5 40 Tryz.underlying36 hi hz0 hz1 hz2 rfl (by decide) _ _ _ rfl (hown.alloc _) ⟨wr.heap.size,0,none⟩ 1 1 [.int .i64 q.term.val,.int .i64 2,.int .i64 k,.int .i64 q.code.length,.int .i64 0] rfl rfl (five_new _ _ _) (by simp [Value.oneCell']) (by decide) (by unfold maxLen;omega) (by omega) (by simp;omega) _ rfl ?_;intro g1 cap1 w4 hown1 hgrow1 hor hgl1;have hka:=hideI (Ka.grown hgrow1 (hown.alloc _) (by simp;omega));have HO1:=hideI hown1;have hx4:=((HFj2.out.alloc hsz0 _).trans hka.out).row HB1.out (by decide);clear hown1 hgrow1 hor hgl1)
        go_roundw
        case rel => exact ⟨k + 1,by omega,by go_num,by rw [HUB.out,HU.out];exact RU.push HR1.out HR2.out HO1.out,(HF1.out.trans (HFj2.out.alloc hsz0 _)).trans hka.out⟩
        case measure => simp [intOf];omega
  ·go_wp2
   go_ret
   refine ⟨_,rfl,?_,(hK0.out.trans HFk.out).below⟩
   have:=HIk.out
   rw [List.take_of_length_le (by omega)] at this
   exact this
end Go.Proofs.YtaehbgppfahdeaaGreat

namespace Go.Proofs.YtaehbgppfahdeaaGreat
open Go.RowKit
theorem makes_type {op:Int} (h:makesS op ≠ 0):isTypeB (makesS op)=true:=by
 unfold makesS at h ⊢
 rcases op_cases op with h1 | h1 | h1
 ·rcases h1 with rfl | rfl | rfl | rfl | rfl | rfl | rfl | rfl | rfl | rfl | rfl | rfl | rfl <;> first | decide | exact absurd rfl h
 ·rcases h1 with rfl | rfl | rfl | rfl | rfl | rfl | rfl | rfl | rfl | rfl | rfl | rfl <;> first | decide | exact absurd rfl h
 ·rw [shapeS_none h1] at h;exact absurd rfl h
def Typed (ds d:Defs):Prop:=∀ x ∈ d,x ∈ ds ∨ isTypeB x.2=true
theorem Typed.refl (ds:Defs):Typed ds ds:=fun _ h => .inl h
theorem Typed.trans {a b c:Defs} (h:Typed a b) (k:Typed b c):Typed a c:=fun x hx => by
 rcases k x hx with h1 | h1
 ·exact h x h1
 ·exact .inr h1
theorem addDef_typed {np:Nat} {ds d:Defs} {id t:Int} (ht:isTypeB t=true) (h:addDef np ds id t=some d):Typed ds d:=by
 unfold addDef at h
 split at h
 ·injection h with h
  subst h
  intro x hx
  rcases List.mem_append.1 hx with hx | hx
  ·exact .inl hx
  ·simp at hx
   subst hx
   exact .inr ht
 ·cases h
theorem phisStep_all {f:FuncM}:∀ {l:List PhiM} {ds d:Defs},phisStep f ds l=some d → (∀ p ∈ l,phiB f p=true) ∧ Typed ds d:=by
 intro l
 induction l with
 | nil => intro ds d h;injection h with h;subst h;exact ⟨(fun _ h => by cases h),Typed.refl _⟩
 | cons p l ih =>
  intro ds d h
  unfold phisStep at h
  rw [Option.bind_eq_some_iff] at h
  obtain ⟨d1,h1,h2⟩:=h
  obtain ⟨i1,i2⟩:=ih h2
  unfold phiStep at h1
  split at h1
  ·rename_i hp
   have ht:isTypeB p.typ=true:=by unfold phiB at hp;simp only [Bool.and_eq_true] at hp;exact hp.1
   refine ⟨fun x hx => ?_,(addDef_typed ht h1).trans i2⟩
   rcases List.mem_cons.1 hx with rfl | hx
   ·exact hp
   ·exact i1 x hx
  ·cases h1
theorem codeStep_all {f:FuncM}:∀ {l:List InstrM} {ds d:Defs},codeStep f ds l=some d → (∀ x ∈ l,instrB f x=true) ∧ Typed ds d:=by
 intro l
 induction l with
 | nil => intro ds d h;injection h with h;subst h;exact ⟨(fun _ h => by cases h),Typed.refl _⟩
 | cons p l ih =>
  intro ds d h
  unfold codeStep at h
  rw [Option.bind_eq_some_iff] at h
  obtain ⟨d1,h1,h2⟩:=h
  obtain ⟨i1,i2⟩:=ih h2
  unfold instrStep at h1
  split at h1
  ·rename_i hp
   have hd:Typed ds d1:=by
    split at h1
    ·split at h1
     ·injection h1 with h1;subst h1;exact Typed.refl _
     ·cases h1
    ·rename_i hm
     exact addDef_typed (makes_type hm) h1
   refine ⟨fun x hx => ?_,hd.trans i2⟩
   rcases List.mem_cons.1 hx with rfl | hx
   ·exact hp
   ·exact i1 x hx
  ·cases h1
def Right (f:FuncM) (b:BlockM):Prop:=(∀ p ∈ b.phis,phiB f p=true) ∧ ∀ x ∈ b.code,instrB f x=true
theorem blocksStep_all {f:FuncM}:∀ {l:List BlockM} {ds d:Defs},blocksStep f ds l=some d → (∀ b ∈ l,Right f b) ∧ Typed ds d:=by
 intro l
 induction l with
 | nil => intro ds d h;injection h with h;subst h;exact ⟨(fun _ h => by cases h),Typed.refl _⟩
 | cons b l ih =>
  intro ds d h
  unfold blocksStep at h
  rw [Option.bind_eq_some_iff] at h
  obtain ⟨d1,h1,h2⟩:=h
  obtain ⟨i1,i2⟩:=ih h2
  unfold blockStep at h1
  rw [Option.bind_eq_some_iff] at h1
  obtain ⟨d2,h3,h4⟩:=h1
  rw [Option.bind_eq_some_iff] at h4
  obtain ⟨d3,h5,h6⟩:=h4
  obtain ⟨p1,p2⟩:=phisStep_all h3
  obtain ⟨c1,c2⟩:=codeStep_all h5
  split at h6
  ·injection h6 with h6
   subst h6
   refine ⟨fun x hx => ?_,(p2.trans c2).trans i2⟩
   rcases List.mem_cons.1 hx with rfl | hx
   ·exact ⟨p1,c1⟩
   ·exact i1 x hx
  ·cases h6
theorem paramDefs_typ (l:List Int):∀ j,∀ d ∈ paramDefs j l,d.2 ∈ l:=by
 induction l with
 | nil => intro j d h;cases h
 | cons t l ih =>
  intro j d h
  rcases List.mem_cons.1 h with rfl | h
  ·exact List.mem_cons_self ..
  ·exact List.mem_cons_of_mem _ (ih _ d h)
theorem formed_all {f:FuncM} {ds:Defs} (h:formedM f=some ds):(∀ b ∈ f.blocks,Right f b) ∧ ∀ x ∈ ds,isTypeB x.2=true:=by
 unfold formedM at h
 split at h
 ·rename_i hc
  simp only [Bool.and_eq_true] at hc
  obtain ⟨h1,h2⟩:=blocksStep_all h
  refine ⟨h1,fun x hx => ?_⟩
  rcases h2 x hx with h3 | h3
  ·exact List.all_eq_true.1 hc.1.2 _ (paramDefs_typ _ _ x h3)
  ·exact h3
 ·cases h
theorem right_block {f:FuncM} {q:BlockM} (hb:f.blocks.length ≤ 512) (h:Right f q):(usesBlock q).length ≤ sizeB q * 512:=by
 unfold usesBlock sizeB
 rw [List.length_append,List.length_append]
 have h1:=flat_len usesPhi 512 q.phis (fun p hp => by
  have h2:=h.1 p hp
  unfold phiB at h2
  simp only [Bool.and_eq_true,beq_iff_eq] at h2
  unfold usesPhi
  rw [List.length_map,h2.2.1]
  exact Nat.le_trans (once_len h2.2.2) hb)
 have h2:=flat_len usesInstr 512 q.code (fun x _ => by
  unfold usesInstr
  rw [List.length_zip]
  have:=shapeS_short x.op
  unfold takesS
  rw [List.length_map]
  omega)
 have h3:(usesTerm q.term).length ≤ 1:=by
  unfold usesTerm
  split
  ·simp
  ·split <;> simp
 rw [Nat.add_mul,Nat.add_mul]
 omega
theorem right_blocks {f:FuncM} (hb:f.blocks.length ≤ 512):∀ l:List BlockM,(∀ q ∈ l,Right f q) → (l.flatMap usesBlock).length ≤ (l.map sizeB).sum * 512:=by
 intro l
 induction l with
 | nil => intro _;simp
 | cons q l ih =>
  intro h
  rw [List.flatMap_cons,List.length_append,List.map_cons,List.sum_cons,Nat.add_mul]
  have h1:=right_block hb (h q (List.mem_cons_self ..))
  have h2:=ih (fun b hb => h b (List.mem_cons_of_mem _ hb))
  omega
theorem look_few {f:FuncM} (h:(lookM f).1=0):Few f.blocks:=by
 have h1:=right_blocks (look_bd h) f.blocks (formed_all (look_formed h)).1
 have h2:=look_size h
 unfold sizeM at h2
 unfold Few
 omega
theorem look_form {f:FuncM} (h:(lookM f).1=0):∀ b ∈ f.blocks,∀ x ∈ b.code,x.args.length=(takesS x.op).length:=by
 intro b hb x hx
 have h1:=((formed_all (look_formed h)).1 b hb).2 x hx
 unfold instrB at h1
 simp only [Bool.and_eq_true,beq_iff_eq] at h1
 exact h1.2.1
theorem look_phi {f:FuncM} (h:(lookM f).1=0):∀ b ∈ f.blocks,∀ p ∈ b.phis,p.vals.length=p.fr.length:=by
 intro b hb x hx
 have h1:=((formed_all (look_formed h)).1 b hb).1 x hx
 unfold phiB at h1
 simp only [Bool.and_eq_true,beq_iff_eq] at h1
 exact h1.2.1
theorem sub_len:∀ l r:List Int,l.Nodup → (∀ x ∈ l,x ∈ r) → l.length ≤ r.length:=by
 intro l
 induction l with
 | nil => intro r _ _;simp
 | cons a l ih =>
  intro r hn hs
  rw [List.nodup_cons] at hn
  have ha:=hs a (List.mem_cons_self ..)
  have h1:=ih (r.erase a) hn.2 (fun x hx => (List.mem_erase_of_ne (fun e => hn.1 (by rw [← e];exact hx))).2 (hs x (List.mem_cons_of_mem _ hx)))
  rw [List.length_erase_of_mem ha] at h1
  have h2:=List.length_pos_of_mem ha
  rw [List.length_cons]
  omega
def sumU (l:List Int) (us:List (Int × Int)):Int:=(l.map fun id => cntU id us).sum
end Go.Proofs.YtaehbgppfahdeaaGreat
