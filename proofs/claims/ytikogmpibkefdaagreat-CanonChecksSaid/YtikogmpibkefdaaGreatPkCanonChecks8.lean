/- What CanonChecks rests on, part 8: DTreeOf, CChanged. -/
import Derived.Test.YtikogmpibkefdaaGreatPkCanonChecks7
import Derived.Shelf.Bits.Mul64
import Derived.Laws.CopyOwn
import Derived.BigQuiet
import Derived.IntWalk
import Derived.Deep.CutRange
import Derived.Deep.DeepCutAuto
import Derived.Deep.RegionWith
import Derived.Deep.RegionHeld3

namespace Go.Proofs.YtikogmpibkefdaaGreat
open Go.RowKit Go.Maps Go.Lib
set_option maxHeartbeats 1000000 in
theorem mul64_any (x y:Nat) (hx:x < 18446744073709551616) (hy:y < 18446744073709551616) (w:World) :
  Calls Tryz.prog 246 #[.int .u64 x,.int .u64 y] w fun e w' => e=.returned (.tuple #[.int .u64 ((x * y / 18446744073709551616:Nat):Int),.int .u64 ((x * y % 18446744073709551616:Nat):Int)]) ∧ w'=w:=by
 obtain ⟨bd,bt,bw,hhi⟩:=Lib.mul64_hi x y hx hy
 have ba:=Lib.half_mul_le (a:=x / 4294967296) (b:=y / 4294967296) (by omega) (by omega)
 have bb:=Lib.half_mul_le (a:=x / 4294967296) (b:=y % 4294967296) (by omega) (by omega)
 have bc:=Lib.half_mul_le (a:=x % 4294967296) (b:=y / 4294967296) (by omega) (by omega)
 have ba':x / 4294967296 * (y / 4294967296) < 18446744073709551616:=by omega
 have bb':x / 4294967296 * (y % 4294967296) < 18446744073709551616:=by omega
 have bc':x % 4294967296 * (y / 4294967296) < 18446744073709551616:=by omega
 have bh1:x / 4294967296 * (y / 4294967296) + (x / 4294967296 * (y % 4294967296) + x % 4294967296 * (y % 4294967296) / 4294967296) / 4294967296 < 18446744073709551616:=by omega
 have bh:x / 4294967296 * (y / 4294967296) + (x / 4294967296 * (y % 4294967296) + x % 4294967296 * (y % 4294967296) / 4294967296) / 4294967296 + ((x / 4294967296 * (y % 4294967296) + x % 4294967296 * (y % 4294967296) / 4294967296) % 4294967296 + x % 4294967296 * (y / 4294967296)) / 4294967296 < 18446744073709551616:=by omega
 go_enter Tryz.func246,Tryz.ntmps246
 go_wp2
 simp only [Mul64.maskN x hx,Mul64.maskN y hy,Mul64.divN,Mul64.mulN,Mul64.addN,Mul64.wrapN _ bd,Mul64.wrapN _ bb',Mul64.wrapN _ bt,Mul64.maskN _ bt,Mul64.wrapN _ bc',Mul64.wrapN _ bw,Mul64.wrapN _ ba',Mul64.wrapN _ bh1,Mul64.wrapN _ bh,Mul64.wrapM (x * y)]
 rw [hhi]
 go_ret2
 exact ⟨rfl,rfl⟩
set_option maxHeartbeats 1000000 in
theorem mul_any (x y:Nat) (hx:x < 18446744073709551616) (hy:y < 18446744073709551616) (w:World) :
  Calls Tryz.prog 217 #[.int .u64 x,.int .u64 y] w fun e w' => e=.returned (.tuple #[.int .u64 ((x * y / 18446744073709551616:Nat):Int),.int .u64 ((x * y % 18446744073709551616:Nat):Int)]) ∧ w'=w:=by
 go_enter Tryz.func217,Tryz.ntmps217
 go_wp2_with (go_at_call 246;go_must (refine (mul64_any x y hx hy _).mono ?_);rintro e w' ⟨rfl,hw⟩;rw [hw])
 go_ret2
 exact ⟨rfl,rfl⟩
theorem mul_one_any (n:Nat) (hn:n ≤ 100000) (w:World) :
  Calls Tryz.prog 217 #[.int .u64 1,.int .u64 n] w fun e w' => e=.returned (.tuple #[.int .u64 0,.int .u64 (n:Int)]) ∧ w=w':=by
 refine (mul_any 1 n (by omega) (by omega) w).mono ?_
 rintro e w' ⟨rfl,rfl⟩
 rw [Nat.one_mul,Nat.div_eq_of_lt (by omega),Nat.mod_eq_of_lt (by omega)]
 exact ⟨rfl,rfl⟩
theorem int_size1:(Tryz.prog.info? 3).map (·.size)=some 1:=by kernel_rfl
def fillR (v:Int) (n k:Nat):List Value:=List.replicate k (.int .i64 v) ++ List.replicate (n - k) (.int .i64 0)
theorem fillR_zero (v:Int) (n:Nat):fillR v n 0=List.replicate n (.int .i64 0):=by simp [fillR]
theorem fillR_len {v:Int} {n k:Nat} (h:k ≤ n):(fillR v n k).length=n:=by simp [fillR];omega
theorem fillR_splice {v:Int} {n k m:Nat} (_h:k + m ≤ n):splice (fillR v n k) k (List.replicate m (.int .i64 v))=fillR v n (k + m):=by
 unfold splice fillR
 rw [List.take_left' (by simp),List.drop_append,List.length_replicate,List.length_replicate]
 rw [List.drop_eq_nil_of_le (by simp),List.nil_append,show k + m - k=m by omega,List.drop_replicate,← List.append_assoc,List.replicate_append_replicate]
 congr 1
 rw [show n - k - m=n - (k + m) by omega]
theorem fillR_at {v:Int} {n k j:Nat} (h:j < k):(fillR v n k)[j]?=some (.int .i64 v):=by
 unfold fillR
 rw [List.getElem?_append_left (by simpa using h),List.getElem?_replicate,if_pos h]
theorem fillR_full (v:Int) (n:Nat):fillR v n n=List.replicate n (.int .i64 v):=by simp [fillR]
theorem cell_of_list {w:World} {g j:Nat} {l:List Value} {t:TypeId} {u:Value} (h:w.heap[g]?=some (.cells l.toArray t (0,0))) (hu:l[j]?=some u):w.cell? ⟨g,j,none⟩=some u:=by
 rw [cell_of_row w g j l.toArray t (0,0) h]
 simpa using hu
theorem made_row {v:Int} {n base g:Nat} {w:World} {R0:List Value} (hR:R0=fillR v n 0) (h:w.ownsRow base 3 1 (.slice (some ⟨g,0,none⟩) n n) n (madeCells (Value.int .i64 0).cells (n * 1)).toList):w.heap[g]?=some (.cells R0.toArray 3 (0,0)):=by
 rw [show (Value.int .i64 0).cells=#[Value.int .i64 0] from rfl,toList_madeCells_one,Nat.mul_one] at h
 rcases h.2 with ⟨h1,_⟩ | ⟨g1,cap,cur,e,_,h1,_,_,h4,h5⟩
 ·cases h1
 ·cases e
  rw [h1]
  have:cur=R0.toArray:=by
   apply Array.toList_inj.1
   rw [hR,fillR_zero]
   rw [← h5,List.take_of_length_le (by simp [h4])]
  rw [this]
theorem one_src {v:Int} {w:World} {g0:Nat} {C1:List Value} (h:C1=List.replicate 1 (.int .i64 v)) (hc:w.cell? ⟨g0,0,none⟩=some (.int .i64 v)) {j:Nat} {u:Value} (hu:C1[j]?=some u):w.cell? ((⟨g0,0,none⟩:Addr).add j)=some u:=by
 subst h
 rcases j with _ | j
 ·simp at hu
  subst hu
  exact hc
 ·simp at hu
theorem fill_src {v:Int} {w:World} {g n k m:Nat} {C R:List Value} (hC:C=List.replicate m (.int .i64 v)) (hR:R=fillR v n k) (hm:m ≤ k) (hg:w.heap[g]?=some (.cells R.toArray 3 (0,0))) {j:Nat} {u:Value} (hu:C[j]?=some u):w.cell? ((⟨g,0,none⟩:Addr).add j)=some u:=by
 subst hC hR
 rw [List.getElem?_replicate] at hu
 split at hu
 ·rename_i hj
  cases hu
  have:=cell_of_list hg (fillR_at (v:=v) (n:=n) (k:=k) (j:=j) (by omega))
  by_cases h0:j=0
  ·subst h0
   simpa [Addr.add] using this
  ·simpa [Addr.add,h0] using this
 ·cases hu
theorem rep_cells {v:Int} {m:Nat} {C:List Value} (hC:C=List.replicate m (.int .i64 v)):∀ u ∈ C,u.oneCell'=true:=by
 intro u hu
 subst hC
 rw [List.mem_replicate] at hu
 rw [hu.2]
 rfl
theorem own_of_row {v:Int} {n base g:Nat} {w:World} {R:List Value} (hR:R=fillR v n n) (hg:w.heap[g]?=some (.cells R.toArray 3 (0,0))) (hb:base ≤ g) (hn:n ≤ 100000):w.ownsRow base 3 1 (.slice (some ⟨g,0,none⟩) n n) n (List.replicate n (.int .i64 v)):=by
 rw [fillR_full] at hR
 subst hR
 exact ⟨by simp,.inr ⟨g,n,_,rfl,hb,hg,Nat.le_refl _,by unfold maxLen;omega,by simp,by simp⟩⟩
theorem drew1_below {B:Nat} {w w':World} (h:Below B w w'):Below B w w'.drew:=⟨h.os,h.tape,h.output,h.size,h.block⟩
def RepPost (v:Int) (n:Nat) (w:World) (e:Ending) (w':World):Prop :=
 ∃ g:Nat,e=.returned (.slice (some ⟨g,0,none⟩) n n) ∧ w'.ownsRow w.heap.size 3 1 (.slice (some ⟨g,0,none⟩) n n) n (List.replicate n (.int .i64 v)) ∧ Below w.heap.size w w'
set_option maxRecDepth 100000 in
set_option maxHeartbeats 600000 in
theorem repeat_any (v:Int) (n g0:Nat) (w:World) (h0:0 < n) (hn:n ≤ 100000) (hc:w.cell? ⟨g0,0,none⟩=some (.int .i64 v)) (hg0:g0 < w.heap.size) :
  Calls Tryz.prog 179 #[.slice (some ⟨g0,0,none⟩) 1 1,.int .i64 n] w (RepPost v n w):=by
 obtain ⟨i0,hix,hz0,hz1,hz2⟩:=info_parts int_info
 obtain ⟨C1,hC1⟩:∃ C1:List Value,C1=List.replicate 1 (.int .i64 v):=⟨_,rfl⟩
 obtain ⟨R0,hR0⟩:∃ R0:List Value,R0=fillR v n 0:=⟨_,rfl⟩
 have HC1:=hideI hC1
 have HR0:=hideI hR0
 have hl1:C1.length=1:=by rw [hC1];simp
 have hl0:R0.length=n:=by rw [hR0];exact fillR_len (Nat.zero_le _)
 have HL1:=hideI hl1
 have HL0:=hideI hl0
 have HC:Hid (w.cell? ⟨g0,0,none⟩=some (.int .i64 v)):=hc
 clear hC1 hR0 hl1 hl0 hc
 go_enter Tryz.func179,Tryz.ntmps179
 go_wp2_with (first
  | (go_at_call 217;go_must (refine (mul_one_any n hn _).mono ?_);rintro e w1 ⟨rfl,rfl⟩)
  | (at_make;go_must (refine wpList_make_full _ rfl _ _ 22 rfl w.heap.size 3 i0 (.int .i64 0) 1 Tryz.underlying22 hix hz0 hz1 .i64 .i64 _ _ n rfl rfl rfl rfl (by rw [hz2];omega) (by unfold maxLen;omega) (Nat.le_refl _) ?_);intro w1 hown1 hg1;go_must (have HG:Hid (w1.heap[w.heap.size]?=some (.cells R0.toArray 3 (0,0))):=made_row HR0.out hown1;have HB1:Hid (Below w.heap.size w w1):=hideI ((Below.refl _ _).grown hg1 (Nat.le_refl _) (by simp));have HCC:Hid (w1.cell? ⟨g0,0,none⟩=some (.int .i64 v)):=hideI ((HB1.out.cell (p:=⟨g0,0,none⟩) hg0).trans HC.out);clear hown1 hg1))
  | (with_reducible refine wpList_copy_splice rfl _ _ _ _ rfl 3 Tryz.underlying22 int_size1 _ _ _ _ _ _ rfl rfl w.heap.size 0 R0 3 HG.out C1 (by rw [HL1.out];exact (Nat.min_eq_left h0).symm) (fun _ => ⟨rfl,_,rfl,fun j u hu => one_src HC1.out HCC.out hu⟩) (by rw [HL1.out,HL0.out];omega) (rep_cells HC1.out) w.heap.size w HB1.out (Nat.le_refl _) ?_;intro w2 HG2 hB2;have HB2:=hideI hB2;rw [HL1.out];clear hB2))
 obtain ⟨R1,hR1⟩:∃ R1,R1=splice R0 0 C1:=⟨_,rfl⟩
 rw [← hR1] at HG2
 have HR1:Hid (R1=fillR v n 1):=by
  show _=_
  rw [hR1,HR0.out,HC1.out]
  exact fillR_splice (by omega)
 clear hR1
 go_loopw [8] (fun u wr => ∃ (k:Nat) (R:List Value),1 ≤ k ∧ k ≤ n ∧ u=.int .i64 k ∧ Hid (R=fillR v n k) ∧ Hid (wr.heap[w.heap.size]?=some (.cells R.toArray 3 (0,0))) ∧ Hid (Below w.heap.size w wr)) (fun u _ => n - (intOf u).toNat)
 case atStart => exact ⟨1,R1,Nat.le_refl _,by omega,rfl,HR1,HG2,HB2⟩
 case round =>
  obtain ⟨k,R,hk1,hk,rfl,HR,HGr,HBr⟩:=hrel
  by_cases hlt:k < n
  ·obtain ⟨m,hm⟩:∃ m,m=min k (n - k):=⟨_,rfl⟩
   obtain ⟨C,hC⟩:∃ C:List Value,C=List.replicate m (.int .i64 v):=⟨_,rfl⟩
   have hm1:m ≤ k:=by omega
   have hm2:k + m ≤ n:=by omega
   have hm3:1 ≤ m:=by omega
   have HM:=hideI hm
   have HC2:=hideI hC
   have HLC:Hid (C.length=m):=by show _=_;rw [hC];simp
   have HLR:Hid (R.length=n):=by show _=_;rw [HR.out];exact fillR_len hk
   clear hm hC
   have hkn:¬ n=k:=by omega
   have hlc:C.length ≤ 100000:=by rw [HLC.out];omega
   have hsum:IntKind.i64.wrap ((k:Int) + (C.length:Int))=(k:Int) + (C.length:Int):=IntWalk.i64_in _ (by omega)
   go_wp2
   go_region_law (refine step_copy_splice rfl (.tmp 41) (.tmp 44) 22 22 rfl 3 Tryz.underlying22 int_size1 (some ⟨w.heap.size,k,none⟩) (some ⟨w.heap.size,0,none⟩) (n - k) (n - k) k n (by simp [Act.eval,Act.put]) (by simp [Act.eval,Act.put]) w.heap.size k R 3 HGr.out C (by rw [HLC.out,HM.out]) (fun _ => ⟨rfl,_,rfl,fun j u hu => fill_src HC2.out HR.out hm1 HGr.out hu⟩) (by rw [HLC.out,HLR.out];exact hm2) (rep_cells HC2.out) w.heap.size w (drew1_below HBr.out) (Nat.le_refl _) ?_;intro w3 HG3 hB3;have HB3:=hideI hB3;clear hB3)
   obtain ⟨R3,hR3⟩:∃ R3,R3=splice R k C:=⟨_,rfl⟩
   rw [← hR3] at HG3
   have HR3:Hid (R3=fillR v n (k + m)):=by
    show _=_
    rw [hR3,HR.out,HC2.out]
    exact fillR_splice hm2
   clear hR3 hsum
   simp only [List.getElem_toArray,List.getElem_cons_zero,List.getElem_cons_succ,Act.put,List.setIfInBounds_toArray,List.set_cons_zero,List.set_cons_succ]
   go_wp2
   go_roundw
   case rel => exact ⟨k + m,R3,by omega,hm2,by rw [HLC.out];go_num,HR3,HG3,HB3⟩
   case measure => simp [intOf];rw [HLC.out];omega
  ·have hkn:k=n:=by omega
   have HKN:=hideI hkn
   clear hkn
   go_wp2
   go_ret
   exact ⟨w.heap.size,rfl,own_of_row (by rw [HR.out,HKN.out]) HGr.out (Nat.le_refl _) hn,HBr.out⟩
end Go.Proofs.YtikogmpibkefdaaGreat
namespace Go.Proofs.YtikogmpibkefdaaGreat
open Go.RowKit Go.Maps
theorem OrderIs.ord {bs:List BlockM} {o:List Nat} (h:OrderIs bs o):Ord (succM bs) o (fun b => o.idxOf b):=by
 obtain ⟨h1,h2,h3,h4⟩:=h.facts
 refine ⟨h1,fun i x hx => ?_,h3,h4⟩
 have hm:=List.mem_of_getElem? hx
 have hl:=List.idxOf_lt_length_of_mem hm
 have hi:=(List.getElem?_eq_some_iff.1 hx).1
 exact (List.getElem?_inj (l:=o) (i:=o.idxOf x) (j:=i) hl h2).1 (by rw [hx,List.getElem?_eq_getElem hl,List.getElem_idxOf])
theorem places_none (n:Nat) (pl:Nat → Nat):places n [] pl=List.replicate n (.int .i64 (-1)):=by
 unfold places
 apply List.ext_getElem?
 intro i
 by_cases hi:i < n
 ·rw [List.getElem?_map,List.getElem?_eq_getElem (by simpa using hi),List.getElem?_replicate,if_pos hi]
  simp [placeI]
 ·rw [List.getElem?_eq_none (by simp;omega),List.getElem?_eq_none (by simp;omega)]
theorem places_set {n i x:Nat} {o:List Nat} {pl:Nat → Nat} (hx:o[i]?=some x) (hp:pl x=i):(places n (o.take i) pl).set x (.int .i64 (i:Int))=places n (o.take (i + 1)) pl:=by
 unfold places
 apply List.ext_getElem?
 intro j
 by_cases hj:j < n
 ·by_cases e:x=j
  ·subst e
   rw [List.getElem?_set_self (by simpa using hj),List.getElem?_map,List.getElem?_eq_getElem (by simpa using hj)]
   have:x ∈ o.take (i + 1):=by rw [List.take_add_one,hx];simp
   simp [placeI,this,hp]
  ·rw [List.getElem?_set_ne e,List.getElem?_map,List.getElem?_map,List.getElem?_eq_getElem (by simpa using hj)]
   have:j ∈ o.take (i + 1) ↔ j ∈ o.take i:=by
    rw [List.take_add_one,hx]
    simp only [Option.toList_some,List.mem_append,List.mem_singleton]
    exact ⟨fun h => h.resolve_right (fun h2 => e h2.symm),.inl⟩
   simp [placeI,this]
 ·rw [List.getElem?_eq_none (by simp;omega),List.getElem?_eq_none (by simp;omega)]
theorem free_rowN {w w':World} {g:Nat} {cs:Array Value} {t:TypeId} (h:w.heap[g]?=some (.cells cs t (0,0))) (hk:w'.heap[g]?=w.heap[g]?) (o:Nat):w'.frozen? ⟨g,o,none⟩=false:=by
 rw [h] at hk
 simp [World.frozen?,hk]
theorem FlowAt.other {w:World} {B:Nat} {bs:List BlockM} {o:List Nat} {pl:Nat → Nat} {gp:Nat} {vs:List Value} {go capo gl:Nat} (h:FlowAt w B bs o pl gp vs go capo gl) (j:Nat) (h1:j ≠ gp) (h2:j ≠ go) (h3:j ≠ gl) (h4:∀ (t:Nat) v k,vs[t]?=some v → v.ownBlock=some k → j ≠ k) (off:Nat) (u:Value):FlowAt (w.setCell ⟨j,off,none⟩ u) B bs o pl gp vs go capo gl:=by
 refine ⟨⟨h.preds.vl,h.preds.ll,?_,fun t v l hv hl => ?_,h.preds.apart⟩,?_,?_,h.gp,h.go,h.gl,h.apart⟩
 ·exact ownsRow_setCell_other h.preds.row (a:=⟨j,off,none⟩) (by intro e;exact h1 (Option.some.inj e).symm) u
 ·exact ownsRow_setCell_other (h.preds.own t v l hv hl) (a:=⟨j,off,none⟩) (by intro e;exact h4 t v j hv e rfl) u
 ·exact ownsRow_setCell_other h.order (a:=⟨j,off,none⟩) (by intro e;exact h2 (Option.some.inj e).symm) u
 ·exact ownsRow_setCell_other h.place (a:=⟨j,off,none⟩) (by intro e;exact h3 (Option.some.inj e).symm) u
structure Flows (f:FuncM) (o:List Nat) (pl:Nat → Nat) (capo:Nat):Prop where
 order:OrderIs f.blocks o
 ord:Ord (succM f.blocks) o pl
 range:∀ x ∈ o,x < f.blocks.length
 len:o.length ≤ f.blocks.length
 cap:o.length ≤ capo
 most:capo ≤ maxLen
 n0:0 < f.blocks.length
 n5:f.blocks.length ≤ 512
structure FlowLow (lo gp:Nat) (vs:List Value) (go gl:Nat):Prop where
 gp:lo ≤ gp
 go:lo ≤ go
 gl:lo ≤ gl
 apart:∀ (t:Nat) v k,vs[t]?=some v → v.ownBlock=some k → lo ≤ k
def FlowPost (f:FuncM) (w:World) (e:Ending) (w':World):Prop :=
 ((lookM f).1 ≠ 0 ∧ e=.returned (.tuple #[.agg #[.slice none 0 0,.slice none 0 0,.slice none 0 0],.int .i64 (lookM f).1]) ∧ Below w.heap.size w w') ∨
 ((lookM f).1=0 ∧ ∃ (o:List Nat) (pl:Nat → Nat) (gp:Nat) (vs:List Value) (go capo gl:Nat),e=.returned (.tuple #[.agg #[.slice (some ⟨gp,0,none⟩) f.blocks.length f.blocks.length,.slice (some ⟨go,0,none⟩) o.length capo,.slice (some ⟨gl,0,none⟩) f.blocks.length f.blocks.length],.int .i64 0]) ∧ Flows f o pl capo ∧ FlowAt w' w'.heap.size f.blocks o pl gp vs go capo gl ∧ FlowLow w.heap.size gp vs go gl ∧ Below w.heap.size w w')
theorem own_cap {w:World} {base n cap g:Nat} {xs:List Value} (h:w.ownsRow base 3 1 (.slice (some ⟨g,0,none⟩) n cap) n xs):n ≤ cap ∧ cap ≤ maxLen:=by
 rcases h.2 with ⟨h1,_⟩ | ⟨g1,cap1,cur,e,_,_,h2,h3,_⟩
 ·cases h1
 ·cases e;exact ⟨h2,h3⟩
set_option maxRecDepth 100000 in
set_option maxHeartbeats 4000000 in
theorem flow_any (f:FuncM) (B:Nat) (pv bv:Value) (w:World) (hpv:Ints w B pv f.params) (hbv:BlocksR w B bv f.blocks) (hB:B ≤ w.heap.size) (hid:∀ u ∈ usesM f,I64 u.1) :
  Calls Tryz.prog 227 #[.agg #[pv,.int .i64 f.arrays,.int .i64 f.cells,bv]] w (FlowPost f w):=by
 have HP:=hideI hpv
 have HBL:=hideI hbv
 have HID:=hideI hid
 obtain ⟨P,pc,rfl,_⟩:=hpv
 obtain ⟨A,c,rfl,hbm,_⟩:=hbv
 obtain ⟨W0,hW0⟩:∃ W0,W0=(w.alloc (.cells #[.slice P f.params.length pc,.int .i64 f.arrays,.int .i64 f.cells,.slice A f.blocks.length c] 25)).alloc (.cells #[.slice none 0 0,.slice none 0 0,.slice none 0 0] 243):=⟨_,rfl⟩
 have hB0:Below w.heap.size w W0:=by rw [hW0];exact ((Below.refl _ w).alloc (Nat.le_refl _) _).alloc (by simp) _
 have hs0:W0.heap.size=w.heap.size + 2:=by rw [hW0];simp
 have hbox:W0.heap[w.heap.size]?=some (.cells #[.slice P f.params.length pc,.int .i64 f.arrays,.int .i64 f.cells,.slice A f.blocks.length c] 25 (0,0)):=by
  rw [hW0,Below.heap_alloc _ _ _ (by simp)]
  exact heap_alloc_new w _
 have hres:W0.heap[w.heap.size + 1]?=some (.cells #[.slice none 0 0,.slice none 0 0,.slice none 0 0] 243 (0,0)):=by
  rw [hW0]
  have:=heap_alloc_new (w.alloc (.cells #[.slice P f.params.length pc,.int .i64 f.arrays,.int .i64 f.cells,.slice A f.blocks.length c] 25)) (.cells #[.slice none 0 0,.slice none 0 0,.slice none 0 0] 243)
  simpa using this
 have HW0:=hideI hW0
 have HB0:=hideI hB0
 have HS0:=hideI hs0
 have G0:Hid (∀ W,Below W0.heap.size W0 W → (∀ o,W.cell? ⟨w.heap.size,o,none⟩=(#[.slice P f.params.length pc,.int .i64 f.arrays,.int .i64 f.cells,.slice A f.blocks.length c]:Array Value)[o]?) ∧ (∀ o,W.cell? ⟨w.heap.size + 1,o,none⟩=(#[.slice none 0 0,.slice none 0 0,.slice none 0 0]:Array Value)[o]?) ∧ (∀ o,W.frozen? ⟨w.heap.size + 1,o,none⟩=false)):=fun W hW => by
  have h1:=hW.block w.heap.size (by omega)
  have h2:=hW.block (w.heap.size + 1) (by omega)
  exact ⟨row_cells hbox h1,row_cells hres h2,fun o => free_rowN hres h2 o⟩
 have HPW:Hid (∀ W,Below W0.heap.size W0 W → Ints W B (.slice P f.params.length pc) f.params ∧ BlocksR W B (.slice A f.blocks.length c) f.blocks ∧ Below w.heap.size w W):=fun W hW => by
  have h1:Below w.heap.size w W:=HB0.out.trans (hW.mono (by omega))
  exact ⟨HP.out.keeps (Keeps.of_below (h1.mono hB)),HBL.out.keeps (Keeps.of_below (h1.mono hB)),h1⟩
 obtain ⟨q1,q2,q3⟩:=G0.out W0 (Below.refl _ _)
 have b0:=q1 0
 have b1:=q1 1
 have b2:=q1 2
 have b3:=q1 3
 have hBW0:B ≤ W0.heap.size:=by omega
 clear hid hW0 hB0 hs0 hbox hres q1 q2 q3
 by_cases h0:(lookM f).1=0
 ·have H0:=hideI h0
  have hnb:=look_some_block h0
  have HNB:=hideI hnb
  have hn0:=hnb.1
  have hn5:=hnb.2
  clear h0 hnb
  go_enter Tryz.func227,Tryz.ntmps227
  go_upto_region 1 with fail
  rw [← HW0.out]
  go_wp2_with (first
   | (go_at_call 111;go_must (refine (gPreds_yes f B _ _ _ (HPW.out _ (Below.refl _ _)).1 (HPW.out _ (Below.refl _ _)).2.1 hBW0 HID.out H0.out).mono ?_);rintro e w1 ⟨gp,vs,rfl,hls,hb1⟩;have HLS:=hideI hls;have HB1:=hideI hb1;obtain ⟨q1,q2,q3⟩:=G0.out _ hb1;clear b0 b1 b2 b3;have b0:=q1 0;have b1:=q1 1;have b2:=q1 2;have b3:=q1 3;clear q1 q2 q3 hb1 hls)
   | (go_at_call 46;go_must (refine (gOrder_yes f B _ _ _ (HPW.out _ HB1.out).1 (HPW.out _ HB1.out).2.1 (Nat.le_trans hBW0 HB1.out.size) HID.out H0.out).mono ?_);rintro e w2 ⟨o,go,capo,rfl,ho,ho0,ho1,hown,hb2⟩;have HORD:=hideI ho;have HOWN:=hideI hown;have HB2:=hideI hb2;clear b0 b1 b2 b3 ho hown hb2)
   | (go_at_call 179;go_must (refine (repeat_any (-1) f.blocks.length w2.heap.size _ hn0 (by omega) (row_cells (heap_alloc_new w2 _) rfl 0) (by simp)).mono ?_);rintro e w3 ⟨gl,rfl,hrep,hb3⟩;have HREP:=hideI hrep;have HB3:Hid (Below w2.heap.size w2 w3):=((Below.refl _ w2).alloc (Nat.le_refl _) _).trans (hb3.mono (by simp));clear hrep hb3))
  have hlg:=HREP.out.lt gl rfl
  have hsz2:w2.heap.size < gl:=by have:=hlg.1;simp at this;omega
  have HSG:=hideI hsz2
  have hplace:=World.ownsRow.mono HREP.out (Nat.zero_le _)
  rw [← places_none f.blocks.length (fun b => o.idxOf b),show ([]:List Nat)=o.take 0 by simp] at hplace
  have HPL:=hideI hplace
  clear hplace hlg HREP hsz2
  go_loopw [34] (fun u wr => ∃ i:Nat,i ≤ o.length ∧ u=.int .i64 i ∧ Hid (wr.ownsRow 0 3 1 (.slice (some ⟨gl,0,none⟩) f.blocks.length f.blocks.length) f.blocks.length (places f.blocks.length (o.take i) (fun b => o.idxOf b))) ∧ Hid (w3.grownBy wr (some gl))) (fun u _ => o.length - (intOf u).toNat)
  case atStart => exact ⟨0,Nat.zero_le _,rfl,HPL,hideI (World.grownBy.refl _ _)⟩
  case round =>
   obtain ⟨i,hi,rfl,HPr,HGr⟩:=hrel
   have hBr:Below w2.heap.size w2 wr:=HB3.out.grown HGr.out HB3.out.size (fun k hk => by cases hk;exact Nat.le_of_lt HSG.out)
   have HBr:=hideI hBr
   clear hBr
   by_cases hlt:i < o.length
   ·obtain ⟨x,hx⟩:∃ x,o[i]?=some x:=⟨_,List.getElem?_eq_getElem hlt⟩
    have hxl:=HORD.out.range (look_ends H0.out) hn0 x (List.mem_of_getElem? hx)
    have c1:=nat_cell (own_kept_below HOWN.out HBr.out (fun k hk => (HOWN.out.lt k hk).2)) hx
    have c2:wr.cell? ⟨gl,x,none⟩=some (.int .i64 (placeI (o.take i) (fun b => o.idxOf b) x)):=by rw [World.ownsRow.cellAt HPr.out x (by omega)];exact places_at hxl
    have c3:wr.frozen? ⟨gl,x,none⟩=false:=World.ownsRow.frozenAt HPr.out x
    have hst:=World.ownsRow.stored HPr.out x (.int .i64 (i:Int))
    rw [places_set hx (HORD.out.ord.place i x hx)] at hst
    have HST:=hideI hst
    clear hx hst
    go_wp2
    go_roundw
    case rel => exact ⟨i + 1,by omega,by go_num,hideI HST.out.1,hideI (HGr.out.trans HST.out.2)⟩
    case measure => simp [intOf];omega
   ·have hil:i=o.length:=by omega
    have HP2:Hid (wr.ownsRow 0 3 1 (.slice (some ⟨gl,0,none⟩) f.blocks.length f.blocks.length) f.blocks.length (places f.blocks.length o (fun b => o.idxOf b))):=by
     have h1:=HPr.out
     rw [hil,List.take_of_length_le (Nat.le_refl _)] at h1
     exact h1
    have HBF:Hid (Below W0.heap.size W0 wr):=(HB1.out.trans (HB2.out.mono HB1.out.size)).trans (HBr.out.mono (Nat.le_trans HB1.out.size HB2.out.size))
    obtain ⟨q1,q2,q3⟩:=G0.out _ HBF.out
    have s0:=q2 0
    have s1:=q2 1
    have s2:=q2 2
    have g0:=q3 0
    have g1:=q3 1
    have g2:=q3 2
    have hs0:=HS0.out
    have hsr:W0.heap.size ≤ wr.heap.size:=HBF.out.size
    clear q1 q2 q3 hil HPr
    go_wp2
    have hlsr:Lists wr 0 gp f.blocks.length vs (predsAt f.blocks f.blocks.length f.blocks.length 0):=(HLS.out.mono (Nat.zero_le _)).kept (HB2.out.trans (HBr.out.mono HB2.out.size))
    have hp1:=HLS.out.lt
    have hor:=own_kept_below HOWN.out HBr.out (fun k hk => (HOWN.out.lt k hk).2)
    have hg1:=HOWN.out.lt go rfl
    have hg2:=HP2.out.lt gl rfl
    have hs1:=HB1.out.size
    have hs2:=HB2.out.size
    have hs3:=HBr.out.size
    have hsg:=HSG.out
    have hap:∀ (t:Nat) v k,vs[t]?=some v → v.ownBlock=some k → gp + 1 ≤ k ∧ k < w1.heap.size:=by
     intro t v k hv hk
     have htl:t < (predsAt f.blocks f.blocks.length f.blocks.length 0).length:=by rw [HLS.out.ll,← HLS.out.vl];exact (List.getElem?_eq_some_iff.1 hv).1
     exact (HLS.out.own t v _ hv (List.getElem?_eq_getElem htl)).lt k hk
    refine bodyPost_ret (v:=.tuple #[.agg #[.slice (some ⟨gp,0,none⟩) f.blocks.length f.blocks.length,.slice (some ⟨go,0,none⟩) o.length capo,.slice (some ⟨gl,0,none⟩) f.blocks.length f.blocks.length],.int .i64 0]) (by simp [results,Tryz.results227,go_sem,s0,s1,s2]) rfl (.inr ⟨H0.out,o,_,gp,vs,go,capo,gl,rfl,⟨HORD.out,HORD.out.ord,HORD.out.range (look_ends H0.out) hn0,ho1,(own_cap HOWN.out).1,(own_cap HOWN.out).2,hn0,hn5⟩,?_,⟨by omega,by omega,by omega,fun t v k hv hk => by have:=hap t v k hv hk;omega⟩,?_⟩)
    ·have hF:FlowAt wr wr.heap.size f.blocks o (fun b => o.idxOf b) gp vs go capo gl:=⟨hlsr,World.ownsRow.mono hor (Nat.zero_le _),HP2.out,by omega,by omega,hg2.2,fun t v k hv hk => by have:=hap t v k hv hk;omega⟩
     have hj:∀ (t:Nat) v k,vs[t]?=some v → v.ownBlock=some k → w.heap.size + 1 ≠ k:=fun t v k hv hk => by have:=hap t v k hv hk;omega
     have hF1:=((hF.other (w.heap.size + 1) (by omega) (by omega) (by omega) hj 0 (.slice (some ⟨gp,0,none⟩) f.blocks.length f.blocks.length)).other (w.heap.size + 1) (by omega) (by omega) (by omega) hj 1 (.slice (some ⟨go,0,none⟩) o.length capo)).other (w.heap.size + 1) (by omega) (by omega) (by omega) hj 2 (.slice (some ⟨gl,0,none⟩) f.blocks.length f.blocks.length)
     simpa using hF1
    ·exact (((HPW.out _ HBF.out).2.2.setCell (by simp) _).setCell (by simp) _).setCell (by simp) _
 ·have H0:=hideI h0
  have hb:((lookM f).1 != 0)=true:=by simpa using h0
  clear h0
  go_enter Tryz.func227,Tryz.ntmps227
  go_upto_region 1 with fail
  rw [← HW0.out]
  go_wp2_with (first
   | (go_at_call 111;go_must (refine (gPreds_no f B _ _ _ (HPW.out _ (Below.refl _ _)).1 (HPW.out _ (Below.refl _ _)).2.1 hBW0 HID.out H0.out).mono ?_);rintro e w1 ⟨rfl,hb1⟩;have HB1:=hideI hb1;obtain ⟨q1,q2,q3⟩:=G0.out _ hb1;have s0:=q2 0;have s1:=q2 1;have s2:=q2 2;have g0:=q3 0;have g1:=q3 1;have g2:=q3 2;clear q1 q2 q3 hb1 b0 b1 b2 b3))
  refine bodyPost_ret (v:=.tuple #[.agg #[.slice none 0 0,.slice none 0 0,.slice none 0 0],.int .i64 (lookM f).1]) (by simp [results,Tryz.results227,go_sem,s0,s1,s2]) rfl (.inl ⟨H0.out,rfl,?_⟩)
  exact (((HPW.out _ HB1.out).2.2.setCell (by simp) _).setCell (by simp) _).setCell (by simp) _
end Go.Proofs.YtikogmpibkefdaaGreat
namespace Go.Proofs.YtikogmpibkefdaaGreat
open Go.RowKit Go.Maps
def TreePost (f:FuncM) (w:World) (e:Ending) (w':World):Prop :=
 ((lookM f).1 ≠ 0 ∧ e=.returned (.tuple #[.agg #[.slice none 0 0,.slice none 0 0,.slice none 0 0,.slice none 0 0],.int .i64 (lookM f).1]) ∧ Below w.heap.size w w') ∨
 ((lookM f).1=0 ∧ ∃ (o:List Nat) (pl:Nat → Nat) (par:Nat → Option Nat) (B gp:Nat) (vs:List Value) (go capo gl gi:Nat),e=.returned (.tuple #[.agg #[.slice (some ⟨gp,0,none⟩) f.blocks.length f.blocks.length,.slice (some ⟨go,0,none⟩) o.length capo,.slice (some ⟨gl,0,none⟩) f.blocks.length f.blocks.length,.slice (some ⟨gi,0,none⟩) f.blocks.length f.blocks.length],.int .i64 0]) ∧ Flows f o pl capo ∧ Done (succM f.blocks) o pl par ∧ TreeAt w' B f.blocks o pl par gp vs go capo gl gi ∧ w.heap.size ≤ B ∧ Below w.heap.size w w')
theorem drew_alloc_below {w w':World} {o:Obj} (h:Below (w.alloc o).drew.heap.size (w.alloc o).drew w'):Below w.heap.size w w':=by
 have h2:Below (w.alloc o).heap.size (w.alloc o) w':=⟨h.os,h.tape,h.output,h.size,h.block⟩
 exact ((Below.refl _ w).alloc (Nat.le_refl _) _).trans (h2.mono (by simp))
theorem drew_new_cell {w:World} {v:Value} {t:TypeId}:(w.alloc (.cells #[v] t)).drew.cell? ⟨w.heap.size,0,none⟩=some v:=row_cells (heap_alloc_new w _) rfl 0
theorem drew_alloc2 {w w':World} {o o2:Obj} (h:Below ((w.alloc o).alloc o2).drew.heap.size ((w.alloc o).alloc o2).drew w'):Below w.heap.size w w' ∧ w'.heap[w.heap.size + 1]?=((w.alloc o).alloc o2).heap[w.heap.size + 1]?:=by
 have h2:Below ((w.alloc o).alloc o2).heap.size ((w.alloc o).alloc o2) w':=⟨h.os,h.tape,h.output,h.size,h.block⟩
 exact ⟨(((Below.refl _ w).alloc (Nat.le_refl _) _).alloc (by simp) _).trans (h2.mono (by simp;omega)),h2.block _ (by simp)⟩
theorem drew_new_cell2 {w:World} {v:Value} {t:TypeId} {o2:Obj}:((w.alloc (.cells #[v] t)).alloc o2).drew.cell? ⟨w.heap.size,0,none⟩=some v :=
 row_cells (w:=(w.alloc (.cells #[v] t)).alloc o2) (w':=((w.alloc (.cells #[v] t)).alloc o2).drew) (g:=w.heap.size) (cs:=#[v]) (t:=t) (by rw [Below.heap_alloc _ _ _ (by simp)];exact heap_alloc_new w _) rfl 0
theorem one_lt6 {w:World} {o:Obj}:w.heap.size < (w.alloc o).drew.heap.size:=by
 show w.heap.size < (w.alloc o).heap.size
 simp
theorem two_lt6 {w:World} {o o2:Obj}:w.heap.size < ((w.alloc o).alloc o2).drew.heap.size:=by
 show w.heap.size < ((w.alloc o).alloc o2).heap.size
 simp
 omega
theorem new_two {w:World} {o o2:Obj}:((w.alloc o).alloc o2).heap[w.heap.size + 1]?=(((w.alloc o).alloc o2).heap[(w.alloc o).heap.size]?):=by simp
theorem drew_new_cell3 {w:World} {v:Value} {t:TypeId} {o2:Obj}:((w.alloc o2).alloc (.cells #[v] t)).drew.cell? ⟨w.heap.size + 1,0,none⟩=some v :=
 row_cells (w:=(w.alloc o2).alloc (.cells #[v] t)) (w':=((w.alloc o2).alloc (.cells #[v] t)).drew) (g:=w.heap.size + 1) (cs:=#[v]) (t:=t) (by have:=heap_alloc_new (w.alloc o2) (.cells #[v] t);simpa using this) rfl 0
theorem drew_alloc3 {w w':World} {o o2:Obj} (h:Below ((w.alloc o).alloc o2).drew.heap.size ((w.alloc o).alloc o2).drew w'):Below w.heap.size w w' ∧ w'.heap[w.heap.size]?=((w.alloc o).alloc o2).heap[w.heap.size]?:=by
 have h2:Below ((w.alloc o).alloc o2).heap.size ((w.alloc o).alloc o2) w':=⟨h.os,h.tape,h.output,h.size,h.block⟩
 exact ⟨(((Below.refl _ w).alloc (Nat.le_refl _) _).alloc (by simp) _).trans (h2.mono (by simp;omega)),h2.block _ (by simp;omega)⟩
theorem new_two3 {w:World} {o o2:Obj}:((w.alloc o).alloc o2).heap[w.heap.size]?=(w.alloc o).heap[w.heap.size]?:=Below.heap_alloc _ _ _ (by simp)
theorem TreeAt.low {w:World} {B lo:Nat} {bs:List BlockM} {o:List Nat} {pl:Nat → Nat} {par:Nat → Option Nat} {gp:Nat} {vs:List Value} {go capo gl gi:Nat} (h:TreeAt w B bs o pl par gp vs go capo gl gi) (hl:FlowLow lo gp vs go gl) (hB:lo ≤ B) {j:Nat} (hj:j < lo) (off:Nat) (u:Value):TreeAt (w.setCell ⟨j,off,none⟩ u) B bs o pl par gp vs go capo gl gi:=by
 have h1:=hl.gp
 have h2:=hl.go
 have h3:=hl.gl
 have h4:=h.lt.1
 exact ⟨h.flow.other j (by omega) (by omega) (by omega) (fun t v k hv hk => by have:=hl.apart t v k hv hk;omega) off u,ownsRow_setCell_other h.idoms (a:=⟨j,off,none⟩) (by intro e;have:=Option.some.inj e;simp at this;omega) u⟩
theorem two_lt7 {w:World} {o o2:Obj}:w.heap.size + 1 < ((w.alloc o).alloc o2).drew.heap.size:=by
 show w.heap.size + 1 < ((w.alloc o).alloc o2).heap.size
 simp
structure SixAt (W1 wx:World) (n lo gp go capo gl g6 gi:Nat):Prop where
 row:wx.heap[g6]?=some (.cells #[.slice (some ⟨gp,0,none⟩) n n,.slice (some ⟨go,0,none⟩) lo capo,.slice (some ⟨gl,0,none⟩) n n,.slice (some ⟨gi,0,none⟩) n n] 245 (0,0))
 own:wx.ownsRow W1.heap.size 3 1 (.slice (some ⟨gi,0,none⟩) n n) n (List.replicate n (.int .i64 (-1)))
 ne:g6 ≠ gi
 low:W1.heap.size ≤ g6
 below:Below W1.heap.size W1 wx
theorem SixAt.late {W1 w3:World} {n lo gp go capo gl gi base:Nat} (hb:Below W1.heap.size W1 w3) (ho:w3.ownsRow base 3 1 (.slice (some ⟨gi,0,none⟩) n n) n (List.replicate n (.int .i64 (-1)))) (hbase:W1.heap.size ≤ base) :
  SixAt W1 (w3.alloc (.cells #[.slice (some ⟨gp,0,none⟩) n n,.slice (some ⟨go,0,none⟩) lo capo,.slice (some ⟨gl,0,none⟩) n n,.slice (some ⟨gi,0,none⟩) n n] 245)) n lo gp go capo gl w3.heap.size gi :=
 ⟨heap_alloc_new w3 _,(World.ownsRow.mono ho hbase).alloc _,by have:=(ho.lt gi rfl).2;omega,hb.size,hb.alloc hb.size _⟩
theorem SixAt.early {W1 w3:World} {n lo gp go capo gl gi g6 base:Nat} (hb:Below W1.heap.size W1 w3) (ho:w3.ownsRow base 3 1 (.slice (some ⟨gi,0,none⟩) n n) n (List.replicate n (.int .i64 (-1)))) (hbase:g6 < base) (hlow:W1.heap.size ≤ g6)
  (hrow:w3.heap[g6]?=some (.cells #[.slice none 0 0,.slice none 0 0,.slice none 0 0,.slice none 0 0] 245 (0,0))) :
  SixAt W1 ((((w3.setCell ⟨g6,0,none⟩ (.slice (some ⟨gp,0,none⟩) n n)).setCell ⟨g6,1,none⟩ (.slice (some ⟨go,0,none⟩) lo capo)).setCell ⟨g6,2,none⟩ (.slice (some ⟨gl,0,none⟩) n n)).setCell ⟨g6,3,none⟩ (.slice (some ⟨gi,0,none⟩) n n)) n lo gp go capo gl g6 gi:=by
 have hg:=(ho.lt gi rfl).1
 refine ⟨?_,?_,by omega,hlow,(((hb.setCell (by simpa using hlow) _).setCell (by simpa using hlow) _).setCell (by simpa using hlow) _).setCell (by simpa using hlow) _⟩
 ·have h1:=heap_setCell_same w3 g6 0 _ _ (.slice (some ⟨gp,0,none⟩) n n) hrow
  have h2:=heap_setCell_same _ g6 1 _ _ (.slice (some ⟨go,0,none⟩) lo capo) h1
  have h3:=heap_setCell_same _ g6 2 _ _ (.slice (some ⟨gl,0,none⟩) n n) h2
  have h4:=heap_setCell_same _ g6 3 _ _ (.slice (some ⟨gi,0,none⟩) n n) h3
  simpa using h4
 ·have hne:∀ off:Nat,(Value.slice (some ⟨gi,0,none⟩) n n).ownBlock ≠ some (⟨g6,off,none⟩:Addr).block:=by
   intro off e
   have:=Option.some.inj e
   simp at this
   omega
  exact ownsRow_setCell_other (ownsRow_setCell_other (ownsRow_setCell_other (ownsRow_setCell_other (World.ownsRow.mono ho (by omega)) (hne 0) _) (hne 1) _) (hne 2) _) (hne 3) _
set_option maxRecDepth 100000 in
set_option maxHeartbeats 4000000 in
theorem treeOf_any (f:FuncM) (B:Nat) (pv bv:Value) (w:World) (hpv:Ints w B pv f.params) (hbv:BlocksR w B bv f.blocks) (hB:B ≤ w.heap.size) (hid:∀ u ∈ usesM f,I64 u.1) :
  Calls Tryz.prog 189 #[.agg #[pv,.int .i64 f.arrays,.int .i64 f.cells,bv]] w (TreePost f w):=by
 have HP:=hideI hpv
 have HBL:=hideI hbv
 have HID:=hideI hid
 obtain ⟨P,pc,rfl,_⟩:=hpv
 obtain ⟨A,c,rfl,hbm,_⟩:=hbv
 obtain ⟨W0,hW0⟩:∃ W0,W0=(w.alloc (.cells #[.slice P f.params.length pc,.int .i64 f.arrays,.int .i64 f.cells,.slice A f.blocks.length c] 25)).alloc (.cells #[.slice none 0 0,.slice none 0 0,.slice none 0 0,.slice none 0 0] 245):=⟨_,rfl⟩
 have hB0:Below w.heap.size w W0:=by rw [hW0];exact ((Below.refl _ w).alloc (Nat.le_refl _) _).alloc (by simp) _
 have hs0:W0.heap.size=w.heap.size + 2:=by rw [hW0];simp
 have hbox:W0.heap[w.heap.size]?=some (.cells #[.slice P f.params.length pc,.int .i64 f.arrays,.int .i64 f.cells,.slice A f.blocks.length c] 25 (0,0)):=by
  rw [hW0,Below.heap_alloc _ _ _ (by simp)]
  exact heap_alloc_new w _
 have hres:W0.heap[w.heap.size + 1]?=some (.cells #[.slice none 0 0,.slice none 0 0,.slice none 0 0,.slice none 0 0] 245 (0,0)):=by
  rw [hW0]
  have:=heap_alloc_new (w.alloc (.cells #[.slice P f.params.length pc,.int .i64 f.arrays,.int .i64 f.cells,.slice A f.blocks.length c] 25)) (.cells #[.slice none 0 0,.slice none 0 0,.slice none 0 0,.slice none 0 0] 245)
  simpa using this
 have HW0:=hideI hW0
 have HB0:=hideI hB0
 have HS0:=hideI hs0
 have G0:Hid (∀ W,Below W0.heap.size W0 W → (∀ o,W.cell? ⟨w.heap.size,o,none⟩=(#[.slice P f.params.length pc,.int .i64 f.arrays,.int .i64 f.cells,.slice A f.blocks.length c]:Array Value)[o]?) ∧ (∀ o,W.cell? ⟨w.heap.size + 1,o,none⟩=(#[.slice none 0 0,.slice none 0 0,.slice none 0 0,.slice none 0 0]:Array Value)[o]?) ∧ (∀ o,W.frozen? ⟨w.heap.size + 1,o,none⟩=false)):=fun W hW => by
  have h1:=hW.block w.heap.size (by omega)
  have h2:=hW.block (w.heap.size + 1) (by omega)
  exact ⟨row_cells hbox h1,row_cells hres h2,fun o => free_rowN hres h2 o⟩
 have HPW:Hid (∀ W,Below W0.heap.size W0 W → Ints W B (.slice P f.params.length pc) f.params ∧ BlocksR W B (.slice A f.blocks.length c) f.blocks ∧ Below w.heap.size w W):=fun W hW => by
  have h1:Below w.heap.size w W:=HB0.out.trans (hW.mono (by omega))
  exact ⟨HP.out.keeps (Keeps.of_below (h1.mono hB)),HBL.out.keeps (Keeps.of_below (h1.mono hB)),h1⟩
 obtain ⟨q1,q2,q3⟩:=G0.out W0 (Below.refl _ _)
 have b0:=q1 0
 have b1:=q1 1
 have b2:=q1 2
 have b3:=q1 3
 have hBW0:B ≤ W0.heap.size:=by omega
 have HFL:=hideI (flow_any f B _ _ W0 (HPW.out _ (Below.refl _ _)).1 (HPW.out _ (Below.refl _ _)).2.1 hBW0 HID.out)
 clear hid hW0 hB0 hs0 hbox hres q1 q2 q3
 by_cases h0:(lookM f).1=0
 ·have H0:=hideI h0
  clear h0
  go_enter Tryz.func189,Tryz.ntmps189
  go_upto_region 1 with fail
  rw [← HW0.out]
  go_wp2_with (first
   | (go_at_call 227;go_must (refine HFL.out.mono ?_);rintro e w1 (⟨hbad,_⟩ | ⟨_,o,pl,gp,vs,go,capo,gl,rfl,hfs,hfa,hlow,hb1⟩);(exact absurd H0.out hbad);have HFS:=hideI hfs;have HFA:=hideI hfa;have HLOW:=hideI hlow;have HB1:=hideI hb1;clear hfs hfa hlow hb1 b0 b1 b2 b3))
  obtain ⟨W1,hW1⟩:∃ W1,W1=w1.alloc (.cells #[.slice (some ⟨gp,0,none⟩) f.blocks.length f.blocks.length,.slice (some ⟨go,0,none⟩) o.length capo,.slice (some ⟨gl,0,none⟩) f.blocks.length f.blocks.length] 243):=⟨_,rfl⟩
  rw [← hW1]
  have hfc:W1.heap[w1.heap.size]?=some (.cells #[.slice (some ⟨gp,0,none⟩) f.blocks.length f.blocks.length,.slice (some ⟨go,0,none⟩) o.length capo,.slice (some ⟨gl,0,none⟩) f.blocks.length f.blocks.length] 243 (0,0)):=by rw [hW1];exact heap_alloc_new w1 _
  have hs1:w1.heap.size < W1.heap.size:=by rw [hW1];simp
  have HBW1:Hid (Below w1.heap.size w1 W1):=by show Below _ _ _;rw [hW1];exact (Below.refl _ _).alloc (Nat.le_refl _) _
  have HFC:=hideI hfc
  have hxr:=row_cells hfc rfl
  have q0:=hxr 0
  have q1:=hxr 1
  have q2:=hxr 2
  have G4:Hid (∀ W,Below W1.heap.size W1 W → W.cell? ⟨w1.heap.size,0,none⟩=some (.slice (some ⟨gp,0,none⟩) f.blocks.length f.blocks.length) ∧ W.cell? ⟨w1.heap.size,1,none⟩=some (.slice (some ⟨go,0,none⟩) o.length capo) ∧ W.cell? ⟨w1.heap.size,2,none⟩=some (.slice (some ⟨gl,0,none⟩) f.blocks.length f.blocks.length)):=by
   intro W hW
   have hx:=row_cells HFC.out (hW.block _ hs1)
   exact ⟨hx 0,hx 1,hx 2⟩
  have hn0:=HFS.out.n0
  have hn5:=HFS.out.n5
  have hn6:f.blocks.length ≤ 100000:=by omega
  clear hW1 hxr hfc
  go_cut [6] (fun s6 wx => ∃ g6 gi:Nat,s6=.pointer (some ⟨g6,0,none⟩) ∧ Hid (SixAt W1 wx f.blocks.length o.length gp go capo gl g6 gi))
  case first =>
   go_region_held3 (fun w' => w'.cell? ⟨w1.heap.size,0,none⟩=some (.slice (some ⟨gp,0,none⟩) f.blocks.length f.blocks.length) ∧ w'.cell? ⟨w1.heap.size,1,none⟩=some (.slice (some ⟨go,0,none⟩) o.length capo) ∧ w'.cell? ⟨w1.heap.size,2,none⟩=some (.slice (some ⟨gl,0,none⟩) f.blocks.length f.blocks.length)) (first | (with_reducible exact G4.out _ hfb) | (with_reducible exact G4.out _ (hfb.alloc hfb.size _)) | (with_reducible exact G4.out _ ((((hfb.setCell (Nat.le_succ _) _).setCell (Nat.le_succ _) _).setCell (Nat.le_succ _) _).setCell (Nat.le_succ _) _)) | (with_reducible exact G4.out _ ((((hfb.setCell (Nat.le_refl _) _).setCell (Nat.le_refl _) _).setCell (Nat.le_refl _) _).setCell (Nat.le_refl _) _)) | go_keep)
    (first
     | (go_at_call 179;(with_reducible refine (repeat_any (-1) f.blocks.length W1.heap.size (W1.alloc (.cells #[.int .i64 (-1)] 3)).drew hn0 hn6 drew_new_cell one_lt6).mono ?_);rintro e w3 ⟨gi,rfl,hrep,hb3⟩;have hfb:=drew_alloc_below hb3)
     | (go_at_call 179;(with_reducible refine (repeat_any (-1) f.blocks.length W1.heap.size ((W1.alloc (.cells #[.int .i64 (-1)] 3)).alloc (.cells #[.slice none 0 0,.slice none 0 0,.slice none 0 0,.slice none 0 0] 245)).drew hn0 hn6 drew_new_cell2 two_lt6).mono ?_);rintro e w3 ⟨gi,rfl,hrep,hb3⟩;obtain ⟨hfb,h6⟩:=drew_alloc2 hb3;replace h6:=h6.trans (new_two.trans (heap_alloc_new _ _));have hx6:=row_cells h6 rfl;have hz6:=free_rowN h6 rfl;have s0:=hx6 0;have s1:=hx6 1;have s2:=hx6 2;have s3:=hx6 3;have z0:=hz6 0;have z1:=hz6 1;have z2:=hz6 2;have z3:=hz6 3)
     | (go_at_call 179;(with_reducible refine (repeat_any (-1) f.blocks.length (W1.heap.size + 1) ((W1.alloc (.cells #[.slice none 0 0,.slice none 0 0,.slice none 0 0,.slice none 0 0] 245)).alloc (.cells #[.int .i64 (-1)] 3)).drew hn0 hn6 drew_new_cell3 two_lt7).mono ?_);rintro e w3 ⟨gi,rfl,hrep,hb3⟩;obtain ⟨hfb,h6⟩:=drew_alloc3 hb3;replace h6:=h6.trans (new_two3.trans (heap_alloc_new _ _));have hx6:=row_cells h6 rfl;have hz6:=free_rowN h6 rfl;have s0:=hx6 0;have s1:=hx6 1;have s2:=hx6 2;have s3:=hx6 3;have z0:=hz6 0;have z1:=hz6 1;have z2:=hz6 2;have z3:=hz6 3))
   all_goals (go_wp2_with fail;go_meet)
   ·exact ⟨_,gi,rfl,hideI (SixAt.late hfb hrep (Nat.le_of_lt one_lt6))⟩
   ·exact ⟨_,gi,rfl,hideI (SixAt.early hfb hrep two_lt7 (Nat.le_succ _) h6)⟩
   ·exact ⟨_,gi,rfl,hideI (SixAt.early hfb hrep two_lt6 (Nat.le_refl _) h6)⟩
  case rest =>
   obtain ⟨g6,gi,rfl,HSX⟩:=hcut
   clear q0 q1 q2
   obtain ⟨wx,rfl⟩:∃ wx:World,wx=wc:=⟨_,rfl⟩
   have hx:=row_cells HSX.out.row rfl
   have r0:=hx 0
   have r1:=hx 1
   have r2:=hx 2
   have r3:=hx 3
   clear hx
   have HTX:Hid (TreeAt wx W1.heap.size f.blocks o pl (fun _ => none) gp vs go capo gl gi):=hideI ⟨((HFA.out.kept HBW1.out).more HBW1.out.size).kept HSX.out.below,by rw [tops_none];exact HSX.out.own⟩
   have hs0:=HS0.out
   have hsw1:W0.heap.size ≤ w1.heap.size:=HB1.out.size
   have hswx:W1.heap.size ≤ wx.heap.size:=HSX.out.below.size
   have HBX:Hid (Below W0.heap.size W0 wx):=(HB1.out.trans (HBW1.out.mono hsw1)).trans (HSX.out.below.mono (by omega))
   have hgi:=HTX.out.lt
   have HG6:Hid (g6 ≠ gi ∧ g6 < wx.heap.size):=⟨HSX.out.ne,lt_of_heap HSX.out.row⟩
   go_wp2_with (go_at_call 228;go_must (refine (grow_any f.blocks o pl W1.heap.size gp go capo gl gi vs _ HTX.out HFS.out.ord HFS.out.range HFS.out.n5 HFS.out.len HFS.out.cap HFS.out.most).mono ?_);rintro e w5 ⟨par,rfl,hdone,htree,hg⟩;have HDONE:=hideI hdone;have HTREE:=hideI htree;have HG:=hideI hg;clear hdone htree hg r0 r1 r2 r3;have hx:=row_cells HSX.out.row (HG.out.block g6 HG6.out.2 (fun e => HG6.out.1 (Option.some.inj e)));have r0:=hx 0;have r1:=hx 1;have r2:=hx 2;have r3:=hx 3;have HB5:Hid (Below W0.heap.size W0 w5):=HBX.out.grown HG.out HBX.out.size (fun k hk => by cases hk;omega);obtain ⟨q1,q2,q3⟩:=G0.out _ HB5.out;have s0:=q2 0;have s1:=q2 1;have s2:=q2 2;have s3:=q2 3;have g0:=q3 0;have g1:=q3 1;have g2:=q3 2;have g3:=q3 3;clear hx q1 q2 q3)
   refine bodyPost_ret (v:=.tuple #[.agg #[.slice (some ⟨gp,0,none⟩) f.blocks.length f.blocks.length,.slice (some ⟨go,0,none⟩) o.length capo,.slice (some ⟨gl,0,none⟩) f.blocks.length f.blocks.length,.slice (some ⟨gi,0,none⟩) f.blocks.length f.blocks.length],.int .i64 0]) (by simp [results,Tryz.results189,go_sem,s0,s1,s2,s3]) rfl (.inr ⟨H0.out,o,pl,par,W1.heap.size,gp,vs,go,capo,gl,gi,rfl,HFS.out,HDONE.out,?_,by omega,?_⟩)
   ·have hlo:=HLOW.out
    exact (((HTREE.out.low hlo (by omega) (j:=w.heap.size + 1) (by omega) 0 _).low hlo (by omega) (j:=w.heap.size + 1) (by omega) 1 _).low hlo (by omega) (j:=w.heap.size + 1) (by omega) 2 _).low hlo (by omega) (j:=w.heap.size + 1) (by omega) 3 _
   ·exact ((((HPW.out _ HB5.out).2.2.setCell (by simp) _).setCell (by simp) _).setCell (by simp) _).setCell (by simp) _
 ·have H0:=hideI h0
  have hb:((lookM f).1 != 0)=true:=by simpa using h0
  clear h0
  go_enter Tryz.func189,Tryz.ntmps189
  go_upto_region 1 with fail
  rw [← HW0.out]
  go_wp2_with (first
   | (go_at_call 227;go_must (refine HFL.out.mono ?_);rintro e w1 (⟨_,rfl,hb1⟩ | ⟨hbad,_⟩);rotate_left;(exact absurd hbad H0.out);have HB1:=hideI hb1;have hb2:=hb1.alloc hb1.size (.cells #[.slice none 0 0,.slice none 0 0,.slice none 0 0] 243);obtain ⟨q1,q2,q3⟩:=G0.out _ hb2;have s0:=q2 0;have s1:=q2 1;have s2:=q2 2;have s3:=q2 3;have g0:=q3 0;have g1:=q3 1;have g2:=q3 2;have g3:=q3 3;clear q1 q2 q3 hb1 hb2 b0 b1 b2 b3))
  refine bodyPost_ret (v:=.tuple #[.agg #[.slice none 0 0,.slice none 0 0,.slice none 0 0,.slice none 0 0],.int .i64 (lookM f).1]) (by simp [results,Tryz.results189,go_sem,s0,s1,s2,s3]) rfl (.inl ⟨H0.out,rfl,?_⟩)
  exact (((((HPW.out _ HB1.out).2.2.alloc (HPW.out _ HB1.out).2.2.size _).setCell (by simp) _).setCell (by simp) _).setCell (by simp) _).setCell (by simp) _
end Go.Proofs.YtikogmpibkefdaaGreat

namespace Go.Proofs.YtikogmpibkefdaaGreat
open Go.RowKit Go.Maps
def ChangedPost (f:FuncM) (w:World) (e:Ending) (w':World):Prop :=
 ∃ (v1:Vals) (base:Nat) (P:Option Addr) (pc:Nat) (A:Option Addr) (c:Nat) (nx:Int),e=.returned (.agg #[.slice P f.params.length pc,.int .i64 f.arrays,.int .i64 f.cells,.slice A f.blocks.length c,.int .i64 nx]) ∧ v1 .params=.slice P f.params.length pc ∧ v1 .blocks=.slice A f.blocks.length c ∧ OwnG w' base (rowOf f v1) v1 (EE f f.blocks.length) ∧ w.heap.size ≤ base ∧ Below w.heap.size w w'
set_option maxRecDepth 100000 in
set_option maxHeartbeats 8000000 in
theorem changed_any (f:FuncM) (B:Nat) (pv bv:Value) (w:World) (hpv:Ints w B pv f.params) (hbv:BlocksR w B bv f.blocks) (hB:B ≤ w.heap.size) (hid:∀ u ∈ usesM f,I64 u.1) (hr:∀ x ∈ idsOut f,0 ≤ x ∧ x ≤ 1048575) (h0:(lookM f).1=0) (hf:FnFits f) :
  Calls Tryz.prog 117 #[.agg #[pv,.int .i64 f.arrays,.int .i64 f.cells,bv]] w (ChangedPost f w):=by
 have HP:=hideI hpv
 have HBL:=hideI hbv
 obtain ⟨P,pc,rfl,_⟩:=hpv
 obtain ⟨A,c,rfl,_⟩:=hbv
 obtain ⟨W,hW⟩:∃ W:World,W=(w.alloc (.cells #[.slice P f.params.length pc,.int .i64 f.arrays,.int .i64 f.cells,.slice A f.blocks.length c] 25)).alloc (.cells #[.slice none 0 0,.int .i64 0,.int .i64 0,.slice none 0 0,.int .i64 0] 180):=⟨_,rfl⟩
 have HB0:Hid (Below w.heap.size w W):=by show Below _ _ _;rw [hW];exact ((Below.refl _ w).alloc (Nat.le_refl _) _).alloc (by simp) _
 have hx1:W.heap[w.heap.size]?=some (.cells #[.slice P f.params.length pc,.int .i64 f.arrays,.int .i64 f.cells,.slice A f.blocks.length c] 25 (0,0)):=by
  rw [hW,Below.heap_alloc _ _ _ (by simp)]
  exact heap_alloc_new w _
 have hx2:W.heap[w.heap.size + 1]?=some (.cells #[.slice none 0 0,.int .i64 0,.int .i64 0,.slice none 0 0,.int .i64 0] 180 (0,0)):=by
  rw [hW]
  have:=heap_alloc_new (w.alloc (.cells #[.slice P f.params.length pc,.int .i64 f.arrays,.int .i64 f.cells,.slice A f.blocks.length c] 25)) (.cells #[.slice none 0 0,.int .i64 0,.int .i64 0,.slice none 0 0,.int .i64 0] 180)
  simpa using this
 have HX1:=hideI hx1
 have HX2:=hideI hx2
 have hwW:w.heap.size + 1 < W.heap.size:=lt_of_heap hx2
 have hBW:B ≤ W.heap.size:=Nat.le_trans hB HB0.out.size
 have hk:Keeps B w W:=Keeps.of_below (HB0.out.mono hB)
 have HSM:=hideI (look_small h0)
 have HFF:=hideI hf
 have HFR:Hid (Calls Tryz.prog 83 #[.agg #[.slice P f.params.length pc,.int .i64 f.arrays,.int .i64 f.cells,.slice A f.blocks.length c]] W.drew (FreshPost f W.drew)):=fresh_any f B _ _ W.drew (HP.out.keeps hk) (HBL.out.keeps hk) hBW h0
 have HFN:Hid (∀ W',Below W.heap.size W W' → Calls Tryz.prog 95 #[.agg #[.slice P f.params.length pc,.int .i64 f.arrays,.int .i64 f.cells,.slice A f.blocks.length c]] W' fun e w' => e=.returned (.int .i64 (roomM f)) ∧ Below W'.heap.size W' w'):=fun W' hW' =>
  roomFor_any f B _ _ W' ((HP.out.keeps hk).keeps (Keeps.of_below (hW'.mono hBW))) ((HBL.out.keeps hk).keeps (Keeps.of_below (hW'.mono hBW))) (Nat.le_trans hBW hW'.size) hid hr
 have HS:Hid (∀ W':World,Below W.heap.size W W' → W'.cell? ⟨w.heap.size,0,none⟩=some (.slice P f.params.length pc) ∧ W'.cell? ⟨w.heap.size,1,none⟩=some (.int .i64 f.arrays) ∧ W'.cell? ⟨w.heap.size,2,none⟩=some (.int .i64 f.cells) ∧ W'.cell? ⟨w.heap.size,3,none⟩=some (.slice A f.blocks.length c)):=fun W' hW' => by
  have hq:=row_cells ((hW'.block _ (by omega)).trans HX1.out) rfl
  exact ⟨hq 0,hq 1,hq 2,hq 3⟩
 have hS0:=HS.out W (Below.refl _ _)
 have HW0:=hideI hW
 clear hx1 hx2 hk hid hr h0 hf hW
 go_enter Tryz.func117,Tryz.ntmps117
 go_upto_region 1 with fail
 rw [← HW0.out]
 refine wp_region_late (by kernel_rfl) (fun W' => W'.cell? ⟨w.heap.size,0,none⟩=some (.slice P f.params.length pc) ∧ W'.cell? ⟨w.heap.size,1,none⟩=some (.int .i64 f.arrays) ∧ W'.cell? ⟨w.heap.size,2,none⟩=some (.int .i64 f.cells) ∧ W'.cell? ⟨w.heap.size,3,none⟩=some (.slice A f.blocks.length c)) [5] ?_
 refine wpAnyT_take [5] (i:=0) (v:=?_) rfl (by kernel_rfl) (by kernel_rfl) (by kernel_rfl) (by kernel_rfl) (by kernel_rfl) (by kernel_rfl) (fun _ _ _ h => h) hS0 (Or.inl ⟨by rfl,?_⟩) ?_
 rotate_left
 ·(intro w hSw;go_split_ands;go_simp;try with_reducible rfl)
 try simp only [Act.put,List.setIfInBounds_toArray,List.set_cons_zero,List.set_cons_succ]
 refine wpAnyT_take [5] (i:=2) (v:=?_) rfl (by kernel_rfl) (by kernel_rfl) (by kernel_rfl) (by kernel_rfl) (by kernel_rfl) (by kernel_rfl) (fun _ _ _ h => h) hS0 (Or.inl ⟨by rfl,?_⟩) ?_
 rotate_left
 ·(intro w hSw;go_split_ands;go_simp;try with_reducible rfl)
 try simp only [Act.put,List.setIfInBounds_toArray,List.set_cons_zero,List.set_cons_succ]
 refine wpAnyT_ready (rs:=[1]) (by kernel_rfl) (by simp) ?_
 refine AllReadyT.cons rfl (fun K hK => ?_) ?_
 ·-- 1 fresh.Func
  go_simp
  refine HFR.out.mono ?_
  rintro e w3 ⟨v1,rfl,ho,hb3d⟩
  have HB3:Hid (Below W.heap.size W w3):=hideI ⟨hb3d.os,hb3d.tape,hb3d.output,hb3d.size,hb3d.block⟩
  have HOW:Hid (OwnG w3 (W.heap.size + 2) (rowOf f v1) v1 (EE f f.blocks.length)):=ho
  have hrd:=OwnG.rd ho HSM.out
  obtain ⟨P1,pc1,hv1,_⟩:=hrd.params
  obtain ⟨A1,c1,hv2,_⟩:=hrd.blocks HFF.out
  rw [hv1,hv2]
  have HV1:=hideI hv1
  have HV2:=hideI hv2
  clear ho hb3d hrd hv1 hv2
  refine hK.out _ _ (fun _ _ => HS.out _ HB3.out) ?_
  clear hK K
  try simp only [Act.put,List.setIfInBounds_toArray,List.set_cons_zero,List.set_cons_succ]
  refine wpAnyT_ready (rs:=[3]) (by kernel_rfl) (by simp) ?_
  refine AllReadyT.cons rfl (fun K hK => ?_) ?_
  ·-- 3 FirstNew
   go_simp
   refine (HFN.out w3 HB3.out).mono ?_
   rintro e w4 ⟨rfl,hb4⟩
   have HB4:=hideI (HB3.out.trans (hb4.mono HB3.out.size))
   have HOW4:=hideI (HOW.out.below hb4)
   clear hb4
   refine hK.out _ _ (fun _ _ => HS.out _ HB4.out) ?_
   clear hK K
   try simp only [Act.put,List.setIfInBounds_toArray,List.set_cons_zero,List.set_cons_succ]
   refine wpAnyT_quiet (i:=4) (v:=?_) rfl (by kernel_rfl) (by kernel_rfl) (by kernel_rfl) (fun _ _ _ h => h) (Or.inl ⟨by rfl,?_⟩) ?_
   rotate_left
   ·(intro w;go_simp;try with_reducible rfl)
   try simp only [Act.put,List.setIfInBounds_toArray,List.set_cons_zero,List.set_cons_succ]
   refine wpAnyT_ready (rs:=[5]) (by kernel_rfl) (by simp) ?_
   refine AllReadyT.cons rfl (fun K hK => ?_) ?_
   ·-- 5 store
    have hx2:=(HB4.out.block _ hwW).trans HX2.out
    have hns:=row_cells hx2 rfl
    have n0:=hns 0
    have n1:=hns 1
    have n2:=hns 2
    have n3:=hns 3
    have n4:=hns 4
    have fr:=free_rowN hx2 rfl
    have f0:=fr 0
    have f1:=fr 1
    have f2:=fr 2
    have f3:=fr 3
    have f4:=fr 4
    clear hns fr hx2
    go_simp
    refine hK.out _ _ (fun h => absurd (by simp) h) ?_
    clear hK K
    try simp only [Act.put,List.setIfInBounds_toArray,List.set_cons_zero,List.set_cons_succ]
    refine wpAnyT_done (by kernel_rfl) ?_ _
    go_wp2_with fail
    have hno:∀ t,EE f f.blocks.length t → (v1 t).ownBlock ≠ some (w.heap.size + 1):=fun t ht e => by
     have:=(HOW4.out.lt ht e).1
     omega
    have hO5:=(((((OwnG.other HOW4.out hno (a:=⟨w.heap.size + 1,0,none⟩) (u:=.slice P1 f.params.length pc1)).other hno (a:=⟨w.heap.size + 1,1,none⟩) (u:=.int .i64 f.arrays)).other hno (a:=⟨w.heap.size + 1,2,none⟩) (u:=.int .i64 f.cells)).other hno (a:=⟨w.heap.size + 1,3,none⟩) (u:=.slice A1 f.blocks.length c1)).other hno (a:=⟨w.heap.size + 1,4,none⟩) (u:=.int .i64 (roomM f)))
    refine bodyPost_ret (v:=.agg #[.slice P1 f.params.length pc1,.int .i64 f.arrays,.int .i64 f.cells,.slice A1 f.blocks.length c1,.int .i64 (roomM f)]) (by simp [results,Tryz.results117,go_sem,n0,n1,n2,n3,n4]) rfl ⟨v1,W.heap.size + 2,P1,pc1,A1,c1,_,rfl,HV1.out,HV2.out,hO5,Nat.le_trans HB0.out.size (by omega),?_⟩
    exact (((((HB0.out.trans (HB4.out.mono HB0.out.size)).setCell (by simp) _).setCell (by simp) _).setCell (by simp) _).setCell (by simp) _).setCell (by simp) _
   ·exact AllReadyT.nil
  ·exact AllReadyT.nil
 ·exact AllReadyT.nil
end Go.Proofs.YtikogmpibkefdaaGreat
