/- What EditBackUpto rests on, part 5: DTreeOf, STreeM, SWalk, Late. -/
import Derived.Test.YtaehbgppfahdeaaGreatPkEditBackUpto4
import Derived.Shelf.Bits.Mul64
import Derived.Laws.CopyOwn
import Derived.BigQuiet
import Derived.IntWalk
import Derived.Deep.CutRange
import Derived.Deep.DeepCutAuto
import Derived.Deep.RegionWith
import Derived.Deep.RegionHeld3

namespace Go.Proofs.YtaehbgppfahdeaaGreat
open Go.RowKit Go.Maps Go.Lib
set_option maxHeartbeats 1000000 in
theorem mul64_any (x y:Nat) (hx:x < 18446744073709551616) (hy:y < 18446744073709551616) (w:World) :
  Calls Tryz.prog 227 #[.int .u64 x,.int .u64 y] w fun e w' => e=.returned (.tuple #[.int .u64 ((x * y / 18446744073709551616:Nat):Int),.int .u64 ((x * y % 18446744073709551616:Nat):Int)]) ∧ w'=w:=by
 obtain ⟨bd,bt,bw,hhi⟩:=Lib.mul64_hi x y hx hy
 have ba:=Lib.half_mul_le (a:=x / 4294967296) (b:=y / 4294967296) (by omega) (by omega)
 have bb:=Lib.half_mul_le (a:=x / 4294967296) (b:=y % 4294967296) (by omega) (by omega)
 have bc:=Lib.half_mul_le (a:=x % 4294967296) (b:=y / 4294967296) (by omega) (by omega)
 have ba':x / 4294967296 * (y / 4294967296) < 18446744073709551616:=by omega
 have bb':x / 4294967296 * (y % 4294967296) < 18446744073709551616:=by omega
 have bc':x % 4294967296 * (y / 4294967296) < 18446744073709551616:=by omega
 have bh1:x / 4294967296 * (y / 4294967296) + (x / 4294967296 * (y % 4294967296) + x % 4294967296 * (y % 4294967296) / 4294967296) / 4294967296 < 18446744073709551616:=by omega
 have bh:x / 4294967296 * (y / 4294967296) + (x / 4294967296 * (y % 4294967296) + x % 4294967296 * (y % 4294967296) / 4294967296) / 4294967296 + ((x / 4294967296 * (y % 4294967296) + x % 4294967296 * (y % 4294967296) / 4294967296) % 4294967296 + x % 4294967296 * (y / 4294967296)) / 4294967296 < 18446744073709551616:=by omega
 go_enter Tryz.func227,Tryz.ntmps227
 go_wp2
 simp only [Mul64.maskN x hx,Mul64.maskN y hy,Mul64.divN,Mul64.mulN,Mul64.addN,Mul64.wrapN _ bd,Mul64.wrapN _ bb',Mul64.wrapN _ bt,Mul64.maskN _ bt,Mul64.wrapN _ bc',Mul64.wrapN _ bw,Mul64.wrapN _ ba',Mul64.wrapN _ bh1,Mul64.wrapN _ bh,Mul64.wrapM (x * y)]
 rw [hhi]
 go_ret2
 exact ⟨rfl,rfl⟩
set_option maxHeartbeats 1000000 in
theorem mul_any (x y:Nat) (hx:x < 18446744073709551616) (hy:y < 18446744073709551616) (w:World) :
  Calls Tryz.prog 198 #[.int .u64 x,.int .u64 y] w fun e w' => e=.returned (.tuple #[.int .u64 ((x * y / 18446744073709551616:Nat):Int),.int .u64 ((x * y % 18446744073709551616:Nat):Int)]) ∧ w'=w:=by
 go_enter Tryz.func198,Tryz.ntmps198
 go_wp2_with (go_at_call 227;go_must (refine (mul64_any x y hx hy _).mono ?_);rintro e w' ⟨rfl,hw⟩;rw [hw])
 go_ret2
 exact ⟨rfl,rfl⟩
theorem mul_one_any (n:Nat) (hn:n ≤ 100000) (w:World) :
  Calls Tryz.prog 198 #[.int .u64 1,.int .u64 n] w fun e w' => e=.returned (.tuple #[.int .u64 0,.int .u64 (n:Int)]) ∧ w=w':=by
 refine (mul_any 1 n (by omega) (by omega) w).mono ?_
 rintro e w' ⟨rfl,rfl⟩
 rw [Nat.one_mul,Nat.div_eq_of_lt (by omega),Nat.mod_eq_of_lt (by omega)]
 exact ⟨rfl,rfl⟩
theorem int_size1:(Tryz.prog.info? 3).map (·.size)=some 1:=by kernel_rfl
def fillR (v:Int) (n k:Nat):List Value:=List.replicate k (.int .i64 v) ++ List.replicate (n - k) (.int .i64 0)
theorem fillR_zero (v:Int) (n:Nat):fillR v n 0=List.replicate n (.int .i64 0):=by simp [fillR]
theorem fillR_len {v:Int} {n k:Nat} (h:k ≤ n):(fillR v n k).length=n:=by simp [fillR];omega
theorem fillR_splice {v:Int} {n k m:Nat} (_h:k + m ≤ n):splice (fillR v n k) k (List.replicate m (.int .i64 v))=fillR v n (k + m):=by
 unfold splice fillR
 rw [List.take_left' (by simp),List.drop_append,List.length_replicate,List.length_replicate]
 rw [List.drop_eq_nil_of_le (by simp),List.nil_append,show k + m - k=m by omega,List.drop_replicate,← List.append_assoc,List.replicate_append_replicate]
 congr 1
 rw [show n - k - m=n - (k + m) by omega]
theorem fillR_at {v:Int} {n k j:Nat} (h:j < k):(fillR v n k)[j]?=some (.int .i64 v):=by
 unfold fillR
 rw [List.getElem?_append_left (by simpa using h),List.getElem?_replicate,if_pos h]
theorem fillR_full (v:Int) (n:Nat):fillR v n n=List.replicate n (.int .i64 v):=by simp [fillR]
theorem cell_of_list {w:World} {g j:Nat} {l:List Value} {t:TypeId} {u:Value} (h:w.heap[g]?=some (.cells l.toArray t (0,0))) (hu:l[j]?=some u):w.cell? ⟨g,j,none⟩=some u:=by
 rw [cell_of_row w g j l.toArray t (0,0) h]
 simpa using hu
theorem made_row {v:Int} {n base g:Nat} {w:World} {R0:List Value} (hR:R0=fillR v n 0) (h:w.ownsRow base 3 1 (.slice (some ⟨g,0,none⟩) n n) n (madeCells (Value.int .i64 0).cells (n * 1)).toList):w.heap[g]?=some (.cells R0.toArray 3 (0,0)):=by
 rw [show (Value.int .i64 0).cells=#[Value.int .i64 0] from rfl,toList_madeCells_one,Nat.mul_one] at h
 rcases h.2 with ⟨h1,_⟩ | ⟨g1,cap,cur,e,_,h1,_,_,h4,h5⟩
 ·cases h1
 ·cases e
  rw [h1]
  have:cur=R0.toArray:=by
   apply Array.toList_inj.1
   rw [hR,fillR_zero]
   rw [← h5,List.take_of_length_le (by simp [h4])]
  rw [this]
theorem one_src {v:Int} {w:World} {g0:Nat} {C1:List Value} (h:C1=List.replicate 1 (.int .i64 v)) (hc:w.cell? ⟨g0,0,none⟩=some (.int .i64 v)) {j:Nat} {u:Value} (hu:C1[j]?=some u):w.cell? ((⟨g0,0,none⟩:Addr).add j)=some u:=by
 subst h
 rcases j with _ | j
 ·simp at hu
  subst hu
  exact hc
 ·simp at hu
theorem fill_src {v:Int} {w:World} {g n k m:Nat} {C R:List Value} (hC:C=List.replicate m (.int .i64 v)) (hR:R=fillR v n k) (hm:m ≤ k) (hg:w.heap[g]?=some (.cells R.toArray 3 (0,0))) {j:Nat} {u:Value} (hu:C[j]?=some u):w.cell? ((⟨g,0,none⟩:Addr).add j)=some u:=by
 subst hC hR
 rw [List.getElem?_replicate] at hu
 split at hu
 ·rename_i hj
  cases hu
  have:=cell_of_list hg (fillR_at (v:=v) (n:=n) (k:=k) (j:=j) (by omega))
  by_cases h0:j=0
  ·subst h0
   simpa [Addr.add] using this
  ·simpa [Addr.add,h0] using this
 ·cases hu
theorem rep_cells {v:Int} {m:Nat} {C:List Value} (hC:C=List.replicate m (.int .i64 v)):∀ u ∈ C,u.oneCell'=true:=by
 intro u hu
 subst hC
 rw [List.mem_replicate] at hu
 rw [hu.2]
 rfl
theorem own_of_row {v:Int} {n base g:Nat} {w:World} {R:List Value} (hR:R=fillR v n n) (hg:w.heap[g]?=some (.cells R.toArray 3 (0,0))) (hb:base ≤ g) (hn:n ≤ 100000):w.ownsRow base 3 1 (.slice (some ⟨g,0,none⟩) n n) n (List.replicate n (.int .i64 v)):=by
 rw [fillR_full] at hR
 subst hR
 exact ⟨by simp,.inr ⟨g,n,_,rfl,hb,hg,Nat.le_refl _,by unfold maxLen;omega,by simp,by simp⟩⟩
theorem drew1_below {B:Nat} {w w':World} (h:Below B w w'):Below B w w'.drew:=⟨h.os,h.tape,h.output,h.size,h.block⟩
def RepPost (v:Int) (n:Nat) (w:World) (e:Ending) (w':World):Prop :=
 ∃ g:Nat,e=.returned (.slice (some ⟨g,0,none⟩) n n) ∧ w'.ownsRow w.heap.size 3 1 (.slice (some ⟨g,0,none⟩) n n) n (List.replicate n (.int .i64 v)) ∧ Below w.heap.size w w'
set_option maxRecDepth 100000 in
set_option maxHeartbeats 600000 in
theorem repeat_any (v:Int) (n g0:Nat) (w:World) (h0:0 < n) (hn:n ≤ 100000) (hc:w.cell? ⟨g0,0,none⟩=some (.int .i64 v)) (hg0:g0 < w.heap.size) :
  Calls Tryz.prog 147 #[.slice (some ⟨g0,0,none⟩) 1 1,.int .i64 n] w (RepPost v n w):=by
 obtain ⟨i0,hix,hz0,hz1,hz2⟩:=info_parts int_info
 obtain ⟨C1,hC1⟩:∃ C1:List Value,C1=List.replicate 1 (.int .i64 v):=⟨_,rfl⟩
 obtain ⟨R0,hR0⟩:∃ R0:List Value,R0=fillR v n 0:=⟨_,rfl⟩
 have HC1:=hideI hC1
 have HR0:=hideI hR0
 have hl1:C1.length=1:=by rw [hC1];simp
 have hl0:R0.length=n:=by rw [hR0];exact fillR_len (Nat.zero_le _)
 have HL1:=hideI hl1
 have HL0:=hideI hl0
 have HC:Hid (w.cell? ⟨g0,0,none⟩=some (.int .i64 v)):=hc
 clear hC1 hR0 hl1 hl0 hc
 go_enter Tryz.func147,Tryz.ntmps147
 go_wp2_with (first
  | (go_at_call 198;go_must (refine (mul_one_any n hn _).mono ?_);rintro e w1 ⟨rfl,rfl⟩)
  | (at_make;go_must (refine wpList_make_full _ rfl _ _ 22 rfl w.heap.size 3 i0 (.int .i64 0) 1 Tryz.underlying22 hix hz0 hz1 .i64 .i64 _ _ n rfl rfl rfl rfl (by rw [hz2];omega) (by unfold maxLen;omega) (Nat.le_refl _) ?_);intro w1 hown1 hg1;go_must (have HG:Hid (w1.heap[w.heap.size]?=some (.cells R0.toArray 3 (0,0))):=made_row HR0.out hown1;have HB1:Hid (Below w.heap.size w w1):=hideI ((Below.refl _ _).grown hg1 (Nat.le_refl _) (by simp));have HCC:Hid (w1.cell? ⟨g0,0,none⟩=some (.int .i64 v)):=hideI ((HB1.out.cell (p:=⟨g0,0,none⟩) hg0).trans HC.out);clear hown1 hg1))
  | (with_reducible refine wpList_copy_splice rfl _ _ _ _ rfl 3 Tryz.underlying22 int_size1 _ _ _ _ _ _ rfl rfl w.heap.size 0 R0 3 HG.out C1 (by rw [HL1.out];exact (Nat.min_eq_left h0).symm) (fun _ => ⟨rfl,_,rfl,fun j u hu => one_src HC1.out HCC.out hu⟩) (by rw [HL1.out,HL0.out];omega) (rep_cells HC1.out) w.heap.size w HB1.out (Nat.le_refl _) ?_;intro w2 HG2 hB2;have HB2:=hideI hB2;rw [HL1.out];clear hB2))
 obtain ⟨R1,hR1⟩:∃ R1,R1=splice R0 0 C1:=⟨_,rfl⟩
 rw [← hR1] at HG2
 have HR1:Hid (R1=fillR v n 1):=by
  show _=_
  rw [hR1,HR0.out,HC1.out]
  exact fillR_splice (by omega)
 clear hR1
 go_loopw [8] (fun u wr => ∃ (k:Nat) (R:List Value),1 ≤ k ∧ k ≤ n ∧ u=.int .i64 k ∧ Hid (R=fillR v n k) ∧ Hid (wr.heap[w.heap.size]?=some (.cells R.toArray 3 (0,0))) ∧ Hid (Below w.heap.size w wr)) (fun u _ => n - (intOf u).toNat)
 case atStart => exact ⟨1,R1,Nat.le_refl _,by omega,rfl,HR1,HG2,HB2⟩
 case round =>
  obtain ⟨k,R,hk1,hk,rfl,HR,HGr,HBr⟩:=hrel
  by_cases hlt:k < n
  ·obtain ⟨m,hm⟩:∃ m,m=min k (n - k):=⟨_,rfl⟩
   obtain ⟨C,hC⟩:∃ C:List Value,C=List.replicate m (.int .i64 v):=⟨_,rfl⟩
   have hm1:m ≤ k:=by omega
   have hm2:k + m ≤ n:=by omega
   have hm3:1 ≤ m:=by omega
   have HM:=hideI hm
   have HC2:=hideI hC
   have HLC:Hid (C.length=m):=by show _=_;rw [hC];simp
   have HLR:Hid (R.length=n):=by show _=_;rw [HR.out];exact fillR_len hk
   clear hm hC
   have hkn:¬ n=k:=by omega
   have hlc:C.length ≤ 100000:=by rw [HLC.out];omega
   have hsum:IntKind.i64.wrap ((k:Int) + (C.length:Int))=(k:Int) + (C.length:Int):=IntWalk.i64_in _ (by omega)
   go_wp2
   go_region_law (refine step_copy_splice rfl (.tmp 41) (.tmp 44) 22 22 rfl 3 Tryz.underlying22 int_size1 (some ⟨w.heap.size,k,none⟩) (some ⟨w.heap.size,0,none⟩) (n - k) (n - k) k n (by simp [Act.eval,Act.put]) (by simp [Act.eval,Act.put]) w.heap.size k R 3 HGr.out C (by rw [HLC.out,HM.out]) (fun _ => ⟨rfl,_,rfl,fun j u hu => fill_src HC2.out HR.out hm1 HGr.out hu⟩) (by rw [HLC.out,HLR.out];exact hm2) (rep_cells HC2.out) w.heap.size w (drew1_below HBr.out) (Nat.le_refl _) ?_;intro w3 HG3 hB3;have HB3:=hideI hB3;clear hB3)
   obtain ⟨R3,hR3⟩:∃ R3,R3=splice R k C:=⟨_,rfl⟩
   rw [← hR3] at HG3
   have HR3:Hid (R3=fillR v n (k + m)):=by
    show _=_
    rw [hR3,HR.out,HC2.out]
    exact fillR_splice hm2
   clear hR3 hsum
   simp only [List.getElem_toArray,List.getElem_cons_zero,List.getElem_cons_succ,Act.put,List.setIfInBounds_toArray,List.set_cons_zero,List.set_cons_succ]
   go_wp2
   go_roundw
   case rel => exact ⟨k + m,R3,by omega,hm2,by rw [HLC.out];go_num,HR3,HG3,HB3⟩
   case measure => simp [intOf];rw [HLC.out];omega
  ·have hkn:k=n:=by omega
   have HKN:=hideI hkn
   clear hkn
   go_wp2
   go_ret
   exact ⟨w.heap.size,rfl,own_of_row (by rw [HR.out,HKN.out]) HGr.out (Nat.le_refl _) hn,HBr.out⟩
end Go.Proofs.YtaehbgppfahdeaaGreat
namespace Go.Proofs.YtaehbgppfahdeaaGreat
open Go.RowKit Go.Maps
theorem OrderIs.ord {bs:List BlockM} {o:List Nat} (h:OrderIs bs o):Ord (succM bs) o (fun b => o.idxOf b):=by
 obtain ⟨h1,h2,h3,h4⟩:=h.facts
 refine ⟨h1,fun i x hx => ?_,h3,h4⟩
 have hm:=List.mem_of_getElem? hx
 have hl:=List.idxOf_lt_length_of_mem hm
 have hi:=(List.getElem?_eq_some_iff.1 hx).1
 exact (List.getElem?_inj (l:=o) (i:=o.idxOf x) (j:=i) hl h2).1 (by rw [hx,List.getElem?_eq_getElem hl,List.getElem_idxOf])
theorem places_none (n:Nat) (pl:Nat → Nat):places n [] pl=List.replicate n (.int .i64 (-1)):=by
 unfold places
 apply List.ext_getElem?
 intro i
 by_cases hi:i < n
 ·rw [List.getElem?_map,List.getElem?_eq_getElem (by simpa using hi),List.getElem?_replicate,if_pos hi]
  simp [placeI]
 ·rw [List.getElem?_eq_none (by simp;omega),List.getElem?_eq_none (by simp;omega)]
theorem places_set {n i x:Nat} {o:List Nat} {pl:Nat → Nat} (hx:o[i]?=some x) (hp:pl x=i):(places n (o.take i) pl).set x (.int .i64 (i:Int))=places n (o.take (i + 1)) pl:=by
 unfold places
 apply List.ext_getElem?
 intro j
 by_cases hj:j < n
 ·by_cases e:x=j
  ·subst e
   rw [List.getElem?_set_self (by simpa using hj),List.getElem?_map,List.getElem?_eq_getElem (by simpa using hj)]
   have:x ∈ o.take (i + 1):=by rw [List.take_add_one,hx];simp
   simp [placeI,this,hp]
  ·rw [List.getElem?_set_ne e,List.getElem?_map,List.getElem?_map,List.getElem?_eq_getElem (by simpa using hj)]
   have:j ∈ o.take (i + 1) ↔ j ∈ o.take i:=by
    rw [List.take_add_one,hx]
    simp only [Option.toList_some,List.mem_append,List.mem_singleton]
    exact ⟨fun h => h.resolve_right (fun h2 => e h2.symm),.inl⟩
   simp [placeI,this]
 ·rw [List.getElem?_eq_none (by simp;omega),List.getElem?_eq_none (by simp;omega)]
theorem free_rowN {w w':World} {g:Nat} {cs:Array Value} {t:TypeId} (h:w.heap[g]?=some (.cells cs t (0,0))) (hk:w'.heap[g]?=w.heap[g]?) (o:Nat):w'.frozen? ⟨g,o,none⟩=false:=by
 rw [h] at hk
 simp [World.frozen?,hk]
theorem FlowAt.other {w:World} {B:Nat} {bs:List BlockM} {o:List Nat} {pl:Nat → Nat} {gp:Nat} {vs:List Value} {go capo gl:Nat} (h:FlowAt w B bs o pl gp vs go capo gl) (j:Nat) (h1:j ≠ gp) (h2:j ≠ go) (h3:j ≠ gl) (h4:∀ (t:Nat) v k,vs[t]?=some v → v.ownBlock=some k → j ≠ k) (off:Nat) (u:Value):FlowAt (w.setCell ⟨j,off,none⟩ u) B bs o pl gp vs go capo gl:=by
 refine ⟨⟨h.preds.vl,h.preds.ll,?_,fun t v l hv hl => ?_,h.preds.apart⟩,?_,?_,h.gp,h.go,h.gl,h.apart⟩
 ·exact ownsRow_setCell_other h.preds.row (a:=⟨j,off,none⟩) (by intro e;exact h1 (Option.some.inj e).symm) u
 ·exact ownsRow_setCell_other (h.preds.own t v l hv hl) (a:=⟨j,off,none⟩) (by intro e;exact h4 t v j hv e rfl) u
 ·exact ownsRow_setCell_other h.order (a:=⟨j,off,none⟩) (by intro e;exact h2 (Option.some.inj e).symm) u
 ·exact ownsRow_setCell_other h.place (a:=⟨j,off,none⟩) (by intro e;exact h3 (Option.some.inj e).symm) u
structure Flows (f:FuncM) (o:List Nat) (pl:Nat → Nat) (capo:Nat):Prop where
 order:OrderIs f.blocks o
 ord:Ord (succM f.blocks) o pl
 range:∀ x ∈ o,x < f.blocks.length
 len:o.length ≤ f.blocks.length
 cap:o.length ≤ capo
 most:capo ≤ maxLen
 n0:0 < f.blocks.length
 n5:f.blocks.length ≤ 512
structure FlowLow (lo gp:Nat) (vs:List Value) (go gl:Nat):Prop where
 gp:lo ≤ gp
 go:lo ≤ go
 gl:lo ≤ gl
 apart:∀ (t:Nat) v k,vs[t]?=some v → v.ownBlock=some k → lo ≤ k
def FlowPost (f:FuncM) (w:World) (e:Ending) (w':World):Prop :=
 ((lookM f).1 ≠ 0 ∧ e=.returned (.tuple #[.agg #[.slice none 0 0,.slice none 0 0,.slice none 0 0],.int .i64 (lookM f).1]) ∧ Below w.heap.size w w') ∨
 ((lookM f).1=0 ∧ ∃ (o:List Nat) (pl:Nat → Nat) (gp:Nat) (vs:List Value) (go capo gl:Nat),e=.returned (.tuple #[.agg #[.slice (some ⟨gp,0,none⟩) f.blocks.length f.blocks.length,.slice (some ⟨go,0,none⟩) o.length capo,.slice (some ⟨gl,0,none⟩) f.blocks.length f.blocks.length],.int .i64 0]) ∧ Flows f o pl capo ∧ FlowAt w' w'.heap.size f.blocks o pl gp vs go capo gl ∧ FlowLow w.heap.size gp vs go gl ∧ Below w.heap.size w w')
theorem own_cap {w:World} {base n cap g:Nat} {xs:List Value} (h:w.ownsRow base 3 1 (.slice (some ⟨g,0,none⟩) n cap) n xs):n ≤ cap ∧ cap ≤ maxLen:=by
 rcases h.2 with ⟨h1,_⟩ | ⟨g1,cap1,cur,e,_,_,h2,h3,_⟩
 ·cases h1
 ·cases e;exact ⟨h2,h3⟩
set_option maxRecDepth 100000 in
set_option maxHeartbeats 4000000 in
theorem flow_any (f:FuncM) (B:Nat) (pv bv:Value) (w:World) (hpv:Ints w B pv f.params) (hbv:BlocksR w B bv f.blocks) (hB:B ≤ w.heap.size) (hid:∀ u ∈ usesM f,I64 u.1) :
  Calls Tryz.prog 184 #[.agg #[pv,.int .i64 f.arrays,.int .i64 f.cells,bv]] w (FlowPost f w):=by
 have HP:=hideI hpv
 have HBL:=hideI hbv
 have HID:=hideI hid
 obtain ⟨P,pc,rfl,_⟩:=hpv
 obtain ⟨A,c,rfl,hbm,_⟩:=hbv
 obtain ⟨W0,hW0⟩:∃ W0,W0=(w.alloc (.cells #[.slice P f.params.length pc,.int .i64 f.arrays,.int .i64 f.cells,.slice A f.blocks.length c] 25)).alloc (.cells #[.slice none 0 0,.slice none 0 0,.slice none 0 0] 207):=⟨_,rfl⟩
 have hB0:Below w.heap.size w W0:=by rw [hW0];exact ((Below.refl _ w).alloc (Nat.le_refl _) _).alloc (by simp) _
 have hs0:W0.heap.size=w.heap.size + 2:=by rw [hW0];simp
 have hbox:W0.heap[w.heap.size]?=some (.cells #[.slice P f.params.length pc,.int .i64 f.arrays,.int .i64 f.cells,.slice A f.blocks.length c] 25 (0,0)):=by
  rw [hW0,Below.heap_alloc _ _ _ (by simp)]
  exact heap_alloc_new w _
 have hres:W0.heap[w.heap.size + 1]?=some (.cells #[.slice none 0 0,.slice none 0 0,.slice none 0 0] 207 (0,0)):=by
  rw [hW0]
  have:=heap_alloc_new (w.alloc (.cells #[.slice P f.params.length pc,.int .i64 f.arrays,.int .i64 f.cells,.slice A f.blocks.length c] 25)) (.cells #[.slice none 0 0,.slice none 0 0,.slice none 0 0] 207)
  simpa using this
 have HW0:=hideI hW0
 have HB0:=hideI hB0
 have HS0:=hideI hs0
 have G0:Hid (∀ W,Below W0.heap.size W0 W → (∀ o,W.cell? ⟨w.heap.size,o,none⟩=(#[.slice P f.params.length pc,.int .i64 f.arrays,.int .i64 f.cells,.slice A f.blocks.length c]:Array Value)[o]?) ∧ (∀ o,W.cell? ⟨w.heap.size + 1,o,none⟩=(#[.slice none 0 0,.slice none 0 0,.slice none 0 0]:Array Value)[o]?) ∧ (∀ o,W.frozen? ⟨w.heap.size + 1,o,none⟩=false)):=fun W hW => by
  have h1:=hW.block w.heap.size (by omega)
  have h2:=hW.block (w.heap.size + 1) (by omega)
  exact ⟨row_cells hbox h1,row_cells hres h2,fun o => free_rowN hres h2 o⟩
 have HPW:Hid (∀ W,Below W0.heap.size W0 W → Ints W B (.slice P f.params.length pc) f.params ∧ BlocksR W B (.slice A f.blocks.length c) f.blocks ∧ Below w.heap.size w W):=fun W hW => by
  have h1:Below w.heap.size w W:=HB0.out.trans (hW.mono (by omega))
  exact ⟨HP.out.keeps (Keeps.of_below (h1.mono hB)),HBL.out.keeps (Keeps.of_below (h1.mono hB)),h1⟩
 obtain ⟨q1,q2,q3⟩:=G0.out W0 (Below.refl _ _)
 have b0:=q1 0
 have b1:=q1 1
 have b2:=q1 2
 have b3:=q1 3
 have hBW0:B ≤ W0.heap.size:=by omega
 clear hid hW0 hB0 hs0 hbox hres q1 q2 q3
 by_cases h0:(lookM f).1=0
 ·have H0:=hideI h0
  have hnb:=look_some_block h0
  have HNB:=hideI hnb
  have hn0:=hnb.1
  have hn5:=hnb.2
  clear h0 hnb
  go_enter Tryz.func184,Tryz.ntmps184
  go_upto_region 1 with fail
  rw [← HW0.out]
  go_wp2_with (first
   | (go_at_call 74;go_must (refine (gPreds_yes f B _ _ _ (HPW.out _ (Below.refl _ _)).1 (HPW.out _ (Below.refl _ _)).2.1 hBW0 HID.out H0.out).mono ?_);rintro e w1 ⟨gp,vs,rfl,hls,hb1⟩;have HLS:=hideI hls;have HB1:=hideI hb1;obtain ⟨q1,q2,q3⟩:=G0.out _ hb1;clear b0 b1 b2 b3;have b0:=q1 0;have b1:=q1 1;have b2:=q1 2;have b3:=q1 3;clear q1 q2 q3 hb1 hls)
   | (go_at_call 69;go_must (refine (gOrder_yes f B _ _ _ (HPW.out _ HB1.out).1 (HPW.out _ HB1.out).2.1 (Nat.le_trans hBW0 HB1.out.size) HID.out H0.out).mono ?_);rintro e w2 ⟨o,go,capo,rfl,ho,ho0,ho1,hown,hb2⟩;have HORD:=hideI ho;have HOWN:=hideI hown;have HB2:=hideI hb2;clear b0 b1 b2 b3 ho hown hb2)
   | (go_at_call 147;go_must (refine (repeat_any (-1) f.blocks.length w2.heap.size _ hn0 (by omega) (row_cells (heap_alloc_new w2 _) rfl 0) (by simp)).mono ?_);rintro e w3 ⟨gl,rfl,hrep,hb3⟩;have HREP:=hideI hrep;have HB3:Hid (Below w2.heap.size w2 w3):=((Below.refl _ w2).alloc (Nat.le_refl _) _).trans (hb3.mono (by simp));clear hrep hb3))
  have hlg:=HREP.out.lt gl rfl
  have hsz2:w2.heap.size < gl:=by have:=hlg.1;simp at this;omega
  have HSG:=hideI hsz2
  have hplace:=World.ownsRow.mono HREP.out (Nat.zero_le _)
  rw [← places_none f.blocks.length (fun b => o.idxOf b),show ([]:List Nat)=o.take 0 by simp] at hplace
  have HPL:=hideI hplace
  clear hplace hlg HREP hsz2
  go_loopw [34] (fun u wr => ∃ i:Nat,i ≤ o.length ∧ u=.int .i64 i ∧ Hid (wr.ownsRow 0 3 1 (.slice (some ⟨gl,0,none⟩) f.blocks.length f.blocks.length) f.blocks.length (places f.blocks.length (o.take i) (fun b => o.idxOf b))) ∧ Hid (w3.grownBy wr (some gl))) (fun u _ => o.length - (intOf u).toNat)
  case atStart => exact ⟨0,Nat.zero_le _,rfl,HPL,hideI (World.grownBy.refl _ _)⟩
  case round =>
   obtain ⟨i,hi,rfl,HPr,HGr⟩:=hrel
   have hBr:Below w2.heap.size w2 wr:=HB3.out.grown HGr.out HB3.out.size (fun k hk => by cases hk;exact Nat.le_of_lt HSG.out)
   have HBr:=hideI hBr
   clear hBr
   by_cases hlt:i < o.length
   ·obtain ⟨x,hx⟩:∃ x,o[i]?=some x:=⟨_,List.getElem?_eq_getElem hlt⟩
    have hxl:=HORD.out.range (look_ends H0.out) hn0 x (List.mem_of_getElem? hx)
    have c1:=nat_cell (own_kept_below HOWN.out HBr.out (fun k hk => (HOWN.out.lt k hk).2)) hx
    have c2:wr.cell? ⟨gl,x,none⟩=some (.int .i64 (placeI (o.take i) (fun b => o.idxOf b) x)):=by rw [World.ownsRow.cellAt HPr.out x (by omega)];exact places_at hxl
    have c3:wr.frozen? ⟨gl,x,none⟩=false:=World.ownsRow.frozenAt HPr.out x
    have hst:=World.ownsRow.stored HPr.out x (.int .i64 (i:Int))
    rw [places_set hx (HORD.out.ord.place i x hx)] at hst
    have HST:=hideI hst
    clear hx hst
    go_wp2
    go_roundw
    case rel => exact ⟨i + 1,by omega,by go_num,hideI HST.out.1,hideI (HGr.out.trans HST.out.2)⟩
    case measure => simp [intOf];omega
   ·have hil:i=o.length:=by omega
    have HP2:Hid (wr.ownsRow 0 3 1 (.slice (some ⟨gl,0,none⟩) f.blocks.length f.blocks.length) f.blocks.length (places f.blocks.length o (fun b => o.idxOf b))):=by
     have h1:=HPr.out
     rw [hil,List.take_of_length_le (Nat.le_refl _)] at h1
     exact h1
    have HBF:Hid (Below W0.heap.size W0 wr):=(HB1.out.trans (HB2.out.mono HB1.out.size)).trans (HBr.out.mono (Nat.le_trans HB1.out.size HB2.out.size))
    obtain ⟨q1,q2,q3⟩:=G0.out _ HBF.out
    have s0:=q2 0
    have s1:=q2 1
    have s2:=q2 2
    have g0:=q3 0
    have g1:=q3 1
    have g2:=q3 2
    have hs0:=HS0.out
    have hsr:W0.heap.size ≤ wr.heap.size:=HBF.out.size
    clear q1 q2 q3 hil HPr
    go_wp2
    have hlsr:Lists wr 0 gp f.blocks.length vs (predsAt f.blocks f.blocks.length f.blocks.length 0):=(HLS.out.mono (Nat.zero_le _)).kept (HB2.out.trans (HBr.out.mono HB2.out.size))
    have hp1:=HLS.out.lt
    have hor:=own_kept_below HOWN.out HBr.out (fun k hk => (HOWN.out.lt k hk).2)
    have hg1:=HOWN.out.lt go rfl
    have hg2:=HP2.out.lt gl rfl
    have hs1:=HB1.out.size
    have hs2:=HB2.out.size
    have hs3:=HBr.out.size
    have hsg:=HSG.out
    have hap:∀ (t:Nat) v k,vs[t]?=some v → v.ownBlock=some k → gp + 1 ≤ k ∧ k < w1.heap.size:=by
     intro t v k hv hk
     have htl:t < (predsAt f.blocks f.blocks.length f.blocks.length 0).length:=by rw [HLS.out.ll,← HLS.out.vl];exact (List.getElem?_eq_some_iff.1 hv).1
     exact (HLS.out.own t v _ hv (List.getElem?_eq_getElem htl)).lt k hk
    refine bodyPost_ret (v:=.tuple #[.agg #[.slice (some ⟨gp,0,none⟩) f.blocks.length f.blocks.length,.slice (some ⟨go,0,none⟩) o.length capo,.slice (some ⟨gl,0,none⟩) f.blocks.length f.blocks.length],.int .i64 0]) (by simp [results,Tryz.results184,go_sem,s0,s1,s2]) rfl (.inr ⟨H0.out,o,_,gp,vs,go,capo,gl,rfl,⟨HORD.out,HORD.out.ord,HORD.out.range (look_ends H0.out) hn0,ho1,(own_cap HOWN.out).1,(own_cap HOWN.out).2,hn0,hn5⟩,?_,⟨by omega,by omega,by omega,fun t v k hv hk => by have:=hap t v k hv hk;omega⟩,?_⟩)
    ·have hF:FlowAt wr wr.heap.size f.blocks o (fun b => o.idxOf b) gp vs go capo gl:=⟨hlsr,World.ownsRow.mono hor (Nat.zero_le _),HP2.out,by omega,by omega,hg2.2,fun t v k hv hk => by have:=hap t v k hv hk;omega⟩
     have hj:∀ (t:Nat) v k,vs[t]?=some v → v.ownBlock=some k → w.heap.size + 1 ≠ k:=fun t v k hv hk => by have:=hap t v k hv hk;omega
     have hF1:=((hF.other (w.heap.size + 1) (by omega) (by omega) (by omega) hj 0 (.slice (some ⟨gp,0,none⟩) f.blocks.length f.blocks.length)).other (w.heap.size + 1) (by omega) (by omega) (by omega) hj 1 (.slice (some ⟨go,0,none⟩) o.length capo)).other (w.heap.size + 1) (by omega) (by omega) (by omega) hj 2 (.slice (some ⟨gl,0,none⟩) f.blocks.length f.blocks.length)
     simpa using hF1
    ·exact (((HPW.out _ HBF.out).2.2.setCell (by simp) _).setCell (by simp) _).setCell (by simp) _
 ·have H0:=hideI h0
  have hb:((lookM f).1 != 0)=true:=by simpa using h0
  clear h0
  go_enter Tryz.func184,Tryz.ntmps184
  go_upto_region 1 with fail
  rw [← HW0.out]
  go_wp2_with (first
   | (go_at_call 74;go_must (refine (gPreds_no f B _ _ _ (HPW.out _ (Below.refl _ _)).1 (HPW.out _ (Below.refl _ _)).2.1 hBW0 HID.out H0.out).mono ?_);rintro e w1 ⟨rfl,hb1⟩;have HB1:=hideI hb1;obtain ⟨q1,q2,q3⟩:=G0.out _ hb1;have s0:=q2 0;have s1:=q2 1;have s2:=q2 2;have g0:=q3 0;have g1:=q3 1;have g2:=q3 2;clear q1 q2 q3 hb1 b0 b1 b2 b3))
  refine bodyPost_ret (v:=.tuple #[.agg #[.slice none 0 0,.slice none 0 0,.slice none 0 0],.int .i64 (lookM f).1]) (by simp [results,Tryz.results184,go_sem,s0,s1,s2]) rfl (.inl ⟨H0.out,rfl,?_⟩)
  exact (((HPW.out _ HB1.out).2.2.setCell (by simp) _).setCell (by simp) _).setCell (by simp) _
end Go.Proofs.YtaehbgppfahdeaaGreat
namespace Go.Proofs.YtaehbgppfahdeaaGreat
open Go.RowKit Go.Maps
def TreePost (f:FuncM) (w:World) (e:Ending) (w':World):Prop :=
 ((lookM f).1 ≠ 0 ∧ e=.returned (.tuple #[.agg #[.slice none 0 0,.slice none 0 0,.slice none 0 0,.slice none 0 0],.int .i64 (lookM f).1]) ∧ Below w.heap.size w w') ∨
 ((lookM f).1=0 ∧ ∃ (o:List Nat) (pl:Nat → Nat) (par:Nat → Option Nat) (B gp:Nat) (vs:List Value) (go capo gl gi:Nat),e=.returned (.tuple #[.agg #[.slice (some ⟨gp,0,none⟩) f.blocks.length f.blocks.length,.slice (some ⟨go,0,none⟩) o.length capo,.slice (some ⟨gl,0,none⟩) f.blocks.length f.blocks.length,.slice (some ⟨gi,0,none⟩) f.blocks.length f.blocks.length],.int .i64 0]) ∧ Flows f o pl capo ∧ Done (succM f.blocks) o pl par ∧ TreeAt w' B f.blocks o pl par gp vs go capo gl gi ∧ w.heap.size ≤ B ∧ Below w.heap.size w w')
theorem drew_alloc_below {w w':World} {o:Obj} (h:Below (w.alloc o).drew.heap.size (w.alloc o).drew w'):Below w.heap.size w w':=by
 have h2:Below (w.alloc o).heap.size (w.alloc o) w':=⟨h.os,h.tape,h.output,h.size,h.block⟩
 exact ((Below.refl _ w).alloc (Nat.le_refl _) _).trans (h2.mono (by simp))
theorem drew_new_cell {w:World} {v:Value} {t:TypeId}:(w.alloc (.cells #[v] t)).drew.cell? ⟨w.heap.size,0,none⟩=some v:=row_cells (heap_alloc_new w _) rfl 0
theorem drew_alloc2 {w w':World} {o o2:Obj} (h:Below ((w.alloc o).alloc o2).drew.heap.size ((w.alloc o).alloc o2).drew w'):Below w.heap.size w w' ∧ w'.heap[w.heap.size + 1]?=((w.alloc o).alloc o2).heap[w.heap.size + 1]?:=by
 have h2:Below ((w.alloc o).alloc o2).heap.size ((w.alloc o).alloc o2) w':=⟨h.os,h.tape,h.output,h.size,h.block⟩
 exact ⟨(((Below.refl _ w).alloc (Nat.le_refl _) _).alloc (by simp) _).trans (h2.mono (by simp;omega)),h2.block _ (by simp)⟩
theorem drew_new_cell2 {w:World} {v:Value} {t:TypeId} {o2:Obj}:((w.alloc (.cells #[v] t)).alloc o2).drew.cell? ⟨w.heap.size,0,none⟩=some v :=
 row_cells (w:=(w.alloc (.cells #[v] t)).alloc o2) (w':=((w.alloc (.cells #[v] t)).alloc o2).drew) (g:=w.heap.size) (cs:=#[v]) (t:=t) (by rw [Below.heap_alloc _ _ _ (by simp)];exact heap_alloc_new w _) rfl 0
theorem one_lt6 {w:World} {o:Obj}:w.heap.size < (w.alloc o).drew.heap.size:=by
 show w.heap.size < (w.alloc o).heap.size
 simp
theorem two_lt6 {w:World} {o o2:Obj}:w.heap.size < ((w.alloc o).alloc o2).drew.heap.size:=by
 show w.heap.size < ((w.alloc o).alloc o2).heap.size
 simp
 omega
theorem new_two {w:World} {o o2:Obj}:((w.alloc o).alloc o2).heap[w.heap.size + 1]?=(((w.alloc o).alloc o2).heap[(w.alloc o).heap.size]?):=by simp
theorem drew_new_cell3 {w:World} {v:Value} {t:TypeId} {o2:Obj}:((w.alloc o2).alloc (.cells #[v] t)).drew.cell? ⟨w.heap.size + 1,0,none⟩=some v :=
 row_cells (w:=(w.alloc o2).alloc (.cells #[v] t)) (w':=((w.alloc o2).alloc (.cells #[v] t)).drew) (g:=w.heap.size + 1) (cs:=#[v]) (t:=t) (by have:=heap_alloc_new (w.alloc o2) (.cells #[v] t);simpa using this) rfl 0
theorem drew_alloc3 {w w':World} {o o2:Obj} (h:Below ((w.alloc o).alloc o2).drew.heap.size ((w.alloc o).alloc o2).drew w'):Below w.heap.size w w' ∧ w'.heap[w.heap.size]?=((w.alloc o).alloc o2).heap[w.heap.size]?:=by
 have h2:Below ((w.alloc o).alloc o2).heap.size ((w.alloc o).alloc o2) w':=⟨h.os,h.tape,h.output,h.size,h.block⟩
 exact ⟨(((Below.refl _ w).alloc (Nat.le_refl _) _).alloc (by simp) _).trans (h2.mono (by simp;omega)),h2.block _ (by simp;omega)⟩
theorem new_two3 {w:World} {o o2:Obj}:((w.alloc o).alloc o2).heap[w.heap.size]?=(w.alloc o).heap[w.heap.size]?:=Below.heap_alloc _ _ _ (by simp)
theorem TreeAt.low {w:World} {B lo:Nat} {bs:List BlockM} {o:List Nat} {pl:Nat → Nat} {par:Nat → Option Nat} {gp:Nat} {vs:List Value} {go capo gl gi:Nat} (h:TreeAt w B bs o pl par gp vs go capo gl gi) (hl:FlowLow lo gp vs go gl) (hB:lo ≤ B) {j:Nat} (hj:j < lo) (off:Nat) (u:Value):TreeAt (w.setCell ⟨j,off,none⟩ u) B bs o pl par gp vs go capo gl gi:=by
 have h1:=hl.gp
 have h2:=hl.go
 have h3:=hl.gl
 have h4:=h.lt.1
 exact ⟨h.flow.other j (by omega) (by omega) (by omega) (fun t v k hv hk => by have:=hl.apart t v k hv hk;omega) off u,ownsRow_setCell_other h.idoms (a:=⟨j,off,none⟩) (by intro e;have:=Option.some.inj e;simp at this;omega) u⟩
theorem two_lt7 {w:World} {o o2:Obj}:w.heap.size + 1 < ((w.alloc o).alloc o2).drew.heap.size:=by
 show w.heap.size + 1 < ((w.alloc o).alloc o2).heap.size
 simp
structure SixAt (W1 wx:World) (n lo gp go capo gl g6 gi:Nat):Prop where
 row:wx.heap[g6]?=some (.cells #[.slice (some ⟨gp,0,none⟩) n n,.slice (some ⟨go,0,none⟩) lo capo,.slice (some ⟨gl,0,none⟩) n n,.slice (some ⟨gi,0,none⟩) n n] 209 (0,0))
 own:wx.ownsRow W1.heap.size 3 1 (.slice (some ⟨gi,0,none⟩) n n) n (List.replicate n (.int .i64 (-1)))
 ne:g6 ≠ gi
 low:W1.heap.size ≤ g6
 below:Below W1.heap.size W1 wx
theorem SixAt.late {W1 w3:World} {n lo gp go capo gl gi base:Nat} (hb:Below W1.heap.size W1 w3) (ho:w3.ownsRow base 3 1 (.slice (some ⟨gi,0,none⟩) n n) n (List.replicate n (.int .i64 (-1)))) (hbase:W1.heap.size ≤ base) :
  SixAt W1 (w3.alloc (.cells #[.slice (some ⟨gp,0,none⟩) n n,.slice (some ⟨go,0,none⟩) lo capo,.slice (some ⟨gl,0,none⟩) n n,.slice (some ⟨gi,0,none⟩) n n] 209)) n lo gp go capo gl w3.heap.size gi :=
 ⟨heap_alloc_new w3 _,(World.ownsRow.mono ho hbase).alloc _,by have:=(ho.lt gi rfl).2;omega,hb.size,hb.alloc hb.size _⟩
theorem SixAt.early {W1 w3:World} {n lo gp go capo gl gi g6 base:Nat} (hb:Below W1.heap.size W1 w3) (ho:w3.ownsRow base 3 1 (.slice (some ⟨gi,0,none⟩) n n) n (List.replicate n (.int .i64 (-1)))) (hbase:g6 < base) (hlow:W1.heap.size ≤ g6)
  (hrow:w3.heap[g6]?=some (.cells #[.slice none 0 0,.slice none 0 0,.slice none 0 0,.slice none 0 0] 209 (0,0))) :
  SixAt W1 ((((w3.setCell ⟨g6,0,none⟩ (.slice (some ⟨gp,0,none⟩) n n)).setCell ⟨g6,1,none⟩ (.slice (some ⟨go,0,none⟩) lo capo)).setCell ⟨g6,2,none⟩ (.slice (some ⟨gl,0,none⟩) n n)).setCell ⟨g6,3,none⟩ (.slice (some ⟨gi,0,none⟩) n n)) n lo gp go capo gl g6 gi:=by
 have hg:=(ho.lt gi rfl).1
 refine ⟨?_,?_,by omega,hlow,(((hb.setCell (by simpa using hlow) _).setCell (by simpa using hlow) _).setCell (by simpa using hlow) _).setCell (by simpa using hlow) _⟩
 ·have h1:=heap_setCell_same w3 g6 0 _ _ (.slice (some ⟨gp,0,none⟩) n n) hrow
  have h2:=heap_setCell_same _ g6 1 _ _ (.slice (some ⟨go,0,none⟩) lo capo) h1
  have h3:=heap_setCell_same _ g6 2 _ _ (.slice (some ⟨gl,0,none⟩) n n) h2
  have h4:=heap_setCell_same _ g6 3 _ _ (.slice (some ⟨gi,0,none⟩) n n) h3
  simpa using h4
 ·have hne:∀ off:Nat,(Value.slice (some ⟨gi,0,none⟩) n n).ownBlock ≠ some (⟨g6,off,none⟩:Addr).block:=by
   intro off e
   have:=Option.some.inj e
   simp at this
   omega
  exact ownsRow_setCell_other (ownsRow_setCell_other (ownsRow_setCell_other (ownsRow_setCell_other (World.ownsRow.mono ho (by omega)) (hne 0) _) (hne 1) _) (hne 2) _) (hne 3) _
set_option maxRecDepth 100000 in
set_option maxHeartbeats 4000000 in
theorem treeOf_any (f:FuncM) (B:Nat) (pv bv:Value) (w:World) (hpv:Ints w B pv f.params) (hbv:BlocksR w B bv f.blocks) (hB:B ≤ w.heap.size) (hid:∀ u ∈ usesM f,I64 u.1) :
  Calls Tryz.prog 139 #[.agg #[pv,.int .i64 f.arrays,.int .i64 f.cells,bv]] w (TreePost f w):=by
 have HP:=hideI hpv
 have HBL:=hideI hbv
 have HID:=hideI hid
 obtain ⟨P,pc,rfl,_⟩:=hpv
 obtain ⟨A,c,rfl,hbm,_⟩:=hbv
 obtain ⟨W0,hW0⟩:∃ W0,W0=(w.alloc (.cells #[.slice P f.params.length pc,.int .i64 f.arrays,.int .i64 f.cells,.slice A f.blocks.length c] 25)).alloc (.cells #[.slice none 0 0,.slice none 0 0,.slice none 0 0,.slice none 0 0] 209):=⟨_,rfl⟩
 have hB0:Below w.heap.size w W0:=by rw [hW0];exact ((Below.refl _ w).alloc (Nat.le_refl _) _).alloc (by simp) _
 have hs0:W0.heap.size=w.heap.size + 2:=by rw [hW0];simp
 have hbox:W0.heap[w.heap.size]?=some (.cells #[.slice P f.params.length pc,.int .i64 f.arrays,.int .i64 f.cells,.slice A f.blocks.length c] 25 (0,0)):=by
  rw [hW0,Below.heap_alloc _ _ _ (by simp)]
  exact heap_alloc_new w _
 have hres:W0.heap[w.heap.size + 1]?=some (.cells #[.slice none 0 0,.slice none 0 0,.slice none 0 0,.slice none 0 0] 209 (0,0)):=by
  rw [hW0]
  have:=heap_alloc_new (w.alloc (.cells #[.slice P f.params.length pc,.int .i64 f.arrays,.int .i64 f.cells,.slice A f.blocks.length c] 25)) (.cells #[.slice none 0 0,.slice none 0 0,.slice none 0 0,.slice none 0 0] 209)
  simpa using this
 have HW0:=hideI hW0
 have HB0:=hideI hB0
 have HS0:=hideI hs0
 have G0:Hid (∀ W,Below W0.heap.size W0 W → (∀ o,W.cell? ⟨w.heap.size,o,none⟩=(#[.slice P f.params.length pc,.int .i64 f.arrays,.int .i64 f.cells,.slice A f.blocks.length c]:Array Value)[o]?) ∧ (∀ o,W.cell? ⟨w.heap.size + 1,o,none⟩=(#[.slice none 0 0,.slice none 0 0,.slice none 0 0,.slice none 0 0]:Array Value)[o]?) ∧ (∀ o,W.frozen? ⟨w.heap.size + 1,o,none⟩=false)):=fun W hW => by
  have h1:=hW.block w.heap.size (by omega)
  have h2:=hW.block (w.heap.size + 1) (by omega)
  exact ⟨row_cells hbox h1,row_cells hres h2,fun o => free_rowN hres h2 o⟩
 have HPW:Hid (∀ W,Below W0.heap.size W0 W → Ints W B (.slice P f.params.length pc) f.params ∧ BlocksR W B (.slice A f.blocks.length c) f.blocks ∧ Below w.heap.size w W):=fun W hW => by
  have h1:Below w.heap.size w W:=HB0.out.trans (hW.mono (by omega))
  exact ⟨HP.out.keeps (Keeps.of_below (h1.mono hB)),HBL.out.keeps (Keeps.of_below (h1.mono hB)),h1⟩
 obtain ⟨q1,q2,q3⟩:=G0.out W0 (Below.refl _ _)
 have b0:=q1 0
 have b1:=q1 1
 have b2:=q1 2
 have b3:=q1 3
 have hBW0:B ≤ W0.heap.size:=by omega
 have HFL:=hideI (flow_any f B _ _ W0 (HPW.out _ (Below.refl _ _)).1 (HPW.out _ (Below.refl _ _)).2.1 hBW0 HID.out)
 clear hid hW0 hB0 hs0 hbox hres q1 q2 q3
 by_cases h0:(lookM f).1=0
 ·have H0:=hideI h0
  clear h0
  go_enter Tryz.func139,Tryz.ntmps139
  go_upto_region 1 with fail
  rw [← HW0.out]
  go_wp2_with (first
   | (go_at_call 184;go_must (refine HFL.out.mono ?_);rintro e w1 (⟨hbad,_⟩ | ⟨_,o,pl,gp,vs,go,capo,gl,rfl,hfs,hfa,hlow,hb1⟩);(exact absurd H0.out hbad);have HFS:=hideI hfs;have HFA:=hideI hfa;have HLOW:=hideI hlow;have HB1:=hideI hb1;clear hfs hfa hlow hb1 b0 b1 b2 b3))
  obtain ⟨W1,hW1⟩:∃ W1,W1=w1.alloc (.cells #[.slice (some ⟨gp,0,none⟩) f.blocks.length f.blocks.length,.slice (some ⟨go,0,none⟩) o.length capo,.slice (some ⟨gl,0,none⟩) f.blocks.length f.blocks.length] 207):=⟨_,rfl⟩
  rw [← hW1]
  have hfc:W1.heap[w1.heap.size]?=some (.cells #[.slice (some ⟨gp,0,none⟩) f.blocks.length f.blocks.length,.slice (some ⟨go,0,none⟩) o.length capo,.slice (some ⟨gl,0,none⟩) f.blocks.length f.blocks.length] 207 (0,0)):=by rw [hW1];exact heap_alloc_new w1 _
  have hs1:w1.heap.size < W1.heap.size:=by rw [hW1];simp
  have HBW1:Hid (Below w1.heap.size w1 W1):=by show Below _ _ _;rw [hW1];exact (Below.refl _ _).alloc (Nat.le_refl _) _
  have HFC:=hideI hfc
  have hxr:=row_cells hfc rfl
  have q0:=hxr 0
  have q1:=hxr 1
  have q2:=hxr 2
  have G4:Hid (∀ W,Below W1.heap.size W1 W → W.cell? ⟨w1.heap.size,0,none⟩=some (.slice (some ⟨gp,0,none⟩) f.blocks.length f.blocks.length) ∧ W.cell? ⟨w1.heap.size,1,none⟩=some (.slice (some ⟨go,0,none⟩) o.length capo) ∧ W.cell? ⟨w1.heap.size,2,none⟩=some (.slice (some ⟨gl,0,none⟩) f.blocks.length f.blocks.length)):=by
   intro W hW
   have hx:=row_cells HFC.out (hW.block _ hs1)
   exact ⟨hx 0,hx 1,hx 2⟩
  have hn0:=HFS.out.n0
  have hn5:=HFS.out.n5
  have hn6:f.blocks.length ≤ 100000:=by omega
  clear hW1 hxr hfc
  go_cut [6] (fun s6 wx => ∃ g6 gi:Nat,s6=.pointer (some ⟨g6,0,none⟩) ∧ Hid (SixAt W1 wx f.blocks.length o.length gp go capo gl g6 gi))
  case first =>
   go_region_held3 (fun w' => w'.cell? ⟨w1.heap.size,0,none⟩=some (.slice (some ⟨gp,0,none⟩) f.blocks.length f.blocks.length) ∧ w'.cell? ⟨w1.heap.size,1,none⟩=some (.slice (some ⟨go,0,none⟩) o.length capo) ∧ w'.cell? ⟨w1.heap.size,2,none⟩=some (.slice (some ⟨gl,0,none⟩) f.blocks.length f.blocks.length)) (first | (with_reducible exact G4.out _ hfb) | (with_reducible exact G4.out _ (hfb.alloc hfb.size _)) | (with_reducible exact G4.out _ ((((hfb.setCell (Nat.le_succ _) _).setCell (Nat.le_succ _) _).setCell (Nat.le_succ _) _).setCell (Nat.le_succ _) _)) | (with_reducible exact G4.out _ ((((hfb.setCell (Nat.le_refl _) _).setCell (Nat.le_refl _) _).setCell (Nat.le_refl _) _).setCell (Nat.le_refl _) _)) | go_keep)
    (first
     | (go_at_call 147;(with_reducible refine (repeat_any (-1) f.blocks.length W1.heap.size (W1.alloc (.cells #[.int .i64 (-1)] 3)).drew hn0 hn6 drew_new_cell one_lt6).mono ?_);rintro e w3 ⟨gi,rfl,hrep,hb3⟩;have hfb:=drew_alloc_below hb3)
     | (go_at_call 147;(with_reducible refine (repeat_any (-1) f.blocks.length W1.heap.size ((W1.alloc (.cells #[.int .i64 (-1)] 3)).alloc (.cells #[.slice none 0 0,.slice none 0 0,.slice none 0 0,.slice none 0 0] 209)).drew hn0 hn6 drew_new_cell2 two_lt6).mono ?_);rintro e w3 ⟨gi,rfl,hrep,hb3⟩;obtain ⟨hfb,h6⟩:=drew_alloc2 hb3;replace h6:=h6.trans (new_two.trans (heap_alloc_new _ _));have hx6:=row_cells h6 rfl;have hz6:=free_rowN h6 rfl;have s0:=hx6 0;have s1:=hx6 1;have s2:=hx6 2;have s3:=hx6 3;have z0:=hz6 0;have z1:=hz6 1;have z2:=hz6 2;have z3:=hz6 3)
     | (go_at_call 147;(with_reducible refine (repeat_any (-1) f.blocks.length (W1.heap.size + 1) ((W1.alloc (.cells #[.slice none 0 0,.slice none 0 0,.slice none 0 0,.slice none 0 0] 209)).alloc (.cells #[.int .i64 (-1)] 3)).drew hn0 hn6 drew_new_cell3 two_lt7).mono ?_);rintro e w3 ⟨gi,rfl,hrep,hb3⟩;obtain ⟨hfb,h6⟩:=drew_alloc3 hb3;replace h6:=h6.trans (new_two3.trans (heap_alloc_new _ _));have hx6:=row_cells h6 rfl;have hz6:=free_rowN h6 rfl;have s0:=hx6 0;have s1:=hx6 1;have s2:=hx6 2;have s3:=hx6 3;have z0:=hz6 0;have z1:=hz6 1;have z2:=hz6 2;have z3:=hz6 3))
   all_goals (go_wp2_with fail;go_meet)
   ·exact ⟨_,gi,rfl,hideI (SixAt.late hfb hrep (Nat.le_of_lt one_lt6))⟩
   ·exact ⟨_,gi,rfl,hideI (SixAt.early hfb hrep two_lt7 (Nat.le_succ _) h6)⟩
   ·exact ⟨_,gi,rfl,hideI (SixAt.early hfb hrep two_lt6 (Nat.le_refl _) h6)⟩
  case rest =>
   obtain ⟨g6,gi,rfl,HSX⟩:=hcut
   clear q0 q1 q2
   obtain ⟨wx,rfl⟩:∃ wx:World,wx=wc:=⟨_,rfl⟩
   have hx:=row_cells HSX.out.row rfl
   have r0:=hx 0
   have r1:=hx 1
   have r2:=hx 2
   have r3:=hx 3
   clear hx
   have HTX:Hid (TreeAt wx W1.heap.size f.blocks o pl (fun _ => none) gp vs go capo gl gi):=hideI ⟨((HFA.out.kept HBW1.out).more HBW1.out.size).kept HSX.out.below,by rw [tops_none];exact HSX.out.own⟩
   have hs0:=HS0.out
   have hsw1:W0.heap.size ≤ w1.heap.size:=HB1.out.size
   have hswx:W1.heap.size ≤ wx.heap.size:=HSX.out.below.size
   have HBX:Hid (Below W0.heap.size W0 wx):=(HB1.out.trans (HBW1.out.mono hsw1)).trans (HSX.out.below.mono (by omega))
   have hgi:=HTX.out.lt
   have HG6:Hid (g6 ≠ gi ∧ g6 < wx.heap.size):=⟨HSX.out.ne,lt_of_heap HSX.out.row⟩
   go_wp2_with (go_at_call 185;go_must (refine (grow_any f.blocks o pl W1.heap.size gp go capo gl gi vs _ HTX.out HFS.out.ord HFS.out.range HFS.out.n5 HFS.out.len HFS.out.cap HFS.out.most).mono ?_);rintro e w5 ⟨par,rfl,hdone,htree,hg⟩;have HDONE:=hideI hdone;have HTREE:=hideI htree;have HG:=hideI hg;clear hdone htree hg r0 r1 r2 r3;have hx:=row_cells HSX.out.row (HG.out.block g6 HG6.out.2 (fun e => HG6.out.1 (Option.some.inj e)));have r0:=hx 0;have r1:=hx 1;have r2:=hx 2;have r3:=hx 3;have HB5:Hid (Below W0.heap.size W0 w5):=HBX.out.grown HG.out HBX.out.size (fun k hk => by cases hk;omega);obtain ⟨q1,q2,q3⟩:=G0.out _ HB5.out;have s0:=q2 0;have s1:=q2 1;have s2:=q2 2;have s3:=q2 3;have g0:=q3 0;have g1:=q3 1;have g2:=q3 2;have g3:=q3 3;clear hx q1 q2 q3)
   refine bodyPost_ret (v:=.tuple #[.agg #[.slice (some ⟨gp,0,none⟩) f.blocks.length f.blocks.length,.slice (some ⟨go,0,none⟩) o.length capo,.slice (some ⟨gl,0,none⟩) f.blocks.length f.blocks.length,.slice (some ⟨gi,0,none⟩) f.blocks.length f.blocks.length],.int .i64 0]) (by simp [results,Tryz.results139,go_sem,s0,s1,s2,s3]) rfl (.inr ⟨H0.out,o,pl,par,W1.heap.size,gp,vs,go,capo,gl,gi,rfl,HFS.out,HDONE.out,?_,by omega,?_⟩)
   ·have hlo:=HLOW.out
    exact (((HTREE.out.low hlo (by omega) (j:=w.heap.size + 1) (by omega) 0 _).low hlo (by omega) (j:=w.heap.size + 1) (by omega) 1 _).low hlo (by omega) (j:=w.heap.size + 1) (by omega) 2 _).low hlo (by omega) (j:=w.heap.size + 1) (by omega) 3 _
   ·exact ((((HPW.out _ HB5.out).2.2.setCell (by simp) _).setCell (by simp) _).setCell (by simp) _).setCell (by simp) _
 ·have H0:=hideI h0
  have hb:((lookM f).1 != 0)=true:=by simpa using h0
  clear h0
  go_enter Tryz.func139,Tryz.ntmps139
  go_upto_region 1 with fail
  rw [← HW0.out]
  go_wp2_with (first
   | (go_at_call 184;go_must (refine HFL.out.mono ?_);rintro e w1 (⟨_,rfl,hb1⟩ | ⟨hbad,_⟩);rotate_left;(exact absurd hbad H0.out);have HB1:=hideI hb1;have hb2:=hb1.alloc hb1.size (.cells #[.slice none 0 0,.slice none 0 0,.slice none 0 0] 207);obtain ⟨q1,q2,q3⟩:=G0.out _ hb2;have s0:=q2 0;have s1:=q2 1;have s2:=q2 2;have s3:=q2 3;have g0:=q3 0;have g1:=q3 1;have g2:=q3 2;have g3:=q3 3;clear q1 q2 q3 hb1 hb2 b0 b1 b2 b3))
  refine bodyPost_ret (v:=.tuple #[.agg #[.slice none 0 0,.slice none 0 0,.slice none 0 0,.slice none 0 0],.int .i64 (lookM f).1]) (by simp [results,Tryz.results139,go_sem,s0,s1,s2,s3]) rfl (.inl ⟨H0.out,rfl,?_⟩)
  exact (((((HPW.out _ HB1.out).2.2.alloc (HPW.out _ HB1.out).2.2.size _).setCell (by simp) _).setCell (by simp) _).setCell (by simp) _).setCell (by simp) _
end Go.Proofs.YtaehbgppfahdeaaGreat

namespace Go.Proofs.YtaehbgppfahdeaaGreat
def kidsTo (par:Nat → Option Nat) (k b:Nat):List Nat:=(List.range k).filter fun c => par c == some b
theorem kidsTo_mem {par:Nat → Option Nat} {k b c:Nat}:c ∈ kidsTo par k b ↔ c < k ∧ par c=some b:=by
 unfold kidsTo
 rw [List.mem_filter,List.mem_range,beq_iff_eq]
theorem kidsTo_nodup (par:Nat → Option Nat) (k b:Nat):(kidsTo par k b).Nodup:=List.nodup_range.filter _
theorem kidsTo_len (par:Nat → Option Nat) (k b:Nat):(kidsTo par k b).length ≤ k:=by
 have:=List.length_filter_le (fun c => par c == some b) (List.range k)
 unfold kidsTo
 simpa using this
theorem kidsTo_succ (par:Nat → Option Nat) (k b:Nat):kidsTo par (k + 1) b=kidsTo par k b ++ if par k=some b then [k] else []:=by
 unfold kidsTo
 rw [List.range_succ,List.filter_append]
 congr 1
 by_cases h:par k=some b <;> simp [h]
def updF (F:Nat → Int) (b:Nat) (v:Int):Nat → Int:=fun c => if c=b then v else F c
theorem updF_same (F:Nat → Int) (b:Nat) (v:Int):updF F b v b=v:=if_pos rfl
theorem updF_other (F:Nat → Int) {b c:Nat} (v:Int) (h:c ≠ b):updF F b v c=F c:=if_neg h
inductive Num (kids:Nat → List Nat):List Nat → List Nat → (Nat → Int) → (Nat → Int) → Nat → (Nat → Int) → (Nat → Int) → Prop
 | nil {F L:Nat → Int} {k:Nat}:Num kids [] [] F L k F L
 | cons {c:Nat} {cs u v:List Nat} {F L F1 L1 F2 L2:Nat → Int} {k:Nat} (h1:Num kids (kids c) u (updF F c (k:Int)) L (k + 1) F1 L1) (h2:Num kids cs v F1 (updF L1 c ((k + u.length:Nat):Int)) (k + 1 + u.length) F2 L2):Num kids (c :: cs) (c :: (u ++ v)) F L k F2 L2
theorem Num.append {kids:Nat → List Nat} {l r u v:List Nat} {F L F1 L1 F2 L2:Nat → Int} {k:Nat} (h:Num kids l u F L k F1 L1) (h2:Num kids r v F1 L1 (k + u.length) F2 L2):Num kids (l ++ r) (u ++ v) F L k F2 L2:=by
 induction h with
 | nil => exact h2
 | @cons c cs u1 u2 F L F1 L1 F2 L2 k a b _ ih2 =>
  have:=ih2 (by simpa [Nat.add_assoc,Nat.add_comm,Nat.add_left_comm] using h2)
  rw [List.cons_append,List.cons_append,List.append_assoc]
  exact .cons a this
theorem Num.one {kids:Nat → List Nat} {c k:Nat} {u:List Nat} {F L F1 L1:Nat → Int} (h:Num kids (kids c) u (updF F c k) L (k + 1) F1 L1):Num kids [c] (c :: u) F L k F1 (updF L1 c ((k + u.length:Nat):Int)):=by
 have:=Num.cons (cs:=[]) h .nil
 rwa [List.append_nil] at this
structure Sib (par:Nat → Option Nat) (l:List Nat):Prop where
 nodup:l.Nodup
 apart:∀ c ∈ l,∀ d ∈ l,c ≠ d → ∀ x,Anc par c x → ¬ Anc par d x
theorem Sib.tail {par:Nat → Option Nat} {c:Nat} {l:List Nat} (h:Sib par (c :: l)):Sib par l :=
 ⟨(List.nodup_cons.1 h.nodup).2,fun a ha b hb => h.apart a (List.mem_cons_of_mem _ ha) b (List.mem_cons_of_mem _ hb)⟩
theorem Sib.one (par:Nat → Option Nat) (c:Nat):Sib par [c] :=
 ⟨by simp,fun a ha b hb hne => absurd ((List.mem_singleton.1 ha).trans (List.mem_singleton.1 hb).symm) hne⟩
theorem Sib.take {par:Nat → Option Nat} {l:List Nat} (h:Sib par l) (i:Nat):Sib par (l.take i) :=
 ⟨h.nodup.sublist (List.take_sublist _ _),fun a ha b hb => h.apart a (List.mem_of_mem_take ha) b (List.mem_of_mem_take hb)⟩
theorem Sib.kids {o:List Nat} {pl:Nat → Nat} {par:Nat → Option Nat} (T:Tree o pl par) (n b:Nat):Sib par (kidsTo par n b):=by
 refine ⟨kidsTo_nodup par n b,?_⟩
 intro c hc d hd hne x h1 h2
 have pc:=(kidsTo_mem.1 hc).2
 have pd:=(kidsTo_mem.1 hd).2
 have hup:∀ {a e:Nat},par a=some b → par e=some b → a ≠ e → ¬ Anc par a e:=by
  intro a e ha he hn h
  rcases h.step he with h | h
  ·exact hn h
  ·have h3:=T.anc_le h
   have h4:=(T.up _ _ ha).2.2.1
   omega
 rcases h1.lin h2 with h | h
 ·exact hup pc pd hne h
 ·exact hup pd pc (fun e => hne e.symm) h
structure NumOk (par:Nat → Option Nat) (l u:List Nat) (F L:Nat → Int) (k:Nat) (F' L':Nat → Int):Prop where
 mem:∀ x,x ∈ u ↔ ∃ c ∈ l,Anc par c x
 nodup:u.Nodup
 keepF:∀ x,x ∉ u → F' x=F x
 keepL:∀ x,x ∉ u → L' x=L x
 lowF:∀ x ∈ u,(k:Int) ≤ F' x ∧ F' x < k + u.length
 lowL:∀ x ∈ u,L' x < k + u.length
 over:∀ x ∈ u,∀ y ∈ u,(F' x ≤ F' y ∧ F' y ≤ L' x) ↔ Anc par x y
theorem anc_below {par:Nat → Option Nat} {b x:Nat} (h:Anc par b x):x=b ∨ ∃ c,par c=some b ∧ Anc par c x:=by
 induction h with
 | refl => exact .inl rfl
 | up e k ih =>
  rcases ih with rfl | ⟨c,hc,h⟩
  ·exact .inr ⟨_,e,.refl⟩
  ·exact .inr ⟨c,hc,.up e h⟩
theorem Num.ok {o:List Nat} {pl:Nat → Nat} {par:Nat → Option Nat} (T:Tree o pl par) {n:Nat} (hn:∀ x ∈ o,x < n) {l u:List Nat} {F L F' L':Nat → Int} {k:Nat} (h:Num (kidsTo par n) l u F L k F' L'):Sib par l → NumOk par l u F L k F' L':=by
 induction h with
 | nil => intro _;exact ⟨by simp,by simp,by simp,by simp,by simp,by simp,by simp⟩
 | @cons c cs u1 u2 F L F1 L1 F2 L2 k _ _ ih1 ih2 =>
  intro hs
  have A:=ih1 (Sib.kids T n c)
  have B:=ih2 hs.tail
  have m1:∀ x,x ∈ u1 → Anc par c x ∧ x ≠ c:=by
   intro x hx
   obtain ⟨d,hd,hdx⟩:=(A.mem x).1 hx
   have pd:=(kidsTo_mem.1 hd).2
   have h3:Anc par c d:=.up pd .refl
   refine ⟨h3.trans hdx,fun e => ?_⟩
   subst e
   have h4:=T.anc_le hdx
   have h5:=(T.up _ _ pd).2.2.1
   omega
  have m2:∀ x,x ∈ u2 → ¬ Anc par c x:=by
   intro x hx hc
   obtain ⟨d,hd,hdx⟩:=(B.mem x).1 hx
   exact hs.apart c (List.mem_cons_self ..) d (List.mem_cons_of_mem _ hd) (fun e => (List.nodup_cons.1 hs.nodup).1 (by rw [e];exact hd)) x hc hdx
  have d12:∀ x,x ∈ u1 → x ∉ u2:=fun x h1 h2 => m2 x h2 (m1 x h1).1
  have cn1:c ∉ u1:=fun h => (m1 c h).2 rfl
  have cn2:c ∉ u2:=fun h => m2 c h .refl
  have fc:F2 c=k:=by rw [B.keepF c cn2,A.keepF c cn1,updF_same]
  have lc:L2 c=((k + u1.length:Nat):Int):=by rw [B.keepL c cn2,updF_same]
  have f1:∀ x ∈ u1,F2 x=F1 x:=fun x hx => B.keepF x (d12 x hx)
  have l1:∀ x ∈ u1,L2 x=L1 x:=fun x hx => by rw [B.keepL x (d12 x hx),updF_other _ _ (m1 x hx).2]
  have b1:∀ x ∈ u1,((k:Int) + 1 ≤ F2 x ∧ F2 x < k + 1 + u1.length) ∧ L2 x < k + 1 + u1.length:=by
   intro x hx
   have h3:=A.lowF x hx
   have h4:=A.lowL x hx
   rw [f1 x hx,l1 x hx]
   omega
  have b2:∀ x ∈ u2,((k:Int) + 1 + u1.length ≤ F2 x ∧ F2 x < k + 1 + u1.length + u2.length) ∧ L2 x < k + 1 + u1.length + u2.length:=by
   intro x hx
   have h3:=B.lowF x hx
   have h4:=B.lowL x hx
   omega
  have hm:∀ x,x ∈ c :: (u1 ++ u2) ↔ x=c ∨ x ∈ u1 ∨ x ∈ u2:=by intro x;rw [List.mem_cons,List.mem_append]
  have hlen:(c :: (u1 ++ u2)).length=1 + u1.length + u2.length:=by rw [List.length_cons,List.length_append];omega
  refine ⟨?_,?_,?_,?_,?_,?_,?_⟩
  ·intro x
   rw [hm]
   constructor
   ·rintro (rfl | h | h)
    ·exact ⟨x,List.mem_cons_self ..,.refl⟩
    ·exact ⟨c,List.mem_cons_self ..,(m1 x h).1⟩
    ·obtain ⟨d,hd,hdx⟩:=(B.mem x).1 h
     exact ⟨d,List.mem_cons_of_mem _ hd,hdx⟩
   ·rintro ⟨d,hd,hdx⟩
    rcases List.mem_cons.1 hd with rfl | hd
    ·rcases anc_below hdx with h | ⟨e,pe,hex⟩
     ·exact .inl h
     ·exact .inr (.inl ((A.mem x).2 ⟨e,kidsTo_mem.2 ⟨hn e (T.up _ _ pe).1,pe⟩,hex⟩))
    ·exact .inr (.inr ((B.mem x).2 ⟨d,hd,hdx⟩))
  ·rw [List.nodup_cons,List.mem_append,List.nodup_append]
   refine ⟨fun h => h.elim cn1 cn2,A.nodup,B.nodup,?_⟩
   intro x hx y hy e
   subst e
   exact d12 x hx hy
  ·intro x hx
   rw [hm] at hx
   rw [B.keepF x (fun h => hx (.inr (.inr h))),A.keepF x (fun h => hx (.inr (.inl h))),updF_other _ _ (fun e => hx (.inl e))]
  ·intro x hx
   rw [hm] at hx
   rw [B.keepL x (fun h => hx (.inr (.inr h))),updF_other _ _ (fun e => hx (.inl e)),A.keepL x (fun h => hx (.inr (.inl h)))]
  ·intro x hx
   rw [hlen]
   rcases (hm x).1 hx with rfl | h | h
   ·rw [fc];omega
   ·have:=b1 x h;omega
   ·have:=b2 x h;omega
  ·intro x hx
   rw [hlen]
   rcases (hm x).1 hx with rfl | h | h
   ·rw [lc];omega
   ·have:=b1 x h;omega
   ·have:=b2 x h;omega
  ·intro x hx y hy
   rcases (hm x).1 hx with rfl | h1 | h2
   ·rcases (hm y).1 hy with rfl | k1 | k2
    ·rw [fc,lc]
     exact ⟨fun _ => .refl,fun _ => by omega⟩
    ·have:=b1 y k1
     rw [fc,lc]
     exact ⟨fun _ => (m1 y k1).1,fun _ => by omega⟩
    ·have:=b2 y k2
     rw [fc,lc]
     exact ⟨fun h => by omega,fun h => absurd h (m2 y k2)⟩
   ·have hb:=b1 x h1
    rcases (hm y).1 hy with rfl | k1 | k2
    ·rw [fc]
     exact ⟨fun h => by omega,fun h => absurd (T.antisymm h (m1 x h1).1) (m1 x h1).2⟩
    ·rw [f1 x h1,f1 y k1,l1 x h1]
     exact A.over x h1 y k1
    ·have:=b2 y k2
     exact ⟨fun h => by omega,fun h => absurd ((m1 x h1).1.trans h) (m2 y k2)⟩
   ·have hb:=b2 x h2
    rcases (hm y).1 hy with rfl | k1 | k2
    ·rw [fc]
     refine ⟨fun h => by omega,fun h => ?_⟩
     obtain ⟨d,hd,hdx⟩:=(B.mem x).1 h2
     exact absurd (hdx.trans h) (hs.apart y (List.mem_cons_self ..) d (List.mem_cons_of_mem _ hd) (fun e => (List.nodup_cons.1 hs.nodup).1 (by rw [e];exact hd)) y .refl)
    ·have:=b1 y k1
     refine ⟨fun h => by omega,fun h => ?_⟩
     obtain ⟨d,hd,hdx⟩:=(B.mem x).1 h2
     exact absurd (hdx.trans h) (hs.apart c (List.mem_cons_self ..) d (List.mem_cons_of_mem _ hd) (fun e => (List.nodup_cons.1 hs.nodup).1 (by rw [e];exact hd)) y (m1 y k1).1)
    ·exact B.over x h2 y k2
structure Numbered (o:List Nat) (par:Nat → Option Nat) (F L:Nat → Int):Prop where
 come:∀ b,F b=-1 ↔ b ∉ o
 over:∀ a ∈ o,∀ b ∈ o,(F a ≤ F b ∧ F b ≤ L a) ↔ Anc par a b
theorem Num.numbered {o:List Nat} {pl:Nat → Nat} {par:Nat → Option Nat} {succ:Nat → List Nat} (O:Ord succ o pl) (T:Tree o pl par) (hg:∀ b ∈ o,Grown par b) {n:Nat} (hn:∀ x ∈ o,x < n) {u:List Nat} {L F' L':Nat → Int} (h:Num (kidsTo par n) [0] u (fun _ => -1) L 0 F' L'):Numbered o par F' L':=by
 have A:=h.ok T hn (Sib.one par 0)
 have hm:∀ x,x ∈ u ↔ x ∈ o:=by
  intro x
  rw [A.mem]
  constructor
  ·rintro ⟨c,hc,h⟩
   rw [List.mem_singleton] at hc
   subst hc
   rcases Anc.rec (motive:=fun b _ => b=0 ∨ ∃ d,par b=some d) (.inl rfl) (fun e _ _ => .inr ⟨_,e⟩) h with rfl | ⟨d,hd⟩
   ·exact O.zero_mem
   ·exact (T.up _ _ hd).1
  ·intro hx
   exact ⟨0,List.mem_singleton.2 rfl,T.zero_anc (pl x + 1) x (by omega) (hg x hx)⟩
 refine ⟨fun b => ?_,fun a ha b hb => A.over a ((hm a).2 ha) b ((hm b).2 hb)⟩
 constructor
 ·intro e hb
  have:=(A.lowF b ((hm b).2 hb)).1
  omega
 ·intro hb
  exact A.keepF b (fun h => hb ((hm b).1 h))
end Go.Proofs.YtaehbgppfahdeaaGreat

namespace Go.Proofs.YtaehbgppfahdeaaGreat
open Go.RowKit Go.Maps
def numsL (n:Nat) (F:Nat → Int):List Value:=(List.range n).map fun b => .int .i64 (F b)
theorem numsL_at {n b:Nat} {F:Nat → Int} (h:b < n):(numsL n F)[b]?=some (.int .i64 (F b)):=by
 unfold numsL
 rw [List.getElem?_map,List.getElem?_range h]
 rfl
theorem numsL_set {n b:Nat} {F:Nat → Int} {v:Int}:(numsL n F).set b (.int .i64 v)=numsL n (updF F b v):=by
 unfold numsL
 apply List.ext_getElem?
 intro i
 by_cases hi:i < n
 ·by_cases e:b=i
  ·subst e
   rw [List.getElem?_set_self (by simpa using hi),List.getElem?_map,List.getElem?_range hi]
   simp [updF]
  ·rw [List.getElem?_set_ne e,List.getElem?_map,List.getElem?_map,List.getElem?_range hi]
   have e':¬ i=b:=fun h => e h.symm
   simp [updF,e']
 ·rw [List.getElem?_eq_none (by simp;omega),List.getElem?_eq_none (by simp;omega)]
theorem numsL_rep (n:Nat) (v:Int):numsL n (fun _ => v)=List.replicate n (.int .i64 v):=by
 unfold numsL
 apply List.ext_getElem?
 intro i
 by_cases hi:i < n
 ·rw [List.getElem?_map,List.getElem?_range hi,List.getElem?_replicate,if_pos hi];rfl
 ·rw [List.getElem?_eq_none (by simp;omega),List.getElem?_eq_none (by simp;omega)]
structure KidsR (w:World) (B n gb cB:Nat) (kids:Nat → List Nat):Prop where
 hcb:cB < B
 hgb:gb < B
 cell:w.heap[cB]?=some (.cells #[.slice (some ⟨gb,0,none⟩) n n] 44 (0,0))
 list:∀ b,b < n → ∃ v,w.cell? ⟨gb,b,none⟩=some v ∧ Ints w B v ((kids b).map fun (x:Nat) => (x:Int))
theorem KidsR.kept {w w':World} {B n gb cB:Nat} {kids:Nat → List Nat} (h:KidsR w B n gb cB kids) (hb:Below B w w'):KidsR w' B n gb cB kids :=
 ⟨h.hcb,h.hgb,(hb.block _ h.hcb).trans h.cell,fun b hbn => by
  obtain ⟨v,h1,h2⟩:=h.list b hbn
  exact ⟨v,(hb.cell (p:=⟨gb,b,none⟩) h.hgb).trans h1,h2.keeps (Keeps.of_below hb)⟩⟩
structure Wk (B n gF gL g6 c7 cB:Nat) (F L:Nat → Int) (k:Nat) (w:World):Prop where
 tree:w.heap[g6]?=some (.cells #[.slice (some ⟨gF,0,none⟩) n n,.slice (some ⟨gL,0,none⟩) n n] 120 (0,0))
 rF:w.ownsRow B 3 1 (.slice (some ⟨gF,0,none⟩) n n) n (numsL n F)
 rL:w.ownsRow B 3 1 (.slice (some ⟨gL,0,none⟩) n n) n (numsL n L)
 h7:w.heap[c7]?=some (.cells #[.int .i64 (k:Int)] 3 (0,0))
 h8:w.heap[c7 + 1]?=some (.cells #[.func (.func 153) #[] #[.pointer (some ⟨c7,0,none⟩),.pointer (some ⟨g6,0,none⟩),.pointer (some ⟨cB,0,none⟩),.pointer (some ⟨c7 + 1,0,none⟩)]] 221 (0,0))
 fl:gF ≠ gL
 f6:gF ≠ g6
 l6:gL ≠ g6
 fc:gF < c7
 lc:gL < c7
 c6:g6 < c7
 b6:B ≤ g6
section
variable {B n gF gL g6 c7 cB k:Nat} {F L:Nat → Int} {w:World}
theorem Wk.setF (h:Wk B n gF gL g6 c7 cB F L k w) (b:Nat) (v:Int):Wk B n gF gL g6 c7 cB (updF F b v) L k (w.setCell ⟨gF,b,none⟩ (.int .i64 v)):=by
 have ho:∀ j,j ≠ gF → (w.setCell ⟨gF,b,none⟩ (.int .i64 v)).heap[j]?=w.heap[j]?:=fun j hj => heap_setCell_other w ⟨gF,b,none⟩ j _ hj
 have h1:=h.fl
 have h2:=h.f6
 have h3:=h.fc
 refine ⟨(ho _ (by omega)).trans h.tree,?_,ownsRow_setCell_other h.rL (by simp [Value.ownBlock];omega) _,(ho _ (by omega)).trans h.h7,(ho _ (by omega)).trans h.h8,h.fl,h.f6,h.l6,h.fc,h.lc,h.c6,h.b6⟩
 have:=(World.ownsRow.stored h.rF b (.int .i64 v)).1
 rwa [numsL_set] at this
theorem Wk.setL (h:Wk B n gF gL g6 c7 cB F L k w) (b:Nat) (v:Int):Wk B n gF gL g6 c7 cB F (updF L b v) k (w.setCell ⟨gL,b,none⟩ (.int .i64 v)):=by
 have ho:∀ j,j ≠ gL → (w.setCell ⟨gL,b,none⟩ (.int .i64 v)).heap[j]?=w.heap[j]?:=fun j hj => heap_setCell_other w ⟨gL,b,none⟩ j _ hj
 have h1:=h.fl
 have h2:=h.l6
 have h3:=h.lc
 refine ⟨(ho _ (by omega)).trans h.tree,ownsRow_setCell_other h.rF (by simp [Value.ownBlock];omega) _,?_,(ho _ (by omega)).trans h.h7,(ho _ (by omega)).trans h.h8,h.fl,h.f6,h.l6,h.fc,h.lc,h.c6,h.b6⟩
 have:=(World.ownsRow.stored h.rL b (.int .i64 v)).1
 rwa [numsL_set] at this
theorem Wk.setC (h:Wk B n gF gL g6 c7 cB F L k w) (k':Nat):Wk B n gF gL g6 c7 cB F L k' (w.setCell ⟨c7,0,none⟩ (.int .i64 (k':Int))):=by
 have ho:∀ j,j ≠ c7 → (w.setCell ⟨c7,0,none⟩ (.int .i64 (k':Int))).heap[j]?=w.heap[j]?:=fun j hj => heap_setCell_other w ⟨c7,0,none⟩ j _ hj
 have h1:=h.fc
 have h2:=h.lc
 have h3:=h.c6
 refine ⟨(ho _ (by omega)).trans h.tree,ownsRow_setCell_other h.rF (by simp [Value.ownBlock];omega) _,ownsRow_setCell_other h.rL (by simp [Value.ownBlock];omega) _,by simpa using one_setCell h.h7,(ho _ (by omega)).trans h.h8,h.fl,h.f6,h.l6,h.fc,h.lc,h.c6,h.b6⟩
end
def WalkPost (n gF gL g6 c7 cB B:Nat) (kids:Nat → List Nat) (F L:Nat → Int) (k b:Nat) (w:World) (e:Ending) (w':World):Prop :=
 ∃ (u:List Nat) (F1 L1:Nat → Int),e=.returned (.tuple #[]) ∧ Num kids (kids b) u (updF F b (k:Int)) L (k + 1) F1 L1 ∧ Wk B n gF gL g6 c7 cB F1 (updF L1 b ((k + u.length:Nat):Int)) (k + 1 + u.length) w' ∧ Below B w w'
set_option maxRecDepth 100000 in
set_option maxHeartbeats 2000000 in
theorem walk_any {o:List Nat} {pl:Nat → Nat} {par:Nat → Option Nat} (T:Tree o pl par) (n:Nat) (hn5:n ≤ 512) (hn:∀ x ∈ o,x < n) (hpl:∀ x ∈ o,pl x < o.length) (B gF gL g6 c7 cB gb:Nat) :
  ∀ (d:Nat) (ws:List Nat) (b:Nat) (F L:Nat → Int) (w:World),o.length ≤ pl b + d → b ∈ o → ws.Nodup → (∀ x ∈ ws,x < n ∧ ¬ Anc par b x) → KidsR w B n gb cB (kidsTo par n) → Wk B n gF gL g6 c7 cB F L ws.length w →
  Calls Tryz.prog 153 #[.int .i64 b,.pointer (some ⟨c7,0,none⟩),.pointer (some ⟨g6,0,none⟩),.pointer (some ⟨cB,0,none⟩),.pointer (some ⟨c7 + 1,0,none⟩)] w (WalkPost n gF gL g6 c7 cB B (kidsTo par n) F L ws.length b w):=by
 intro d
 induction d with
 | zero =>
  intro ws b F L w hd hb
  have:=hpl b hb
  omega
 | succ d ih =>
  intro ws b F L w hd hb hnd hws hK hW
  have HIH:=hideI ih
  have HT:=hideI T
  have HNN:=hideI hn
  have HND:=hideI hnd
  have HWS:=hideI hws
  have HK:=hideI hK
  have HBO:=hideI hb
  have hbn:=hn b hb
  obtain ⟨v,hv,hi⟩:=hK.list b hbn
  have HI:=hideI hi
  obtain ⟨KA,kc,rfl,hkm,_⟩:=hi
  obtain ⟨m,hm⟩:∃ m,m=(kidsTo par n b).length:=⟨_,rfl⟩
  have HM:=hideI hm
  rw [List.length_map,← hm] at hv hkm
  have hm5:m ≤ 512:=by have:=kidsTo_len par n b;omega
  obtain ⟨k,hk⟩:∃ k,k=ws.length:=⟨_,rfl⟩
  have HKL:=hideI hk
  rw [← hk] at hW ⊢
  have hwn:(b :: ws).Nodup:=List.nodup_cons.2 ⟨fun h => (hws b h).2 .refl,hnd⟩
  have hkn:k < n:=by
   have:=below_len n (b :: ws) hwn (fun x hx => by rcases List.mem_cons.1 hx with rfl | hx;exact hbn;exact (hws x hx).1)
   rw [List.length_cons] at this
   omega
  have hx6:=row_cells hW.tree rfl
  have q0:=hx6 0
  have q7:=cell_of_one hW.h7
  have z7:=free_of_one hW.h7
  have qF:w.cell? ⟨gF,b,none⟩=some (.int .i64 (F b)):=by rw [World.ownsRow.cellAt hW.rF b (by omega),numsL_at hbn]
  have zF:w.frozen? ⟨gF,b,none⟩=false:=World.ownsRow.frozenAt hW.rF b
  have qB:=cell_of_one hK.cell
  have n1:gF ≠ c7:=by have:=hW.fc;omega
  have n2:cB ≠ gF:=by have h1:=hK.hcb;have h2:=(hW.rF.lt gF rfl).1;omega
  have n3:cB ≠ c7:=by have h1:=hK.hcb;have h2:=hW.b6;have h3:=hW.c6;omega
  have n4:gb ≠ gF:=by have h1:=hK.hgb;have h2:=(hW.rF.lt gF rfl).1;omega
  have n5:gb ≠ c7:=by have h1:=hK.hgb;have h2:=hW.b6;have h3:=hW.c6;omega
  have HW1:=hideI ((hW.setF b (k:Int)).setC (k + 1))
  have hb67:B ≤ gF ∧ B ≤ c7:=⟨(hW.rF.lt gF rfl).1,by have h2:=hW.b6;have h3:=hW.c6;omega⟩
  have HB1:Hid (Below B w ((w.setCell ⟨gF,b,none⟩ (.int .i64 (k:Int))).setCell ⟨c7,0,none⟩ (.int .i64 ((k + 1:Nat):Int)))):=((Below.refl B w).setCell (by simpa using hb67.1) _).setCell (by simpa using hb67.2) _
  rw [show ((k + 1:Nat):Int)=(k:Int) + 1 from by omega] at HW1 HB1
  clear ih T hn hnd hws hK hb hm hk hW hx6 hwn hb67
  go_enter Tryz.func153,Tryz.ntmps153
  go_wp2
  obtain ⟨wm,hwm⟩:∃ wm:World,wm=(w.setCell ⟨gF,b,none⟩ (.int .i64 (k:Int))).setCell ⟨c7,0,none⟩ (.int .i64 ((k:Int) + 1)):=⟨_,rfl⟩
  rw [← hwm] at HW1 HB1 ⊢
  clear hwm q0 q7 z7 qF zF qB hv n1 n2 n3 n4 n5
  have HSIB:=hideI (Sib.kids HT.out n b)
  go_loopw [20] (fun u wr => ∃ (i:Nat) (us:List Nat) (Fi Li:Nat → Int),i ≤ m ∧ u=.int .i64 i ∧ Hid (Num (kidsTo par n) ((kidsTo par n b).take i) us (updF F b (k:Int)) L (k + 1) Fi Li) ∧ Hid (Wk B n gF gL g6 c7 cB Fi Li (k + 1 + us.length) wr) ∧ Hid (Below B w wr)) (fun u _ => m - (intOf u).toNat)
  case atStart => exact ⟨0,[],_,_,Nat.zero_le _,rfl,by exact hideI .nil,HW1,HB1⟩
  case round =>
   obtain ⟨i,us,Fi,Li,hi,rfl,HN,HWr,HBr⟩:=hrel
   have hok:=HN.out.ok HT.out HNN.out (HSIB.out.take i)
   have hall:(us ++ (b :: ws)).Nodup ∧ ∀ x ∈ us ++ (b :: ws),x < n:=by
    have hus:∀ x ∈ us,Anc par b x ∧ x ≠ b ∧ x < n:=by
     intro x hx
     obtain ⟨c,hc,hcx⟩:=(hok.mem x).1 hx
     have pc:=(kidsTo_mem.1 (List.mem_of_mem_take hc)).2
     have h3:Anc par b c:=.up pc .refl
     refine ⟨h3.trans hcx,fun e => ?_,?_⟩
     ·subst e
      have h4:=HT.out.anc_le hcx
      have h5:=(HT.out.up _ _ pc).2.2.1
      omega
     ·rcases HT.out.anc_pl hcx with rfl | ⟨_,_⟩
      ·exact HNN.out _ (HT.out.up _ _ pc).1
      ·cases hcx with
       | refl => exact HNN.out _ (HT.out.up _ _ pc).1
       | up e _ => exact HNN.out _ (HT.out.up _ _ e).1
    refine ⟨?_,?_⟩
    ·rw [List.nodup_append]
     refine ⟨hok.nodup,List.nodup_cons.2 ⟨fun h => (HWS.out b h).2 .refl,HND.out⟩,?_⟩
     intro x hx y hy e
     subst e
     rcases List.mem_cons.1 hy with rfl | hy
     ·exact (hus _ hx).2.1 rfl
     ·exact (HWS.out _ hy).2 (hus _ hx).1
    ·intro x hx
     rcases List.mem_append.1 hx with hx | hx
     ·exact (hus x hx).2.2
     ·rcases List.mem_cons.1 hx with rfl | hx
      ·exact hbn
      ·exact (HWS.out x hx).1
   have hlen:=below_len n _ hall.1 hall.2
   rw [List.length_append,List.length_cons,← HKL.out] at hlen
   have HALL:=hideI hall
   have HOK:=hideI hok
   clear hok hall
   by_cases hlt:i < m
   ·obtain ⟨c,hc⟩:∃ c,(kidsTo par n b)[i]?=some c:=⟨_,List.getElem?_eq_getElem (by rw [HM.out] at hlt;exact hlt)⟩
    have hcm:=List.mem_of_getElem? hc
    have pc:=(kidsTo_mem.1 hcm).2
    have hco:=(HT.out.up _ _ pc).1
    have hpl1:=(HT.out.up _ _ pc).2.2.1
    have htk:Hid ((kidsTo par n b).take (i + 1)=(kidsTo par n b).take i ++ [c]):=by
     show _=_
     rw [List.take_add_one,hc]
     rfl
    have hcw:∀ x ∈ us ++ (b :: ws),x < n ∧ ¬ Anc par c x:=by
     intro x hx
     refine ⟨HALL.out.2 x hx,fun hcx => ?_⟩
     have hbc:Anc par b c:=.up pc .refl
     rcases List.mem_append.1 hx with hx | hx
     ·obtain ⟨c',hc',hcx'⟩:=(HOK.out.mem x).1 hx
      have hne:c ≠ c':=by
       intro e
       subst e
       obtain ⟨j,hj⟩:=List.getElem?_of_mem hc'
       rw [List.getElem?_take] at hj
       split at hj
       ·rename_i hji
        have h1:=(List.getElem?_eq_some_iff.1 hc)
        have h2:=(List.getElem?_eq_some_iff.1 hj)
        exact List.pairwise_iff_getElem.1 (kidsTo_nodup par n b) j i h2.1 h1.1 hji (h2.2.trans h1.2.symm)
       ·cases hj
      exact HSIB.out.apart c hcm c' (List.mem_of_mem_take hc') hne x hcx hcx'
     ·rcases List.mem_cons.1 hx with rfl | hx
      ·have:=HT.out.anc_le hcx
       omega
      ·exact (HWS.out x hx).2 (hbc.trans hcx)
    obtain ⟨KA',kc',e0,_,hxx⟩:=HI.out.keeps (Keeps.of_below HBr.out)
    cases e0
    obtain ⟨kb,koff,rfl,hkb,hcell⟩:=hxx i (by rw [List.length_map,← HM.out];exact hlt)
    rw [List.getElem?_map,hc] at hcell
    simp only [Option.map_some,Option.getD_some] at hcell
    have q8:=cell_of_one HWr.out.h8
    have HC:=hideI (HIH.out (us ++ (b :: ws)) c Fi Li wr (by omega) hco HALL.out.1 hcw (HK.out.kept HBr.out) (by rw [List.length_append,List.length_cons,← HKL.out,show us.length + (k + 1)=k + 1 + us.length by omega];exact HWr.out))
    have hlw:(us ++ (b :: ws)).length=k + 1 + us.length:=by rw [List.length_append,List.length_cons,← HKL.out];omega
    rw [hlw] at HC
    clear hxx hc hcm pc hco hpl1 hcw hlw
    go_wp2_with (go_at_call 153;go_must (refine HC.out.mono ?_);rintro e w2 ⟨u2,F2,L2,rfl,hn2,hw2,hb2⟩;have HN2:=hideI hn2;have HW2:=hideI hw2;have HB2:=hideI hb2;clear hn2 hw2 hb2)
    go_roundw
    case rel =>
     refine ⟨i + 1,us ++ (c :: u2),F2,updF L2 c ((k + 1 + us.length + u2.length:Nat):Int),by omega,by go_num,?_,?_,hideI (HBr.out.trans HB2.out)⟩
     ·rw [htk.out]
      exact hideI (HN.out.append (Num.one HN2.out))
     ·have e:k + 1 + (us ++ c :: u2).length=k + 1 + us.length + 1 + u2.length:=by rw [List.length_append,List.length_cons];omega
      rw [e]
      exact HW2
    case measure => simp [intOf];omega
   ·have hall:(kidsTo par n b).take i=kidsTo par n b:=by rw [List.take_of_length_le (by rw [← HM.out];omega)]
    rw [hall] at HN
    have hx6:=row_cells HWr.out.tree rfl
    have q1:=hx6 1
    have q7:=cell_of_one HWr.out.h7
    have qL:wr.cell? ⟨gL,b,none⟩=some (.int .i64 (Li b)):=by rw [World.ownsRow.cellAt HWr.out.rL b (by omega),numsL_at hbn]
    have zL:wr.frozen? ⟨gL,b,none⟩=false:=World.ownsRow.frozenAt HWr.out.rL b
    have hbL:B ≤ gL:=(HWr.out.rL.lt gL rfl).1
    have HWE:=hideI (HWr.out.setL b ((k + us.length:Nat):Int))
    have HBE:Hid (Below B w (wr.setCell ⟨gL,b,none⟩ (.int .i64 ((k + us.length:Nat):Int)))):=HBr.out.setCell (by simpa using hbL) _
    obtain ⟨z,hz⟩:∃ z:Int,z=((k + us.length:Nat):Int):=⟨_,rfl⟩
    have hz1:((k + 1 + us.length:Nat):Int)=z + 1:=by rw [hz];omega
    have hz2:IntKind.i64.wrap (z + 1 - 1)=z:=by rw [show z + 1 - 1=z from by omega];exact IntWalk.i64_in _ (by omega)
    have hz3:z + 1 - 1=z:=by omega
    have hz4:0 ≤ z ∧ z ≤ 512:=by omega
    rw [← hz] at HWE HBE
    rw [hz1] at q7
    have HZ:=hideI hz
    obtain ⟨hz5,hz6⟩:=hz4
    clear hx6 hz hz1 hall
    go_wp2
    go_end0
    refine ⟨us,Fi,Li,rfl,HN.out,?_,?_⟩
    ·rw [← HZ.out]
     exact HWE.out
    ·exact HBE.out
end Go.Proofs.YtaehbgppfahdeaaGreat

namespace Go.Proofs.YtaehbgppfahdeaaGreat
section
variable {P:Program} {ops:Array Oper} {Q:Exit → Act → World → Prop} {md:Region.Mode} {S:World → Prop} {T:List Nat}
def wpAnyT (P:Program) (md:Region.Mode) (ops:Array Oper) (Q:Exit → Act → World → Prop) (S:World → Prop) (T:List Nat):Nat → Array Bool → Act → World → Prop
 | 0,listed,a,w => Region.ready md ops listed=[] ∧ Q .normal a w
 | fuel + 1,listed,a,w =>
  (Region.ready md ops listed=[] → Q .normal a w) ∧
  ∀ i ∈ Region.ready md ops listed,wpOp P ops Q i (fun a' w' => (i ∉ T → S w → S w') ∧ wpAnyT P md ops Q S T fuel (listed.setIfInBounds i true) a' w') a w
theorem wpAny_of_late:∀ (fuel:Nat) (listed:Array Bool) (a:Act) (w:World),wpAnyT P md ops Q S T fuel listed a w → wpAny P md ops Q fuel listed a w
 | 0,_,_,_,h => h
 | fuel + 1,_,_,_,h => ⟨h.1,fun i hi => wpOp_mono (fun a' w' h' => wpAny_of_late fuel _ a' w' h'.2) (h.2 i hi)⟩
def waitsB (md:Region.Mode) (ops:Array Oper) (U:List Nat) (i:Nat):Bool :=
 U.all fun j => match ops[j]? with | some oj => oj.after.any (fun e => Region.binds md e && (e.on == i || U.contains e.on)) | none => true
theorem waits_spec {U:List Nat} {i:Nat} (h:waitsB md ops U i=true) {j:Nat} (hj:j ∈ U) {oj:Oper} (ho:ops[j]?=some oj):∃ e ∈ oj.after,Region.binds md e=true ∧ (e.on=i ∨ e.on ∈ U):=by
 unfold waitsB at h
 rw [List.all_eq_true] at h
 have h1:=h j hj
 rw [ho] at h1
 simp only [Array.any_eq_true',Bool.and_eq_true,Bool.or_eq_true,beq_iff_eq,List.contains_eq_mem,decide_eq_true_eq] at h1
 obtain ⟨e,he,h2,h3⟩:=h1
 exact ⟨e,he,h2,h3⟩
theorem wpAnyT_first {i:Nat} {oi:Oper} {v:Value} (hi:ops[i]?=some oi) (hsel:∀ (j:Nat) (o:Oper) cs b,ops[j]?=some o → o.op ≠ .select cs b)
  (hQ:∀ c a w,Q (.panic c) (a.put oi.dst v) w → Q (.panic c) a w) {R:World → Prop} {U:List Nat} (hU:waitsB md ops U i=true) (hR:∀ (j:Nat) (oj:Oper) (w w':World),ops[j]?=some oj → j ∉ U → (j ∉ T → S w → S w') → R w → R w') :
  ∀ (fuel:Nat) (listed:Array Bool) (a:Act) (w:World),
   (∀ j oj,ops[j]?=some oj → j ≠ i → listed.getD j true=false → (∀ e ∈ oj.after,Region.binds md e=true → e.on ≠ i) → oi.apart ops oj=true) →
   (∀ u ∈ U,listed.getD u true=false) → i ∈ Region.ready md ops listed → YieldsIf P ops R oi v a → R w →
   wpAnyT P md ops Q S T fuel (listed.setIfInBounds i true) (a.put oi.dst v) w → wpAnyT P md ops Q S T (fuel + 1) listed a w:=by
 intro fuel
 induction fuel with
 | zero =>
  intro listed a w _ _ hr hy hW H
  refine ⟨fun h => (by rw [h] at hr;cases hr),fun j hj => ?_⟩
  by_cases hji:j=i
  ·subst hji;exact hy.wpOp hi hW ⟨fun _ h => h,H⟩
  ·have:=ready_mono hj hji
   rw [H.1] at this
   cases this
 | succ fuel ih =>
  intro listed a w hfree hun hr hy hW H
  refine ⟨fun h => (by rw [h] at hr;cases hr),fun j hj => ?_⟩
  by_cases hji:j=i
  ·subst hji;exact hy.wpOp hi hW ⟨fun _ h => h,H⟩
  ·have h1:=H.2 j (ready_mono hj hji)
   obtain ⟨hjun,oj,hoj,hall⟩:=mem_ready.1 hj
   have hnot:∀ e ∈ oj.after,Region.binds md e=true → e.on ≠ i:=fun e he hb heq => by
    have h1:=hall e he hb
    have h0:=(mem_ready.1 hr).1
    rw [heq] at h1
    rcases Nat.lt_or_ge i listed.size with h' | h'
    ·simp [h'] at h0 h1;rw [h0] at h1;cases h1
    ·simp [Array.getElem?_eq_none h'] at h1
   have hnU:∀ e ∈ oj.after,Region.binds md e=true → e.on ∉ U:=fun e he hb hm => by
    have h1:=hall e he hb
    have h0:=hun _ hm
    rcases Nat.lt_or_ge e.on listed.size with h' | h'
    ·simp [h'] at h0 h1;rw [h0] at h1;cases h1
    ·simp [Array.getElem?_eq_none h'] at h1
   have hjU:j ∉ U:=fun hm => by
    obtain ⟨e,he,hb,heq⟩:=waits_spec hU hm hoj
    rcases heq with heq | heq
    ·exact hnot e he hb heq
    ·exact hnU e he hb heq
   have hun':∀ u ∈ U,(listed.setIfInBounds j true).getD u true=false:=fun u hu => by
    have hne:j ≠ u:=fun e => hjU (by rw [e];exact hu)
    rw [getD_set_ne true hne]
    exact hun u hu
   have h2:=wpOp_putIf hoj (hfree j oj hoj hji hjun hnot) (fun cs b => hsel i oi cs b hi) (fun cs b => hsel j oj cs b hoj) hQ hy h1
   have hfree':∀ k ok,ops[k]?=some ok → k ≠ i → (listed.setIfInBounds j true).getD k true=false →
     (∀ e ∈ ok.after,Region.binds md e=true → e.on ≠ i) → oi.apart ops ok=true:=fun k ok hk hki hun hno => by
    refine hfree k ok hk hki ?_ hno
    by_cases hjk:j=k
    ·subst hjk;exact hjun
    ·rw [getD_set_ne true hjk] at hun;exact hun
   refine wpOp_mono (fun a' w' h3 => ⟨h3.2.1,ih (listed.setIfInBounds j true) a' w' hfree' hun' (ready_mono hr (Ne.symm hji)) h3.1 (hR j oj w w' hoj hjU h3.2.1 hW) ?_⟩) h2
   rw [Array.setIfInBounds_comm _ _ hji]
   exact h3.2.2
theorem wpAnyT_take (U:List Nat) {i:Nat} {oi:Oper} {v:Value} {fuel:Nat} {listed:Array Bool} {a:Act} {w:World} (hi:ops.toList[i]?=some oi)
  (hs:Region.noSelect ops=true) (hf:Region.free md ops listed i=true) (hr:(Region.ready md ops listed).contains i=true) (hU:waitsB md ops U i=true) (hT:T.all (U.contains ·)=true) (hl:U.all (fun u => !(listed.getD u true))=true)
  (hQ:∀ c a w,Q (.panic c) (a.put oi.dst v) w → Q (.panic c) a w) (hS:S w) (hy:YieldsIf P ops S oi v a)
  (h:wpAnyT P md ops Q S T fuel (listed.setIfInBounds i true) (a.put oi.dst v) w):wpAnyT P md ops Q S T (fuel + 1) listed a w :=
 wpAnyT_first (by simpa using hi) (Region.noSelect_spec hs) hQ hU (fun j oj w w' ho hn hw => hw fun hm => hn (by
  rw [List.all_eq_true] at hT
  simpa using hT j hm)) fuel listed a w (Region.free_spec (by simpa using hi) hf) (fun u hu => by rw [List.all_eq_true] at hl;simpa using hl u hu) (by simpa using hr) hy hS h
theorem wpAnyT_quiet {i:Nat} {oi:Oper} {v:Value} {fuel:Nat} {listed:Array Bool} {a:Act} {w:World} (hi:ops.toList[i]?=some oi)
  (hs:Region.noSelect ops=true) (hf:Region.free md ops listed i=true) (hr:(Region.ready md ops listed).contains i=true)
  (hQ:∀ c a w,Q (.panic c) (a.put oi.dst v) w → Q (.panic c) a w) (hy:Yields P ops oi v a)
  (h:wpAnyT P md ops Q S T fuel (listed.setIfInBounds i true) (a.put oi.dst v) w):wpAnyT P md ops Q S T (fuel + 1) listed a w :=
 wpAnyT_first (R:=fun _ => True) (U:=[]) (by simpa using hi) (Region.noSelect_spec hs) hQ rfl (fun _ _ _ _ _ _ _ _ => trivial) fuel listed a w (Region.free_spec (by simpa using hi) hf) (fun u hu => by cases hu) (by simpa using hr)
  (hy.imp (fun ⟨hw,hv⟩ => ⟨hw,fun w _ => hv w⟩) id) trivial h
def AllReadyT (P:Program) (md:Region.Mode) (ops:Array Oper) (Q:Exit → Act → World → Prop) (S:World → Prop) (T:List Nat) (fuel:Nat) (listed:Array Bool) (a:Act) (w:World) (rs:List Nat):Prop :=
 ∀ i ∈ rs,wpOp P ops Q i (fun a' w' => (i ∉ T → S w → S w') ∧ wpAnyT P md ops Q S T fuel (listed.setIfInBounds i true) a' w') a w
theorem AllReadyT.nil {fuel:Nat} {listed:Array Bool} {a:Act} {w:World}:AllReadyT P md ops Q S T fuel listed a w []:=fun _ h => by cases h
theorem AllReadyT.cons {fuel:Nat} {listed:Array Bool} {a:Act} {w:World} {i:Nat} {o:Oper} {rs:List Nat} (ho:ops.toList[i]?=some o)
  (h:∀ K':Act → World → Prop,Shut (∀ a' w',(i ∉ T → S w → S w') → wpAnyT P md ops Q S T fuel (listed.setIfInBounds i true) a' w' → K' a' w') → if Region.wanted o (yielded ops a.tmps)=true then Oper.wp P o a w K' Q else K' (a.put o.dst undef) w)
  (hs:AllReadyT P md ops Q S T fuel listed a w rs):AllReadyT P md ops Q S T fuel listed a w (i :: rs):=fun j hj => by
 have ho:ops[i]?=some o:=by simpa using ho
 rcases List.mem_cons.1 hj with rfl | hj
 ·exact wpOp_step ho (fun K' hK => h K' (fun a w hS hW => hK a w ⟨hS,hW⟩))
 ·exact hs j hj
theorem wpAnyT_ready {rs:List Nat} {fuel:Nat} {listed:Array Bool} {a:Act} {w:World} (hr:Region.ready md ops listed=rs) (hne:rs ≠ [])
  (h:AllReadyT P md ops Q S T fuel listed a w rs):wpAnyT P md ops Q S T (fuel + 1) listed a w:=⟨fun h0 => absurd (hr ▸ h0) hne,hr ▸ h⟩
theorem wpAnyT_done {listed:Array Bool} {a:Act} {w:World} (hr:Region.ready md ops listed=[]) (h:Q .normal a w) :
  ∀ fuel,wpAnyT P md ops Q S T fuel listed a w
 | 0 => ⟨hr,h⟩
 | _ + 1 => ⟨fun _ => h,by rw [hr];simp⟩
theorem wp_region_late {id:Nat} {a:Act} {w:World} (hm:P.follows .mixedOrders=true) (S:World → Prop) (T:List Nat)
  (h:wpAnyT P .any ops Q S T ops.size (Array.replicate ops.size false) a w.drew):(Code.region id ops true).wp P Q a w :=
 wp_region_any hm (wpAny_of_late _ _ _ _ h)
end
end Go.Proofs.YtaehbgppfahdeaaGreat
