/- What CanonChecks rests on, part 6: FirstNew, Late, GReach, GLists, GOut, GOutP. -/
import Derived.Test.YtikogmpibkefdaaGreatPkCanonChecks5
import Derived.IntWalk
import Derived.BigQuiet
import Derived.Deep.QuietTactic
import Derived.Deep.RegionHeld3

namespace Go.Proofs.YtikogmpibkefdaaGreat
open Go.RowKit Go.Maps
def roomM (f:FuncM):Int:=match (idsOut f).getLast? with | some x => x + 1 | none => 0
set_option maxRecDepth 100000 in
set_option maxHeartbeats 1000000 in
theorem roomFor_any (f:FuncM) (B:Nat) (pv bv:Value) (w:World) (hpv:Ints w B pv f.params) (hbv:BlocksR w B bv f.blocks) (hB:B ≤ w.heap.size) (hid:∀ u ∈ usesM f,I64 u.1) (hr:∀ x ∈ idsOut f,0 ≤ x ∧ x ≤ 1048575) :
  Calls Tryz.prog 95 #[.agg #[pv,.int .i64 f.arrays,.int .i64 f.cells,bv]] w fun e w' => e=.returned (.int .i64 (roomM f)) ∧ Below w.heap.size w w':=by
 have HP:=hideI hpv
 have HB:=hideI hbv
 obtain ⟨P,pc,rfl,_⟩:=hpv
 obtain ⟨A,c,rfl,_⟩:=hbv
 obtain ⟨W0,hW0⟩:∃ W0:World,W0=w.alloc (.cells #[.slice P f.params.length pc,.int .i64 f.arrays,.int .i64 f.cells,.slice A f.blocks.length c] 25):=⟨_,rfl⟩
 have hb0:Below w.heap.size w W0:=by rw [hW0];exact (Below.refl _ w).alloc (Nat.le_refl _) _
 have hx0:W0.heap[w.heap.size]?=some (.cells #[.slice P f.params.length pc,.int .i64 f.arrays,.int .i64 f.cells,.slice A f.blocks.length c] 25 (0,0)):=by rw [hW0];exact heap_alloc_new w _
 have hk:Keeps B w W0:=Keeps.of_below (hb0.mono hB)
 have HC:=hideI (ids_any f B _ _ W0 (HP.out.keeps hk) (HB.out.keeps hk) (Nat.le_trans hB hb0.size) hid)
 have HB0:=hideI hb0
 have HW0:=hideI hW0
 have q:=row_cells hx0 rfl
 have q0:=q 0
 have q1:=q 1
 have q2:=q 2
 have q3:=q 3
 have HR:=hideI hr
 clear q hb0 hx0 hk hW0 hid hr
 obtain ⟨ids,hids⟩:∃ ids,ids=idsOut f:=⟨_,rfl⟩
 have HIDS:=hideI hids
 unfold IdsPost at HC
 rw [← hids] at HC HR
 clear hids
 go_enter Tryz.func95,Tryz.ntmps95
 go_upto_region 1 with fail
 rw [← HW0.out]
 cases hl:ids.getLast? with
 | none =>
  obtain rfl:ids=[]:=by simpa using hl
  have HE:Hid (roomM f=0):=hideI (by unfold roomM;rw [← HIDS.out];rfl)
  clear hl
  go_wp2_with (first | (go_at_call 164;refine HC.out.mono ?_;rintro e w1 ⟨v,rfl,⟨A1,c1,hv,_,_⟩,hb⟩;obtain rfl:v=.slice A1 0 c1:=hv;have HB1:=hideI hb;clear hb))
  go_ret
  exact ⟨by rw [HE.out];rfl,HB0.out.trans (HB1.out.mono HB0.out.size)⟩
 | some x =>
  obtain ⟨r,hr⟩:∃ r,ids=r ++ [x]:=by
   cases hl2:ids.reverse with
   | nil => have:ids=[]:=by simpa using hl2
            subst this;cases hl
   | cons a r =>
    have hle:ids=r.reverse ++ [a]:=by rw [← List.reverse_reverse ids,hl2,List.reverse_cons]
    rw [hle,List.getLast?_append] at hl
    simp at hl
    subst hl
    exact ⟨_,hle⟩
  have hxr:=HR.out x (by rw [hr];simp)
  have HE:Hid (roomM f=x + 1):=hideI (by unfold roomM;rw [← HIDS.out,hl])
  have hlen:ids.length=r.length + 1:=by rw [hr];simp
  have HLAST:Hid (ids[r.length]?.getD 0=x):=hideI (by rw [hr];simp)
  obtain ⟨n,hn⟩:∃ n,n=r.length:=⟨_,rfl⟩
  rw [← hn] at hlen HLAST
  have HLEN:=hideI hlen
  have hw:IntKind.i64.wrap (x + 1)=x + 1:=IntWalk.i64_in _ (by omega)
  have hw2:wrap64 (x + 1)=x + 1:=by unfold wrap64;omega
  clear hl hr hn hlen
  go_wp2_with (first | (go_at_call 164;refine HC.out.mono ?_;rintro e w1 ⟨v,rfl,⟨A1,c1,hv,hle,hnew⟩,hb⟩;obtain ⟨g1,cs1,rfl,_,hg1,hc1⟩:=hnew (by rw [HLEN.out];omega);rw [HLEN.out] at hv hle;obtain rfl:v=.slice (some ⟨g1,0,none⟩) (n + 1) c1:=hv;have HB1:=hideI hb;have y0:w1.cell? ⟨g1,n,none⟩=some (.int .i64 x):=(cell_of_row w1 g1 n cs1 _ (0,0) hg1).trans ((hc1 n (by rw [HLEN.out];omega)).trans (by rw [HLAST.out]));clear hb hnew hg1 hc1))
  go_ret
  exact ⟨by rw [HE.out];rfl,HB0.out.trans (HB1.out.mono HB0.out.size)⟩
end Go.Proofs.YtikogmpibkefdaaGreat

namespace Go.Proofs.YtikogmpibkefdaaGreat
section
variable {P:Program} {ops:Array Oper} {Q:Exit → Act → World → Prop} {md:Region.Mode} {S:World → Prop} {T:List Nat}
def wpAnyT (P:Program) (md:Region.Mode) (ops:Array Oper) (Q:Exit → Act → World → Prop) (S:World → Prop) (T:List Nat):Nat → Array Bool → Act → World → Prop
 | 0,listed,a,w => Region.ready md ops listed=[] ∧ Q .normal a w
 | fuel + 1,listed,a,w =>
  (Region.ready md ops listed=[] → Q .normal a w) ∧
  ∀ i ∈ Region.ready md ops listed,wpOp P ops Q i (fun a' w' => (i ∉ T → S w → S w') ∧ wpAnyT P md ops Q S T fuel (listed.setIfInBounds i true) a' w') a w
theorem wpAny_of_late:∀ (fuel:Nat) (listed:Array Bool) (a:Act) (w:World),wpAnyT P md ops Q S T fuel listed a w → wpAny P md ops Q fuel listed a w
 | 0,_,_,_,h => h
 | fuel + 1,_,_,_,h => ⟨h.1,fun i hi => wpOp_mono (fun a' w' h' => wpAny_of_late fuel _ a' w' h'.2) (h.2 i hi)⟩
def waitsB (md:Region.Mode) (ops:Array Oper) (U:List Nat) (i:Nat):Bool :=
 U.all fun j => match ops[j]? with | some oj => oj.after.any (fun e => Region.binds md e && (e.on == i || U.contains e.on)) | none => true
theorem waits_spec {U:List Nat} {i:Nat} (h:waitsB md ops U i=true) {j:Nat} (hj:j ∈ U) {oj:Oper} (ho:ops[j]?=some oj):∃ e ∈ oj.after,Region.binds md e=true ∧ (e.on=i ∨ e.on ∈ U):=by
 unfold waitsB at h
 rw [List.all_eq_true] at h
 have h1:=h j hj
 rw [ho] at h1
 simp only [Array.any_eq_true',Bool.and_eq_true,Bool.or_eq_true,beq_iff_eq,List.contains_eq_mem,decide_eq_true_eq] at h1
 obtain ⟨e,he,h2,h3⟩:=h1
 exact ⟨e,he,h2,h3⟩
theorem wpAnyT_first {i:Nat} {oi:Oper} {v:Value} (hi:ops[i]?=some oi) (hsel:∀ (j:Nat) (o:Oper) cs b,ops[j]?=some o → o.op ≠ .select cs b)
  (hQ:∀ c a w,Q (.panic c) (a.put oi.dst v) w → Q (.panic c) a w) {R:World → Prop} {U:List Nat} (hU:waitsB md ops U i=true) (hR:∀ (j:Nat) (oj:Oper) (w w':World),ops[j]?=some oj → j ∉ U → (j ∉ T → S w → S w') → R w → R w') :
  ∀ (fuel:Nat) (listed:Array Bool) (a:Act) (w:World),
   (∀ j oj,ops[j]?=some oj → j ≠ i → listed.getD j true=false → (∀ e ∈ oj.after,Region.binds md e=true → e.on ≠ i) → oi.apart ops oj=true) →
   (∀ u ∈ U,listed.getD u true=false) → i ∈ Region.ready md ops listed → YieldsIf P ops R oi v a → R w →
   wpAnyT P md ops Q S T fuel (listed.setIfInBounds i true) (a.put oi.dst v) w → wpAnyT P md ops Q S T (fuel + 1) listed a w:=by
 intro fuel
 induction fuel with
 | zero =>
  intro listed a w _ _ hr hy hW H
  refine ⟨fun h => (by rw [h] at hr;cases hr),fun j hj => ?_⟩
  by_cases hji:j=i
  ·subst hji;exact hy.wpOp hi hW ⟨fun _ h => h,H⟩
  ·have:=ready_mono hj hji
   rw [H.1] at this
   cases this
 | succ fuel ih =>
  intro listed a w hfree hun hr hy hW H
  refine ⟨fun h => (by rw [h] at hr;cases hr),fun j hj => ?_⟩
  by_cases hji:j=i
  ·subst hji;exact hy.wpOp hi hW ⟨fun _ h => h,H⟩
  ·have h1:=H.2 j (ready_mono hj hji)
   obtain ⟨hjun,oj,hoj,hall⟩:=mem_ready.1 hj
   have hnot:∀ e ∈ oj.after,Region.binds md e=true → e.on ≠ i:=fun e he hb heq => by
    have h1:=hall e he hb
    have h0:=(mem_ready.1 hr).1
    rw [heq] at h1
    rcases Nat.lt_or_ge i listed.size with h' | h'
    ·simp [h'] at h0 h1;rw [h0] at h1;cases h1
    ·simp [Array.getElem?_eq_none h'] at h1
   have hnU:∀ e ∈ oj.after,Region.binds md e=true → e.on ∉ U:=fun e he hb hm => by
    have h1:=hall e he hb
    have h0:=hun _ hm
    rcases Nat.lt_or_ge e.on listed.size with h' | h'
    ·simp [h'] at h0 h1;rw [h0] at h1;cases h1
    ·simp [Array.getElem?_eq_none h'] at h1
   have hjU:j ∉ U:=fun hm => by
    obtain ⟨e,he,hb,heq⟩:=waits_spec hU hm hoj
    rcases heq with heq | heq
    ·exact hnot e he hb heq
    ·exact hnU e he hb heq
   have hun':∀ u ∈ U,(listed.setIfInBounds j true).getD u true=false:=fun u hu => by
    have hne:j ≠ u:=fun e => hjU (by rw [e];exact hu)
    rw [getD_set_ne true hne]
    exact hun u hu
   have h2:=wpOp_putIf hoj (hfree j oj hoj hji hjun hnot) (fun cs b => hsel i oi cs b hi) (fun cs b => hsel j oj cs b hoj) hQ hy h1
   have hfree':∀ k ok,ops[k]?=some ok → k ≠ i → (listed.setIfInBounds j true).getD k true=false →
     (∀ e ∈ ok.after,Region.binds md e=true → e.on ≠ i) → oi.apart ops ok=true:=fun k ok hk hki hun hno => by
    refine hfree k ok hk hki ?_ hno
    by_cases hjk:j=k
    ·subst hjk;exact hjun
    ·rw [getD_set_ne true hjk] at hun;exact hun
   refine wpOp_mono (fun a' w' h3 => ⟨h3.2.1,ih (listed.setIfInBounds j true) a' w' hfree' hun' (ready_mono hr (Ne.symm hji)) h3.1 (hR j oj w w' hoj hjU h3.2.1 hW) ?_⟩) h2
   rw [Array.setIfInBounds_comm _ _ hji]
   exact h3.2.2
theorem wpAnyT_take (U:List Nat) {i:Nat} {oi:Oper} {v:Value} {fuel:Nat} {listed:Array Bool} {a:Act} {w:World} (hi:ops.toList[i]?=some oi)
  (hs:Region.noSelect ops=true) (hf:Region.free md ops listed i=true) (hr:(Region.ready md ops listed).contains i=true) (hU:waitsB md ops U i=true) (hT:T.all (U.contains ·)=true) (hl:U.all (fun u => !(listed.getD u true))=true)
  (hQ:∀ c a w,Q (.panic c) (a.put oi.dst v) w → Q (.panic c) a w) (hS:S w) (hy:YieldsIf P ops S oi v a)
  (h:wpAnyT P md ops Q S T fuel (listed.setIfInBounds i true) (a.put oi.dst v) w):wpAnyT P md ops Q S T (fuel + 1) listed a w :=
 wpAnyT_first (by simpa using hi) (Region.noSelect_spec hs) hQ hU (fun j oj w w' ho hn hw => hw fun hm => hn (by
  rw [List.all_eq_true] at hT
  simpa using hT j hm)) fuel listed a w (Region.free_spec (by simpa using hi) hf) (fun u hu => by rw [List.all_eq_true] at hl;simpa using hl u hu) (by simpa using hr) hy hS h
theorem wpAnyT_quiet {i:Nat} {oi:Oper} {v:Value} {fuel:Nat} {listed:Array Bool} {a:Act} {w:World} (hi:ops.toList[i]?=some oi)
  (hs:Region.noSelect ops=true) (hf:Region.free md ops listed i=true) (hr:(Region.ready md ops listed).contains i=true)
  (hQ:∀ c a w,Q (.panic c) (a.put oi.dst v) w → Q (.panic c) a w) (hy:Yields P ops oi v a)
  (h:wpAnyT P md ops Q S T fuel (listed.setIfInBounds i true) (a.put oi.dst v) w):wpAnyT P md ops Q S T (fuel + 1) listed a w :=
 wpAnyT_first (R:=fun _ => True) (U:=[]) (by simpa using hi) (Region.noSelect_spec hs) hQ rfl (fun _ _ _ _ _ _ _ _ => trivial) fuel listed a w (Region.free_spec (by simpa using hi) hf) (fun u hu => by cases hu) (by simpa using hr)
  (hy.imp (fun ⟨hw,hv⟩ => ⟨hw,fun w _ => hv w⟩) id) trivial h
def AllReadyT (P:Program) (md:Region.Mode) (ops:Array Oper) (Q:Exit → Act → World → Prop) (S:World → Prop) (T:List Nat) (fuel:Nat) (listed:Array Bool) (a:Act) (w:World) (rs:List Nat):Prop :=
 ∀ i ∈ rs,wpOp P ops Q i (fun a' w' => (i ∉ T → S w → S w') ∧ wpAnyT P md ops Q S T fuel (listed.setIfInBounds i true) a' w') a w
theorem AllReadyT.nil {fuel:Nat} {listed:Array Bool} {a:Act} {w:World}:AllReadyT P md ops Q S T fuel listed a w []:=fun _ h => by cases h
theorem AllReadyT.cons {fuel:Nat} {listed:Array Bool} {a:Act} {w:World} {i:Nat} {o:Oper} {rs:List Nat} (ho:ops.toList[i]?=some o)
  (h:∀ K':Act → World → Prop,Shut (∀ a' w',(i ∉ T → S w → S w') → wpAnyT P md ops Q S T fuel (listed.setIfInBounds i true) a' w' → K' a' w') → if Region.wanted o (yielded ops a.tmps)=true then Oper.wp P o a w K' Q else K' (a.put o.dst undef) w)
  (hs:AllReadyT P md ops Q S T fuel listed a w rs):AllReadyT P md ops Q S T fuel listed a w (i :: rs):=fun j hj => by
 have ho:ops[i]?=some o:=by simpa using ho
 rcases List.mem_cons.1 hj with rfl | hj
 ·exact wpOp_step ho (fun K' hK => h K' (fun a w hS hW => hK a w ⟨hS,hW⟩))
 ·exact hs j hj
theorem wpAnyT_ready {rs:List Nat} {fuel:Nat} {listed:Array Bool} {a:Act} {w:World} (hr:Region.ready md ops listed=rs) (hne:rs ≠ [])
  (h:AllReadyT P md ops Q S T fuel listed a w rs):wpAnyT P md ops Q S T (fuel + 1) listed a w:=⟨fun h0 => absurd (hr ▸ h0) hne,hr ▸ h⟩
theorem wpAnyT_done {listed:Array Bool} {a:Act} {w:World} (hr:Region.ready md ops listed=[]) (h:Q .normal a w) :
  ∀ fuel,wpAnyT P md ops Q S T fuel listed a w
 | 0 => ⟨hr,h⟩
 | _ + 1 => ⟨fun _ => h,by rw [hr];simp⟩
theorem wp_region_late {id:Nat} {a:Act} {w:World} (hm:P.follows .mixedOrders=true) (S:World → Prop) (T:List Nat)
  (h:wpAnyT P .any ops Q S T ops.size (Array.replicate ops.size false) a w.drew):(Code.region id ops true).wp P Q a w :=
 wp_region_any hm (wpAny_of_late _ _ _ _ h)
end
end Go.Proofs.YtikogmpibkefdaaGreat

namespace Go.Proofs.YtikogmpibkefdaaGreat
open Go.RowKit Go.Maps
theorem marks_congr {n:Nat} {a b:List Nat} (h:∀ x,x ∈ a ↔ x ∈ b):marks n a=marks n b:=by
 unfold marks
 apply List.map_congr_left
 intro i _
 simp [h]
theorem nat_cell {w:World} {base g n cap i x:Nat} {o:List Nat} (h:w.ownsRow base 3 1 (.slice (some ⟨g,0,none⟩) n cap) n (natInts o)) (hx:o[i]?=some x):w.cell? ⟨g,i,none⟩=some (.int .i64 (x:Int)):=by
 have hl:o.length=n:=by have:=h.1;unfold natInts at this;simpa using this
 have hi:=(List.getElem?_eq_some_iff.1 hx).1
 rw [World.ownsRow.cellAt h i (by omega)]
 unfold natInts
 rw [List.getElem?_map,hx]
 rfl
theorem own_kept_below {base B:Nat} {e:TypeId} {size n:Nat} {v:Value} {xs:List Value} {w w':World} (h:w.ownsRow base e size v n xs) (hb:Below B w w') (hv:∀ k,v.ownBlock=some k → k < B):w'.ownsRow base e size v n xs:=by
 refine ⟨h.1,?_⟩
 rcases h.2 with h2 | ⟨g,cap,cur,rfl,h3,h4,r⟩
 ·exact .inl h2
 ·exact .inr ⟨g,cap,cur,rfl,h3,(hb.block g (hv g rfl)).trans h4,r⟩
end Go.Proofs.YtikogmpibkefdaaGreat

namespace Go.Proofs.YtikogmpibkefdaaGreat
open Go.RowKit
def IdxIs (xs:List Int) (x r:Int):Prop:=(r=-1 ∧ x ∉ xs) ∨ ∃ k:Nat,r=k ∧ xs[k]?=some x ∧ x ∉ xs.take k
theorem IdxIs.mem {xs:List Int} {x r:Int} (h:IdxIs xs x r):decide (x ∈ xs)=decide (0 ≤ r):=by
 rcases h with ⟨rfl,h⟩ | ⟨k,rfl,h,_⟩
 ·simp [h]
 ·simp [List.mem_of_getElem? h]
def IdxPost (xs:List Int) (x:Int) (w:World) (e:Ending) (w':World):Prop:=∃ r,e=.returned (.int .i64 r) ∧ IdxIs xs x r ∧ w=w'
theorem not_mem_take_succ {xs:List Int} {k:Nat} {x y:Int} (h:x ∉ xs.take k) (hy:xs[k]?=some y) (hne:y ≠ x):x ∉ xs.take (k + 1):=by
 rw [List.take_add_one,hy]
 simp only [Option.toList_some,List.mem_append,List.mem_singleton,not_or]
 exact ⟨h,fun e => hne e.symm⟩
set_option maxRecDepth 100000 in
set_option maxHeartbeats 1000000 in
theorem index_any (xs:List Int) (B:Nat) (v:Value) (x:Int) (w:World) (hx:Ints w B v xs) :
  Calls Tryz.prog 165 #[v,.int .i64 x] w (IdxPost xs x w):=by
 obtain ⟨A,c,rfl,hm,hcell⟩:=hx
 have HC:=hideI hcell
 clear hcell
 go_enter Tryz.func165,Tryz.ntmps165
 go_wp2
 go_loop [8] (fun u => ∃ k:Nat,k ≤ xs.length ∧ u=.int .i64 k ∧ Hid (x ∉ xs.take k)) (fun u => xs.length - (intOf u).toNat)
 case atStart => exact ⟨0,Nat.zero_le _,rfl,by exact hideI (by simp)⟩
 case round =>
  obtain ⟨k,hk,rfl,HN⟩:=hrel
  by_cases hlt:k < xs.length
  ·obtain ⟨b,off,rfl,hb,hcell⟩:=HC.out k hlt
   obtain ⟨y,hy⟩:∃ y,xs[k]?=some y:=⟨_,List.getElem?_eq_getElem hlt⟩
   rw [hy] at hcell
   simp only [Option.getD_some] at hcell
   have HY:=hideI hy
   clear hy
   cases he:x == y
   ·have HE:=hideI he
    go_wp2
    go_round
    case rel => exact ⟨k + 1,by omega,by go_num,hideI (not_mem_take_succ HN.out HY.out (by have:=HE.out;simp at this;exact fun e => this e.symm))⟩
    case measure => simp [intOf];omega
   ·have HE:=hideI he
    go_wp2
    go_ret
    exact ⟨k,rfl,.inr ⟨k,rfl,by have:=HE.out;simp at this;rw [this];exact HY.out,HN.out⟩,rfl⟩
  ·have HE:Hid (xs.take k=xs):=List.take_of_length_le (by omega)
   rw [HE.out] at HN
   go_wp2
   go_ret
   exact ⟨-1,rfl,.inl ⟨rfl,HN.out⟩,rfl⟩
set_option maxHeartbeats 1000000 in
theorem contains_any (xs:List Int) (B:Nat) (v:Value) (x:Int) (w:World) (hx:Ints w B v xs) :
  Calls Tryz.prog 214 #[v,.int .i64 x] w fun e w' => e=.returned (.bool (decide (x ∈ xs))) ∧ w=w':=by
 have HX:=hideI hx
 obtain ⟨A,c,rfl,hm,_⟩:=hx
 go_enter Tryz.func214,Tryz.ntmps214
 go_wp2_with (go_at_call 165;go_must (refine (index_any xs B _ x _ HX.out).mono ?_);rintro e w2 ⟨r,rfl,hr,rfl⟩;have HR:=hideI hr;clear hr)
 go_ret
 exact ⟨by rw [HR.out.mem];rfl,rfl⟩
set_option maxRecDepth 100000 in
set_option maxHeartbeats 1000000 in
theorem has_any (xs:List Int) (B:Nat) (v:Value) (x:Int) (w:World) (hx:Ints w B v xs) :
  Calls Tryz.prog 25 #[v,.int .i64 x] w fun e w' => e=.returned (.bool (decide (x ∈ xs))) ∧ w=w':=by
 obtain ⟨A,c,rfl,hm,hcell⟩:=hx
 have HC:=hideI hcell
 clear hcell
 go_enter Tryz.func25,Tryz.ntmps25
 go_wp2
 go_loop [5] (fun u => ∃ k:Nat,k ≤ xs.length ∧ u=.int .i64 k ∧ Hid (x ∉ xs.take k)) (fun u => xs.length - (intOf u).toNat)
 case atStart => exact ⟨0,Nat.zero_le _,rfl,by exact hideI (by simp)⟩
 case round =>
  obtain ⟨k,hk,rfl,HN⟩:=hrel
  by_cases hlt:k < xs.length
  ·obtain ⟨b,off,rfl,hb,hcell⟩:=HC.out k hlt
   obtain ⟨y,hy⟩:∃ y,xs[k]?=some y:=⟨_,List.getElem?_eq_getElem hlt⟩
   rw [hy] at hcell
   simp only [Option.getD_some] at hcell
   have HY:=hideI hy
   clear hy
   cases he:y == x
   ·have HE:=hideI he
    go_wp2
    go_round
    case rel => exact ⟨k + 1,by omega,by go_num,hideI (not_mem_take_succ HN.out HY.out (by have:=HE.out;simpa using this))⟩
    case measure => simp [intOf];omega
   ·have HE:=hideI he
    go_wp2
    go_ret
    exact ⟨by have h1:=HE.out;simp at h1;have h2:=List.mem_of_getElem? HY.out;rw [h1] at h2;simp [h2],rfl⟩
  ·have HE:Hid (xs.take k=xs):=List.take_of_length_le (by omega)
   rw [HE.out] at HN
   go_wp2
   go_ret
   exact ⟨by have:=HN.out;simp [this],rfl⟩
end Go.Proofs.YtikogmpibkefdaaGreat
namespace Go.Proofs.YtikogmpibkefdaaGreat
open Go.RowKit Go.Maps
theorem ints_info:(Tryz.prog.info? 22).map (fun i => (i.zero,i.size,i.bytes))=some (some (.slice none 0 0),1,24):=by kernel_rfl
structure Lists (w:World) (base gb n:Nat) (vs:List Value) (ls:List (List Nat)):Prop where
 vl:vs.length=n
 ll:ls.length=n
 row:w.ownsRow base 22 1 (.slice (some ⟨gb,0,none⟩) n n) n vs
 own:∀ (t:Nat) v l,vs[t]?=some v → ls[t]?=some l → w.ownsRow (gb + 1) 3 1 v l.length (natInts l)
 apart:∀ (t t':Nat) v v',t ≠ t' → vs[t]?=some v → vs[t']?=some v' → v.ownBlock=none ∨ v.ownBlock ≠ v'.ownBlock
variable {w w1:World} {base gb n:Nat} {vs:List Value} {ls:List (List Nat)}
theorem Lists.lt (h:Lists w base gb n vs ls):base ≤ gb ∧ gb < w.heap.size:=h.row.lt gb rfl
theorem Lists.made {W:World} (hown:W.ownsRow base 22 1 (.slice (some ⟨gb,0,none⟩) n n) n (madeCells (Value.slice none 0 0).cells (n * 1)).toList):Lists W base gb n (List.replicate n (.slice none 0 0)) ((List.range n).map fun _ => []):=by
 rw [show (Value.slice none 0 0).cells=#[Value.slice none 0 0] from rfl,toList_madeCells_one,Nat.mul_one] at hown
 refine ⟨by simp,by simp,hown,fun t v l hv hl => ?_,fun t t' v v' _ hv _ => ?_⟩
 ·have e1:=List.mem_of_getElem? hv
  rw [List.mem_replicate] at e1
  obtain ⟨_,rfl⟩:=e1
  have e2:=List.mem_of_getElem? hl
  rw [List.mem_map] at e2
  obtain ⟨_,_,rfl⟩:=e2
  exact World.ownsRow_nil _ _ _ _
 ·have e1:=List.mem_of_getElem? hv
  rw [List.mem_replicate] at e1
  obtain ⟨_,rfl⟩:=e1
  exact .inl rfl
theorem Lists.push {t b g' cap':Nat} {v:Value} {l:List Nat} {o:Obj} (h:Lists w base gb n vs ls) (hv:vs[t]?=some v) (hl:ls[t]?=some l)
  (hown':w1.ownsRow (gb + 1) 3 1 (.slice (some ⟨g',0,none⟩) (l.length + 1) cap') (l.length + 1) (natInts l ++ [.int .i64 (b:Int)])) (hg:(w.alloc o).grownBy w1 v.ownBlock) (hor:v.ownBlock=some g' ∨ g'=(w.alloc o).heap.size) :
  Lists (w1.setCell ⟨gb,t,none⟩ (.slice (some ⟨g',0,none⟩) (l.length + 1) cap')) base gb n (vs.set t (.slice (some ⟨g',0,none⟩) (l.length + 1) cap')) (ls.set t (l ++ [b])):=by
 have htl:t < vs.length:=(List.getElem?_eq_some_iff.1 hv).1
 have htl2:t < ls.length:=(List.getElem?_eq_some_iff.1 hl).1
 have hvo:=h.own t v l hv hl
 have hgbv:∀ k,v.ownBlock=some k → gb + 1 ≤ k:=fun k hk => (hvo.lt k hk).1
 have hrow1:w1.ownsRow base 22 1 (.slice (some ⟨gb,0,none⟩) n n) n vs:=(h.row.alloc o).kept hg (.inr (fun e => by have:=hgbv gb e.symm;omega))
 refine ⟨by rw [List.length_set,h.vl],by rw [List.length_set,h.ll],(hrow1.stored t _).1,fun t' v' l' hv' hl' => ?_,fun t1 t2 v1 v2 hne h1 h2 => ?_⟩
 ·by_cases e:t=t'
  ·subst e
   rw [List.getElem?_set_self htl] at hv'
   rw [List.getElem?_set_self htl2] at hl'
   cases hv'
   cases hl'
   have h1:=ownsRow_setCell_other hown' (a:=⟨gb,t,none⟩) (by
    intro e
    have:=(hown'.lt _ e).1
    simp only at this
    omega) (.slice (some ⟨g',0,none⟩) (l.length + 1) cap')
   simpa [natInts] using h1
  ·rw [List.getElem?_set_ne e] at hv' hl'
   have h0:=h.own t' v' l' hv' hl'
   have h1:=(h0.alloc o).kept hg (by
    rcases h.apart t' t v' v (fun x => e x.symm) hv' hv with h2 | h2
    ·exact .inl h2
    ·exact .inr h2)
   exact ownsRow_setCell_other h1 (by
    intro e
    have:=(h1.lt _ e).1
    simp only at this
    omega) _
 ·have hlt:∀ (t:Nat) v k,vs[t]?=some v → v.ownBlock=some k → k < w.heap.size:=fun t v k hv hk => by
   have ht:t < ls.length:=by rw [h.ll,← h.vl];exact (List.getElem?_eq_some_iff.1 hv).1
   exact ((h.own t v _ hv (List.getElem?_eq_getElem ht)).lt k hk).2
  by_cases e1:t=t1
  ·subst e1
   rw [List.getElem?_set_self htl] at h1
   rw [List.getElem?_set_ne hne] at h2
   cases h1
   right
   intro e
   rcases hor with h3 | h3
   ·rcases h.apart t2 t v2 v (fun x => hne x.symm) h2 hv with h4 | h4
    ·rw [h4] at e;cases e
    ·exact h4 (e.symm.trans (by rw [h3];rfl))
   ·have:=hlt t2 v2 g' h2 e.symm
    simp at h3
    omega
  ·rw [List.getElem?_set_ne e1] at h1
   by_cases e2:t=t2
   ·subst e2
    rw [List.getElem?_set_self htl] at h2
    cases h2
    rcases hor with h3 | h3
    ·rcases h.apart t1 t v1 v (fun x => hne x) h1 hv with h4 | h4
     ·exact .inl h4
     ·exact .inr (fun e => h4 (e.trans (by rw [h3];rfl)))
    ·right
     intro e
     have:=hlt t1 v1 g' h1 e
     simp at h3
     omega
   ·rw [List.getElem?_set_ne e2] at h2
    exact h.apart t1 t2 v1 v2 hne h1 h2
theorem Lists.pushed {t:Nat} {v:Value} {l:List Nat} {o:Obj} {u:Value} {B:Nat} {w0:World} (h:Lists w base gb n vs ls) (hv:vs[t]?=some v) (hl:ls[t]?=some l) (hg:(w.alloc o).grownBy w1 v.ownBlock) (hB:Below B w0 w) (hBg:B ≤ gb) :
  Below B w0 (w1.setCell ⟨gb,t,none⟩ u):=by
 have hlt:=h.lt
 refine ((hB.alloc (by omega) o).grown hg (by simp;omega) (fun j hj => ?_)).setCell (by simpa using hBg) _
 have:=((h.own t v l hv hl).lt j hj).1
 omega
theorem Lists.held {t:Nat} {v:Value} {l:List Nat} {o:Obj} (h:Lists w base gb n vs ls) (hv:vs[t]?=some v) (hl:ls[t]?=some l) (hg:(w.alloc o).grownBy w1 v.ownBlock):w1.cell? ⟨gb,t,none⟩=some v ∧ w1.frozen? ⟨gb,t,none⟩=false:=by
 have hrow1:w1.ownsRow base 22 1 (.slice (some ⟨gb,0,none⟩) n n) n vs:=(h.row.alloc o).kept hg (.inr (fun e => by have:=((h.own t v l hv hl).lt gb e.symm).1;omega))
 have htl:t < vs.length:=(List.getElem?_eq_some_iff.1 hv).1
 have hvl:=h.vl
 exact ⟨by rw [World.ownsRow.cellAt hrow1 t (by omega)];exact hv,World.ownsRow.frozenAt hrow1 t⟩
theorem nat_ints {w:World} {B n:Nat} {v:Value} {l:List Nat} (h:w.ownsRow B 3 1 v n (natInts l)) (hl:l.length ≤ 100000):Ints w w.heap.size v (l.map fun (x:Nat) => (x:Int)):=by
 refine ints_own (B:=B) (n:=n) ?_ (by rw [List.length_map];omega)
 rw [List.map_map]
 exact h
theorem mem_nat {l:List Nat} {k:Nat}:((k:Int) ∈ l.map fun (x:Nat) => (x:Int)) ↔ k ∈ l:=by
 rw [List.mem_map]
 constructor
 ·rintro ⟨x,hx,he⟩
  have:x=k:=by omega
  exact this ▸ hx
 ·exact fun h => ⟨k,h,rfl⟩
def predsTo (bs:List BlockM) (k t:Nat):List Nat:=(List.range k).filter fun b => decide (t ∈ succM bs b)
theorem predsTo_lt {bs:List BlockM} {k t x:Nat} (h:x ∈ predsTo bs k t):x < k:=by
 unfold predsTo at h
 simpa using (List.mem_filter.1 h).1
theorem predsTo_succ (bs:List BlockM) (k t:Nat):predsTo bs (k + 1) t=predsTo bs k t ++ if t ∈ succM bs k then [k] else []:=by
 unfold predsTo
 rw [List.range_succ,List.filter_append]
 by_cases h:t ∈ succM bs k <;> simp [h]
theorem predsTo_len (bs:List BlockM) (k t:Nat):(predsTo bs k t).length ≤ k:=by
 unfold predsTo
 have:=List.length_filter_le (fun b => decide (t ∈ succM bs b)) (List.range k)
 simpa using this
def predsAt (bs:List BlockM) (n k i:Nat):List (List Nat):=(List.range n).map fun t => predsTo bs k t ++ if t ∈ (succM bs k).take i then [k] else []
theorem predsAt_at {bs:List BlockM} {n k i t:Nat} (h:t < n):(predsAt bs n k i)[t]?=some (predsTo bs k t ++ if t ∈ (succM bs k).take i then [k] else []):=by
 unfold predsAt
 rw [List.getElem?_map,List.getElem?_eq_getElem (by simpa using h)]
 simp
theorem predsAt_zero (bs:List BlockM) (n:Nat):predsAt bs n 0 0=(List.range n).map fun _ => []:=by
 unfold predsAt predsTo
 simp
theorem predsAt_next (bs:List BlockM) (n k:Nat) {i:Nat} (hi:(succM bs k).length ≤ i):predsAt bs n k i=predsAt bs n (k + 1) 0:=by
 unfold predsAt
 apply List.map_congr_left
 intro t _
 rw [predsTo_succ,List.take_of_length_le hi]
 simp
theorem predsAt_skip {bs:List BlockM} {n k i t:Nat} (ht:(succM bs k)[i]?=some t) (hin:t ∈ (succM bs k).take i):predsAt bs n k (i + 1)=predsAt bs n k i:=by
 unfold predsAt
 apply List.map_congr_left
 intro u _
 have:u ∈ (succM bs k).take (i + 1) ↔ u ∈ (succM bs k).take i:=by
  rw [List.take_add_one,ht]
  simp only [Option.toList_some,List.mem_append,List.mem_singleton]
  constructor
  ·rintro (h | rfl)
   ·exact h
   ·exact hin
  ·exact .inl
 simp only [this]
theorem predsAt_push {bs:List BlockM} {n k i t:Nat} (ht:(succM bs k)[i]?=some t) (_hn:t ∉ (succM bs k).take i) (_htn:t < n):(predsAt bs n k i).set t (predsTo bs k t ++ [k])=predsAt bs n k (i + 1):=by
 apply List.ext_getElem?
 intro u
 by_cases hu:u < n
 ·rw [predsAt_at hu]
  have hm:u ∈ (succM bs k).take (i + 1) ↔ u ∈ (succM bs k).take i ∨ u=t:=by
   rw [List.take_add_one,ht]
   simp
  by_cases e:t=u
  ·subst e
   rw [List.getElem?_set_self (by unfold predsAt;simpa using hu)]
   simp [hm]
  ·rw [List.getElem?_set_ne e,predsAt_at hu]
   have:u ∈ (succM bs k).take (i + 1) ↔ u ∈ (succM bs k).take i:=by rw [hm];exact ⟨fun h => h.resolve_right (fun x => e x.symm),.inl⟩
   simp only [this]
 ·rw [List.getElem?_eq_none (by rw [List.length_set];unfold predsAt;simp;omega),List.getElem?_eq_none (by unfold predsAt;simp;omega)]
theorem predsAt_mem {bs:List BlockM} {k i t:Nat}:k ∈ predsTo bs k t ++ (if t ∈ (succM bs k).take i then [k] else []) ↔ t ∈ (succM bs k).take i:=by
 constructor
 ·intro h
  rcases List.mem_append.1 h with h | h
  ·have:=predsTo_lt h;omega
  ·split at h
   ·assumption
   ·cases h
 ·intro h
  rw [if_pos h]
  simp
end Go.Proofs.YtikogmpibkefdaaGreat

namespace Go.Proofs.YtikogmpibkefdaaGreat
open Go.RowKit Go.Maps
def GOrderPost (f:FuncM) (w:World) (e:Ending) (w':World):Prop :=
 ((lookM f).1 ≠ 0 ∧ e=.returned (.tuple #[.slice none 0 0,.int .i64 (lookM f).1]) ∧ Below w.heap.size w w') ∨
 ((lookM f).1=0 ∧ ∃ (o:List Nat) (g cap:Nat),e=.returned (.tuple #[.slice (some ⟨g,0,none⟩) o.length cap,.int .i64 0]) ∧ OrderIs f.blocks o ∧ 0 < o.length ∧ o.length ≤ f.blocks.length ∧ w'.ownsRow w.heap.size 3 1 (.slice (some ⟨g,0,none⟩) o.length cap) o.length (natInts o) ∧ Below w.heap.size w w')
set_option maxRecDepth 100000 in
set_option maxHeartbeats 1000000 in
theorem gOrder_any (f:FuncM) (B:Nat) (pv bv:Value) (w:World) (hpv:Ints w B pv f.params) (hbv:BlocksR w B bv f.blocks) (hB:B ≤ w.heap.size) (hid:∀ u ∈ usesM f,I64 u.1) :
  Calls Tryz.prog 46 #[.agg #[pv,.int .i64 f.arrays,.int .i64 f.cells,bv]] w (GOrderPost f w):=by
 have HP:=hideI hpv
 have HBL:=hideI hbv
 have HID:=hideI hid
 obtain ⟨P,pc,rfl,_⟩:=hpv
 obtain ⟨A,c,rfl,hbm,_⟩:=hbv
 have HX:=hideI (heap_alloc_new w (.cells #[.slice P f.params.length pc,.int .i64 f.arrays,.int .i64 f.cells,.slice A f.blocks.length c] 25))
 have HK:Hid (Keeps B w (w.alloc (.cells #[.slice P f.params.length pc,.int .i64 f.arrays,.int .i64 f.cells,.slice A f.blocks.length c] 25))):=(Keeps.refl w).alloc hB _
 have HB0:Hid (Below w.heap.size w (w.alloc (.cells #[.slice P f.params.length pc,.int .i64 f.arrays,.int .i64 f.cells,.slice A f.blocks.length c] 25))):=(Below.refl _ w).alloc (Nat.le_refl _) _
 clear hid
 by_cases h0:(lookM f).1=0
 ·have H0:=hideI h0
  have hnb:=look_some_block h0
  clear h0
  go_enter Tryz.func46,Tryz.ntmps46
  go_wp2_with (first
   | (go_at_call 60;go_must (refine (check_any f B _ _ _ (HP.out.keeps HK.out) (HBL.out.keeps HK.out) (by simp;omega) HID.out).mono ?_);rw [H0.out];rintro e w1 ⟨rfl,hb⟩;have HB1:=hideI (HB0.out.trans (hb.mono (by simp)));have hxx:=row_cells ((hb.block _ (lt_of_heap HX.out)).trans HX.out) rfl;have q0:=hxx 0;have q1:=hxx 1;have q2:=hxx 2;have q3:=hxx 3;have hl1:w.heap.size < w1.heap.size:=(by have:=hb.size;simp at this;omega);clear hb hxx)
   | (go_at_call 87;go_must (refine (order_any f.blocks w.heap.size _ _ _ _ _ ((HBL.out.more' hB).keeps (Keeps.of_below HB1.out)) (by omega) hnb.1 hnb.2 (look_ends H0.out)).mono ?_);rintro e w2 ⟨o,g,cap,rfl,ho,ho0,ho1,hown,hb2⟩;have HO:=hideI ho;have HW:=hideI hown;have HB2:=hideI hb2;clear ho hown hb2))
  go_ret2
  exact .inr ⟨H0.out,o,g,cap,rfl,HO.out,ho0,ho1,World.ownsRow.mono HW.out (by omega),HB1.out.trans (HB2.out.mono (by omega))⟩
 ·have H0:=hideI h0
  have hb:((lookM f).1 != 0)=true:=by simpa using h0
  clear h0
  go_enter Tryz.func46,Tryz.ntmps46
  go_wp2_with (first
   | (go_at_call 60;go_must (refine (check_any f B _ _ _ (HP.out.keeps HK.out) (HBL.out.keeps HK.out) (by simp;omega) HID.out).mono ?_);rintro e w1 ⟨rfl,hb1⟩;have HB1:=hideI (HB0.out.trans (hb1.mono (by simp)));clear hb1))
  go_ret2
  exact .inl ⟨H0.out,rfl,HB1.out⟩
end Go.Proofs.YtikogmpibkefdaaGreat

namespace Go.Proofs.YtikogmpibkefdaaGreat
open Go.RowKit Go.Maps
def PredsPost (bs:List BlockM) (w:World) (e:Ending) (w':World):Prop :=
 ∃ (g:Nat) (vs:List Value),e=.returned (.slice (some ⟨g,0,none⟩) bs.length bs.length) ∧ Lists w' w.heap.size g bs.length vs (predsAt bs bs.length bs.length 0) ∧ Below w.heap.size w w'
set_option maxRecDepth 100000 in
set_option maxHeartbeats 4000000 in
theorem preds_any (bs:List BlockM) (B:Nat) (pv av cv bv:Value) (w:World) (hbv:BlocksR w B bv bs) (hB:B ≤ w.heap.size) (hn5:bs.length ≤ 512) (hin:EndsIn bs) :
  Calls Tryz.prog 173 #[.agg #[pv,av,cv,bv]] w (PredsPost bs w):=by
 have HBL:=hideI hbv
 have HIN:=hideI hin
 obtain ⟨A,c,rfl,hbm,_⟩:=hbv
 obtain ⟨i0,hix,hz0,hz1,hz2⟩:=info_parts ints_info
 clear hin
 go_enter Tryz.func173,Tryz.ntmps173
 go_wp2_with (first
  | (at_make;go_must (refine wpList_make_full _ rfl _ _ 33 rfl (w.heap.size + 1) 22 i0 (.slice none 0 0) 1 Tryz.underlying33 hix hz0 hz1 .i64 .i64 _ _ bs.length rfl rfl rfl rfl (by rw [hz2];omega) (by unfold maxLen;omega) (by simp) ?_);intro w1 hown1 hg1;rw [World.size_alloc] at hown1;go_must (have HL1:=hideI (Lists.made hown1);have hgb:=row_cells ((hg1.block w.heap.size (by simp) (by simp)).trans (heap_alloc_new w _)) rfl;have HGB:=hideI ((hg1.block w.heap.size (by simp) (by simp)).trans (heap_alloc_new w _));have HB0:Hid (Below w.heap.size w w1):=((Below.refl _ _).alloc (Nat.le_refl _) _).grown hg1 (by simp) (by simp);clear hown1 hg1;have g3:=hgb 3;clear hgb)))
 clear hix hz0 hz1 hz2
 rw [← predsAt_zero bs bs.length] at HL1
 clear g3
 go_loopw [16] (fun u wr => ∃ (k:Nat) (vs:List Value),k ≤ bs.length ∧ u=.int .i64 k ∧ Hid (Lists wr (w.heap.size + 1) (w.heap.size + 1) bs.length vs (predsAt bs bs.length k 0)) ∧ Hid (Below w.heap.size w wr) ∧ Hid (Below (w.heap.size + 1) w1 wr)) (fun u _ => bs.length - (intOf u).toNat)
 case atStart => exact ⟨0,_,Nat.zero_le _,rfl,HL1,HB0,hideI (Below.refl _ _)⟩
 case round =>
  obtain ⟨k,vs,hk,rfl,HL,HBr,HBo⟩:=hrel
  have hgl:=HBo.out
  by_cases hlt:k < bs.length
  ·obtain ⟨q,hq⟩:∃ q,bs[k]?=some q:=⟨_,List.getElem?_eq_getElem hlt⟩
   obtain ⟨A',c',e0,_,hbx⟩:=(HBL.out.more' hB).keeps (Keeps.of_below HBr.out)
   cases e0
   obtain ⟨ab,off,pq,cq,tv,rfl,hab,x0,x1,x2,x3,x4,x5,_,_,htv,_⟩:=hbx k q hq
   have HTV:=hideI htv
   have HQ:=hideI hq
   have HSU:Hid (succM bs k=q.term.to.map Int.toNat):=by show _=_;unfold succM;rw [hq]
   obtain ⟨TA,tc,rfl,htm,_⟩:=htv
   obtain ⟨m,hm⟩:∃ m,m=q.term.to.length:=⟨_,rfl⟩
   have HM:=hideI hm
   rw [← hm] at x4 htm
   have hxr:=row_cells HGB.out (hgl.block w.heap.size (by omega))
   have g3:=hxr 3
   clear hbx hq x0 x1 x2 x3 x5 hm hgl hxr
   go_wp2
   clear x4 g3
   obtain ⟨wo,rfl⟩:∃ wo:World,wo=wr:=⟨_,rfl⟩
   go_loopw [28] (fun u wr => ∃ (i:Nat) (vs:List Value),i ≤ m ∧ u=.int .i64 i ∧ Hid (Lists wr (w.heap.size + 1) (w.heap.size + 1) bs.length vs (predsAt bs bs.length k i)) ∧ Hid (Below (w.heap.size + 1) wo wr)) (fun u _ => m - (intOf u).toNat)
   case atStart => exact ⟨0,vs,Nat.zero_le _,rfl,HL,hideI (Below.refl _ _)⟩
   case round =>
    obtain ⟨i,vs2,hi,rfl,HLi,HBi⟩:=hrel
    by_cases hlti:i < m
    ·obtain ⟨t,ht⟩:∃ t,q.term.to[i]?=some t:=⟨_,List.getElem?_eq_getElem (by rw [HM.out] at hlti;exact hlti)⟩
     have htn:=HIN.out q (List.mem_of_getElem? HQ.out) t (List.mem_of_getElem? ht)
     obtain ⟨tn,rfl⟩:∃ tn:Nat,t=(tn:Int):=⟨t.toNat,by omega⟩
     have htl:tn < bs.length:=by omega
     have HTI:Hid ((succM bs k)[i]?=some tn):=by
      show _=_
      rw [HSU.out,List.getElem?_map,ht]
      rfl
     obtain ⟨TA',tc',e0,_,hxx⟩:=HTV.out.keep (HBi.out.mono (Nat.le_succ _))
     cases e0
     obtain ⟨tb,toff,rfl,htb,hcell⟩:=hxx i (by rw [← HM.out];exact hlti)
     rw [ht] at hcell
     simp only [Option.getD_some] at hcell
     obtain ⟨v,hv⟩:∃ v,vs2[tn]?=some v:=⟨_,List.getElem?_eq_getElem (by rw [HLi.out.vl];exact htl)⟩
     obtain ⟨l,hl0⟩:∃ l,l=predsTo bs k tn ++ if tn ∈ (succM bs k).take i then [k] else []:=⟨_,rfl⟩
     have hl:(predsAt bs bs.length k i)[tn]?=some l:=by rw [predsAt_at htl,hl0]
     have hmem:k ∈ l ↔ tn ∈ (succM bs k).take i:=by rw [hl0];exact predsAt_mem
     have hll:l.length ≤ 1000:=by
      rw [hl0,List.length_append]
      have:=predsTo_len bs k tn
      split <;> simp <;> omega
     have q1:wr.cell? ⟨w.heap.size + 1,tn,none⟩=some v:=by rw [World.ownsRow.cellAt HLi.out.row tn (by omega)];exact hv
     have HOWN:=hideI (HLi.out.own tn v l hv hl)
     have HINT:=hideI (nat_ints HOWN.out (by omega))
     have hsz:=HLi.out.lt.2
     have HV:=hideI hv
     have HLL:=hideI hl
     have HL0:=hideI hl0
     clear hxx ht htn hv hl hl0
     by_cases hin2:tn ∈ (succM bs k).take i
     ·have HC:Hid (decide ((k:Int) ∈ l.map fun (x:Nat) => (x:Int))=true):=by show _=_;rw [decide_eq_true_iff,mem_nat,hmem];exact hin2
      have HIN2:=hideI hin2
      clear hin2 hmem
      go_wp2_with (go_at_call 214;go_must (refine (contains_any _ _ _ _ _ HINT.out).mono ?_);rw [HC.out];rintro e w2 ⟨rfl,rfl⟩)
      go_roundw
      case rel => exact ⟨i + 1,vs2,by omega,by go_num,by rw [predsAt_skip HTI.out HIN2.out];exact HLi,HBi⟩
      case measure => simp [intOf];omega
     ·have HC:Hid (decide ((k:Int) ∈ l.map fun (x:Nat) => (x:Int))=false):=by show _=_;rw [decide_eq_false_iff_not,mem_nat,hmem];exact hin2
      have HIN2:=hideI hin2
      have hl0:=HL0.out
      rw [if_neg hin2,List.append_nil] at hl0
      have HL1:=hideI hl0
      obtain ⟨i1,hjx,hy0,hy1,hy2⟩:=info_parts int_info
      have H63:Hid (l.length + 1 ≤ maxLen):=by show _ ≤ _;simp only [maxLen];omega
      have HBY:Hid ((l.length + 1) * 8 ≤ 140737488355328):=by show _ ≤ _;omega
      have HBS:Hid (w.heap.size + 1 ≤ wr.heap.size):=by show _ ≤ _;omega
      clear hin2 hmem hl0
      go_wp2_with (first
       | (go_at_call 214;go_must (refine (contains_any _ _ _ _ _ HINT.out).mono ?_);rw [HC.out];rintro e w2 ⟨rfl,rfl⟩)
       | (at_builtin;go_must (refine wpList_append_lies _ rfl _ _ _ rfl (w.heap.size + 1 + 1) 3 i1 (.int .i64 0) 1 8 Tryz.underlying22 hjx hy0 hy1 hy2 rfl (by decide) _ _ _ rfl (HOWN.out.alloc _) ⟨wr.heap.size,0,none⟩ 1 1 [.int .i64 k] rfl rfl (one_new wr _) (by simp [Value.oneCell']) (by decide) H63.out HBY.out (by simp;exact HBS.out) _ rfl ?_);intro g1 cap1 w3 hown1 hgrow1 hor1 _;go_must (have HP:=hideI (HLi.out.push HV.out HLL.out hown1 hgrow1 hor1);have HPB:=hideI (HLi.out.pushed (u:=.slice (some ⟨g1,0,none⟩) (l.length + 1) cap1) HV.out HLL.out hgrow1 HBi.out (Nat.le_refl _));obtain ⟨hc4,hf4⟩:=HLi.out.held HV.out HLL.out hgrow1;clear hown1 hgrow1 hor1 q1)))
      go_roundw
      case rel => exact ⟨i + 1,_,by omega,by go_num,by rw [← predsAt_push HTI.out HIN2.out htl,← HL1.out];exact HP,HPB⟩
      case measure => simp [intOf];omega
    ·have HE:Hid (predsAt bs bs.length k i=predsAt bs bs.length (k + 1) 0):=predsAt_next bs _ k (by rw [HSU.out,List.length_map,← HM.out];omega)
     rw [HE.out] at HLi
     go_wp2
     go_roundw
     case rel => exact ⟨k + 1,vs2,by omega,by go_num,HLi,hideI (HBr.out.trans (HBi.out.mono (Nat.le_succ _))),hideI (HBo.out.trans HBi.out)⟩
     case measure => simp [intOf];omega
  ·have hkn:k=bs.length:=by omega
   have HKN:=hideI hkn
   rw [hkn] at HL
   clear hkn
   go_wp2
   go_ret
   exact ⟨_,vs,rfl,⟨HL.out.vl,HL.out.ll,World.ownsRow.mono HL.out.row (by omega),HL.out.own,HL.out.apart⟩,HBr.out⟩
end Go.Proofs.YtikogmpibkefdaaGreat
namespace Go.Proofs.YtikogmpibkefdaaGreat
open Go.RowKit Go.Maps
theorem Lists.mono {w:World} {base base' gb n:Nat} {vs:List Value} {ls:List (List Nat)} (h:Lists w base gb n vs ls) (hb:base' ≤ base):Lists w base' gb n vs ls :=
 ⟨h.vl,h.ll,World.ownsRow.mono h.row hb,h.own,h.apart⟩
theorem Lists.kept {w w':World} {base gb n:Nat} {vs:List Value} {ls:List (List Nat)} (h:Lists w base gb n vs ls) (hb:Below w.heap.size w w'):Lists w' base gb n vs ls :=
 ⟨h.vl,h.ll,own_kept_below h.row hb (fun k hk => (h.row.lt k hk).2),fun t v l hv hl => own_kept_below (h.own t v l hv hl) hb (fun k hk => ((h.own t v l hv hl).lt k hk).2),h.apart⟩
def GPredsPost (f:FuncM) (w:World) (e:Ending) (w':World):Prop :=
 ((lookM f).1 ≠ 0 ∧ e=.returned (.tuple #[.slice none 0 0,.int .i64 (lookM f).1]) ∧ Below w.heap.size w w') ∨
 ((lookM f).1=0 ∧ ∃ (g:Nat) (vs:List Value),e=.returned (.tuple #[.slice (some ⟨g,0,none⟩) f.blocks.length f.blocks.length,.int .i64 0]) ∧ Lists w' w.heap.size g f.blocks.length vs (predsAt f.blocks f.blocks.length f.blocks.length 0) ∧ Below w.heap.size w w')
set_option maxRecDepth 100000 in
set_option maxHeartbeats 1000000 in
theorem gPreds_any (f:FuncM) (B:Nat) (pv bv:Value) (w:World) (hpv:Ints w B pv f.params) (hbv:BlocksR w B bv f.blocks) (hB:B ≤ w.heap.size) (hid:∀ u ∈ usesM f,I64 u.1) :
  Calls Tryz.prog 111 #[.agg #[pv,.int .i64 f.arrays,.int .i64 f.cells,bv]] w (GPredsPost f w):=by
 have HP:=hideI hpv
 have HBL:=hideI hbv
 have HID:=hideI hid
 obtain ⟨P,pc,rfl,_⟩:=hpv
 obtain ⟨A,c,rfl,hbm,_⟩:=hbv
 have HX:=hideI (heap_alloc_new w (.cells #[.slice P f.params.length pc,.int .i64 f.arrays,.int .i64 f.cells,.slice A f.blocks.length c] 25))
 have HK:Hid (Keeps B w (w.alloc (.cells #[.slice P f.params.length pc,.int .i64 f.arrays,.int .i64 f.cells,.slice A f.blocks.length c] 25))):=(Keeps.refl w).alloc hB _
 have HB0:Hid (Below w.heap.size w (w.alloc (.cells #[.slice P f.params.length pc,.int .i64 f.arrays,.int .i64 f.cells,.slice A f.blocks.length c] 25))):=(Below.refl _ w).alloc (Nat.le_refl _) _
 clear hid
 by_cases h0:(lookM f).1=0
 ·have H0:=hideI h0
  have hnb:=look_some_block h0
  clear h0
  go_enter Tryz.func111,Tryz.ntmps111
  go_wp2_with (first
   | (go_at_call 60;go_must (refine (check_any f B _ _ _ (HP.out.keeps HK.out) (HBL.out.keeps HK.out) (by simp;omega) HID.out).mono ?_);rw [H0.out];rintro e w1 ⟨rfl,hb⟩;have HB1:=hideI (HB0.out.trans (hb.mono (by simp)));have hxx:=row_cells ((hb.block _ (lt_of_heap HX.out)).trans HX.out) rfl;have q0:=hxx 0;have q1:=hxx 1;have q2:=hxx 2;have q3:=hxx 3;have hl1:w.heap.size < w1.heap.size:=(by have:=hb.size;simp at this;omega);clear hb hxx)
   | (go_at_call 173;go_must (refine (preds_any f.blocks w.heap.size _ _ _ _ _ ((HBL.out.more' hB).keeps (Keeps.of_below HB1.out)) (by omega) hnb.2 (look_ends H0.out)).mono ?_);rintro e w2 ⟨g,vs,rfl,hls,hb2⟩;have HLS:=hideI hls;have HB2:=hideI hb2;clear hls hb2))
  go_ret2
  exact .inr ⟨H0.out,g,vs,rfl,HLS.out.mono (by omega),HB1.out.trans (HB2.out.mono (by omega))⟩
 ·have H0:=hideI h0
  have hb:((lookM f).1 != 0)=true:=by simpa using h0
  clear h0
  go_enter Tryz.func111,Tryz.ntmps111
  go_wp2_with (first
   | (go_at_call 60;go_must (refine (check_any f B _ _ _ (HP.out.keeps HK.out) (HBL.out.keeps HK.out) (by simp;omega) HID.out).mono ?_);rintro e w1 ⟨rfl,hb1⟩;have HB1:=hideI (HB0.out.trans (hb1.mono (by simp)));clear hb1))
  go_ret2
  exact .inl ⟨H0.out,rfl,HB1.out⟩
theorem gOrder_yes (f:FuncM) (B:Nat) (pv bv:Value) (w:World) (hpv:Ints w B pv f.params) (hbv:BlocksR w B bv f.blocks) (hB:B ≤ w.heap.size) (hid:∀ u ∈ usesM f,I64 u.1) (h:(lookM f).1=0) :
  Calls Tryz.prog 46 #[.agg #[pv,.int .i64 f.arrays,.int .i64 f.cells,bv]] w fun e w' => ∃ (o:List Nat) (g cap:Nat),e=.returned (.tuple #[.slice (some ⟨g,0,none⟩) o.length cap,.int .i64 0]) ∧ OrderIs f.blocks o ∧ 0 < o.length ∧ o.length ≤ f.blocks.length ∧ w'.ownsRow w.heap.size 3 1 (.slice (some ⟨g,0,none⟩) o.length cap) o.length (natInts o) ∧ Below w.heap.size w w':=by
 refine (gOrder_any f B pv bv w hpv hbv hB hid).mono ?_
 rintro e w' (⟨h2,_⟩ | ⟨_,h2⟩)
 ·exact absurd h h2
 ·exact h2
theorem gPreds_no (f:FuncM) (B:Nat) (pv bv:Value) (w:World) (hpv:Ints w B pv f.params) (hbv:BlocksR w B bv f.blocks) (hB:B ≤ w.heap.size) (hid:∀ u ∈ usesM f,I64 u.1) (h:(lookM f).1 ≠ 0) :
  Calls Tryz.prog 111 #[.agg #[pv,.int .i64 f.arrays,.int .i64 f.cells,bv]] w fun e w' => e=.returned (.tuple #[.slice none 0 0,.int .i64 (lookM f).1]) ∧ Below w.heap.size w w':=by
 refine (gPreds_any f B pv bv w hpv hbv hB hid).mono ?_
 rintro e w' (⟨_,h2⟩ | ⟨h2,_⟩)
 ·exact h2
 ·exact absurd h2 h
theorem gPreds_yes (f:FuncM) (B:Nat) (pv bv:Value) (w:World) (hpv:Ints w B pv f.params) (hbv:BlocksR w B bv f.blocks) (hB:B ≤ w.heap.size) (hid:∀ u ∈ usesM f,I64 u.1) (h:(lookM f).1=0) :
  Calls Tryz.prog 111 #[.agg #[pv,.int .i64 f.arrays,.int .i64 f.cells,bv]] w fun e w' => ∃ (g:Nat) (vs:List Value),e=.returned (.tuple #[.slice (some ⟨g,0,none⟩) f.blocks.length f.blocks.length,.int .i64 0]) ∧ Lists w' w.heap.size g f.blocks.length vs (predsAt f.blocks f.blocks.length f.blocks.length 0) ∧ Below w.heap.size w w':=by
 refine (gPreds_any f B pv bv w hpv hbv hB hid).mono ?_
 rintro e w' (⟨h2,_⟩ | ⟨_,h2⟩)
 ·exact absurd h h2
 ·exact h2
end Go.Proofs.YtikogmpibkefdaaGreat
