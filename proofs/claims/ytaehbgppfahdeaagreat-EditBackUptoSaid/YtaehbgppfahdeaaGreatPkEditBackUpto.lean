/- What is proved: for every function f whose reading is of bulk at most 1048576, in whatever memory it lies, and every two numbers, EditBack answers true: a value that is replaced is used nowhere, the other one as often as both were. -/
import Derived.Test.YtaehbgppfahdeaaGreatPkEditBackUpto23
import Derived.IntWalk
import Derived.BigQuiet
import Derived.Deep.QuietTactic
import Derived.Deep.CondSized
namespace Go.Proofs.YtaehbgppfahdeaaGreat.editBackUpto
open Go.ChangeShapes Go.WideShapes Go.ChangeAt Go.RowKit Go.Maps
def IdsAt (W:World) (A:Option Addr) (xs:List Int):Prop:=∀ (j:Nat) (x:Int),xs[j]?=some x → ∃ g,A=some ⟨g,0,none⟩ ∧ g < W.heap.size ∧ W.cell? ⟨g,j,none⟩=some (.int .i64 x)
theorem IdsAt.kept {W W':World} {A:Option Addr} {xs:List Int} (h:IdsAt W A xs) (hb:Below W.heap.size W W'):IdsAt W' A xs:=fun j x hx => by
 obtain ⟨g,e,hg,hc⟩:=h j x hx
 exact ⟨g,e,Nat.lt_of_lt_of_le hg hb.size,(hb.cell (p:=⟨g,j,none⟩) hg).trans hc⟩
def IdsYes (f:FuncM) (w:World) (e:Ending) (w':World):Prop:=∃ (A:Option Addr) (c:Nat) (xs:List Int),e=.returned (.tuple #[.slice A (valuesM f).length c,.bool true]) ∧ xs.length=(valuesM f).length ∧ IdsAt w' A xs ∧ xs.Perm ((valuesM f).map (·.1)) ∧ Below w.heap.size w w'
theorem ids_yes (f:FuncM) (B:Nat) (pv bv:Value) (w:World) (hpv:Ints w B pv f.params) (hbv:BlocksR w B bv f.blocks) (hB:B ≤ w.heap.size) (hfew:FewB f ∧ f.blocks.length ≤ 1048576) (hio:IdsOk f) :
  Calls Tryz.prog 13 #[.agg #[pv,.int .i64 f.arrays,.int .i64 f.cells,bv]] w (IdsYes f w):=by
 refine (refIdsB_any f B pv bv w hpv hbv hB hfew.1 hfew.2).mono ?_
 rintro e w' ⟨hb,⟨h,_⟩ | ⟨_,v,xs,rfl,hown,_,hp⟩⟩
 ·exact absurd hio h
 ·obtain ⟨A,c,rfl,hr⟩:=own_read hown
  have hl:xs.length=(valuesM f).length:=by have:=hp.length_eq;simpa using this
  rw [hl] at hown ⊢
  refine ⟨A,c,xs,rfl,hl,fun j x hx => ?_,hp,hb⟩
  obtain ⟨g,e,hc⟩:=hr j x hx
  subst e
  exact ⟨g,rfl,(World.ownsRow.lt hown g rfl).2,hc⟩
theorem ids_no (f:FuncM) (B:Nat) (pv bv:Value) (w:World) (hpv:Ints w B pv f.params) (hbv:BlocksR w B bv f.blocks) (hB:B ≤ w.heap.size) (hfew:FewB f ∧ f.blocks.length ≤ 1048576) (hio:¬ IdsOk f) :
  Calls Tryz.prog 13 #[.agg #[pv,.int .i64 f.arrays,.int .i64 f.cells,bv]] w fun e w' => e=.returned (.tuple #[.slice none 0 0,.bool false]) ∧ Below w.heap.size w w':=by
 refine (refIdsB_any f B pv bv w hpv hbv hB hfew.1 hfew.2).mono ?_
 rintro e w' ⟨hb,⟨_,rfl⟩ | ⟨h,_⟩⟩
 ·exact ⟨rfl,hb⟩
 ·exact absurd h hio
theorem is_it (f:FuncM) (B:Nat) (z:Bool) (pv bv:Value) (w:World) (hpv:Ints w B pv f.params) (hbv:BlocksR w B bv f.blocks) (hB:B ≤ w.heap.size) (hid:∀ u ∈ usesM f,I64 u.1) (hz:z=true ↔ ∃ o,StrictM f o) :
  Calls Tryz.prog 14 #[.agg #[pv,.int .i64 f.arrays,.int .i64 f.cells,bv]] w fun e w' => e=.returned (.bool z) ∧ Below w.heap.size w w':=by
 refine (refIs_any f B pv bv w hpv hbv hB hid).mono ?_
 rintro e w' ⟨y,rfl,hy,hb⟩
 have:y=z:=by
  rw [Bool.eq_iff_iff,hy,hz]
  constructor
  ·intro h
   exact (strict_of h).2
  ·rintro ⟨o,h⟩
   exact .inr ⟨h.look,o,h.order,.inr (.inr (.inr ⟨h.come,h.phis,h.uses,rfl⟩))⟩
 rw [this]
 exact ⟨rfl,hb⟩
set_option maxRecDepth 100000 in
set_option maxHeartbeats 4000000 in
theorem walk_bad (f:FuncM) (pv bv:Value) (a b:Nat) (w:World) (hF:FnIn w f pv bv) (hfew:FewB f ∧ f.blocks.length ≤ 1048576) (hio:¬ IdsOk f) :
  Calls Tryz.prog 4 #[.agg #[pv,.int .i64 f.arrays,.int .i64 f.cells,bv],.int .u16 a,.int .u16 b] w fun e w' => e=.returned (.bool true) ∧ Below w.heap.size w w':=by
 have HF:=hideI hF
 have HFEW:=hideI hfew
 have HIO:=hideI hio
 obtain ⟨P,pc,hpv,_⟩:=hF.par
 obtain ⟨A,cc,hbv,_⟩:=hF.blk
 subst hpv hbv
 have HB:Hid (Below w.heap.size w (w.alloc (.cells #[.slice P f.params.length pc,.int .i64 f.arrays,.int .i64 f.cells,.slice A f.blocks.length cc] 25))):=(Below.refl _ w).alloc (Nat.le_refl _) _
 have HX:=hideI (heap_alloc_new w (.cells #[.slice P f.params.length pc,.int .i64 f.arrays,.int .i64 f.cells,.slice A f.blocks.length cc] 25))
 clear hF hio hfew
 go_enter Tryz.func4,Tryz.ntmps4
 go_wp2_with (first
  | (go_at_call 13;go_must (refine (ids_no f w.heap.size _ _ _ (HF.out.par.keeps (Keeps.of_below HB.out)) (HF.out.blk.keeps (Keeps.of_below HB.out)) HB.out.size HFEW.out HIO.out).mono ?_);rintro e w1 ⟨rfl,hb⟩;replace HB:=hideI (HB.out.trans (hb.mono HB.out.size));clear hb)
  | (go_at_call 11;refine (awake7_any _).mono ?_;rintro e w5 ⟨rfl,hb⟩;replace HB:=hideI (HB.out.trans (hb.mono HB.out.size));clear hb))
 go_ret
 exact ⟨rfl,HB.out⟩
set_option maxRecDepth 100000 in
set_option maxHeartbeats 4000000 in
theorem walk_out (f:FuncM) (pv bv:Value) (a b:Nat) (w:World) (hF:FnIn w f pv bv) (hfew:FewB f ∧ f.blocks.length ≤ 1048576) (hio:IdsOk f) (z:Bool) (hz:z=true ↔ ∃ o,StrictM f o) (hno:z=false ∨ z=true ∧ (valuesM f).length < 2) :
  Calls Tryz.prog 4 #[.agg #[pv,.int .i64 f.arrays,.int .i64 f.cells,bv],.int .u16 a,.int .u16 b] w fun e w' => e=.returned (.bool true) ∧ Below w.heap.size w w':=by
 have HF:=hideI hF
 have HFEW:=hideI hfew
 have HIO:=hideI hio
 have HIS:Hid (∀ W,Below w.heap.size w W → Calls Tryz.prog 14 #[.agg #[pv,.int .i64 f.arrays,.int .i64 f.cells,bv]] W fun e w' => e=.returned (.bool z) ∧ Below W.heap.size W w'):=hideI fun W hW => is_it f w.heap.size z pv bv W (hF.par.keeps (Keeps.of_below hW)) (hF.blk.keeps (Keeps.of_below hW)) hW.size (uses_i64 hF.ok) hz
 have HID:=hideI (uses_i64 hF.ok)
 obtain ⟨P,pc,hpv,_⟩:=hF.par
 obtain ⟨A,cc,hbv,_⟩:=hF.blk
 subst hpv hbv
 have HB:Hid (Below w.heap.size w (w.alloc (.cells #[.slice P f.params.length pc,.int .i64 f.arrays,.int .i64 f.cells,.slice A f.blocks.length cc] 25))):=(Below.refl _ w).alloc (Nat.le_refl _) _
 have HX:=hideI (heap_alloc_new w (.cells #[.slice P f.params.length pc,.int .i64 f.arrays,.int .i64 f.cells,.slice A f.blocks.length cc] 25))
 clear hF hio hfew hz
 obtain ⟨n,hn⟩:∃ n,n=(valuesM f).length:=⟨_,rfl⟩
 have HN:=hideI hn
 rw [← hn] at hno
 clear hn
 rcases hno with rfl | ⟨rfl,h2⟩
 all_goals
  go_enter Tryz.func4,Tryz.ntmps4
  go_wp2_with (first
   | (go_at_call 13;go_must (refine (ids_yes f w.heap.size _ _ _ (HF.out.par.keeps (Keeps.of_below HB.out)) (HF.out.blk.keeps (Keeps.of_below HB.out)) HB.out.size HFEW.out HIO.out).mono ?_);rintro e w1 ⟨IA,ic,xs,rfl,_,_,_,hb⟩;rw [← HN.out];replace HX:=hideI ((hb.block _ (lt_of_heap HX.out)).trans HX.out);replace HB:=hideI (HB.out.trans (hb.mono HB.out.size));clear hb)
   | (go_at_call 11;refine (awake7_any _).mono ?_;rintro e w5 ⟨rfl,hb⟩;replace HX:=hideI ((hb.block _ (lt_of_heap HX.out)).trans HX.out);have hx:=row_cells HX.out rfl;have q0:=hx 0;have q1:=hx 1;have q2:=hx 2;have q3:=hx 3;clear hx;replace HB:=hideI (HB.out.trans (hb.mono HB.out.size));clear hb)
   | (go_at_call 14;go_must (refine (HIS.out _ HB.out).mono ?_);rintro e w2 ⟨rfl,hb⟩;replace HX:=hideI ((hb.block _ (lt_of_heap HX.out)).trans HX.out);replace HB:=hideI (HB.out.trans (hb.mono HB.out.size));clear hb q0 q1 q2 q3))
  go_ret
  exact ⟨rfl,HB.out⟩
theorem typ_in {f:FuncM} (h0:(lookM f).1=0) {x:Int} (hx:x ∈ (valuesM f).map (·.1)):∃ t,t ≠ 0 ∧ typeOut f x=(t,0):=by
 rcases typ_facts h0 x with ⟨_,h⟩ | ⟨t,ht,h,_⟩
 ·exfalso
  have h1:=look_formed h0
  have h2:=formed_eq h1
  obtain ⟨d,hd,e⟩:=List.mem_map.1 hx
  have hty:∃ t,(lookM f).2.at x=some t:=by
   rw [h2]
   unfold Defs.at
   cases hf:(valuesM f).find? (fun d => d.1 == x) with
   | none => exact absurd (List.find?_eq_none.1 hf d hd) (by simp [e])
   | some d' => exact ⟨_,rfl⟩
  obtain ⟨t,ht⟩:=hty
  unfold typeR at h
  rw [← h2,ht] at h
  have hm:∃ k,(k,t) ∈ (lookM f).2:=by
   unfold Defs.at at ht
   obtain ⟨d,hd,e⟩:=Option.map_eq_some_iff.1 ht
   exact ⟨d.1,by rw [← e];exact List.mem_of_find?_eq_some hd⟩
  obtain ⟨k,hk⟩:=hm
  have h3:=(formed_all h1).2 _ hk
  have h4:t=0:=h
  rcases isType_cases h3 with e | e <;> (have e:t=_:=e;omega)
 ·exact ⟨t,ht,h⟩
theorem err_in {f:FuncM} (h0:(lookM f).1=0) {x y:Int} (hx:x ∈ (valuesM f).map (·.1)) (hy:y ∈ (valuesM f).map (·.1)):replErr f x y=0 ∨ replErr f x y=3:=by
 obtain ⟨t,_,ht⟩:=typ_in h0 hx
 obtain ⟨s,_,hs⟩:=typ_in h0 hy
 unfold replErr
 rw [ht,hs]
 by_cases h:t=s
 ·exact .inl (by simp [h])
 ·exact .inr (by simp [h])
theorem err_self {f:FuncM} (h0:(lookM f).1=0) {x:Int} (hx:x ∈ (valuesM f).map (·.1)):replErr f x x=0:=by
 obtain ⟨t,_,ht⟩:=typ_in h0 hx
 unfold replErr
 rw [ht]
 simp
theorem repl_fits (old now:Int) (hn:I64 now):∀ x,I64 x → I64 (replM old now x):=fun x hx => by
 unfold replM
 split
 ·exact hn
 ·exact hx
theorem drew_below {B:Nat} {w w':World} (h:Below B w w') (n:Nat):Below B w (w'.drewN n):=⟨h.os,h.tape,h.output,h.size,h.block⟩
def ReplRead (f:FuncM) (x y:Int) (w:World) (e:Ending) (w':World):Prop :=
 (replErr f x y=3 ∧ x ≠ y ∧ e=.returned (.tuple #[.agg #[.slice none 0 0,.int .i64 0,.int .i64 0,.slice none 0 0],.int .i64 3]) ∧ Below w.heap.size w w') ∨
 (∃ (P1 A1:Option Addr) (n1 c1 m1 d1:Nat),e=.returned (.tuple #[.agg #[.slice P1 n1 c1,.int .i64 f.arrays,.int .i64 f.cells,.slice A1 m1 d1],.int .i64 0]) ∧ Ints w' w'.heap.size (.slice P1 n1 c1) f.params ∧ BlocksR w' w'.heap.size (.slice A1 m1 d1) (mapF (replM x y) f).blocks ∧ Below w.heap.size w w')
theorem repl_read (f:FuncM) (o:List Nat) (pv bv:Value) (x y:Int) (w W:World) (hF:FnIn w f pv bv) (hst:StrictM f o) (hW:Below w.heap.size w W) (hx:x ∈ (valuesM f).map (·.1)) (hy:y ∈ (valuesM f).map (·.1)) (ho:I64 x) (hn:I64 y) :
  Calls Tryz.prog 9 #[.agg #[pv,.int .i64 f.arrays,.int .i64 f.cells,bv],.int .i64 x,.int .i64 y] W (ReplRead f x y W):=by
 refine (eReplace_any f w.heap.size pv bv x y W (hF.par.keeps (Keeps.of_below hW)) (hF.blk.keeps (Keeps.of_below hW)) hW.size (uses_i64 hF.ok) ho hn).mono ?_
 have hsm:=look_small hst.look
 have hft:=hF.blk.fits
 rintro e w' (⟨a,b,hc,hb,_⟩ | ⟨_,hz,rfl,hb⟩ | ⟨_,_,v1,base,P,pc,A,c,rfl,hp,hv,how,_,hb⟩)
 ·exact absurd (Prod.mk.inj (hst.check hc)).2 hb
 ·have h3:replErr f x y=3:=(err_in hst.look hx hy).resolve_left hz
  refine .inl ⟨h3,fun e => ?_,by rw [h3];rfl,hb⟩
  rw [e,err_self hst.look hy] at h3
  exact absurd h3 (by decide)
 ·obtain ⟨r1,r2⟩:=mapF_reads how hsm hft (repl_fits x y hn)
  rw [hp] at r1
  rw [hv] at r2
  exact .inr ⟨P,A,_,pc,_,c,rfl,r1,r2,hb⟩
def UAt (W:World) (A:Option Addr) (us:List (Int × Int)):Prop:=∀ (j:Nat) (u:Int × Int),us[j]?=some u → ∃ g,A=some ⟨g,0,none⟩ ∧ g < W.heap.size ∧ W.cell? ⟨g,j * 5,none⟩=some (.int .i64 u.1)
theorem UAt.kept {W W':World} {A:Option Addr} {us:List (Int × Int)} (h:UAt W A us) (hb:Below W.heap.size W W'):UAt W' A us:=fun j x hx => by
 obtain ⟨g,e,hg,hc⟩:=h j x hx
 exact ⟨g,e,Nat.lt_of_lt_of_le hg hb.size,(hb.cell (p:=⟨g,j * 5,none⟩) hg).trans hc⟩
def UsesAt (f:FuncM) (w:World) (e:Ending) (w':World):Prop:=∃ (A:Option Addr) (c:Nat),e=.returned (.slice A (usesM f).length c) ∧ UAt w' A (usesM f) ∧ Below w.heap.size w w'
theorem uses_at (f:FuncM) (B:Nat) (pv xv cv bv:Value) (w:World) (hbv:BlocksR w B bv f.blocks) (hB:B ≤ w.heap.size) (hfew:Few f.blocks) (hl5:f.blocks.length ≤ 512)
  (hform:∀ b ∈ f.blocks,∀ x ∈ b.code,x.args.length=(takesS x.op).length) (hphi:∀ b ∈ f.blocks,∀ p ∈ b.phis,p.vals.length=p.fr.length) :
  Calls Tryz.prog 15 #[.agg #[pv,xv,cv,bv]] w (UsesAt f w):=by
 refine (refUses_any f.blocks B pv xv cv bv w hbv hB hfew hl5 hform hphi).mono ?_
 rintro e w' ⟨v,rfl,hru,hb⟩
 obtain ⟨A,c,rfl,hr⟩:=RU.read hru
 refine ⟨A,c,rfl,fun j u hu => ?_,hb⟩
 obtain ⟨g,e,hg,hc,_⟩:=hr j u hu
 exact ⟨g,e,hg,hc⟩
theorem map_hyps {f:FuncM} {h:Int → Int} (h0:(lookM f).1=0):Few (mapF h f).blocks ∧ (mapF h f).blocks.length ≤ 512 ∧
  (∀ b ∈ (mapF h f).blocks,∀ x ∈ b.code,x.args.length=(takesS x.op).length) ∧ (∀ b ∈ (mapF h f).blocks,∀ p ∈ b.phis,p.vals.length=p.fr.length):=by
 have hf:=look_formed h0
 refine ⟨?_,?_,?_,?_⟩
 ·have:=form_few hf
  unfold Few at *
  have e:=mapF_uses_len (h:=h) (f:=f)
  unfold usesM at e
  rw [e]
  exact this
 ·rw [mapF_blocks,List.length_map]
  exact (look_some_block h0).2
 ·intro b hb x hx
  rw [mapF_blocks] at hb
  obtain ⟨q,hq,rfl⟩:=List.mem_map.1 hb
  rw [done_code] at hx
  obtain ⟨z,hz,rfl⟩:=List.mem_map.1 hx
  simp only [List.length_map]
  exact form_form hf q hq z hz
 ·intro b hb p hp
  rw [mapF_blocks] at hb
  obtain ⟨q,hq,rfl⟩:=List.mem_map.1 hb
  rw [done_phis] at hp
  obtain ⟨z,hz,rfl⟩:=List.mem_map.1 hp
  simp only [List.length_map]
  exact form_phi hf q hq z hz
theorem cnt_step {α:Type} {p:α → Bool} {us:List α} {k:Nat} {u:α} (h:us[k]?=some u):(us.take (k + 1)).countP p=(us.take k).countP p + if p u then 1 else 0:=by
 obtain ⟨hk,rfl⟩:=List.getElem?_eq_some_iff.1 h
 rw [List.take_succ_eq_append_getElem hk,List.countP_append,List.countP_singleton]
theorem cnt_le {α:Type} {p:α → Bool} {us:List α} {k:Nat}:(us.take k).countP p ≤ k:=Nat.le_trans List.countP_le_length (by rw [List.length_take];omega)
set_option maxRecDepth 100000 in
set_option maxHeartbeats 8000000 in
theorem walk_in (f:FuncM) (o:List Nat) (pv bv:Value) (a b:Nat) (w:World) (hF:FnIn w f pv bv) (hfew:FewB f ∧ f.blocks.length ≤ 1048576) (hio:IdsOk f) (hst:StrictM f o) (ha:a < 65536) (hb:b < 65536) (hn2:2 ≤ (valuesM f).length) :
  Calls Tryz.prog 4 #[.agg #[pv,.int .i64 f.arrays,.int .i64 f.cells,bv],.int .u16 a,.int .u16 b] w fun e w' => e=.returned (.bool true) ∧ Below w.heap.size w w':=by
 have HF:=hideI hF
 have HFEW:=hideI hfew
 have HIO:=hideI hio
 have HST:=hideI hst
 have HID:=hideI (uses_i64 hF.ok)
 have HRR:Hid (∀ (x y:Int) (W:World),Below w.heap.size w W → x ∈ (valuesM f).map (·.1) → y ∈ (valuesM f).map (·.1) → I64 x → I64 y → Calls Tryz.prog 9 #[.agg #[pv,.int .i64 f.arrays,.int .i64 f.cells,bv],.int .i64 x,.int .i64 y] W (ReplRead f x y W)):=hideI fun x y W hW => repl_read f o pv bv x y w W hF hst hW
 obtain ⟨P,pc,hpv,_⟩:=hF.par
 obtain ⟨A,cc,hbv,_⟩:=hF.blk
 subst hpv hbv
 have HB:Hid (Below w.heap.size w (w.alloc (.cells #[.slice P f.params.length pc,.int .i64 f.arrays,.int .i64 f.cells,.slice A f.blocks.length cc] 25))):=(Below.refl _ w).alloc (Nat.le_refl _) _
 have HX:=hideI (heap_alloc_new w (.cells #[.slice P f.params.length pc,.int .i64 f.arrays,.int .i64 f.cells,.slice A f.blocks.length cc] 25))
 have hn4:(valuesM f).length < 4000000:=valuesB_few hfew.1
 clear hF hio hfew hst
 obtain ⟨n,hn⟩:∃ n,n=(valuesM f).length:=⟨_,rfl⟩
 have HN:=hideI hn
 rw [← hn] at hn2 hn4
 clear hn
 have hd0:decide ((n:Int) < 2)=false:=by simp;omega
 obtain ⟨i,hi⟩:∃ i,i=a % n:=⟨_,rfl⟩
 obtain ⟨j,hj⟩:∃ j,j=b % n:=⟨_,rfl⟩
 have hil:i < n:=by rw [hi];exact Nat.mod_lt _ (by omega)
 have hjl:j < n:=by rw [hj];exact Nat.mod_lt _ (by omega)
 have r1:Int.tmod (a:Int) (n:Int)=(i:Int):=by rw [hi];rfl
 have r2:Int.tmod (b:Int) (n:Int)=(j:Int):=by rw [hj];rfl
 have s1:(a:Int) % (n:Int)=(i:Int):=by rw [hi];omega
 have s2:(b:Int) % (n:Int)=(j:Int):=by rw [hj];omega
 have hd1:((n:Int) == 0)=false:=by rw [beq_eq_false_iff_ne];omega
 clear hi hj
 go_enter Tryz.func4,Tryz.ntmps4
 go_upto_region 4 with (first
   | (go_at_call 13;go_must (refine (ids_yes f w.heap.size _ _ _ (HF.out.par.keeps (Keeps.of_below HB.out)) (HF.out.blk.keeps (Keeps.of_below HB.out)) HB.out.size HFEW.out HIO.out).mono ?_);rintro e w1 ⟨IA,ic,xs,rfl,hxl,hia,hxp,hb⟩;rw [← HN.out];rw [← HN.out] at hxl;have HXL:=hideI hxl;have HXP:=hideI hxp;have HIA:=hideI hia;clear hxl hxp hia;replace HX:=hideI ((hb.block _ (lt_of_heap HX.out)).trans HX.out);replace HB:=hideI (HB.out.trans (hb.mono HB.out.size));clear hb)
   | (go_at_call 11;refine (awake7_any _).mono ?_;rintro e w5 ⟨rfl,hb⟩;replace HIA:=hideI (HIA.out.kept hb);replace HX:=hideI ((hb.block _ (lt_of_heap HX.out)).trans HX.out);have hx:=row_cells HX.out rfl;have q0:=hx 0;have q1:=hx 1;have q2:=hx 2;have q3:=hx 3;clear hx;replace HB:=hideI (HB.out.trans (hb.mono HB.out.size));clear hb)
   | (go_at_call 14;go_must (refine (is_it f w.heap.size true _ _ _ (HF.out.par.keeps (Keeps.of_below HB.out)) (HF.out.blk.keeps (Keeps.of_below HB.out)) HB.out.size HID.out ⟨fun _ => ⟨o,HST.out⟩,fun _ => rfl⟩).mono ?_);rintro e w2 ⟨rfl,hb⟩;replace HIA:=hideI (HIA.out.kept hb);replace HX:=hideI ((hb.block _ (lt_of_heap HX.out)).trans HX.out);replace HB:=hideI (HB.out.trans (hb.mono HB.out.size));clear hb q0 q1 q2 q3))
 obtain ⟨x,hx⟩:∃ x,xs[i]?=some x:=⟨_,List.getElem?_eq_getElem (by have:=HXL.out;omega)⟩
 obtain ⟨y,hy⟩:∃ y,xs[j]?=some y:=⟨_,List.getElem?_eq_getElem (by have:=HXL.out;omega)⟩
 obtain ⟨g,hg,hgl,c1⟩:=HIA.out i x hx
 obtain ⟨g',hg',_,c2⟩:=HIA.out j y hy
 subst hg
 obtain rfl:g=g':=by injection hg' with h;injection h
 clear hg'
 have HMX:Hid (x ∈ (valuesM f).map (·.1)):=hideI (HXP.out.subset (List.mem_of_getElem? hx))
 have HMY:Hid (y ∈ (valuesM f).map (·.1)):=hideI (HXP.out.subset (List.mem_of_getElem? hy))
 have HI64:Hid (I64 x ∧ I64 y):=hideI (by
  have hk:∀ z,z ∈ (valuesM f).map (·.1) → I64 z:=fun z hz => by
   obtain ⟨d,hd,e⟩:=List.mem_map.1 hz
   have h2:=(formed_keys (look_formed HST.out.look)).1 d (by rw [formed_eq (look_formed HST.out.look)];exact hd)
   rw [← e]
   exact WalkArith.wf_i64 (by omega)
  exact ⟨hk x HMX.out,hk y HMY.out⟩)
 clear hx hy
 go_quiet (fail)
 obtain ⟨W,hW⟩:∃ W,W=w2.drewN nq:=⟨_,rfl⟩
 have HXW:Hid (W.heap[w.heap.size]?=some (.cells #[.slice P f.params.length pc,.int .i64 f.arrays,.int .i64 f.cells,.slice A f.blocks.length cc] 25 (0,0))):=by rw [hW];exact HX
 have HBW:Hid (Below w.heap.size w W):=by rw [hW];exact drew_below HB.out nq
 rw [← hW]
 clear hW HX HB HIA c1 c2 r1 r2 s1 s2 hd0 hd1
 have hx:=row_cells HXW.out rfl
 have q0:=hx 0
 have q1:=hx 1
 have q2:=hx 2
 have q3:=hx 3
 clear hx
 go_wp2_with fail
 refine (HRR.out x y W HBW.out HMX.out HMY.out HI64.out.1 HI64.out.2).mono ?_
 rintro e w3 (⟨_,hne,rfl,hb⟩ | ⟨P1,A1,n1,c1,m1,d1,rfl,hi1,hb1,hb⟩)
 ·have HB3:=hideI (HBW.out.trans (hb.mono HBW.out.size))
  clear hb hne q0 q1 q2 q3
  go_wp2
  go_ret
  exact ⟨rfl,HB3.out.alloc HB3.out.size _⟩
 ·have HG:=hideI (And.intro hi1 hb1)
  have HX3:=hideI ((hb.block _ (lt_of_heap HXW.out)).trans HXW.out)
  have HB3:=hideI (HBW.out.trans (hb.mono HBW.out.size))
  clear hb hi1 hb1 q0 q1 q2 q3
  go_upto_region 6 with fail
  obtain ⟨W4,hW4⟩:∃ W4,W4=w3.alloc (.cells #[.slice P1 n1 c1,.int .i64 f.arrays,.int .i64 f.cells,.slice A1 m1 d1] 25):=⟨_,rfl⟩
  have hb4:Below w3.heap.size w3 W4:=by rw [hW4];exact (Below.refl _ w3).alloc (Nat.le_refl _) _
  have HY:Hid (W4.heap[w3.heap.size]?=some (.cells #[.slice P1 n1 c1,.int .i64 f.arrays,.int .i64 f.cells,.slice A1 m1 d1] 25 (0,0))):=hideI (by rw [hW4];exact heap_alloc_new w3 _)
  rw [← hW4]
  obtain ⟨g4,hg4⟩:∃ g,g=w3.heap.size:=⟨_,rfl⟩
  rw [← hg4] at HY ⊢
  replace HX3:=hideI ((hb4.block _ (lt_of_heap HX3.out)).trans HX3.out)
  replace HB3:=hideI (HB3.out.trans (hb4.mono HB3.out.size))
  have HB4:=hideI hb4
  clear hW4 hb4 hg4
  have hx:=row_cells HX3.out rfl
  have q0:=hx 0
  have q1:=hx 1
  have q2:=hx 2
  have q3:=hx 3
  clear hx
  have hx:=row_cells HY.out rfl
  have y0:=hx 0
  have y1:=hx 1
  have y2:=hx 2
  have y3:=hx 3
  clear hx
  by_cases hxy:x=y
  ·subst hxy
   have hxx:(x == x)=true:=by simp
   go_wp2_with (go_at_call 12;have b4:=HB4.out;refine (same_yes f W4.heap.size _ _ _ _ W4 ((HF.out.par.keeps (Keeps.of_below HB3.out)).more HB3.out.size) ((HF.out.blk.keeps (Keeps.of_below HB3.out)).more' HB3.out.size) ((HG.out.1.keeps (Keeps.of_below b4)).more b4.size) (by have h:=(HG.out.2.keeps (Keeps.of_below b4)).more' b4.size;rw [mapF_same] at h;exact h) (Nat.le_refl _)).mono ?_;clear b4;rintro e w6 ⟨rfl,hb⟩;have HB6:=hideI (HB3.out.trans (hb.mono HB3.out.size));clear hb)
   go_ret
   exact ⟨rfl,HB6.out⟩
  ·have hxb:(x == y)=false:=by simpa using hxy
   have HNE:=hideI hxy
   clear hxy
   go_upto_region 9 with fail
   have hsz4:W4.heap.size ≤ W4.heap.size:=Nat.le_refl _
   have HSS:Hid (∀ V,Below W4.heap.size W4 V → V.cell? ⟨w.heap.size,0,none⟩=some (.slice P f.params.length pc) ∧ V.cell? ⟨w.heap.size,1,none⟩=some (.int .i64 f.arrays) ∧ V.cell? ⟨w.heap.size,2,none⟩=some (.int .i64 f.cells) ∧ V.cell? ⟨w.heap.size,3,none⟩=some (.slice A f.blocks.length cc) ∧ V.cell? ⟨g4,0,none⟩=some (.slice P1 n1 c1) ∧ V.cell? ⟨g4,1,none⟩=some (.int .i64 f.arrays) ∧ V.cell? ⟨g4,2,none⟩=some (.int .i64 f.cells) ∧ V.cell? ⟨g4,3,none⟩=some (.slice A1 m1 d1)):=hideI fun V hV => by
    have h1:=row_cells ((hV.block _ (lt_of_heap HX3.out)).trans HX3.out) rfl
    have h2:=row_cells ((hV.block _ (lt_of_heap HY.out)).trans HY.out) rfl
    exact ⟨h1 0,h1 1,h1 2,h1 3,h2 0,h2 1,h2 2,h2 3⟩
   have HU1:Hid (∀ V,Below W4.heap.size W4 V → Calls Tryz.prog 15 #[.agg #[.slice P f.params.length pc,.int .i64 f.arrays,.int .i64 f.cells,.slice A f.blocks.length cc]] V (UsesAt f V)):=hideI fun V hV => by
    have hbV:=HB3.out.trans (hV.mono HB3.out.size)
    exact uses_at f w.heap.size _ _ _ _ V (HF.out.blk.keeps (Keeps.of_below hbV)) hbV.size (form_few (look_formed HST.out.look)) (look_some_block HST.out.look).2 (form_form (look_formed HST.out.look)) (form_phi (look_formed HST.out.look))
   have HU2:Hid (∀ V,Below W4.heap.size W4 V → Calls Tryz.prog 15 #[.agg #[.slice P1 n1 c1,.int .i64 f.arrays,.int .i64 f.cells,.slice A1 m1 d1]] V (UsesAt (mapF (replM x y) f) V)):=hideI fun V hV => by
    have hm:=map_hyps (f:=f) (h:=replM x y) HST.out.look
    have hbV:=HB4.out.trans (hV.mono HB4.out.size)
    exact uses_at (mapF (replM x y) f) w3.heap.size _ _ _ _ V (HG.out.2.keeps (Keeps.of_below hbV)) hbV.size hm.1 hm.2.1 hm.2.2.1 hm.2.2.2
   have hS0:=HSS.out W4 (Below.refl _ _)
   clear q0 q1 q2 q3 y0 y1 y2 y3 hsz4
   refine wp_region_late (by kernel_rfl) (fun V => V.cell? ⟨w.heap.size,0,none⟩=some (.slice P f.params.length pc) ∧ V.cell? ⟨w.heap.size,1,none⟩=some (.int .i64 f.arrays) ∧ V.cell? ⟨w.heap.size,2,none⟩=some (.int .i64 f.cells) ∧ V.cell? ⟨w.heap.size,3,none⟩=some (.slice A f.blocks.length cc) ∧ V.cell? ⟨g4,0,none⟩=some (.slice P1 n1 c1) ∧ V.cell? ⟨g4,1,none⟩=some (.int .i64 f.arrays) ∧ V.cell? ⟨g4,2,none⟩=some (.int .i64 f.cells) ∧ V.cell? ⟨g4,3,none⟩=some (.slice A1 m1 d1)) [] ?_
   refine wpAnyT_take [] (i:=0) (v:=?_) rfl (by kernel_rfl) (by kernel_rfl) (by kernel_rfl) (by kernel_rfl) (by kernel_rfl) (by kernel_rfl) (fun _ _ _ h => h) hS0 (Or.inl ⟨by rfl,?_⟩) ?_
   rotate_left
   ·(intro w hSw;go_split_ands;go_simp;try with_reducible rfl)
   try simp only [Act.put,List.setIfInBounds_toArray,List.set_cons_zero,List.set_cons_succ]
   refine wpAnyT_take [] (i:=2) (v:=?_) rfl (by kernel_rfl) (by kernel_rfl) (by kernel_rfl) (by kernel_rfl) (by kernel_rfl) (by kernel_rfl) (fun _ _ _ h => h) hS0 (Or.inl ⟨by rfl,?_⟩) ?_
   rotate_left
   ·(intro w hSw;go_split_ands;go_simp;try with_reducible rfl)
   try simp only [Act.put,List.setIfInBounds_toArray,List.set_cons_zero,List.set_cons_succ]
   refine wpAnyT_ready (rs:=[1]) (by kernel_rfl) (by simp) ?_
   refine AllReadyT.cons rfl (fun K hK => ?_) ?_
   ·go_simp
    refine (HU1.out _ (Below.refl W4.heap.size W4).drew).mono ?_
    rintro e w5 ⟨UA,uc,rfl,hu,hb⟩
    have HUO:=hideI hu
    have HB5:Hid (Below W4.heap.size W4 w5):=hideI ((Below.refl W4.heap.size W4).drew.trans hb)
    clear hu hb
    refine hK.out _ _ (fun _ _ => HSS.out w5 HB5.out) ?_
    clear hK K
    try simp only [Act.put,List.setIfInBounds_toArray,List.set_cons_zero,List.set_cons_succ]
    refine wpAnyT_ready (rs:=[3]) (by kernel_rfl) (by simp) ?_
    refine AllReadyT.cons rfl (fun K hK => ?_) ?_
    ·go_simp
     refine (HU2.out _ HB5.out).mono ?_
     rintro e w6 ⟨VA,vc,rfl,hu,hb⟩
     have HVO:=hideI hu
     replace HUO:=hideI (HUO.out.kept hb)
     have HB46:Hid (Below W4.heap.size W4 w6):=hideI (HB5.out.trans (hb.mono HB5.out.size))
     have HB6:Hid (Below w.heap.size w w6):=hideI (HB3.out.trans (HB46.out.mono HB3.out.size))
     clear hu hb
     refine hK.out _ _ (fun _ _ => HSS.out w6 HB46.out) ?_
     clear hK K
     try simp only [Act.put,List.setIfInBounds_toArray,List.set_cons_zero,List.set_cons_succ]
     refine wpAnyT_quiet (i:=4) (v:=?_) rfl (by kernel_rfl) (by kernel_rfl) (by kernel_rfl) (fun _ _ _ h => h) (Or.inl ⟨by rfl,?_⟩) ?_
     rotate_left
     ·(intro w;go_simp;try with_reducible rfl)
     try simp only [Act.put,List.setIfInBounds_toArray,List.set_cons_zero,List.set_cons_succ]
     refine wpAnyT_quiet (i:=5) (v:=?_) rfl (by kernel_rfl) (by kernel_rfl) (by kernel_rfl) (fun _ _ _ h => h) (Or.inl ⟨by rfl,?_⟩) ?_
     rotate_left
     ·(intro w;go_simp;try with_reducible rfl)
     try simp only [Act.put,List.setIfInBounds_toArray,List.set_cons_zero,List.set_cons_succ]
     refine wpAnyT_done (by kernel_rfl) ?_ _
     obtain ⟨us,hus⟩:∃ us,us=usesM f:=⟨_,rfl⟩
     obtain ⟨vs,hvs⟩:∃ vs,vs=usesM (mapF (replM x y) f):=⟨_,rfl⟩
     have hl:vs.length=us.length:=by rw [hus,hvs];exact mapF_uses_len
     have h3:us.length ≤ 3000000:=by have:=form_few (look_formed HST.out.look);unfold Few at this;rw [hus];exact this
     rw [← hus] at HUO ⊢
     rw [← hvs] at HVO ⊢
     have HC1:Hid (vs.countP (fun u => u.1 == x)=0):=hideI (by have h:=cnt_old (f:=f) HNE.out;rw [← hvs] at h;unfold cntU at h;omega)
     have HC2:Hid (vs.countP (fun u => u.1 == y)=us.countP fun u => u.1 == x || u.1 == y):=hideI (by have h:=cnt_now (x:=x) (y:=y) (f:=f);rw [← hvs,← hus] at h;unfold cntU at h;omega)
     obtain ⟨m,hm⟩:∃ m,m=us.length:=⟨_,rfl⟩
     rw [← hm] at hl h3
     rw [hl,← hm]
     have HUL:Hid (us.length=m):=hideI hm.symm
     have HVL:Hid (vs.length=m):=hideI hl
     clear hus hvs hm hl hS0
     go_wp2
     go_loopw [13,18] (fun u13 u18 wr => ∃ (k c:Nat),k ≤ m ∧ c ≤ k ∧ u18=.int .i64 k ∧ u13=.int .i64 c ∧ Hid (c=(us.take k).countP fun u => u.1 == x || u.1 == y) ∧ wr=w6) (fun _ u18 _ => m - (intOf u18).toNat)
     case atStart => exact ⟨0,0,Nat.zero_le _,Nat.le_refl _,rfl,rfl,hideI (by simp),rfl⟩
     case round =>
      obtain ⟨k,c,hk,hck,rfl,rfl,HC,hw⟩:=hrel
      obtain rfl:=hw.symm
      by_cases hlt:k < m
      ·obtain ⟨u,hu⟩:∃ u,us[k]?=some u:=⟨_,List.getElem?_eq_getElem (by have:=HUL.out;omega)⟩
       obtain ⟨gu,hgu,_,cu⟩:=HUO.out k u hu
       subst hgu
       obtain ⟨id,hid⟩:∃ id,id=u.1:=⟨_,rfl⟩
       rw [← hid] at cu
       have HST1:=hideI (cnt_step (p:=fun u => u.1 == x || u.1 == y) hu)
       rw [← hid] at HST1
       clear hu hid
       by_cases h1:id=x
       ·have e1:(id == x)=true:=by simpa using h1
        rw [e1,Bool.true_or] at HST1
        clear h1
        go_wp2
        go_roundw
        case rel => exact ⟨k + 1,c + 1,by omega,by omega,by go_num,by go_num,hideI (by rw [HST1.out,HC.out];rfl),trivial⟩
        case measure => simp [intOf];omega
       ·have e1:(id == x)=false:=by simpa using h1
        rw [e1,Bool.false_or] at HST1
        clear h1
        by_cases h2:id=y
        ·have e2:(id == y)=true:=by simpa using h2
         rw [e2] at HST1
         clear h2
         go_wp2
         go_roundw
         case rel => exact ⟨k + 1,c + 1,by omega,by omega,by go_num,by go_num,hideI (by rw [HST1.out,HC.out];rfl),trivial⟩
         case measure => simp [intOf];omega
        ·have e2:(id == y)=false:=by simpa using h2
         rw [e2] at HST1
         clear h2
         go_wp2
         go_roundw
         case rel => exact ⟨k + 1,c,by omega,by omega,by go_num,rfl,hideI (by rw [HST1.out,HC.out];rfl),trivial⟩
         case measure => simp [intOf];omega
      ·have HCE:Hid (c=us.countP fun u => u.1 == x || u.1 == y):=hideI (by have h:=HC.out;rw [List.take_of_length_le (by have:=HUL.out;omega)] at h;exact h)
       clear HC
       go_wp2
       go_loopw [14,15,19] (fun u14 u15 u19 wr => ∃ (k c1 c2:Nat),k ≤ m ∧ c1 ≤ k ∧ c2 ≤ k ∧ u19=.int .i64 k ∧ u15=.int .i64 c1 ∧ u14=.int .i64 c2 ∧ Hid (c1=(vs.take k).countP fun u => u.1 == x) ∧ Hid (c2=(vs.take k).countP fun u => u.1 == y) ∧ wr=w6) (fun _ _ u19 _ => m - (intOf u19).toNat)
       case atStart => exact ⟨0,0,0,Nat.zero_le _,Nat.le_refl _,Nat.le_refl _,rfl,rfl,rfl,hideI (by simp),hideI (by simp),rfl⟩
       case round =>
        obtain ⟨k2,c1,c2,hk2,hc1,hc2,rfl,rfl,rfl,HD1,HD2,hw⟩:=hrel
        obtain rfl:=hw.symm
        by_cases hlt2:k2 < m
        ·obtain ⟨u,hu⟩:∃ u,vs[k2]?=some u:=⟨_,List.getElem?_eq_getElem (by have:=HVL.out;omega)⟩
         obtain ⟨gu,hgu,_,cu⟩:=HVO.out k2 u hu
         subst hgu
         obtain ⟨id,hid⟩:∃ id,id=u.1:=⟨_,rfl⟩
         rw [← hid] at cu
         have HST1:=hideI (cnt_step (p:=fun u => u.1 == x) hu)
         have HST2:=hideI (cnt_step (p:=fun u => u.1 == y) hu)
         rw [← hid] at HST1 HST2
         clear hu hid
         by_cases h1:id=x
         ·have e1:(id == x)=true:=by simpa using h1
          have e2:(id == y)=false:=by have:=HNE.out;simp;omega
          rw [e1] at HST1
          rw [e2] at HST2
          clear h1
          go_wp2
          go_roundw
          case rel => exact ⟨k2 + 1,c1 + 1,c2,by omega,by omega,by omega,by go_num,by go_num,rfl,hideI (by rw [HST1.out,HD1.out];rfl),hideI (by rw [HST2.out,HD2.out];rfl),trivial⟩
          case measure => simp [intOf];omega
         ·have e1:(id == x)=false:=by simpa using h1
          rw [e1] at HST1
          clear h1
          by_cases h2:id=y
          ·have e2:(id == y)=true:=by simpa using h2
           rw [e2] at HST2
           clear h2
           go_wp2
           go_roundw
           case rel => exact ⟨k2 + 1,c1,c2 + 1,by omega,by omega,by omega,by go_num,rfl,by go_num,hideI (by rw [HST1.out,HD1.out];rfl),hideI (by rw [HST2.out,HD2.out];rfl),trivial⟩
           case measure => simp [intOf];omega
          ·have e2:(id == y)=false:=by simpa using h2
           rw [e2] at HST2
           clear h2
           go_wp2
           go_roundw
           case rel => exact ⟨k2 + 1,c1,c2,by omega,by omega,by omega,by go_num,rfl,rfl,hideI (by rw [HST1.out,HD1.out];rfl),hideI (by rw [HST2.out,HD2.out];rfl),trivial⟩
           case measure => simp [intOf];omega
        ·have z1:c1=0:=by have h:=HD1.out;rw [List.take_of_length_le (by have:=HVL.out;omega),HC1.out] at h;exact h
         have z2:c2=c:=by have h:=HD2.out;rw [List.take_of_length_le (by have:=HVL.out;omega),HC2.out,← HCE.out] at h;exact h
         subst z1 z2
         have z3:((c2:Int) == (c2:Int))=true:=by simp
         have z4:((m:Int) == (m:Int))=true:=by simp
         go_wp2
         go_ret
         exact ⟨rfl,HB6.out⟩
    ·exact AllReadyT.nil
   ·exact AllReadyT.nil
theorem strict_ids {f:FuncM} {o:List Nat} (h:StrictM f o):IdsOk f:=by
 refine Classical.byContradiction fun hn => ?_
 have h1:=look_formed h.look
 rw [formed_ids_no hn] at h1
 cases h1
theorem u16_nat {x:Int} (h:(Lit.int .u16 x).wf=true):∃ a:Nat,x=(a:Int) ∧ a < 65536:=by
 have h3:IntKind.u16.min ≤ x ∧ x ≤ IntKind.u16.max:=by simpa [Lit.wf] using h
 have h4:0 ≤ x ∧ x ≤ 65535:=h3
 exact ⟨x.toNat,by omega,by omega⟩
theorem walk (f:FuncM) (pv bv:Value) (a b:Nat) (w:World) (hF:FnIn w f pv bv) (hfew:FewB f ∧ f.blocks.length ≤ 1048576) (ha:a < 65536) (hb:b < 65536) :
  Calls Tryz.prog 4 #[.agg #[pv,.int .i64 f.arrays,.int .i64 f.cells,bv],.int .u16 a,.int .u16 b] w fun e w' => e=.returned (.bool true) ∧ Below w.heap.size w w':=by
 by_cases hio:IdsOk f
 ·by_cases h:∃ o,StrictM f o
  ·by_cases h2:(valuesM f).length < 2
   ·exact walk_out f pv bv a b w hF hfew hio true ⟨fun _ => h,fun _ => rfl⟩ (.inr ⟨rfl,h2⟩)
   ·obtain ⟨o,hst⟩:=h
    exact walk_in f o pv bv a b w hF hfew hio hst ha hb (by omega)
  ·exact walk_out f pv bv a b w hF hfew hio false ⟨fun e => (by cases e),fun e => absurd e h⟩ (.inl rfl)
 ·exact walk_bad f pv bv a b w hF hfew hio
set_option maxRecDepth 100000 in
theorem lifted (os:Os) (started:os.Started) (H:Type) (enc:TypeId × Value → H) (F:Stop.Interp) :
  ReturnsInHanded {} Tryz.checked os 4 .any ((Rows.OpenSpec.upto Rows.editBackSpec).pre6 enc Tryz.prog Tryz.f4 Rows.editBackUptoRow.domain false) (((Rows.OpenSpec.upto Rows.editBackSpec).at F).post enc Tryz.prog Tryz.f4 false true false false):=by
 refine returnsInHanded_of_cond_sized (C:=Tryz.checked) (s:=Rows.OpenSpec.upto Rows.editBackSpec) (k:=Rows.uptoSmall) rfl own started (by kernel_rfl) Tryz.func4
  (OpenSpec.witness (enc:=enc) (C:=Tryz.checked) (s:=Rows.OpenSpec.upto Rows.editBackSpec) (k:=Rows.uptoSmall) rfl false ⟨#[],#[.agg #[.slice none 0 0,.int .i64 0,.int .i64 0,.slice none 0 0],.int .u16 0,.int .u16 0],[]⟩ 8 (by kernel_rfl) (by kernel_rfl) (by kernel_rfl) (by kernel_rfl)
   (x:=([.agg [.nil,.lit (.int .i64 0),.lit (.int .i64 0),.nil],.lit (.int .u16 0),.lit (.int .u16 0)],[],[])) (by kernel_rfl) rfl (by kernel_rfl)) ?_
 intro W base args ds gs before hval0 hW hcnd hk hsz _
 have hval:∀ (j:Nat) t v,Tryz.f4.params[j]?=some t → args[j]?=some v → Value.okWide Tryz.prog W .any base t v:=hval0
 have hW':=hW
 obtain ⟨p,q,hA0,hV,rfl,hfz,hnd⟩:=hW
 have hA:DataW.TrodAll enc Tryz.prog W 0 (fun _ => true) true Tryz.f4.params.toList args.toList ds p:=hA0
 rw [Tryz.params4] at hA hval
 obtain ⟨v0,vs0,d0,ds0,p0,q0,hargs,rfl,rfl,h0,r0⟩:=trodAll_cons hA
 obtain ⟨v1,vs1,d1,ds1,p1,q1,rfl,rfl,rfl,h1,r1⟩:=trodAll_cons r0
 obtain ⟨v2,vs2,d2,ds2,p2,q2,rfl,rfl,rfl,h2,r2⟩:=trodAll_cons r1
 obtain ⟨rfl,rfl,rfl⟩:=trodAll_nil r2
 obtain rfl:args=#[v0,v1,v2]:=by cases args;simp_all
 obtain ⟨rfl,rfl⟩:=trodVars_none hV
 have hb:Rows.uptoBulkAll ([d0,d1,d2] ++ ([]:List (DataW H))) ≤ 1048576:=of_decide_eq_true hk
 have hb0:Rows.uptoBulk d0 ≤ 1048576:=Nat.le_trans (bulk_part (by simp)) hb
 obtain ⟨f,pv,bv,rfl,hF⟩:=open_func (hval 0 25 v0 rfl rfl) h0 hsz (j:=0) rfl rfl
 obtain ⟨x1,rfl,_,_,w1⟩:=open_int Tryz.underlying32 (hval 1 32 v1 rfl rfl) h1
 obtain ⟨x2,rfl,_,_,w2⟩:=open_int Tryz.underlying32 (hval 2 32 v2 rfl rfl) h2
 obtain ⟨a,rfl,ha⟩:=u16_nat w1
 obtain ⟨b,rfl,hb2⟩:=u16_nat w2
 have hfew:=bulk_func h0 hF hb0
 clear hA0 hval0 hb hk
 refine (walk f pv bv a b W hF hfew ha hb2).mono fun e W' ⟨he,hg⟩ => ?_
 subst he
 exact ⟨_,rfl,law_post (s:=Rows.editBackSpec) (by kernel_rfl) hW' rfl (by kernel_rfl) Tryz.underlying4 rfl rfl rfl (by rw [Tryz.params4];decide +kernel) hg⟩
theorem over:Rows.editBackUptoRow.holds Tryz.pinned (Rows.OpenSpec.upto Rows.editBackSpec) :=
 OpenClaim.holds_of_cond 4 Tryz.f4 rfl rfl rfl rfl rfl rfl rfl ⟨rfl,rfl,rfl,rfl,rfl⟩ rfl rfl rfl rfl rfl (by kernel_rfl) Tryz.func4 (by kernel_rfl)
  (of_decide_eq_true (by kernel_rfl)) (by unfold Func.isWrapper;first | (rw [if_pos (by decide +kernel)];kernel_rfl) | (rw [if_neg (by decide +kernel)];exact ⟨rfl,rfl⟩))
  (fun os started H enc _ F => lifted os started H enc F)
theorem proved:Rows.EditBackUptoSaid:=over
#print axioms proved
end Go.Proofs.YtaehbgppfahdeaaGreat.editBackUpto
