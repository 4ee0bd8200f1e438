/- What EditBackUpto rests on, part 15: LWithin, EAw3, EAw4, StrictIs, EAw5, RefSame, LRise. -/
import Derived.Test.YtaehbgppfahdeaaGreatPkEditBackUpto14
import Derived.Deep.LoopGhost
import Derived.Deep.AppendLies
import Derived.IntWalk
import Derived.Outline
import Derived.Deep.RegionHeld3
import Derived.Deep.DeepCutAuto
import Derived.Deep.RegionWith
import Derived.BigQuiet
import Derived.Deep.QuietTactic

namespace Go.Proofs.YtaehbgppfahdeaaGreat
open Go.RowKit Go.Maps
def boolsM (n:Nat) (P:Nat → Bool):List Value:=(List.range n).map fun b => .bool (P b)
def mWk (n s ws:Nat):Nat:=(n - s) * (n + 1) + ws
def WithinPost (n:Nat) (P:Nat → Bool) (w:World) (e:Ending) (w':World):Prop :=
 ∃ gm:Nat,e=.returned (.slice (some ⟨gm,0,none⟩) n n) ∧ w'.ownsRow w.heap.size 4 1 (.slice (some ⟨gm,0,none⟩) n n) n (boolsM n P) ∧ Below w.heap.size w w'
end Go.Proofs.YtaehbgppfahdeaaGreat

namespace Go.Proofs.YtaehbgppfahdeaaGreat
open Go.RowKit Go.Maps
def AwPost (w:World) (e:Ending) (w':World):Prop :=
 ∃ (val:Vals) (base:Nat) (P:Option Addr) (pc:Nat) (A:Option Addr) (c:Nat),e=.returned (.agg #[.slice P 0 pc,.int .i64 0,.int .i64 0,.slice A 1 c]) ∧ val .params=.slice P 0 pc ∧ val .blocks=.slice A 1 c ∧ AwO w' base val ∧ w.heap.size ≤ base ∧ Below w.heap.size w w'
theorem aw_fits:FnFits awakeF:=by
 refine ⟨fun b hb p hp => ?_,fun b hb x hx => ?_,fun b hb => ?_⟩
 ·simp [awakeF] at hb
  subst hb
  simp at hp
 ·simp [awakeF] at hb
  subst hb
  simp at hx
  subst hx
  exact ⟨by unfold I64;decide,by unfold I64;decide,by unfold I64;decide⟩
 ·simp [awakeF] at hb
  subst hb
  exact ⟨by unfold I64;decide,by unfold I64;decide,by unfold I64;decide⟩
theorem blk_newE (w:World) (cs:List Value) (t:TypeId):∀ (j:Nat) (u:Value),cs[j]?=some u → (w.alloc (.cells cs.toArray t)).cell? ((⟨w.heap.size,0,none⟩:Addr).add j)=some u:=by
 intro j u hu
 have h:=heap_alloc_new w (.cells cs.toArray t)
 rw [Go.WideShapes.add_plain,cell_of_row _ _ _ _ _ _ h,Nat.zero_add]
 simpa using hu
structure AwR (W wr:World) (gb gN capN pc1 base:Nat) (P1:Option Addr) (val:Vals):Prop where
 own:AwO wr base val
 params:val .params=.slice P1 0 pc1
 blocks:val .blocks=.slice (some ⟨gN,0,none⟩) 1 capN
 box:∃ u,wr.heap[gb]?=some (.cells #[.slice P1 0 pc1,.int .i64 0,.int .i64 0,u] 25 (0,0)) ∧ u.oneCell'=true
 far:∀ t,EE awakeF 1 t → (val t).ownBlock ≠ some gb
 below:Below W.heap.size W wr
 le:base ≤ wr.heap.size
theorem blk_info:(Tryz.prog.info? 62).map (fun i => (i.zero,i.size,i.bytes))=some (some (.agg #[.slice none 0 0,.slice none 0 0,.int .i64 0,.int .i64 0,.slice none 0 0,.int .i64 0]),6,96):=by kernel_rfl
set_option maxRecDepth 100000 in
set_option maxHeartbeats 2000000 in
theorem renamed_aw (B go co pc c:Nat) (P A:Option Addr) (w:World) (hpv:Ints w B (.slice P 0 pc) awakeF.params) (hbv:BlocksR w B (.slice A 1 c) awakeF.blocks) (hB:B ≤ w.heap.size) (hgo:go < w.heap.size) (ho:w.cell? ⟨go,0,none⟩=some (.int .i64 0)) :
  Calls Tryz.prog 70 #[.agg #[.slice P 0 pc,.int .i64 0,.int .i64 0,.slice A 1 c],.slice (some ⟨go,0,none⟩) 1 co] w (AwPost w):=by
 have HP:=hideI hpv
 have HBL:=hideI hbv
 obtain ⟨W,hW⟩:∃ W:World,W=(w.alloc (.cells #[.slice P 0 pc,.int .i64 0,.int .i64 0,.slice A 1 c] 25)).alloc (.cells #[.slice none 0 0,.int .i64 0,.int .i64 0,.slice none 0 0] 25):=⟨_,rfl⟩
 have HB0:Hid (Below w.heap.size w W):=by show Below _ _ _;rw [hW];exact ((Below.refl _ w).alloc (Nat.le_refl _) _).alloc (by simp) _
 have hx1:W.heap[w.heap.size]?=some (.cells #[.slice P 0 pc,.int .i64 0,.int .i64 0,.slice A 1 c] 25 (0,0)):=by
  rw [hW,Below.heap_alloc _ _ _ (by simp)]
  exact heap_alloc_new w _
 have hx2:W.heap[w.heap.size + 1]?=some (.cells #[.slice none 0 0,.int .i64 0,.int .i64 0,.slice none 0 0] 25 (0,0)):=by
  rw [hW]
  have:=heap_alloc_new (w.alloc (.cells #[.slice P 0 pc,.int .i64 0,.int .i64 0,.slice A 1 c] 25)) (.cells #[.slice none 0 0,.int .i64 0,.int .i64 0,.slice none 0 0] 25)
  simpa using this
 have hsz:W.heap.size=w.heap.size + 2:=by rw [hW];simp
 have HX1:=hideI hx1
 have HX2:=hideI hx2
 have hk:Keeps B w W:=Keeps.of_below (HB0.out.mono hB)
 have HFR:Hid (Calls Tryz.prog 64 #[.agg #[.slice P 0 pc,.int .i64 0,.int .i64 0,.slice A 1 c]] W (FreshPost awakeF W)):=hideI (fresh_any awakeF B _ _ W (HP.out.keeps hk) (HBL.out.keeps hk) (by omega) (by rw [awake_look]))
 have HOC:=hideI ho
 have HW0:=hideI hW
 have hqs:=row_cells hx1 rfl
 have q0:=hqs 0
 have q1:=hqs 1
 have q2:=hqs 2
 have q3:=hqs 3
 clear hqs hx1 hx2 hW hk ho hpv hbv
 go_enter Tryz.func70,Tryz.ntmps70
 go_upto_region 1 with fail
 rw [← HW0.out]
 go_upto_region 2 with (go_at_call 64;go_must (refine HFR.out.mono ?_);rintro e w1 ⟨v1,rfl,ho,hb⟩;(obtain ⟨P1,pc1,hp1⟩:=own_slice (ho.rows .params _ (.inl rfl) rfl));(obtain ⟨g1,c1,hg1,_⟩:=ho.slice (tp:=.blocks) (.inr (.inl rfl)) rfl (Nat.lt_succ_self 0));have hp2:v1 .params=.slice P1 0 pc1:=hp1;have hg2:v1 .blocks=.slice (some ⟨g1,0,none⟩) 1 c1:=hg1;rw [hp2,hg2,show awakeF.arrays=0 from rfl,show awakeF.cells=0 from rfl];have HP1:=hideI hp2;have HG1:=hideI hg2;have HO1:Hid (AwO w1 (W.heap.size + 2) v1):=hideI ho;have HB1:=hideI hb;clear ho hb hp1 hp2 hg1 hg2 q0 q1 q2 q3)
 obtain ⟨w2,hw2⟩:∃ w2:World,w2=w1.alloc (.cells #[.slice P1 0 pc1,.int .i64 0,.int .i64 0,.slice (some ⟨g1,0,none⟩) 1 c1] 25):=⟨_,rfl⟩
 have hb2:Below w1.heap.size w1 w2:=by rw [hw2];exact (Below.refl _ w1).alloc (Nat.le_refl _) _
 have hx4:w2.heap[w1.heap.size]?=some (.cells #[.slice P1 0 pc1,.int .i64 0,.int .i64 0,.slice (some ⟨g1,0,none⟩) 1 c1] 25 (0,0)):=by
  rw [hw2]
  exact heap_alloc_new w1 _
 have HX4:=hideI hx4
 have HB2:Hid (Below W.heap.size W w2):=HB1.out.trans (hb2.mono HB1.out.size)
 have HO2:=hideI (HO1.out.below hb2)
 have HLT:Hid (∀ t,EE awakeF 1 t → ∀ g0,(v1 t).ownBlock=some g0 → W.heap.size + 2 ≤ g0 ∧ g0 < w1.heap.size):=hideI fun t ht g0 e => HO1.out.lt ht e
 have hbs:W.heap.size + 2 ≤ w1.heap.size:=by have:=HO1.out.lt (t:=.blocks) (.inr (.inl rfl)) (by rw [HG1.out];rfl);omega
 have hw12:w1.heap.size < w2.heap.size:=lt_of_heap hx4
 obtain ⟨i0,hix,hz0,hz1,hz2⟩:=info_parts int_info
 have HWW2:=hideI hw2
 rw [show (w1.alloc (.cells #[.slice P1 0 pc1,.int .i64 0,.int .i64 0,.slice (some ⟨g1,0,none⟩) 1 c1] 25))=w2 from hw2.symm]
 clear hw2 hx4 hb2
 go_wp2_with (at_make;go_must (refine wpList_make_full _ rfl _ _ 22 rfl w2.heap.size 3 i0 (.int .i64 0) 1 Tryz.underlying22 hix hz0 hz1 .i64 .i64 _ _ 1 rfl rfl rfl rfl (by rw [hz2];omega) (by unfold maxLen;omega) (Nat.le_refl _) ?_);intro w3 hown3 hg3;go_must (have HO3:=hideI hown3;have HG3:=hideI hg3;clear hown3 hg3))
 clear hix hz0 hz1 hz2
 obtain ⟨ib,hix,hz0,hz1,hz2⟩:=info_parts blk_info
 have hrow3:w3.ownsRow w2.heap.size 3 1 (.slice (some ⟨w2.heap.size,0,none⟩) 1 1) 1 [.int .i64 0]:=by
  have h:=HO3.out
  rw [show (Value.int IntKind.i64 0).cells=#[Value.int .i64 0] from rfl,toList_madeCells_one] at h
  exact h
 have p0:w3.cell? ⟨w2.heap.size,0,none⟩=some (.int .i64 0):=by rw [World.ownsRow.cellAt hrow3 0 (by omega)];rfl
 have pf0:w3.frozen? ⟨w2.heap.size,0,none⟩=false:=World.ownsRow.frozenAt hrow3 0
 have hb3:Below w2.heap.size w2 w3:=(Below.refl _ w2).grown HG3.out (Nat.le_refl _) (by simp)
 obtain ⟨wp,hwp⟩:∃ wp:World,wp=w3.setCell ⟨w2.heap.size,0,none⟩ (.int .i64 0):=⟨_,rfl⟩
 have HBP:Hid (Below w2.heap.size w2 wp):=by show Below _ _ _;rw [hwp];exact hb3.setCell (p:=⟨w2.heap.size,0,none⟩) (Nat.le_refl _) _
 have HOP:=hideI (HO2.out.below HBP.out)
 have hcs:=HOP.out.rows .blocks _ (.inr (.inl rfl)) (aw_blocks v1)
 rw [HG1.out] at hcs
 have hbc:∀ r u,[v1 (.phis 0),v1 (.code 0),.int .i64 3,.int .i64 0,v1 (.ends 0),.int .i64 0][r]?=some u → wp.cell? ⟨g1,r,none⟩=some u:=fun r u hu => by
  have hr:=(List.getElem?_eq_some_iff.1 hu).1
  rw [World.ownsRow.cellAt hcs r (by simpa using hr)]
  exact hu
 obtain ⟨Ap,cp,hvp⟩:=own_slice (HOP.out.rows (.phis 0) _ (EE.all (aw_phis v1)) (aw_phis v1))
 obtain ⟨gC,cC,hvc,_⟩:=HOP.out.slice (EE.all (aw_code v1)) (aw_code v1) (Nat.lt_succ_self 0)
 obtain ⟨Ae,ce,hve⟩:=own_slice (HOP.out.rows (.ends 0) _ (EE.all (aw_ends v1)) (aw_ends v1))
 have hvp':v1 (.phis 0)=.slice Ap 0 cp:=hvp
 have hvc':v1 (.code 0)=.slice (some ⟨gC,0,none⟩) 1 cC:=hvc
 have hve':v1 (.ends 0)=.slice Ae 0 ce:=hve
 rw [hvp',hvc',hve'] at hbc
 have b0:=hbc 0 _ rfl
 have b1:=hbc 1 _ rfl
 have b2:=hbc 2 _ rfl
 have b3:=hbc 3 _ rfl
 have b4:=hbc 4 _ rfl
 have b5:=hbc 5 _ rfl
 have r3:=row_cells ((HBP.out.block _ hw12).trans HX4.out) rfl 3
 have e0:w3.cell? ⟨go,0,none⟩=some (.int .i64 0):=(hb3.cell (p:=⟨go,0,none⟩) (by have:=HB2.out.size;simp;omega)).trans ((HB2.out.cell (p:=⟨go,0,none⟩) (by simp;omega)).trans ((HB0.out.cell (p:=⟨go,0,none⟩) hgo).trans HOC.out))
 have HVS:=hideI (And.intro hvp' (And.intro hvc' hve'))
 have hpsz:w2.heap.size ≤ wp.heap.size:=HBP.out.size
 have HWP:=hideI hwp
 have HWS:Hid (W.heap.size ≤ w2.heap.size):=hideI HB2.out.size
 clear hrow3 hcs hbc hvp hvc hve hvp' hvc' hve' hwp
 go_loopg [7,18] 1 (fun gg b s wr => (b=.slice none 0 0 ∧ s=.int .i64 0 ∧ 1 ≤ gg ∧ wr=w3) ∨ (s=.int .i64 1 ∧ ∃ (gN capN:Nat) (val:Vals),b=.slice (some ⟨gN,0,none⟩) 1 capN ∧ Hid (AwR W wr w1.heap.size gN capN pc1 (W.heap.size + 2) P1 val)))
 case atStart => exact .inl ⟨rfl,rfl,Nat.le_refl _,rfl⟩
 case round =>
  rcases hrel with ⟨rfl,rfl,hgg,hw⟩ | ⟨rfl,gN,capN,val,rfl,HR⟩
  ·obtain rfl:=hw.symm
   go_upto_region 8 with fail
   rw [← HWP.out]
   go_wp2_with (at_builtin;go_must (refine wpList_append_lies _ rfl _ _ _ rfl (W.heap.size + 2) 62 ib _ 6 96 Tryz.underlying23 hix hz0 hz1 hz2 rfl (by decide) (.slice none 0 0) 0 [] rfl (World.ownsRow_nil _ _ _ _) ⟨wp.heap.size,0,none⟩ 1 1 [.slice Ap 0 cp,.slice (some ⟨gC,0,none⟩) 1 cC,.int .i64 3,.int .i64 0,.slice Ae 0 ce,.int .i64 0] rfl rfl (blk_newE wp _ _) (by simp [Value.oneCell']) (by decide) (by unfold maxLen;omega) (by omega) (by have:=HWS.out;simp;omega) _ rfl ?_);intro gN capN w6 hown6 hg6 hor6 hgl6;go_must (have HO6:=hideI hown6;have HG6:=hideI hg6;have HOR6:=hideI hor6;clear hown6 hg6 hor6 b0 b1 b2 b3 b4 b5))
   have hsz6:(wp.alloc (.cells #[.slice Ap 0 cp,.slice (some ⟨gC,0,none⟩) 1 cC,.int .i64 3,.int .i64 0,.slice Ae 0 ce,.int .i64 0] 62)).heap.size=wp.heap.size + 1:=by simp
   have hgN:gN=wp.heap.size + 1:=by
    rcases HOR6.out with h | h
    ·simp [Value.ownBlock] at h
    ·rw [h];exact hsz6
   have HAR:Hid (AwR W w6 w1.heap.size gN capN pc1 (W.heap.size + 2) P1 (upd v1 .blocks (.slice (some ⟨gN,0,none⟩) 1 capN))):=by
    have hown:w6.ownsRow (W.heap.size + 2) 62 6 (.slice (some ⟨gN,0,none⟩) 1 capN) 1 [v1 (.phis 0),v1 (.code 0),.int .i64 3,.int .i64 0,v1 (.ends 0),.int .i64 0]:=by
     rw [HVS.out.1,HVS.out.2.1,HVS.out.2.2]
     exact HO6.out
    have hoa:=HOP.out.below ((Below.refl _ wp).alloc (Nat.le_refl _) (.cells #[.slice Ap 0 cp,.slice (some ⟨gC,0,none⟩) 1 cC,.int .i64 3,.int .i64 0,.slice Ae 0 ce,.int .i64 0] 62))
    have hgr:=OwnG.grow (t0:=.blocks) (d:=⟨62,6,1,[v1 (.phis 0),v1 (.code 0),.int .i64 3,.int .i64 0,v1 (.ends 0),.int .i64 0]⟩) (v:=.slice (some ⟨gN,0,none⟩) 1 capN) (g1:=gN) hoa (.inr (.inl rfl)) hown (HG6.out.but _) rfl (.inr (by rw [hgN,hsz6]))
    have hB6:Below wp.heap.size wp w6:=((Below.refl _ wp).alloc (Nat.le_refl _) _).grown HG6.out (by simp) (by simp [Value.ownBlock])
    have hs6:wp.heap.size ≤ w6.heap.size:=hB6.size
    refine hideI ⟨hgr.congr (fun t _ => ?_) (fun _ _ => rfl) (fun _ ht => ht),HP1.out,upd_same _ _ _,⟨_,(hB6.block _ (by omega)).trans ((HBP.out.block _ hw12).trans HX4.out),rfl⟩,fun t ht e => ?_,HB2.out.trans ((HBP.out.mono HWS.out).trans (hB6.mono (Nat.le_trans HWS.out hpsz))),by omega⟩
    ·cases t with
     | params => rfl
     | blocks => rfl
     | phis k => cases k <;> rfl
     | code k => cases k <;> rfl
     | ends k => rfl
     | fr k i => rfl
     | vals k i => rfl
     | args k i => rfl
    ·by_cases ht2:t=.blocks
     ·subst ht2
      rw [upd_same] at e
      have:gN=w1.heap.size:=Option.some.inj e
      omega
     ·rw [upd_ne _ _ ht2] at e
      have:=(HLT.out t ht _ e).2
      omega
   go_roundg 0
   case measure => omega
   case rel => exact .inr ⟨by go_num,gN,capN,_,rfl,HAR⟩
  ·obtain ⟨u,hbx,hu⟩:=HR.out.box
   have hbc:=row_cells hbx rfl
   have m0:=hbc 0
   have m1:=hbc 1
   have m2:=hbc 2
   have m3:=hbc 3
   have mf3:=free_rowN hbx rfl 3
   have HBX:=hideI hbx
   clear hbc hbx
   go_upto_region 11 with fail
   have hlW:w.heap.size < W.heap.size:=by omega
   have hR:=HR.out.below
   obtain ⟨w7,hw7⟩:∃ w7:World,w7=wr.setCell ⟨w1.heap.size,3,none⟩ (.slice (some ⟨gN,0,none⟩) 1 capN):=⟨_,rfl⟩
   rw [← hw7]
   have hbx7:w7.heap[w1.heap.size]?=some (.cells #[.slice P1 0 pc1,.int .i64 0,.int .i64 0,.slice (some ⟨gN,0,none⟩) 1 capN] 25 (0,0)):=by
    rw [hw7]
    have e:=heap_setCell_same wr w1.heap.size 3 _ _ (.slice (some ⟨gN,0,none⟩) 1 capN) HBX.out
    simpa using e
   have hB7:Below W.heap.size W w7:=by rw [hw7];exact hR.setCell (p:=⟨w1.heap.size,3,none⟩) HB1.out.size _
   have hO7:AwO w7 (W.heap.size + 2) val:=by rw [hw7];exact HR.out.own.other (fun t ht => HR.out.far t ht)
   have hq0:=row_cells ((hB7.block _ hlW).trans HX1.out) rfl 0
   have hs7:wr.heap.size=w7.heap.size:=by rw [hw7];simp
   have HRV:=hideI (renumValues_aw val (W.heap.size + 2) gN capN w7 hO7 HR.out.blocks (by have:=HR.out.le;omega))
   have HBX7:=hideI hbx7
   have HB7:=hideI hB7
   have HS7:Hid (W.heap.size + 2 ≤ w7.heap.size ∧ w1.heap.size < w7.heap.size):=hideI ⟨by have:=HR.out.le;omega,lt_of_heap hbx7⟩
   clear hw7 hbx7 hB7 hO7 hR m0 m1 m2 m3 mf3 hs7
   go_wp2_with (go_at_call 117;go_must (refine HRV.out.mono ?_);rintro e w8 ⟨⟨v8,rfl⟩,ho8,hf8⟩;have HO8:=hideI ho8;have HF8:=hideI hf8;clear ho8 hf8)
   have hB8:Below W.heap.size W w8:=⟨HF8.out.os.trans HB7.out.os,HF8.out.tape.trans HB7.out.tape,HF8.out.output.trans HB7.out.output,Nat.le_trans HB7.out.size HF8.out.size,fun b hb => (HF8.out.block b (by have:=HS7.out.1;omega) (fun t ht e => by have:=(HO8.out.lt ht e).1;omega)).trans (HB7.out.block b hb)⟩
   have hbx8:=(HF8.out.block _ HS7.out.2 (fun t ht => HR.out.far t ht)).trans HBX7.out
   have hcs:=HO8.out.rows .blocks _ (.inr (.inl rfl)) (aw_blocks val)
   rw [HR.out.blocks] at hcs
   obtain ⟨Ap8,cp8,hvp⟩:=own_slice (HO8.out.rows (.phis 0) _ (EE.all (aw_phis val)) (aw_phis val))
   obtain ⟨Ae8,ce8,hve⟩:=own_slice (HO8.out.rows (.ends 0) _ (EE.all (aw_ends val)) (aw_ends val))
   have hvp':val (.phis 0)=.slice Ap8 0 cp8:=hvp
   have hve':val (.ends 0)=.slice Ae8 0 ce8:=hve
   have k0:w8.cell? ⟨gN,0,none⟩=some (.slice Ap8 0 cp8):=by rw [World.ownsRow.cellAt hcs 0 (by show 0 < 1 * 6;omega),← hvp'];rfl
   have k4:w8.cell? ⟨gN,4,none⟩=some (.slice Ae8 0 ce8):=by rw [World.ownsRow.cellAt hcs 4 (by show 4 < 1 * 6;omega),← hve'];rfl
   have HRB:Hid (∀ pv,Calls Tryz.prog 118 #[.pointer (some ⟨gN,0,none⟩),pv] w8 fun e w' => e=.returned (.tuple #[]) ∧ w'=w8):=hideI fun pv => renumBlocks_aw gN Ap8 Ae8 cp8 ce8 pv w8 k0 k4
   have hq8:=row_cells hbx8 rfl
   have s0:=hq8 0
   have s1:=hq8 1
   have s2:=hq8 2
   have s3:=hq8 3
   have hx28:=(hB8.block (w.heap.size + 1) (by omega)).trans HX2.out
   have hns:=row_cells hx28 rfl
   have n0:=hns 0
   have n1:=hns 1
   have n2:=hns 2
   have n3:=hns 3
   have fr:=free_rowN hx28 rfl
   have f0:=fr 0
   have f1:=fr 1
   have f2:=fr 2
   have f3:=fr 3
   have HB8:=hideI hB8
   clear hcs hvp hve hvp' hve' k0 k4 hq8 hns fr hx28 hbx8 hB8 hq0
   go_loopg [45] 1 (fun gg s wr => (s=.int .i64 0 ∧ 1 ≤ gg ∧ wr=w8) ∨ (s=.int .i64 1 ∧ wr=w8))
   case atStart => exact .inl ⟨rfl,Nat.le_refl _,rfl⟩
   case round =>
    rcases hrel with ⟨rfl,hgg,hw⟩ | ⟨rfl,hw⟩
    ·obtain rfl:=hw.symm
     go_wp2_with (go_at_call 118;go_must (refine (HRB.out _).mono ?_);rintro e w9 ⟨rfl,rfl⟩)
     go_roundg 0
     case measure => omega
     case rel => exact .inr ⟨by go_num,rfl⟩
    ·obtain rfl:=hw.symm
     go_wp2
     have hno:∀ t,EE awakeF 1 t → (val t).ownBlock ≠ some (w.heap.size + 1):=fun t ht e => by
      have:=(HO8.out.lt ht e).1
      omega
     refine bodyPost_ret (v:=.agg #[.slice P1 0 pc1,.int .i64 0,.int .i64 0,.slice (some ⟨gN,0,none⟩) 1 capN]) (by simp [results,Tryz.results70,go_sem,n0,n1,n2,n3]) rfl ⟨val,W.heap.size + 2,P1,pc1,_,capN,rfl,HR.out.params,HR.out.blocks,?_,by omega,?_⟩
     ·exact (((OwnG.other HO8.out hno).other hno).other hno).other hno
     ·exact ((((HB0.out.trans (HB8.out.mono HB0.out.size)).setCell (by simp) _).setCell (by simp) _).setCell (by simp) _).setCell (by simp) _
end Go.Proofs.YtaehbgppfahdeaaGreat

namespace Go.Proofs.YtaehbgppfahdeaaGreat
open Go.RowKit Go.Maps
set_option maxHeartbeats 1000000 in
theorem eqNil_any (A A':Option Addr) (c c':Nat) (w:World) :
  Calls Tryz.prog 119 #[.slice A 0 c,.slice A' 0 c'] w fun e w' => e=.returned (.bool true) ∧ w'=w:=by
 go_enter Tryz.func119,Tryz.ntmps119
 go_wp2
 go_loopg [13] 0 (fun gg s8 wr => s8=.int .i64 0 ∧ wr=w)
 case atStart => exact ⟨rfl,rfl⟩
 case round =>
  obtain ⟨rfl,hw⟩:=hrel
  obtain rfl:=hw.symm
  go_wp2
  go_ret
  exact ⟨rfl,rfl⟩
set_option maxHeartbeats 1000000 in
theorem eqPhis_any (A A':Option Addr) (c c':Nat) (fv:Value) (w:World) :
  Calls Tryz.prog 174 #[.slice A 0 c,.slice A' 0 c',fv] w fun e w' => e=.returned (.bool true) ∧ w'=w:=by
 go_enter Tryz.func174,Tryz.ntmps174
 go_wp2
 go_loopg [17] 0 (fun gg s8 wr => s8=.int .i64 0 ∧ wr=w)
 case atStart => exact ⟨rfl,rfl⟩
 case round =>
  obtain ⟨rfl,hw⟩:=hrel
  obtain rfl:=hw.symm
  go_wp2
  go_ret
  exact ⟨rfl,rfl⟩
set_option maxHeartbeats 2000000 in
theorem sameInstr_any (a b n:Int) (A A':Option Addr) (c c':Nat) (w:World) :
  Calls Tryz.prog 177 #[.agg #[.int .i64 a,.int .i64 b,.slice A 0 c,.int .i64 n],.agg #[.int .i64 a,.int .i64 b,.slice A' 0 c',.int .i64 n]] w fun e w' => e=.returned (.bool true) ∧ Below w.heap.size w w':=by
 have ha:(a == a)=true:=by simp
 have hb:(b == b)=true:=by simp
 have hn:(n == n)=true:=by simp
 have HE:=hideI (fun w => eqNil_any A A' c c' w)
 go_enter Tryz.func177,Tryz.ntmps177
 go_wp2_with (go_at_call 119;go_must (refine (HE.out _).mono ?_);rintro e w1 ⟨rfl,rfl⟩)
 go_ret
 exact ⟨rfl,((Below.refl _ w).alloc (Nat.le_refl _) _).alloc (by simp) _⟩
set_option maxHeartbeats 2000000 in
theorem sameTerm_any (a b n:Int) (A A':Option Addr) (c c':Nat) (w:World) :
  Calls Tryz.prog 178 #[.agg #[.int .i64 a,.int .i64 b,.slice A 0 c,.int .i64 n],.agg #[.int .i64 a,.int .i64 b,.slice A' 0 c',.int .i64 n]] w fun e w' => e=.returned (.bool true) ∧ Below w.heap.size w w':=by
 have ha:(a == a)=true:=by simp
 have hb:(b == b)=true:=by simp
 have hn:(n == n)=true:=by simp
 have HE:=hideI (fun w => eqNil_any A A' c c' w)
 go_enter Tryz.func178,Tryz.ntmps178
 go_wp2_with (go_at_call 119;go_must (refine (HE.out _).mono ?_);rintro e w1 ⟨rfl,rfl⟩)
 go_ret
 exact ⟨rfl,((Below.refl _ w).alloc (Nat.le_refl _) _).alloc (by simp) _⟩
set_option maxRecDepth 100000 in
set_option maxHeartbeats 4000000 in
theorem eqCode_any (g g' cc cc':Nat) (A A':Option Addr) (c c':Nat) (w:World) (_hg:g < w.heap.size) (hg':g' < w.heap.size)
  (h0:w.cell? ⟨g,0,none⟩=some (.int .i64 1)) (h1:w.cell? ⟨g,1,none⟩=some (.int .i64 0)) (h2:w.cell? ⟨g,2,none⟩=some (.slice A 0 c)) (h3:w.cell? ⟨g,3,none⟩=some (.int .i64 5))
  (k0:w.cell? ⟨g',0,none⟩=some (.int .i64 1)) (k1:w.cell? ⟨g',1,none⟩=some (.int .i64 0)) (k2:w.cell? ⟨g',2,none⟩=some (.slice A' 0 c')) (k3:w.cell? ⟨g',3,none⟩=some (.int .i64 5)) :
  Calls Tryz.prog 176 #[.slice (some ⟨g,0,none⟩) 1 cc,.slice (some ⟨g',0,none⟩) 1 cc',.func (.func 177) #[] #[]] w fun e w' => e=.returned (.bool true) ∧ Below w.heap.size w w':=by
 have HS:=hideI (fun w => sameInstr_any 1 0 5 A A' c c' w)
 go_enter Tryz.func176,Tryz.ntmps176
 go_wp2
 go_loopg [17] 1 (fun gg s wr => (s=.int .i64 0 ∧ 1 ≤ gg ∧ wr=w) ∨ (s=.int .i64 1 ∧ Hid (Below w.heap.size w wr)))
 case atStart => exact .inl ⟨rfl,Nat.le_refl _,rfl⟩
 case round =>
  rcases hrel with ⟨rfl,hgg,hw⟩ | ⟨rfl,HB⟩
  ·obtain rfl:=hw.symm
   go_wp2_with (go_at_call 177;go_must (refine (HS.out _).mono ?_);rintro e w1 ⟨rfl,hb⟩;have HB1:=hideI (((Below.refl _ w).alloc (Nat.le_refl _) (.cells #[.int .i64 1,.int .i64 0,.slice A 0 c,.int .i64 5] 68)).alloc (by simp) (.cells #[.int .i64 1,.int .i64 0,.slice A' 0 c',.int .i64 5] 68));have HB2:=hideI (HB1.out.trans (hb.mono (by simp;omega)));clear hb)
   go_roundg 0
   case measure => omega
   case rel => exact .inr ⟨by go_num,HB2⟩
  ·go_wp2
   go_ret
   exact ⟨rfl,HB.out⟩
end Go.Proofs.YtaehbgppfahdeaaGreat

namespace Go.Proofs.YtaehbgppfahdeaaGreat
open Go.RowKit
structure StrictM (f:FuncM) (o:List Nat):Prop where
 look:(lookM f).1=0
 order:OrderIs f.blocks o
 come:∀ b,b < f.blocks.length → b ∈ o
 phis:∀ b,b < f.blocks.length → phisR f b
 uses:∀ b,b < f.blocks.length → usesPR f o b
theorem strict_of {f:FuncM} {x:Int} (h:CheckIs f (x,0)):x=0 ∧ ∃ o,StrictM f o:=by
 rcases h with ⟨h1,h2⟩ | ⟨h0,o,ho,hf⟩
 ·have:=(Prod.mk.inj h2).2
  exact absurd this.symm h1
 ·rcases hf with ⟨b,_,e⟩ | ⟨_,b,_,e⟩ | ⟨_,_,b,_,e⟩ | ⟨a0,a1,a2,e⟩
  ·exact absurd (Prod.mk.inj e).2 (by decide)
  ·exact absurd (Prod.mk.inj e).2 (by decide)
  ·exact absurd (Prod.mk.inj e).2 (by decide)
  ·exact ⟨(Prod.mk.inj e).1,o,h0,ho,a0,a1,a2⟩
theorem StrictM.check {f:FuncM} {o:List Nat} {r:Int × Int} (h:StrictM f o) (k:CheckIs f r):r=(0,0) :=
 k.one (.inr ⟨h.look,o,h.order,.inr (.inr (.inr ⟨h.come,h.phis,h.uses,rfl⟩))⟩)
end Go.Proofs.YtaehbgppfahdeaaGreat

namespace Go.Proofs.YtaehbgppfahdeaaGreat
open Go.RowKit Go.Maps
structure AwRd (w:World) (g:Nat):Prop where
 ex:∃ (gC cC:Nat) (Aa Ap Ae:Option Addr) (ca cp ce:Nat),g < w.heap.size ∧ gC < w.heap.size ∧
  w.cell? ⟨g,0,none⟩=some (.slice Ap 0 cp) ∧ w.cell? ⟨g,1,none⟩=some (.slice (some ⟨gC,0,none⟩) 1 cC) ∧ w.cell? ⟨g,2,none⟩=some (.int .i64 3) ∧ w.cell? ⟨g,3,none⟩=some (.int .i64 0) ∧ w.cell? ⟨g,4,none⟩=some (.slice Ae 0 ce) ∧ w.cell? ⟨g,5,none⟩=some (.int .i64 0) ∧
  w.cell? ⟨gC,0,none⟩=some (.int .i64 1) ∧ w.cell? ⟨gC,1,none⟩=some (.int .i64 0) ∧ w.cell? ⟨gC,2,none⟩=some (.slice Aa 0 ca) ∧ w.cell? ⟨gC,3,none⟩=some (.int .i64 5)
theorem AwRd.kept {w w':World} {g:Nat} (h:AwRd w g) (hb:Below w.heap.size w w'):AwRd w' g:=by
 obtain ⟨gC,cC,Aa,Ap,Ae,ca,cp,ce,l1,l2,a0,a1,a2,a3,a4,a5,c0,c1,c2,c3⟩:=h.ex
 have hs:=hb.size
 exact ⟨gC,cC,Aa,Ap,Ae,ca,cp,ce,by omega,by omega,(hb.cell (p:=⟨g,0,none⟩) l1).trans a0,(hb.cell (p:=⟨g,1,none⟩) l1).trans a1,(hb.cell (p:=⟨g,2,none⟩) l1).trans a2,(hb.cell (p:=⟨g,3,none⟩) l1).trans a3,(hb.cell (p:=⟨g,4,none⟩) l1).trans a4,(hb.cell (p:=⟨g,5,none⟩) l1).trans a5,
  (hb.cell (p:=⟨gC,0,none⟩) l2).trans c0,(hb.cell (p:=⟨gC,1,none⟩) l2).trans c1,(hb.cell (p:=⟨gC,2,none⟩) l2).trans c2,(hb.cell (p:=⟨gC,3,none⟩) l2).trans c3⟩
theorem aw_args (val:Vals):rowOf awakeF val (.args 0 0)=some ⟨3,1,0,[]⟩:=rfl
theorem AwO.rd {w:World} {base g c:Nat} {val:Vals} (h:AwO w base val) (hv:val .blocks=.slice (some ⟨g,0,none⟩) 1 c):AwRd w g:=by
 obtain ⟨Ap,cp,hvp⟩:=own_slice (h.rows (.phis 0) _ (EE.all (aw_phis val)) (aw_phis val))
 obtain ⟨gC,cC,hvc,_,hgl⟩:=h.slice (EE.all (aw_code val)) (aw_code val) (Nat.lt_succ_self 0)
 obtain ⟨Ae,ce,hve⟩:=own_slice (h.rows (.ends 0) _ (EE.all (aw_ends val)) (aw_ends val))
 obtain ⟨Aa,ca,hva⟩:=own_slice (h.rows (.args 0 0) _ (EE.all (aw_args val)) (aw_args val))
 have hvp':val (.phis 0)=.slice Ap 0 cp:=hvp
 have hvc':val (.code 0)=.slice (some ⟨gC,0,none⟩) 1 cC:=hvc
 have hve':val (.ends 0)=.slice Ae 0 ce:=hve
 have hva':val (.args 0 0)=.slice Aa 0 ca:=hva
 have hgB:=(h.lt (t:=.blocks) (.inr (.inl rfl)) (by rw [hv];rfl)).2
 have hb0:=h.rows .blocks _ (.inr (.inl rfl)) (aw_blocks val)
 have hc0:=h.rows (.code 0) _ (EE.all (aw_code val)) (aw_code val)
 rw [hv] at hb0
 rw [hvc'] at hc0
 have hbc:∀ r u,[val (.phis 0),val (.code 0),.int .i64 3,.int .i64 0,val (.ends 0),.int .i64 0][r]?=some u → w.cell? ⟨g,r,none⟩=some u:=fun r u hu => by
  have hr:=(List.getElem?_eq_some_iff.1 hu).1
  rw [World.ownsRow.cellAt hb0 r (by simpa using hr)]
  exact hu
 have hcc:∀ r u,[Value.int .i64 1,.int .i64 0,val (.args 0 0),.int .i64 5][r]?=some u → w.cell? ⟨gC,r,none⟩=some u:=fun r u hu => by
  have hr:=(List.getElem?_eq_some_iff.1 hu).1
  rw [World.ownsRow.cellAt hc0 r (by simpa using hr)]
  exact hu
 rw [hvp',hvc',hve'] at hbc
 rw [hva'] at hcc
 exact ⟨gC,cC,Aa,Ap,Ae,ca,cp,ce,hgB,hgl,hbc 0 _ rfl,hbc 1 _ rfl,hbc 2 _ rfl,hbc 3 _ rfl,hbc 4 _ rfl,hbc 5 _ rfl,hcc 0 _ rfl,hcc 1 _ rfl,hcc 2 _ rfl,hcc 3 _ rfl⟩
set_option maxRecDepth 100000 in
set_option maxHeartbeats 4000000 in
theorem sameBlock_any (gC gC' cC cC':Nat) (Aa Aa' Ap Ap' Ae Ae':Option Addr) (ca ca' cp cp' ce ce':Nat) (w:World) (hg:gC < w.heap.size) (hg':gC' < w.heap.size)
  (h0:w.cell? ⟨gC,0,none⟩=some (.int .i64 1)) (h1:w.cell? ⟨gC,1,none⟩=some (.int .i64 0)) (h2:w.cell? ⟨gC,2,none⟩=some (.slice Aa 0 ca)) (h3:w.cell? ⟨gC,3,none⟩=some (.int .i64 5))
  (k0:w.cell? ⟨gC',0,none⟩=some (.int .i64 1)) (k1:w.cell? ⟨gC',1,none⟩=some (.int .i64 0)) (k2:w.cell? ⟨gC',2,none⟩=some (.slice Aa' 0 ca')) (k3:w.cell? ⟨gC',3,none⟩=some (.int .i64 5)) :
  Calls Tryz.prog 121 #[.agg #[.slice Ap 0 cp,.slice (some ⟨gC,0,none⟩) 1 cC,.int .i64 3,.int .i64 0,.slice Ae 0 ce,.int .i64 0],.agg #[.slice Ap' 0 cp',.slice (some ⟨gC',0,none⟩) 1 cC',.int .i64 3,.int .i64 0,.slice Ae' 0 ce',.int .i64 0]] w fun e w' => e=.returned (.bool true) ∧ Below w.heap.size w w':=by
 obtain ⟨W,hW⟩:∃ W:World,W=(w.alloc (.cells #[.slice Ap 0 cp,.slice (some ⟨gC,0,none⟩) 1 cC,.int .i64 3,.int .i64 0,.slice Ae 0 ce,.int .i64 0] 62)).alloc (.cells #[.slice Ap' 0 cp',.slice (some ⟨gC',0,none⟩) 1 cC',.int .i64 3,.int .i64 0,.slice Ae' 0 ce',.int .i64 0] 62):=⟨_,rfl⟩
 have hb:Below w.heap.size w W:=by rw [hW];exact ((Below.refl _ w).alloc (Nat.le_refl _) _).alloc (by simp) _
 have hx1:W.heap[w.heap.size]?=some (.cells #[.slice Ap 0 cp,.slice (some ⟨gC,0,none⟩) 1 cC,.int .i64 3,.int .i64 0,.slice Ae 0 ce,.int .i64 0] 62 (0,0)):=by
  rw [hW,Below.heap_alloc _ _ _ (by simp)]
  exact heap_alloc_new w _
 have hx2:W.heap[w.heap.size + 1]?=some (.cells #[.slice Ap' 0 cp',.slice (some ⟨gC',0,none⟩) 1 cC',.int .i64 3,.int .i64 0,.slice Ae' 0 ce',.int .i64 0] 62 (0,0)):=by
  rw [hW]
  have:=heap_alloc_new (w.alloc (.cells #[.slice Ap 0 cp,.slice (some ⟨gC,0,none⟩) 1 cC,.int .i64 3,.int .i64 0,.slice Ae 0 ce,.int .i64 0] 62)) (.cells #[.slice Ap' 0 cp',.slice (some ⟨gC',0,none⟩) 1 cC',.int .i64 3,.int .i64 0,.slice Ae' 0 ce',.int .i64 0] 62)
  simpa using this
 have HX1:=hideI hx1
 have HX2:=hideI hx2
 have HB:=hideI hb
 have hwW:w.heap.size + 1 < W.heap.size:=lt_of_heap hx2
 have hs:=hb.size
 have HP:=hideI (fun w => eqPhis_any Ap Ap' cp cp' (.func (.func 175) #[] #[]) w)
 have HC:=hideI (eqCode_any gC gC' cC cC' Aa Aa' ca ca' W (by omega) (by omega) ((hb.cell (p:=⟨gC,0,none⟩) hg).trans h0) ((hb.cell (p:=⟨gC,1,none⟩) hg).trans h1) ((hb.cell (p:=⟨gC,2,none⟩) hg).trans h2) ((hb.cell (p:=⟨gC,3,none⟩) hg).trans h3) ((hb.cell (p:=⟨gC',0,none⟩) hg').trans k0) ((hb.cell (p:=⟨gC',1,none⟩) hg').trans k1) ((hb.cell (p:=⟨gC',2,none⟩) hg').trans k2) ((hb.cell (p:=⟨gC',3,none⟩) hg').trans k3))
 have HT:=hideI (fun w => sameTerm_any 3 0 0 Ae Ae' ce ce' w)
 have HW0:=hideI hW
 clear h0 h1 h2 h3 k0 k1 k2 k3 hb hW
 go_enter Tryz.func121,Tryz.ntmps121
 go_upto_region 1 with fail
 rw [← HW0.out]
 have q:=row_cells hx1 rfl
 have r:=row_cells hx2 rfl
 have q0:=q 0
 have q1:=q 1
 have r0:=r 0
 have r1:=r 1
 clear q r hx1 hx2
 go_wp2_with (first
  | (go_at_call 174;go_must (refine (HP.out _).mono ?_);rintro e w1 ⟨rfl,rfl⟩)
  | (go_at_call 176;go_must (refine HC.out.mono ?_);rintro e w2 ⟨rfl,hb⟩;have HB2:=hideI hb;have q:=row_cells ((hb.block _ (by omega)).trans HX1.out) rfl;have r:=row_cells ((hb.block _ hwW).trans HX2.out) rfl;clear q0 q1 r0 r1;have q2:=q 2;have q3:=q 3;have q4:=q 4;have q5:=q 5;have r2:=r 2;have r3:=r 3;have r4:=r 4;have r5:=r 5;clear q r hb)
  | (go_at_call 178;go_must (refine (HT.out _).mono ?_);rintro e w3 ⟨rfl,hb⟩;have HB3:=hideI (HB2.out.trans (hb.mono HB2.out.size));clear hb))
 go_ret
 exact ⟨rfl,HB.out.trans (HB3.out.mono HB.out.size)⟩
set_option maxRecDepth 100000 in
set_option maxHeartbeats 4000000 in
theorem eqBlocks_any (g g' c c':Nat) (w:World) (h:AwRd w g) (h':AwRd w g') :
  Calls Tryz.prog 120 #[.slice (some ⟨g,0,none⟩) 1 c,.slice (some ⟨g',0,none⟩) 1 c',.func (.func 121) #[] #[]] w fun e w' => e=.returned (.bool true) ∧ Below w.heap.size w w':=by
 obtain ⟨gC,cC,Aa,Ap,Ae,ca,cp,ce,l1,l2,a0,a1,a2,a3,a4,a5,c0,c1,c2,c3⟩:=h.ex
 obtain ⟨gC',cC',Aa',Ap',Ae',ca',cp',ce',m1,m2,b0,b1,b2,b3,b4,b5,d0,d1,d2,d3⟩:=h'.ex
 obtain ⟨W,hW⟩:∃ W:World,W=(w.alloc (.cells #[.slice Ap 0 cp,.slice (some ⟨gC,0,none⟩) 1 cC,.int .i64 3,.int .i64 0,.slice Ae 0 ce,.int .i64 0] 62)).alloc (.cells #[.slice Ap' 0 cp',.slice (some ⟨gC',0,none⟩) 1 cC',.int .i64 3,.int .i64 0,.slice Ae' 0 ce',.int .i64 0] 62):=⟨_,rfl⟩
 have hb:Below w.heap.size w W:=by rw [hW];exact ((Below.refl _ w).alloc (Nat.le_refl _) _).alloc (by simp) _
 have HB:=hideI hb
 have hs:=hb.size
 have h0:=sameBlock_any gC gC' cC cC' Aa Aa' Ap Ap' Ae Ae' ca ca' cp cp' ce ce' W (by omega) (by omega) ((hb.cell (p:=⟨gC,0,none⟩) l2).trans c0) ((hb.cell (p:=⟨gC,1,none⟩) l2).trans c1) ((hb.cell (p:=⟨gC,2,none⟩) l2).trans c2) ((hb.cell (p:=⟨gC,3,none⟩) l2).trans c3) ((hb.cell (p:=⟨gC',0,none⟩) m2).trans d0) ((hb.cell (p:=⟨gC',1,none⟩) m2).trans d1) ((hb.cell (p:=⟨gC',2,none⟩) m2).trans d2) ((hb.cell (p:=⟨gC',3,none⟩) m2).trans d3)
 rw [hW] at h0
 have HS:=hideI h0
 have HW0:=hideI hW
 clear h h' c0 c1 c2 c3 d0 d1 d2 d3 hb hW h0 hs
 go_enter Tryz.func120,Tryz.ntmps120
 go_wp2
 go_loopg [17] 1 (fun gg s wr => (s=.int .i64 0 ∧ 1 ≤ gg ∧ wr=w) ∨ (s=.int .i64 1 ∧ Hid (Below w.heap.size w wr)))
 case atStart => exact .inl ⟨rfl,Nat.le_refl _,rfl⟩
 case round =>
  rcases hrel with ⟨rfl,hgg,hw⟩ | ⟨rfl,HBE⟩
  ·obtain rfl:=hw.symm
   go_wp2_with (go_at_call 121;go_must (refine HS.out.mono ?_);rintro e w1 ⟨rfl,hb⟩;have HB1:Hid (Below w.heap.size w w1):=hideI (by rw [← HW0.out] at hb;exact HB.out.trans (hb.mono HB.out.size));clear hb)
   go_roundg 0
   case measure => omega
   case rel => exact .inr ⟨by go_num,HB1⟩
  ·go_wp2
   go_ret
   exact ⟨rfl,HBE.out⟩
set_option maxRecDepth 100000 in
set_option maxHeartbeats 4000000 in
theorem same_aw (g g' c c' pc pc':Nat) (P P':Option Addr) (w:World) (h:AwRd w g) (h':AwRd w g') :
  Calls Tryz.prog 71 #[.agg #[.slice P 0 pc,.int .i64 0,.int .i64 0,.slice (some ⟨g,0,none⟩) 1 c],.agg #[.slice P' 0 pc',.int .i64 0,.int .i64 0,.slice (some ⟨g',0,none⟩) 1 c']] w fun e w' => e=.returned (.bool true) ∧ Below w.heap.size w w':=by
 have hb:Below w.heap.size w ((w.alloc (.cells #[.slice P 0 pc,.int .i64 0,.int .i64 0,.slice (some ⟨g,0,none⟩) 1 c] 25)).alloc (.cells #[.slice P' 0 pc',.int .i64 0,.int .i64 0,.slice (some ⟨g',0,none⟩) 1 c'] 25)):=((Below.refl _ w).alloc (Nat.le_refl _) _).alloc (by simp) _
 have HB:=hideI hb
 have HE:=hideI (fun w => eqNil_any P P' pc pc' w)
 have HQ:=hideI (eqBlocks_any g g' c c' _ (h.kept hb) (h'.kept hb))
 clear h h' hb
 go_enter Tryz.func71,Tryz.ntmps71
 go_wp2_with (first
  | (go_at_call 119;go_must (refine (HE.out _).mono ?_);rintro e w1 ⟨rfl,rfl⟩)
  | (go_at_call 120;go_must (refine HQ.out.mono ?_);rintro e w1 ⟨rfl,hb⟩;have HB1:=hideI (HB.out.trans (hb.mono HB.out.size));clear hb))
 go_ret
 exact ⟨rfl,HB1.out⟩
end Go.Proofs.YtaehbgppfahdeaaGreat

namespace Go.Proofs.YtaehbgppfahdeaaGreat
open Go.RowKit
structure TwoAt (W0 wx:World) (g6 g7:Nat) (cs ds:Array Value) (t:TypeId):Prop where
 one:wx.heap[g6]?=some (.cells cs t (0,0))
 two:wx.heap[g7]?=some (.cells ds t (0,0))
 below:Below W0.heap.size W0 wx
theorem TwoAt.ab {W0 wr:World} (h:Below W0.heap.size W0 wr) (cs ds:Array Value) (t:TypeId):TwoAt W0 ((wr.alloc (.cells cs t)).alloc (.cells ds t)).drew wr.heap.size (wr.heap.size + 1) cs ds t:=by
 refine ⟨?_,?_,((h.alloc h.size _).alloc (by have:=h.size;simp;omega) _).drew⟩
 ·show ((wr.alloc (.cells cs t)).alloc (.cells ds t)).heap[wr.heap.size]?=_
  rw [Below.heap_alloc _ _ _ (by simp)]
  exact heap_alloc_new wr _
 ·show ((wr.alloc (.cells cs t)).alloc (.cells ds t)).heap[wr.heap.size + 1]?=_
  have:=heap_alloc_new (wr.alloc (.cells cs t)) (.cells ds t)
  simpa using this
theorem TwoAt.ba {W0 wr:World} (h:Below W0.heap.size W0 wr) (cs ds:Array Value) (t:TypeId):TwoAt W0 ((wr.alloc (.cells ds t)).alloc (.cells cs t)).drew (wr.heap.size + 1) wr.heap.size cs ds t :=
 ⟨(TwoAt.ab h ds cs t).two,(TwoAt.ab h ds cs t).one,(TwoAt.ab h ds cs t).below⟩
theorem below_drew2 {B:Nat} {w w':World} (h:Below B w w') (m:Nat):Below B w (w'.drewN m):=⟨h.os,h.tape,h.output,h.size,h.block⟩
set_option maxRecDepth 100000 in
set_option maxHeartbeats 4000000 in
theorem sameBlock_yes (b:BlockM) (B:Nat) (pv cv tv pv' cv' tv':Value) (w:World) (hp:PhisR w B pv b.phis) (hc:CodeR w B cv b.code) (ht:Ints w B tv b.term.to) (hp':PhisR w B pv' b.phis) (hc':CodeR w B cv' b.code) (ht':Ints w B tv' b.term.to) (hB:B ≤ w.heap.size) :
  Calls Tryz.prog 36 #[.agg #[pv,cv,.int .i64 b.term.op,.int .i64 b.term.val,tv,.int .i64 b.term.n],.agg #[pv',cv',.int .i64 b.term.op,.int .i64 b.term.val,tv',.int .i64 b.term.n]] w fun e w' => e=.returned (.bool true) ∧ Below w.heap.size w w':=by
 have HP:=hideI hp
 have HC:=hideI hc
 have HT:=hideI ht
 have HP':=hideI hp'
 have HC':=hideI hc'
 have HT':=hideI ht'
 obtain ⟨A,c,rfl,hpm,_⟩:=hp
 obtain ⟨A',c',rfl,_,_⟩:=hp'
 obtain ⟨C,d,rfl,hcm,_⟩:=hc
 obtain ⟨C',d',rfl,_,_⟩:=hc'
 obtain ⟨W0,hW0⟩:∃ W0,W0=(w.alloc (.cells #[.slice A b.phis.length c,.slice C b.code.length d,.int .i64 b.term.op,.int .i64 b.term.val,tv,.int .i64 b.term.n] 62)).alloc (.cells #[.slice A' b.phis.length c',.slice C' b.code.length d',.int .i64 b.term.op,.int .i64 b.term.val,tv',.int .i64 b.term.n] 62):=⟨_,rfl⟩
 have hB0:Below w.heap.size w W0:=by rw [hW0];exact ((Below.refl _ w).alloc (Nat.le_refl _) _).alloc (by simp) _
 have hs0:W0.heap.size=w.heap.size + 2:=by rw [hW0];simp
 have hb1:W0.heap[w.heap.size]?=some (.cells #[.slice A b.phis.length c,.slice C b.code.length d,.int .i64 b.term.op,.int .i64 b.term.val,tv,.int .i64 b.term.n] 62 (0,0)):=by
  rw [hW0,Below.heap_alloc _ _ _ (by simp)]
  exact heap_alloc_new w _
 have hb2:W0.heap[w.heap.size + 1]?=some (.cells #[.slice A' b.phis.length c',.slice C' b.code.length d',.int .i64 b.term.op,.int .i64 b.term.val,tv',.int .i64 b.term.n] 62 (0,0)):=by
  rw [hW0]
  have:=heap_alloc_new (w.alloc (.cells #[.slice A b.phis.length c,.slice C b.code.length d,.int .i64 b.term.op,.int .i64 b.term.val,tv,.int .i64 b.term.n] 62)) (.cells #[.slice A' b.phis.length c',.slice C' b.code.length d',.int .i64 b.term.op,.int .i64 b.term.val,tv',.int .i64 b.term.n] 62)
  simpa using this
 have HW0:=hideI hW0
 have HB0:=hideI hB0
 have HS0:=hideI hs0
 have G0:Hid (∀ W,Below W0.heap.size W0 W → (∀ o,W.cell? ⟨w.heap.size,o,none⟩=(#[.slice A b.phis.length c,.slice C b.code.length d,.int .i64 b.term.op,.int .i64 b.term.val,tv,.int .i64 b.term.n]:Array Value)[o]?) ∧ (∀ o,W.cell? ⟨w.heap.size + 1,o,none⟩=(#[.slice A' b.phis.length c',.slice C' b.code.length d',.int .i64 b.term.op,.int .i64 b.term.val,tv',.int .i64 b.term.n]:Array Value)[o]?)):=fun W hW =>
  ⟨row_cells hb1 (hW.block w.heap.size (by omega)),row_cells hb2 (hW.block (w.heap.size + 1) (by omega))⟩
 have HK:Hid (∀ W,Below W0.heap.size W0 W → Keeps B w W):=fun W hW => Keeps.of_below ((HB0.out.trans (hW.mono (by omega))).mono hB)
 obtain ⟨q1,q2⟩:=G0.out W0 (Below.refl _ _)
 have a0:=q1 0
 have a1:=q1 1
 have a2:=q1 2
 have a3:=q1 3
 have a4:=q1 4
 have a5:=q1 5
 have b0:=q2 0
 have b1:=q2 1
 have b2:=q2 2
 have b3:=q2 3
 have b4:=q2 4
 have b5:=q2 5
 clear hW0 hB0 hs0 hb1 hb2 q1 q2
 go_enter Tryz.func36,Tryz.ntmps36
 go_upto_region 1 with fail
 rw [← HW0.out]
 have e1:(b.term.op != b.term.op)=false:=by simp
 have e2:(b.term.val != b.term.val)=false:=by simp
 have e3:(b.term.n != b.term.n)=false:=by simp
 have e4:((b.phis.length:Int) != (b.phis.length:Int))=false:=by simp
 have e5:((b.code.length:Int) != (b.code.length:Int))=false:=by simp
 go_wp2_with (first
  | (go_at_call 35;go_must (refine (sameInts_any _ B _ _ b.term.to b.term.to (HT.out.keeps (HK.out _ (Below.refl _ _))) (HT'.out.keeps (HK.out _ (Below.refl _ _)))).mono ?_);rintro e w1 ⟨rfl,m1,rfl⟩;rw [beq_self_eq_true]))
 clear a0 a1 a2 a3 a4 a5 b0 b1 b2 b3 b4 b5
 go_loopw [5] (fun u wr => ∃ k:Nat,k ≤ b.phis.length ∧ u=.int .i64 k ∧ Hid (Below W0.heap.size W0 wr)) (fun u _ => b.phis.length - (intOf u).toNat)
 case atStart => exact ⟨0,Nat.zero_le _,rfl,hideI (below_drew2 (Below.refl _ _) _)⟩
 case round =>
  obtain ⟨k,hk,rfl,HR⟩:=hrel
  obtain ⟨q1,q2⟩:=G0.out wr HR.out
  have a0:=q1 0
  have b0:=q2 0
  by_cases hlt:k < b.phis.length
  ·clear q1 q2
   obtain ⟨p,hp⟩:∃ p,b.phis[k]?=some p:=⟨_,List.getElem?_eq_getElem hlt⟩
   obtain ⟨_,_,hh,_,hx⟩:=HP.out
   cases hh
   obtain ⟨g1,o1,fv,vv,rfl,hg1,c0,c1,c2,c3,hf,hv,_⟩:=hx k p hp
   obtain ⟨_,_,hh,_,hx'⟩:=HP'.out
   cases hh
   obtain ⟨g2,o2,fv',vv',rfl,hg2,f0,f1,f2,f3,hf',hv',_⟩:=hx' k p hp
   have HF:=hideI hf
   have HV:=hideI hv
   have HF':=hideI hf'
   have HV':=hideI hv'
   obtain ⟨F,fc,rfl,_⟩:=hf
   obtain ⟨V,vc,rfl,_⟩:=hv
   obtain ⟨F',fc',rfl,_⟩:=hf'
   obtain ⟨V',vc',rfl,_⟩:=hv'
   have G8:Hid (∀ W2,Below W0.heap.size W0 W2 → W2.cell? ⟨w.heap.size,0,none⟩=some (.slice (some ⟨g1,o1,none⟩) b.phis.length c) ∧ W2.cell? ⟨w.heap.size + 1,0,none⟩=some (.slice (some ⟨g2,o2,none⟩) b.phis.length c') ∧ W2.cell? ⟨g1,o1 + k * 4,none⟩=some (.int .i64 p.id) ∧ W2.cell? ⟨g1,o1 + k * 4 + 1,none⟩=some (.int .i64 p.typ) ∧ W2.cell? ⟨g1,o1 + k * 4 + 2,none⟩=some (.slice F p.fr.length fc) ∧ W2.cell? ⟨g1,o1 + k * 4 + 3,none⟩=some (.slice V p.vals.length vc) ∧ W2.cell? ⟨g2,o2 + k * 4,none⟩=some (.int .i64 p.id) ∧ W2.cell? ⟨g2,o2 + k * 4 + 1,none⟩=some (.int .i64 p.typ) ∧ W2.cell? ⟨g2,o2 + k * 4 + 2,none⟩=some (.slice F' p.fr.length fc') ∧ W2.cell? ⟨g2,o2 + k * 4 + 3,none⟩=some (.slice V' p.vals.length vc')):=fun W2 h2 => by
    have hkp:=HK.out W2 h2
    obtain ⟨r1,r2⟩:=G0.out W2 h2
    exact ⟨r1 0,r2 0,(hkp _ _ hg1).trans c0,(hkp _ _ hg1).trans c1,(hkp _ _ hg1).trans c2,(hkp _ _ hg1).trans c3,(hkp _ _ hg2).trans f0,(hkp _ _ hg2).trans f1,(hkp _ _ hg2).trans f2,(hkp _ _ hg2).trans f3⟩
   clear hp hx hx' c0 c1 c2 c3 f0 f1 f2 f3 a0 b0
   obtain ⟨a0,b0,c0,c1,c2,c3,f0,f1,f2,f3⟩:=G8.out wr HR.out
   go_upto_region 6 with fail
   go_cut [6,7] (fun s6 s7 wx => ∃ g6 g7:Nat,s6=.pointer (some ⟨g6,0,none⟩) ∧ s7=.pointer (some ⟨g7,0,none⟩) ∧ Hid (TwoAt W0 wx g6 g7 #[.int .i64 p.id,.int .i64 p.typ,.slice F p.fr.length fc,.slice V p.vals.length vc] #[.int .i64 p.id,.int .i64 p.typ,.slice F' p.fr.length fc',.slice V' p.vals.length vc'] 76))
   case first =>
    go_region_held3 (fun w' => w'.cell? ⟨w.heap.size,0,none⟩=some (.slice (some ⟨g1,o1,none⟩) b.phis.length c) ∧ w'.cell? ⟨w.heap.size + 1,0,none⟩=some (.slice (some ⟨g2,o2,none⟩) b.phis.length c') ∧ w'.cell? ⟨g1,o1 + k * 4,none⟩=some (.int .i64 p.id) ∧ w'.cell? ⟨g1,o1 + k * 4 + 1,none⟩=some (.int .i64 p.typ) ∧ w'.cell? ⟨g1,o1 + k * 4 + 2,none⟩=some (.slice F p.fr.length fc) ∧ w'.cell? ⟨g1,o1 + k * 4 + 3,none⟩=some (.slice V p.vals.length vc) ∧ w'.cell? ⟨g2,o2 + k * 4,none⟩=some (.int .i64 p.id) ∧ w'.cell? ⟨g2,o2 + k * 4 + 1,none⟩=some (.int .i64 p.typ) ∧ w'.cell? ⟨g2,o2 + k * 4 + 2,none⟩=some (.slice F' p.fr.length fc') ∧ w'.cell? ⟨g2,o2 + k * 4 + 3,none⟩=some (.slice V' p.vals.length vc')) (first | go_keep) (fail)
    all_goals (go_wp2_with fail;go_meet)
    ·exact ⟨_,_,rfl,rfl,hideI (TwoAt.ab HR.out _ _ _)⟩
    ·exact ⟨_,_,rfl,rfl,hideI (TwoAt.ba HR.out _ _ _)⟩
   case rest =>
    obtain ⟨g6,g7,rfl,rfl,HTW⟩:=hcut
    clear a0 b0 c0 c1 c2 c3 f0 f1 f2 f3
    have hx:=row_cells HTW.out.one rfl
    have r0:=hx 0
    have r1:=hx 1
    have r2:=hx 2
    have r3:=hx 3
    have hy:=row_cells HTW.out.two rfl
    have s0:=hy 0
    have s1:=hy 1
    have s2:=hy 2
    have s3:=hy 3
    have i1:(p.id != p.id)=false:=by simp
    have i2:(p.typ != p.typ)=false:=by simp
    clear hx hy
    go_wp2_with fail
    refine (sameInts_any _ B _ _ p.fr p.fr (HF.out.keeps (HK.out _ HTW.out.below)) (HF'.out.keeps (HK.out _ HTW.out.below))).mono ?_
    rintro e w1 ⟨rfl,m1,rfl⟩
    rw [beq_self_eq_true]
    go_wp2_with fail
    refine (sameInts_any _ B _ _ p.vals p.vals (HV.out.keeps (HK.out _ (below_drew2 HTW.out.below _))) (HV'.out.keeps (HK.out _ (below_drew2 HTW.out.below _)))).mono ?_
    rintro e w1 ⟨rfl,m2,rfl⟩
    rw [beq_self_eq_true]
    go_wp2_with fail
    go_roundw
    case rel => exact ⟨k + 1,by omega,by go_num,hideI (below_drew2 HTW.out.below _)⟩
    case measure => simp [intOf];omega
  ·have a1:=q1 1
   have b1:=q2 1
   clear q1 q2
   go_wp2_with fail
   clear a1 b1
   go_loopw [8] (fun u wr => ∃ k:Nat,k ≤ b.code.length ∧ u=.int .i64 k ∧ Hid (Below W0.heap.size W0 wr)) (fun u _ => b.code.length - (intOf u).toNat)
   case atStart => exact ⟨0,Nat.zero_le _,rfl,HR⟩
   case round =>
    obtain ⟨k,hk,rfl,HR⟩:=hrel
    obtain ⟨q1,q2⟩:=G0.out wr HR.out
    have a1:=q1 1
    have b1:=q2 1
    by_cases hlt:k < b.code.length
    ·clear q1 q2
     obtain ⟨p,hp⟩:∃ p,b.code[k]?=some p:=⟨_,List.getElem?_eq_getElem hlt⟩
     obtain ⟨_,_,hh,_,hx⟩:=HC.out
     cases hh
     obtain ⟨g1,o1,av,rfl,hg1,c0,c1,c2,c3,hf,_⟩:=hx k p hp
     obtain ⟨_,_,hh,_,hx'⟩:=HC'.out
     cases hh
     obtain ⟨g2,o2,av',rfl,hg2,f0,f1,f2,f3,hf',_⟩:=hx' k p hp
     have HF:=hideI hf
     have HF':=hideI hf'
     obtain ⟨F,fc,rfl,_⟩:=hf
     obtain ⟨F',fc',rfl,_⟩:=hf'
     have G8:Hid (∀ W2,Below W0.heap.size W0 W2 → W2.cell? ⟨w.heap.size,1,none⟩=some (.slice (some ⟨g1,o1,none⟩) b.code.length d) ∧ W2.cell? ⟨w.heap.size + 1,1,none⟩=some (.slice (some ⟨g2,o2,none⟩) b.code.length d') ∧ W2.cell? ⟨g1,o1 + k * 4,none⟩=some (.int .i64 p.op) ∧ W2.cell? ⟨g1,o1 + k * 4 + 1,none⟩=some (.int .i64 p.id) ∧ W2.cell? ⟨g1,o1 + k * 4 + 2,none⟩=some (.slice F p.args.length fc) ∧ W2.cell? ⟨g1,o1 + k * 4 + 3,none⟩=some (.int .i64 p.n) ∧ W2.cell? ⟨g2,o2 + k * 4,none⟩=some (.int .i64 p.op) ∧ W2.cell? ⟨g2,o2 + k * 4 + 1,none⟩=some (.int .i64 p.id) ∧ W2.cell? ⟨g2,o2 + k * 4 + 2,none⟩=some (.slice F' p.args.length fc') ∧ W2.cell? ⟨g2,o2 + k * 4 + 3,none⟩=some (.int .i64 p.n)):=fun W2 h2 => by
      have hkp:=HK.out W2 h2
      obtain ⟨r1,r2⟩:=G0.out W2 h2
      exact ⟨r1 1,r2 1,(hkp _ _ hg1).trans c0,(hkp _ _ hg1).trans c1,(hkp _ _ hg1).trans c2,(hkp _ _ hg1).trans c3,(hkp _ _ hg2).trans f0,(hkp _ _ hg2).trans f1,(hkp _ _ hg2).trans f2,(hkp _ _ hg2).trans f3⟩
     clear hp hx hx' c0 c1 c2 c3 f0 f1 f2 f3 a1 b1
     obtain ⟨a1,b1,c0,c1,c2,c3,f0,f1,f2,f3⟩:=G8.out wr HR.out
     go_upto_region 12 with fail
     go_cut [9,10] (fun s9 s10 wx => ∃ g6 g7:Nat,s9=.pointer (some ⟨g6,0,none⟩) ∧ s10=.pointer (some ⟨g7,0,none⟩) ∧ Hid (TwoAt W0 wx g6 g7 #[.int .i64 p.op,.int .i64 p.id,.slice F p.args.length fc,.int .i64 p.n] #[.int .i64 p.op,.int .i64 p.id,.slice F' p.args.length fc',.int .i64 p.n] 68))
     case first =>
      go_region_held3 (fun w' => w'.cell? ⟨w.heap.size,1,none⟩=some (.slice (some ⟨g1,o1,none⟩) b.code.length d) ∧ w'.cell? ⟨w.heap.size + 1,1,none⟩=some (.slice (some ⟨g2,o2,none⟩) b.code.length d') ∧ w'.cell? ⟨g1,o1 + k * 4,none⟩=some (.int .i64 p.op) ∧ w'.cell? ⟨g1,o1 + k * 4 + 1,none⟩=some (.int .i64 p.id) ∧ w'.cell? ⟨g1,o1 + k * 4 + 2,none⟩=some (.slice F p.args.length fc) ∧ w'.cell? ⟨g1,o1 + k * 4 + 3,none⟩=some (.int .i64 p.n) ∧ w'.cell? ⟨g2,o2 + k * 4,none⟩=some (.int .i64 p.op) ∧ w'.cell? ⟨g2,o2 + k * 4 + 1,none⟩=some (.int .i64 p.id) ∧ w'.cell? ⟨g2,o2 + k * 4 + 2,none⟩=some (.slice F' p.args.length fc') ∧ w'.cell? ⟨g2,o2 + k * 4 + 3,none⟩=some (.int .i64 p.n)) (first | go_keep) (fail)
      all_goals (go_wp2_with fail;go_meet)
      ·exact ⟨_,_,rfl,rfl,hideI (TwoAt.ab HR.out _ _ _)⟩
      ·exact ⟨_,_,rfl,rfl,hideI (TwoAt.ba HR.out _ _ _)⟩
     case rest =>
      obtain ⟨g6,g7,rfl,rfl,HTW⟩:=hcut
      clear a1 b1 c0 c1 c2 c3 f0 f1 f2 f3
      have hx:=row_cells HTW.out.one rfl
      have r0:=hx 0
      have r1:=hx 1
      have r2:=hx 2
      have r3:=hx 3
      have hy:=row_cells HTW.out.two rfl
      have s0:=hy 0
      have s1:=hy 1
      have s2:=hy 2
      have s3:=hy 3
      have i1:(p.op != p.op)=false:=by simp
      have i2:(p.id != p.id)=false:=by simp
      have i3:(p.n != p.n)=false:=by simp
      clear hx hy
      go_wp2_with fail
      refine (sameInts_any _ B _ _ p.args p.args (HF.out.keeps (HK.out _ HTW.out.below)) (HF'.out.keeps (HK.out _ HTW.out.below))).mono ?_
      rintro e w1 ⟨rfl,m1,rfl⟩
      rw [beq_self_eq_true]
      go_wp2_with fail
      go_roundw
      case rel => exact ⟨k + 1,by omega,by go_num,hideI (below_drew2 HTW.out.below _)⟩
      case measure => simp [intOf];omega
    ·clear q1 q2
     go_wp2_with fail
     go_ret
     exact ⟨rfl,HB0.out.trans (HR.out.mono (by rw [HS0.out];omega))⟩
set_option maxRecDepth 100000 in
set_option maxHeartbeats 4000000 in
theorem same_yes (f:FuncM) (B:Nat) (pv bv pv' bv':Value) (w:World) (hp:Ints w B pv f.params) (hb:BlocksR w B bv f.blocks) (hp':Ints w B pv' f.params) (hb':BlocksR w B bv' f.blocks) (hB:B ≤ w.heap.size) :
  Calls Tryz.prog 12 #[.agg #[pv,.int .i64 f.arrays,.int .i64 f.cells,bv],.agg #[pv',.int .i64 f.arrays,.int .i64 f.cells,bv']] w fun e w' => e=.returned (.bool true) ∧ Below w.heap.size w w':=by
 have HP:=hideI hp
 have HP':=hideI hp'
 have HBL:=hideI hb
 have HBL':=hideI hb'
 obtain ⟨P,pc,rfl,_⟩:=hp
 obtain ⟨P',pc',rfl,_⟩:=hp'
 obtain ⟨A,c,rfl,hbm,_⟩:=hb
 obtain ⟨A',c',rfl,_,_⟩:=hb'
 obtain ⟨W0,hW0⟩:∃ W0,W0=(w.alloc (.cells #[.slice P f.params.length pc,.int .i64 f.arrays,.int .i64 f.cells,.slice A f.blocks.length c] 25)).alloc (.cells #[.slice P' f.params.length pc',.int .i64 f.arrays,.int .i64 f.cells,.slice A' f.blocks.length c'] 25):=⟨_,rfl⟩
 have hB0:Below w.heap.size w W0:=by rw [hW0];exact ((Below.refl _ w).alloc (Nat.le_refl _) _).alloc (by simp) _
 have hs0:W0.heap.size=w.heap.size + 2:=by rw [hW0];simp
 have hb1:W0.heap[w.heap.size]?=some (.cells #[.slice P f.params.length pc,.int .i64 f.arrays,.int .i64 f.cells,.slice A f.blocks.length c] 25 (0,0)):=by
  rw [hW0,Below.heap_alloc _ _ _ (by simp)]
  exact heap_alloc_new w _
 have hb2:W0.heap[w.heap.size + 1]?=some (.cells #[.slice P' f.params.length pc',.int .i64 f.arrays,.int .i64 f.cells,.slice A' f.blocks.length c'] 25 (0,0)):=by
  rw [hW0]
  have:=heap_alloc_new (w.alloc (.cells #[.slice P f.params.length pc,.int .i64 f.arrays,.int .i64 f.cells,.slice A f.blocks.length c] 25)) (.cells #[.slice P' f.params.length pc',.int .i64 f.arrays,.int .i64 f.cells,.slice A' f.blocks.length c'] 25)
  simpa using this
 have HW0:=hideI hW0
 have HB0:=hideI hB0
 have HS0:=hideI hs0
 have G0:Hid (∀ W,Below W0.heap.size W0 W → (∀ o,W.cell? ⟨w.heap.size,o,none⟩=(#[.slice P f.params.length pc,.int .i64 f.arrays,.int .i64 f.cells,.slice A f.blocks.length c]:Array Value)[o]?) ∧ (∀ o,W.cell? ⟨w.heap.size + 1,o,none⟩=(#[.slice P' f.params.length pc',.int .i64 f.arrays,.int .i64 f.cells,.slice A' f.blocks.length c']:Array Value)[o]?)):=fun W hW =>
  ⟨row_cells hb1 (hW.block w.heap.size (by omega)),row_cells hb2 (hW.block (w.heap.size + 1) (by omega))⟩
 have HK:Hid (∀ W,Below W0.heap.size W0 W → Keeps B w W):=fun W hW => Keeps.of_below ((HB0.out.trans (hW.mono (by omega))).mono hB)
 have hBW:B ≤ W0.heap.size:=by omega
 obtain ⟨q1,q2⟩:=G0.out W0 (Below.refl _ _)
 have a0:=q1 0
 have a1:=q1 1
 have a2:=q1 2
 have a3:=q1 3
 have b0:=q2 0
 have b1:=q2 1
 have b2:=q2 2
 have b3:=q2 3
 clear hW0 hB0 hs0 hb1 hb2 q1 q2
 go_enter Tryz.func12,Tryz.ntmps12
 go_upto_region 1 with fail
 rw [← HW0.out]
 have e1:(f.arrays != f.arrays)=false:=by simp
 have e2:(f.cells != f.cells)=false:=by simp
 have e3:((f.blocks.length:Int) != (f.blocks.length:Int))=false:=by simp
 go_wp2_with fail
 refine (sameInts_any _ B _ _ f.params f.params (HP.out.keeps (HK.out _ (Below.refl _ _))) (HP'.out.keeps (HK.out _ (Below.refl _ _)))).mono ?_
 rintro e w1 ⟨rfl,m1,rfl⟩
 rw [beq_self_eq_true]
 have HB1:Hid (Below W0.heap.size W0 (W0.drewN m1)):=below_drew2 (Below.refl _ _) _
 clear a0 a1 a2 a3 b0 b1 b2 b3
 obtain ⟨q1,q2⟩:=G0.out _ HB1.out
 have a3:=q1 3
 have b3:=q2 3
 clear q1 q2
 go_wp2_with fail
 clear a3 b3
 go_loopw [5] (fun u wr => ∃ k:Nat,k ≤ f.blocks.length ∧ u=.int .i64 k ∧ Hid (Below W0.heap.size W0 wr)) (fun u _ => f.blocks.length - (intOf u).toNat)
 case atStart => exact ⟨0,Nat.zero_le _,rfl,HB1⟩
 case round =>
  obtain ⟨k,hk,rfl,HR⟩:=hrel
  obtain ⟨q1,q2⟩:=G0.out wr HR.out
  have a3:=q1 3
  have b3:=q2 3
  clear q1 q2
  by_cases hlt:k < f.blocks.length
  ·obtain ⟨q,hq⟩:∃ q,f.blocks[k]?=some q:=⟨_,List.getElem?_eq_getElem hlt⟩
   obtain ⟨_,_,hh,_,hx⟩:=HBL.out
   cases hh
   obtain ⟨g1,o1,hv,cv,tv,rfl,hg1,c0,c1,c2,c3,c4,c5,hph,hco,hto,_⟩:=hx k q hq
   obtain ⟨_,_,hh,_,hx'⟩:=HBL'.out
   cases hh
   obtain ⟨g2,o2,hv',cv',tv',rfl,hg2,f0,f1,f2,f3,f4,f5,hph',hco',hto',_⟩:=hx' k q hq
   have G8:Hid (∀ W2,Below W0.heap.size W0 W2 → W2.cell? ⟨w.heap.size,3,none⟩=some (.slice (some ⟨g1,o1,none⟩) f.blocks.length c) ∧ W2.cell? ⟨w.heap.size + 1,3,none⟩=some (.slice (some ⟨g2,o2,none⟩) f.blocks.length c') ∧ W2.cell? ⟨g1,o1 + k * 6,none⟩=some hv ∧ W2.cell? ⟨g1,o1 + k * 6 + 1,none⟩=some cv ∧ W2.cell? ⟨g1,o1 + k * 6 + 2,none⟩=some (.int .i64 q.term.op) ∧ W2.cell? ⟨g1,o1 + k * 6 + 3,none⟩=some (.int .i64 q.term.val) ∧ W2.cell? ⟨g1,o1 + k * 6 + 4,none⟩=some tv ∧ W2.cell? ⟨g1,o1 + k * 6 + 5,none⟩=some (.int .i64 q.term.n) ∧ W2.cell? ⟨g2,o2 + k * 6,none⟩=some hv' ∧ W2.cell? ⟨g2,o2 + k * 6 + 1,none⟩=some cv' ∧ W2.cell? ⟨g2,o2 + k * 6 + 2,none⟩=some (.int .i64 q.term.op) ∧ W2.cell? ⟨g2,o2 + k * 6 + 3,none⟩=some (.int .i64 q.term.val) ∧ W2.cell? ⟨g2,o2 + k * 6 + 4,none⟩=some tv' ∧ W2.cell? ⟨g2,o2 + k * 6 + 5,none⟩=some (.int .i64 q.term.n)):=fun W2 h2 => by
    have hkp:=HK.out W2 h2
    obtain ⟨r1,r2⟩:=G0.out W2 h2
    exact ⟨r1 3,r2 3,(hkp _ _ hg1).trans c0,(hkp _ _ hg1).trans c1,(hkp _ _ hg1).trans c2,(hkp _ _ hg1).trans c3,(hkp _ _ hg1).trans c4,(hkp _ _ hg1).trans c5,(hkp _ _ hg2).trans f0,(hkp _ _ hg2).trans f1,(hkp _ _ hg2).trans f2,(hkp _ _ hg2).trans f3,(hkp _ _ hg2).trans f4,(hkp _ _ hg2).trans f5⟩
   have HSB:Hid (∀ W2,Below W0.heap.size W0 W2 → Calls Tryz.prog 36 #[.agg #[hv,cv,.int .i64 q.term.op,.int .i64 q.term.val,tv,.int .i64 q.term.n],.agg #[hv',cv',.int .i64 q.term.op,.int .i64 q.term.val,tv',.int .i64 q.term.n]] W2 fun e w' => e=.returned (.bool true) ∧ Below W0.heap.size W0 w'):=fun W2 h2 => by
    have hkp:=HK.out W2 h2
    exact (sameBlock_yes q B _ _ _ _ _ _ W2 (hph.keeps hkp) (hco.keeps hkp) (hto.keeps hkp) (hph'.keeps hkp) (hco'.keeps hkp) (hto'.keeps hkp) (Nat.le_trans hBW h2.size)).mono fun e w' ⟨h1,h3⟩ => ⟨h1,h2.trans (h3.mono h2.size)⟩
   clear hq hx hx' c0 c1 c2 c3 c4 c5 f0 f1 f2 f3 f4 f5 a3 b3 hph hco hto hph' hco' hto'
   obtain ⟨a3,b3,c0,c1,c2,c3,c4,c5,f0,f1,f2,f3,f4,f5⟩:=G8.out wr HR.out
   go_upto_region 6 with fail
   go_region_held3 (fun w' => w'.cell? ⟨w.heap.size,3,none⟩=some (.slice (some ⟨g1,o1,none⟩) f.blocks.length c) ∧ w'.cell? ⟨w.heap.size + 1,3,none⟩=some (.slice (some ⟨g2,o2,none⟩) f.blocks.length c') ∧ w'.cell? ⟨g1,o1 + k * 6,none⟩=some hv ∧ w'.cell? ⟨g1,o1 + k * 6 + 1,none⟩=some cv ∧ w'.cell? ⟨g1,o1 + k * 6 + 2,none⟩=some (.int .i64 q.term.op) ∧ w'.cell? ⟨g1,o1 + k * 6 + 3,none⟩=some (.int .i64 q.term.val) ∧ w'.cell? ⟨g1,o1 + k * 6 + 4,none⟩=some tv ∧ w'.cell? ⟨g1,o1 + k * 6 + 5,none⟩=some (.int .i64 q.term.n) ∧ w'.cell? ⟨g2,o2 + k * 6,none⟩=some hv' ∧ w'.cell? ⟨g2,o2 + k * 6 + 1,none⟩=some cv' ∧ w'.cell? ⟨g2,o2 + k * 6 + 2,none⟩=some (.int .i64 q.term.op) ∧ w'.cell? ⟨g2,o2 + k * 6 + 3,none⟩=some (.int .i64 q.term.val) ∧ w'.cell? ⟨g2,o2 + k * 6 + 4,none⟩=some tv' ∧ w'.cell? ⟨g2,o2 + k * 6 + 5,none⟩=some (.int .i64 q.term.n)) (first | go_keep | exact G8.out _ hb8)
    (first | (go_at_call 36;refine (HSB.out _ (by exact below_drew2 HR.out 1)).mono ?_;rintro e w8 ⟨rfl,hb8⟩))
   clear a3 b3 c0 c1 c2 c3 c4 c5 f0 f1 f2 f3 f4 f5
   go_wp2
   go_roundw
   case rel => exact ⟨k + 1,by omega,by go_num,hb8⟩
   case measure => simp [intOf];omega
  ·go_wp2_with fail
   go_ret
   exact ⟨rfl,HB0.out.trans (HR.out.mono (by rw [HS0.out];omega))⟩
end Go.Proofs.YtaehbgppfahdeaaGreat

namespace Go.Proofs.YtaehbgppfahdeaaGreat
open Go.RowKit Go.Maps
end Go.Proofs.YtaehbgppfahdeaaGreat
