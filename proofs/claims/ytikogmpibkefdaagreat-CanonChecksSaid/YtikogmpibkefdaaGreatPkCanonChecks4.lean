/- What CanonChecks rests on, part 4: Uses, LookAt, Sizes, CountM, Keys, Facts, RefUses. -/
import Derived.Test.YtikogmpibkefdaaGreatPkCanonChecks3
import Derived.Deep.RegionHeld3
import Derived.Deep.AppendLies

namespace Go.Proofs.YtikogmpibkefdaaGreat
open Go.RowKit Go.Maps
structure SeenC (ds:Defs) (cs:Array Value) (M LB UB FB:Nat) (us:List (Int × Int)) (w:World):Prop where
 map:MapIs w M ds
 look:w.heap[LB]?=some (.cells cs 138 (0,0))
 unk:w.heap[UB]?=some (.cells #[.bool (unknownB ds us)] 4 (0,0))
 unf:w.heap[FB]?=some (.cells #[.bool (unfitB ds us)] 4 (0,0))
theorem lt_of_heap {w:World} {b:Nat} {o:Obj} (h:w.heap[b]?=some o):b < w.heap.size:=(Array.getElem?_eq_some_iff.1 h).1
theorem SeenC.stays {ds:Defs} {cs:Array Value} {M LB UB FB:Nat}:each3.Stays (SeenC ds cs M LB UB FB):=fun _ _ _ h hb =>
 ⟨h.map.below hb h.map.lt,(hb.block _ (lt_of_heap h.look)).trans h.look,(hb.block _ (lt_of_heap h.unk)).trans h.unk,(hb.block _ (lt_of_heap h.unf)).trans h.unf⟩
theorem unknown_snoc (ds:Defs) (us:List (Int × Int)) (id t:Int):unknownB ds (us ++ [(id,t)])=(unknownB ds us || !(ds.at id).isSome):=by
 unfold unknownB
 rw [List.any_append]
 simp
theorem unfit_snoc (ds:Defs) (us:List (Int × Int)) (id t:Int):unfitB ds (us ++ [(id,t)])=(unfitB ds us || (match ds.at id with | some k => t != 0 && k != t | none => false)):=by
 unfold unfitB
 rw [List.any_append,List.any_cons,List.any_nil,Bool.or_false]
 rfl
theorem MapIs.set_ {w:World} {M:Nat} {ds:Defs} (h:MapIs w M ds) {p:Addr} (u:Value) (hp:p.block ≠ M):MapIs (w.setCell p u) M ds:=by
 obtain ⟨D,⟨es,clock,hg,r⟩,q⟩:=h
 exact ⟨D,⟨es,clock,(Below.heap_setCell _ _ _ _ (by omega)).trans hg,r⟩,q⟩
theorem one_set {w:World} {g:Nat} {v u:Value} {t:TypeId} (h:w.heap[g]?=some (.cells #[v] t (0,0))):(w.setCell ⟨g,0,none⟩ u).heap[g]?=some (.cells #[u] t (0,0)):=one_setCell h
theorem Fr.set_ {S:List Nat} {N B:Nat} {w:World} {p:Addr} (u:Value) (h1:B ≤ p.block) (h2:p.block < N) (h3:p.block ∈ S):Fr S N B w (w.setCell p u) :=
 ⟨rfl,rfl,rfl,by simp [World.setCell],fun b hb _ => Below.heap_setCell _ _ _ _ (by omega),fun b hb => Below.heap_setCell _ _ _ _ (by omega),fun b _ hb => Below.heap_setCell _ _ _ _ (fun e => hb (e ▸ h3))⟩
theorem sees_some {ds:Defs} {cs:Array Value} {M LB UB FB:Nat} {us:List (Int × Int)} {w:World} {id taken t:Int} (h:SeenC ds cs M LB UB FB us w) (hd:ds.at id=some t) (hf:(taken != 0 && t != taken)=false) :
  SeenC ds cs M LB UB FB (us ++ [(id,taken)]) w :=
 ⟨h.map,h.look,by rw [unknown_snoc,hd];simpa using h.unk,by rw [unfit_snoc,hd];simp only [hf,Bool.or_false];exact h.unf⟩
theorem sees_unfit {ds:Defs} {cs:Array Value} {M LB UB FB:Nat} {us:List (Int × Int)} {w:World} {id taken t:Int} (h:SeenC ds cs M LB UB FB us w) (hd:ds.at id=some t) (hf:(taken != 0 && t != taken)=true)
  (h1:FB ≠ M) (h2:FB ≠ LB) (h3:FB ≠ UB):SeenC ds cs M LB UB FB (us ++ [(id,taken)]) (w.setCell ⟨FB,0,none⟩ (.bool true)) :=
 ⟨h.map.set_ _ h1,(Below.heap_setCell _ _ _ _ (by simpa using h2.symm)).trans h.look,by rw [unknown_snoc,hd,Below.heap_setCell _ _ _ _ (by simpa using h3.symm)];simpa using h.unk,by rw [unfit_snoc,hd];simp only [hf,Bool.or_true];exact one_set h.unf⟩
theorem sees_none {ds:Defs} {cs:Array Value} {M LB UB FB:Nat} {us:List (Int × Int)} {w:World} {id taken:Int} (h:SeenC ds cs M LB UB FB us w) (hd:ds.at id=none)
  (h1:UB ≠ M) (h2:UB ≠ LB) (h3:UB ≠ FB):SeenC ds cs M LB UB FB (us ++ [(id,taken)]) (w.setCell ⟨UB,0,none⟩ (.bool true)) :=
 ⟨h.map.set_ _ h1,(Below.heap_setCell _ _ _ _ (by simpa using h2.symm)).trans h.look,by rw [unknown_snoc,hd];simp only [Option.isSome_none,Bool.not_false,Bool.or_true];exact one_set h.unk,by rw [unfit_snoc,hd,Below.heap_setCell _ _ _ _ (by simpa using h3.symm)];simpa using h.unf⟩
set_option maxHeartbeats 1000000 in
theorem seesC (ds:Defs) (pv av cv bv:Value) (M LB UB FB N B:Nat) (_hMB:B ≤ M) (_hMN:M < N) (hU:B ≤ UB) (hUN:UB < N) (hF:B ≤ FB) (hFN:FB < N) (h1:FB ≠ M) (h2:FB ≠ LB) (h3:FB ≠ UB) (h4:UB ≠ M) (h5:UB ≠ LB) :
  each3.Sees [UB,FB] N B (SeenC ds #[pv,av,cv,bv,.map (some M)] M LB UB FB) ⟨LB,0,none⟩ ⟨UB,0,none⟩ ⟨FB,0,none⟩:=by
 intro us id taken w hid hS hN
 obtain ⟨D,hown,hD,hwd,hat⟩:=hS.map
 have hh:=MapIs.has hat id
 have ha:=hat id (.lit (.int .i64 0))
 have hl:=row_cells hS.look rfl
 have hu:=row_cells hS.unk rfl
 have hf:=row_cells hS.unf rfl
 have hfu:=free_of_one hS.unk
 have hff:=free_of_one hS.unf
 have HS:=hideI hS
 have HI:=hideI hid
 have HA:=hideI ha
 clear hS hat hwd hid ha
 cases hd:ds.at id with
 | none =>
  rw [hd] at hh
  have HDD:=hideI hd
  clear hd
  go_enter Tryz.func199,Tryz.ntmps199
  go_wp2_with (at_lookup;refine wpList_lookup_own_ok_int _ rfl _ _ 136 rfl 3 3 .i64 lawInt Tryz.underlying136 Tryz.underlying3 (zeroInt _) M ds.length D rfl hown _ _ rfl (keyOf_int_mk Tryz.underlying3 HI.out) ?_;intro c1 hat1 hwc1)
  go_end0
  exact ⟨rfl,sees_none HS.out HDD.out h4 h5 h3.symm,Fr.set_ _ hU hUN (by simp)⟩
 | some t =>
  rw [hd] at hh
  have HDD:=hideI hd
  rw [hd] at HA
  clear hd
  cases c1:(taken != 0)
  ·go_enter Tryz.func199,Tryz.ntmps199
   go_wp2_with (at_lookup;refine wpList_lookup_own_ok_int _ rfl _ _ 136 rfl 3 3 .i64 lawInt Tryz.underlying136 Tryz.underlying3 (zeroInt _) M ds.length D rfl hown _ _ rfl (keyOf_int_mk Tryz.underlying3 HI.out) ?_;intro c1 hat1 hwc1;rw [HA.out] at hat1;injection hat1 with hat1;injection hat1 with _ hat1;subst hat1)
   go_end0
   exact ⟨rfl,sees_some HS.out HDD.out (by rw [c1];rfl),Fr.refl _⟩
  ·cases c2:(t != taken)
   ·go_enter Tryz.func199,Tryz.ntmps199
    go_wp2_with (at_lookup;refine wpList_lookup_own_ok_int _ rfl _ _ 136 rfl 3 3 .i64 lawInt Tryz.underlying136 Tryz.underlying3 (zeroInt _) M ds.length D rfl hown _ _ rfl (keyOf_int_mk Tryz.underlying3 HI.out) ?_;intro c1 hat1 hwc1;rw [HA.out] at hat1;injection hat1 with hat1;injection hat1 with _ hat1;subst hat1)
    go_end0
    exact ⟨rfl,sees_some HS.out HDD.out (by rw [c2];simp),Fr.refl _⟩
   ·go_enter Tryz.func199,Tryz.ntmps199
    go_wp2_with (at_lookup;refine wpList_lookup_own_ok_int _ rfl _ _ 136 rfl 3 3 .i64 lawInt Tryz.underlying136 Tryz.underlying3 (zeroInt _) M ds.length D rfl hown _ _ rfl (keyOf_int_mk Tryz.underlying3 HI.out) ?_;intro c1 hat1 hwc1;rw [HA.out] at hat1;injection hat1 with hat1;injection hat1 with _ hat1;subst hat1)
    go_end0
    exact ⟨rfl,sees_unfit HS.out HDD.out (by rw [c1,c2];rfl) h1 h2 h3,Fr.set_ _ hF hFN (by simp)⟩
def usesErr (ds:Defs) (us:List (Int × Int)):Int:=if unknownB ds us then 6 else if unfitB ds us then 3 else 0
set_option maxHeartbeats 1000000 in
theorem checkUses_any (f:FuncM) (ds:Defs) (B M:Nat) (pv av cv bv:Value) (w:World) (hbv:BlocksR w B bv f.blocks) (hBM:B ≤ M) (hM:MapIs w M ds)
  (hform:∀ b ∈ f.blocks,∀ x ∈ b.code,x.args.length=(takesS x.op).length) (hid:∀ u ∈ usesM f,I64 u.1) :
  Calls Tryz.prog 132 #[.agg #[pv,av,cv,bv,.map (some M)]] w fun e w' => e=.returned (.int .i64 (usesErr ds (usesM f))) ∧ Below w.heap.size w w':=by
 have hMl:=hM.lt
 have HM:=hideI hM
 have HB:=hideI hbv
 have HFO:=hideI hform
 have HID:=hideI hid
 obtain ⟨A,c,rfl,_⟩:=hbv
 clear hM hform hid
 have W3:∃ W3:World,W3=((w.alloc (.cells #[pv,av,cv,.slice A f.blocks.length c,.map (some M)] 138)).alloc (.cells #[.bool false] 4)).alloc (.cells #[.bool false] 4):=⟨_,rfl⟩
 obtain ⟨W3,hW3⟩:=W3
 have hsz:W3.heap.size=w.heap.size + 3:=by rw [hW3];simp
 have hBl:Below w.heap.size w W3:=by rw [hW3];exact ((((Below.refl _ w).alloc (Nat.le_refl _) _).alloc (by simp) _).alloc (by simp;omega) _)
 have h0:W3.heap[w.heap.size]?=some (.cells #[pv,av,cv,.slice A f.blocks.length c,.map (some M)] 138 (0,0)):=by
  rw [hW3,Below.heap_alloc _ _ _ (by simp;omega),Below.heap_alloc _ _ _ (by simp)]
  exact heap_alloc_new w _
 have h1:W3.heap[w.heap.size + 1]?=some (.cells #[.bool false] 4 (0,0)):=by
  rw [hW3,Below.heap_alloc _ _ _ (by simp)]
  have:=heap_alloc_new (w.alloc (.cells #[pv,av,cv,.slice A f.blocks.length c,.map (some M)] 138)) (.cells #[.bool false] 4)
  simpa using this
 have h2:W3.heap[w.heap.size + 1 + 1]?=some (.cells #[.bool false] 4 (0,0)):=by
  rw [hW3]
  have:=heap_alloc_new ((w.alloc (.cells #[pv,av,cv,.slice A f.blocks.length c,.map (some M)] 138)).alloc (.cells #[.bool false] 4)) (.cells #[.bool false] 4)
  simpa using this
 have hSee:SeenC ds #[pv,av,cv,.slice A f.blocks.length c,.map (some M)] M w.heap.size (w.heap.size + 1) (w.heap.size + 1 + 1) [] W3 :=
  ⟨HM.out.below hBl hMl,h0,h1,h2⟩
 have HC:=hideI (each3.each_any [w.heap.size + 1,w.heap.size + 1 + 1] f.blocks (SeenC ds #[pv,av,cv,.slice A f.blocks.length c,.map (some M)] M w.heap.size (w.heap.size + 1) (w.heap.size + 1 + 1)) ⟨w.heap.size,0,none⟩ ⟨w.heap.size + 1,0,none⟩ ⟨w.heap.size + 1 + 1,0,none⟩ B pv av cv (.slice A f.blocks.length c) (.map (some M)) [] W3
  (HB.out.keeps (Keeps.of_below (hBl.mono (by omega)))) (by omega) hSee (seesC ds pv av cv _ M _ _ _ _ B hBM (by omega) (by omega) (by omega) (by omega) (by omega) (by omega) (by omega) (by omega) (by omega) (by omega)) SeenC.stays HFO.out HID.out)
 have HSZ:=hideI hsz
 have HBl:=hideI hBl
 clear h0 h1 h2 hSee hsz hBl
 subst hW3
 have hend:∀ w4,SeenC ds #[pv,av,cv,.slice A f.blocks.length c,.map (some M)] M w.heap.size (w.heap.size + 1) (w.heap.size + 1 + 1) (usesM f) w4 → (∀ o,w4.cell? ⟨w.heap.size + 1,o,none⟩=(#[Value.bool (unknownB ds (usesM f))]:Array Value)[o]?) ∧ (∀ o,w4.cell? ⟨w.heap.size + 1 + 1,o,none⟩=(#[Value.bool (unfitB ds (usesM f))]:Array Value)[o]?) :=
  fun w4 h => ⟨row_cells h.unk rfl,row_cells h.unf rfl⟩
 have HEND:=hideI hend
 clear hend
 cases c1:unknownB ds (usesM f) <;> cases c2:unfitB ds (usesM f)
 all_goals
  have HC1:=hideI c1
  have HC2:=hideI c2
  go_enter Tryz.func132,Tryz.ntmps132
  go_wp2_with (go_at_call 198;refine HC.out.mono ?_;rintro e w4 ⟨rfl,hS4,hF4⟩;obtain ⟨k1,k2⟩:=HEND.out w4 hS4;have HF4:=hideI hF4;clear hS4 hF4)
  go_ret
  refine ⟨by unfold usesErr;rw [HC1.out,HC2.out];rfl,HBl.out.trans ⟨HF4.out.os,HF4.out.tape,HF4.out.output,HF4.out.size,fun b hb => HF4.out.rest b (by rw [HSZ.out];omega) (by simp;omega)⟩⟩
end Go.Proofs.YtikogmpibkefdaaGreat

namespace Go.Proofs.YtikogmpibkefdaaGreat
open Go.RowKit Go.Maps
theorem formed_code {f:FuncM}:∀ {l:List InstrM} {ds d:Defs},codeStep f ds l=some d → ∀ x ∈ l,x.args.length=(takesS x.op).length:=by
 intro l
 induction l with
 | nil => intro ds d _ x hx;cases hx
 | cons y l ih =>
  intro ds d h x hx
  unfold codeStep at h
  rw [Option.bind_eq_some_iff] at h
  obtain ⟨d1,h1,h2⟩:=h
  rcases List.mem_cons.1 hx with rfl | hx
  ·unfold instrStep at h1
   split at h1
   ·rename_i hi
    unfold instrB at hi
    simp only [Bool.and_eq_true,beq_iff_eq] at hi
    exact hi.2.1
   ·cases h1
  ·exact ih h2 x hx
theorem formed_blocks {f:FuncM}:∀ {l:List BlockM} {ds d:Defs},blocksStep f ds l=some d → ∀ b ∈ l,∀ x ∈ b.code,x.args.length=(takesS x.op).length:=by
 intro l
 induction l with
 | nil => intro ds d _ x hx;cases hx
 | cons y l ih =>
  intro ds d h x hx
  unfold blocksStep at h
  rw [Option.bind_eq_some_iff] at h
  obtain ⟨d1,h1,h2⟩:=h
  rcases List.mem_cons.1 hx with rfl | hx
  ·unfold blockStep at h1
   rw [Option.bind_eq_some_iff] at h1
   obtain ⟨d2,h3,h4⟩:=h1
   rw [Option.bind_eq_some_iff] at h4
   obtain ⟨d3,h5,h6⟩:=h4
   exact formed_code h5
  ·exact ih h2 x hx
theorem formed_args {f:FuncM} {ds:Defs} (h:formedM f=some ds):∀ b ∈ f.blocks,∀ x ∈ b.code,x.args.length=(takesS x.op).length:=by
 unfold formedM at h
 split at h
 ·exact formed_blocks h
 ·cases h
theorem look_none {f:FuncM} (h:formedM f=none):lookM f=(2,[]):=by
 unfold lookM
 rw [h]
theorem look_some {f:FuncM} {ds:Defs} (h:formedM f=some ds):lookM f=if usesErr ds (usesM f)=0 then (0,ds) else (usesErr ds (usesM f),[]):=by
 unfold lookM usesErr
 rw [h]
 cases h1:unknownB ds (usesM f) <;> cases h2:unfitB ds (usesM f) <;> simp [h1,h2]
theorem grown_free {w w':World} {g M:Nat} {cs:Array Value} {t:TypeId} (h:w.heap[g]?=some (.cells cs t (0,0))) (hg:w.grownBy w' (some M)) (hM:g ≠ M):∀ o,w'.frozen? ⟨g,o,none⟩=false:=by
 intro o
 simp [World.frozen?,(hg.block _ (lt_of_heap h) (by simpa using hM)).trans h]
theorem free_row {w w':World} {g:Nat} {cs:Array Value} {t:TypeId} (h:w.heap[g]?=some (.cells cs t (0,0))) (hk:w'.heap[g]?=w.heap[g]?):∀ o,w'.frozen? ⟨g,o,none⟩=false:=by
 intro o
 simp [World.frozen?,hk.trans h]
def LookPost (f:FuncM) (pv bv:Value) (w:World) (e:Ending) (w':World):Prop :=
 Below w.heap.size w w' ∧
 ((lookM f).1=0 ∧ (∃ M,w.heap.size ≤ M ∧ e=.returned (.tuple #[.agg #[pv,.int .i64 f.arrays,.int .i64 f.cells,bv,.map (some M)],.int .i64 0]) ∧ MapIs w' M (lookM f).2) ∨
  (lookM f).1 ≠ 0 ∧ e=.returned (.tuple #[.agg #[.slice none 0 0,.int .i64 0,.int .i64 0,.slice none 0 0,.map none],.int .i64 (lookM f).1]))
set_option maxHeartbeats 1000000 in
theorem lookAt_any (f:FuncM) (B:Nat) (pv bv:Value) (w:World) (hpv:Ints w B pv f.params) (hbv:BlocksR w B bv f.blocks) (hB:B ≤ w.heap.size) (hid:∀ u ∈ usesM f,I64 u.1) :
  Calls Tryz.prog 82 #[.agg #[pv,.int .i64 f.arrays,.int .i64 f.cells,bv]] w (LookPost f pv bv w):=by
 have HP:=hideI hpv
 have HB:=hideI hbv
 have HID:=hideI hid
 obtain ⟨P,pc,rfl,_⟩:=hpv
 obtain ⟨A,c,rfl,_⟩:=hbv
 have hmm:=@run_makeMap Tryz.prog
 obtain ⟨W4,hW4⟩:∃ W4:World,W4=(((w.alloc (.cells #[.slice P f.params.length pc,.int .i64 f.arrays,.int .i64 f.cells,.slice A f.blocks.length c] 25)).alloc (.cells #[.slice none 0 0,.int .i64 0,.int .i64 0,.slice none 0 0,.map none] 138)).alloc (.map #[] 0)).alloc (.cells #[.slice P f.params.length pc,.int .i64 f.arrays,.int .i64 f.cells,.slice A f.blocks.length c,.map (some (w.heap.size + 1 + 1))] 138):=⟨_,rfl⟩
 have hsz:W4.heap.size=w.heap.size + 4:=by rw [hW4];simp
 have hBl:Below w.heap.size w W4:=by rw [hW4];exact (((((Below.refl _ w).alloc (Nat.le_refl _) _).alloc (by simp) _).alloc (by simp;omega) _).alloc (by simp;omega) _)
 have h1:W4.heap[w.heap.size + 1]?=some (.cells #[.slice none 0 0,.int .i64 0,.int .i64 0,.slice none 0 0,.map none] 138 (0,0)):=by
  rw [hW4,Below.heap_alloc _ _ _ (by simp),Below.heap_alloc _ _ _ (by simp)]
  have:=heap_alloc_new (w.alloc (.cells #[.slice P f.params.length pc,.int .i64 f.arrays,.int .i64 f.cells,.slice A f.blocks.length c] 25)) (.cells #[.slice none 0 0,.int .i64 0,.int .i64 0,.slice none 0 0,.map none] 138)
  simpa using this
 have h3:W4.heap[w.heap.size + 1 + 1 + 1]?=some (.cells #[.slice P f.params.length pc,.int .i64 f.arrays,.int .i64 f.cells,.slice A f.blocks.length c,.map (some (w.heap.size + 1 + 1))] 138 (0,0)):=by
  rw [hW4]
  have:=heap_alloc_new (((w.alloc (.cells #[.slice P f.params.length pc,.int .i64 f.arrays,.int .i64 f.cells,.slice A f.blocks.length c] 25)).alloc (.cells #[.slice none 0 0,.int .i64 0,.int .i64 0,.slice none 0 0,.map none] 138)).alloc (.map #[] 0)) (.cells #[.slice P f.params.length pc,.int .i64 f.arrays,.int .i64 f.cells,.slice A f.blocks.length c,.map (some (w.heap.size + 1 + 1))] 138)
  simpa using this
 have hm:MapIs W4 (w.heap.size + 1 + 1) []:=by
  rw [hW4]
  have:=MapIs.new ((w.alloc (.cells #[.slice P f.params.length pc,.int .i64 f.arrays,.int .i64 f.cells,.slice A f.blocks.length c] 25)).alloc (.cells #[.slice none 0 0,.int .i64 0,.int .i64 0,.slice none 0 0,.map none] 138))
  exact MapIs.alloc (by simpa using this) _
 have hk:Keeps B w W4:=Keeps.of_below (hBl.mono hB)
 have HF:=hideI (formed_any f B (w.heap.size + 1 + 1) (.slice P f.params.length pc) (.slice A f.blocks.length c) W4 (HP.out.keeps hk) (HB.out.keeps hk) (by omega) hm)
 have HH1:=hideI h1
 have HH3:=hideI h3
 have HSZ:=hideI hsz
 have HBl:=hideI hBl
 clear hid hsz hBl h1 h3 hm hk
 subst hW4
 cases hf:formedM f with
 | none =>
  have HFM:=hideI hf
  clear hf
  go_enter Tryz.func82,Tryz.ntmps82
  go_wp2_with (go_at_call 131;refine HF.out.mono ?_;rintro e w5 ⟨rfl,hg5,_⟩;rw [HFM.out];have k1:=grown_row HH1.out hg5 (by omega);have k3:=grown_row HH3.out hg5 (by omega);have q1:=grown_free HH1.out hg5 (by omega);have HG5:=hideI hg5;clear hg5)
  refine bodyPost_ret (v:=.tuple #[.agg #[.slice none 0 0,.int .i64 0,.int .i64 0,.slice none 0 0,.map none],.int .i64 2]) (by simp [results,Tryz.results82,go_sem,k1]) rfl ?_
  refine ⟨?_,.inr ⟨by rw [look_none HFM.out];decide,by rw [look_none HFM.out]⟩⟩
  exact (((((HBl.out.grown HG5.out (by rw [HSZ.out];omega) (by intro k hk;injection hk with hk;omega)).setCell (by simp) _).setCell (by simp) _).setCell (by simp) _).setCell (by simp) _).setCell (by simp) _
 | some ds =>
  have HFM:=hideI hf
  clear hf
  cases hc:(usesErr ds (usesM f) != 0)
  ·have HC:=hideI hc
   go_enter Tryz.func82,Tryz.ntmps82
   go_wp2_with (first
    | (go_at_call 131;refine HF.out.mono ?_;rintro e w5 ⟨rfl,hg5,hm5⟩;rw [HFM.out];have k1:=grown_row HH1.out hg5 (by omega);have k3:=grown_row HH3.out hg5 (by omega);have q1:=grown_free HH1.out hg5 (by omega);have HG5:=hideI hg5;have HM5:=hideI (hm5 _ HFM.out);have hz5:w.heap.size + 1 + 1 + 1 < w5.heap.size:=(by have:=hg5.size;rw [HSZ.out] at this;omega);clear hg5 hm5)
    | (go_at_call 132;refine (checkUses_any f ds B (w.heap.size + 1 + 1) _ _ _ _ _ (HB.out.keeps (Keeps.of_below ((HBl.out.grown HG5.out (by rw [HSZ.out];omega) (by intro k hk;injection hk with hk;omega)).mono hB))) (by omega) HM5.out (formed_args HFM.out) HID.out).mono ?_;rintro e w6 ⟨rfl,hb6⟩;have k6:=row_cells (HH1.out) ((hb6.block _ (by omega)).trans (HG5.out.block _ (by rw [HSZ.out];omega) (by simp)));have q6:=free_row HH1.out ((hb6.block _ (by omega)).trans (HG5.out.block _ (by rw [HSZ.out];omega) (by simp)));have l6:=row_cells (HH3.out) ((hb6.block _ (by omega)).trans (HG5.out.block _ (by rw [HSZ.out];omega) (by simp)));have HB6:=hideI hb6;clear hb6))
   have h0:usesErr ds (usesM f)=0:=by simpa using HC.out
   have hl:lookM f=(0,ds):=by rw [look_some HFM.out,if_pos h0]
   refine bodyPost_ret (v:=.tuple #[.agg #[.slice P f.params.length pc,.int .i64 f.arrays,.int .i64 f.cells,.slice A f.blocks.length c,.map (some (w.heap.size + 1 + 1))],.int .i64 0]) (by simp [results,Tryz.results82,go_sem,k6]) rfl ?_
   refine ⟨((((((HBl.out.grown HG5.out (by rw [HSZ.out];omega) (by intro k hk;injection hk with hk;omega)).trans (HB6.out.mono (by omega))).setCell (by simp) _).setCell (by simp) _).setCell (by simp) _).setCell (by simp) _).setCell (by simp) _,.inl ⟨by rw [hl],w.heap.size + 1 + 1,by omega,rfl,?_⟩⟩
   rw [hl]
   exact (((((HM5.out.below HB6.out HM5.out.lt).set_ _ (by simp)).set_ _ (by simp)).set_ _ (by simp)).set_ _ (by simp)).set_ _ (by simp)
  ·have HC:=hideI hc
   go_enter Tryz.func82,Tryz.ntmps82
   go_wp2_with (first
    | (go_at_call 131;refine HF.out.mono ?_;rintro e w5 ⟨rfl,hg5,hm5⟩;rw [HFM.out];have k1:=grown_row HH1.out hg5 (by omega);have k3:=grown_row HH3.out hg5 (by omega);have q1:=grown_free HH1.out hg5 (by omega);have HG5:=hideI hg5;have HM5:=hideI (hm5 _ HFM.out);have hz5:w.heap.size + 1 + 1 + 1 < w5.heap.size:=(by have:=hg5.size;rw [HSZ.out] at this;omega);clear hg5 hm5)
    | (go_at_call 132;refine (checkUses_any f ds B (w.heap.size + 1 + 1) _ _ _ _ _ (HB.out.keeps (Keeps.of_below ((HBl.out.grown HG5.out (by rw [HSZ.out];omega) (by intro k hk;injection hk with hk;omega)).mono hB))) (by omega) HM5.out (formed_args HFM.out) HID.out).mono ?_;rintro e w6 ⟨rfl,hb6⟩;have k6:=row_cells (HH1.out) ((hb6.block _ (by omega)).trans (HG5.out.block _ (by rw [HSZ.out];omega) (by simp)));have q6:=free_row HH1.out ((hb6.block _ (by omega)).trans (HG5.out.block _ (by rw [HSZ.out];omega) (by simp)));have l6:=row_cells (HH3.out) ((hb6.block _ (by omega)).trans (HG5.out.block _ (by rw [HSZ.out];omega) (by simp)));have HB6:=hideI hb6;clear hb6))
   have h0:usesErr ds (usesM f) ≠ 0:=by simpa using HC.out
   have hl:lookM f=(usesErr ds (usesM f),[]):=by rw [look_some HFM.out,if_neg h0]
   refine bodyPost_ret (v:=.tuple #[.agg #[.slice none 0 0,.int .i64 0,.int .i64 0,.slice none 0 0,.map none],.int .i64 (usesErr ds (usesM f))]) (by simp [results,Tryz.results82,go_sem,k6]) rfl ?_
   exact ⟨((((((HBl.out.grown HG5.out (by rw [HSZ.out];omega) (by intro k hk;injection hk with hk;omega)).trans (HB6.out.mono (by omega))).setCell (by simp) _).setCell (by simp) _).setCell (by simp) _).setCell (by simp) _).setCell (by simp) _,.inr ⟨by rw [hl];exact h0,by rw [hl]⟩⟩
end Go.Proofs.YtikogmpibkefdaaGreat

namespace Go.Proofs.YtikogmpibkefdaaGreat
open Go.RowKit Go.Maps
theorem look_bd {f:FuncM} (h:(lookM f).1=0):f.blocks.length ≤ 512:=by
 cases hf:formedM f with
 | none => rw [look_none hf] at h;cases h
 | some ds =>
  unfold formedM at hf
  split at hf
  ·rename_i hl
   simp only [Bool.and_eq_true] at hl
   exact (limits_bd hl.1.1).2.2.2.2.2.2.1
  ·cases hf
set_option maxHeartbeats 1000000 in
theorem check_any (f:FuncM) (B:Nat) (pv bv:Value) (w:World) (hpv:Ints w B pv f.params) (hbv:BlocksR w B bv f.blocks) (hB:B ≤ w.heap.size) (hid:∀ u ∈ usesM f,I64 u.1) :
  Calls Tryz.prog 60 #[.agg #[pv,.int .i64 f.arrays,.int .i64 f.cells,bv]] w fun e w' => e=.returned (.int .i64 (lookM f).1) ∧ Below w.heap.size w w':=by
 have HP:=hideI hpv
 have HB:=hideI hbv
 have HID:=hideI hid
 obtain ⟨P,pc,rfl,_⟩:=hpv
 obtain ⟨A,c,rfl,_⟩:=hbv
 have hk:Keeps B w (w.alloc (.cells #[.slice P f.params.length pc,.int .i64 f.arrays,.int .i64 f.cells,.slice A f.blocks.length c] 25)):=(Keeps.refl w).alloc hB _
 have HL:=hideI (lookAt_any f B _ _ _ (HP.out.keeps hk) (HB.out.keeps hk) (by simp;omega) HID.out)
 clear hid hk
 go_enter Tryz.func60,Tryz.ntmps60
 go_wp2_with fail
 refine HL.out.mono ?_
 rintro e w1 ⟨hb1,h | h⟩
 ·obtain ⟨h0,M,hM,rfl,hm⟩:=h
  have H0:=hideI h0
  have HB1:=hideI (below_one (hb1.mono (by simp)))
  clear hb1 hm h0
  go_wp2
  go_ret
  exact ⟨by rw [H0.out];rfl,HB1.out.alloc HB1.out.size _⟩
 ·obtain ⟨h0,rfl⟩:=h
  have HB1:=hideI (below_one (hb1.mono (by simp)))
  clear hb1
  go_wp2
  go_ret
  exact ⟨rfl,HB1.out.alloc HB1.out.size _⟩
end Go.Proofs.YtikogmpibkefdaaGreat

namespace Go.Proofs.YtikogmpibkefdaaGreat
open Go.RowKit Go.Maps
def cntU (id:Int) (us:List (Int × Int)):Int:=(us.countP fun u => u.1 == id:Nat)
def typeOut (f:FuncM) (id:Int):Int × Int:=if (lookM f).1=0 then (match (lookM f).2.at id with | some t => (t,0) | none => (0,9)) else (0,(lookM f).1)
def useOut (f:FuncM) (id:Int):Int × Int:=if (lookM f).1=0 then (match (lookM f).2.at id with | some _ => (cntU id (usesM f),0) | none => (0,9)) else (0,(lookM f).1)
theorem look_formed {f:FuncM} (h:(lookM f).1=0):formedM f=some (lookM f).2:=by
 cases hf:formedM f with
 | none => rw [look_none hf] at h;cases h
 | some ds =>
  rw [look_some hf] at h ⊢
  split at h
  ·rename_i hu
   rw [if_pos hu]
  ·rename_i hu
   exact absurd h hu
end Go.Proofs.YtikogmpibkefdaaGreat

namespace Go.Proofs.YtikogmpibkefdaaGreat
open Go.RowKit Go.Maps
theorem at_some {ds:Defs} {k:Int}:(ds.at k).isSome=true ↔ k ∈ ds.map (·.1):=by
 unfold Defs.at
 rw [Option.isSome_map,List.find?_isSome]
 simp only [List.mem_map,beq_iff_eq]
theorem nodup_snoc {ds:Defs} {id t:Int} (h:(ds.map (·.1)).Nodup) (hn:ds.at id=none):((ds ++ [(id,t)]).map (·.1)).Nodup:=by
 rw [List.map_append,List.nodup_append]
 refine ⟨h,by simp,?_⟩
 intro a ha b hb e
 simp at hb
 subst hb e
 have:=at_some.2 ha
 rw [hn] at this
 cases this
theorem addDef_nodup {np:Nat} {ds d:Defs} {id t:Int} (h:(ds.map (·.1)).Nodup) (ha:addDef np ds id t=some d):(d.map (·.1)).Nodup:=by
 unfold addDef defB at ha
 split at ha
 ·rename_i hc
  injection ha with ha
  subst ha
  simp only [Bool.and_eq_true,Bool.not_eq_true',Option.isSome_eq_false_iff,Option.isNone_iff_eq_none] at hc
  exact nodup_snoc h hc.1
 ·cases ha
theorem phisStep_nodup {f:FuncM}:∀ {l:List PhiM} {ds d:Defs},(ds.map (·.1)).Nodup → phisStep f ds l=some d → (d.map (·.1)).Nodup:=by
 intro l
 induction l with
 | nil => intro ds d hn h;injection h with h;subst h;exact hn
 | cons p l ih =>
  intro ds d hn h
  unfold phisStep at h
  rw [Option.bind_eq_some_iff] at h
  obtain ⟨d1,h1,h2⟩:=h
  refine ih ?_ h2
  unfold phiStep at h1
  split at h1
  ·exact addDef_nodup hn h1
  ·cases h1
theorem codeStep_nodup {f:FuncM}:∀ {l:List InstrM} {ds d:Defs},(ds.map (·.1)).Nodup → codeStep f ds l=some d → (d.map (·.1)).Nodup:=by
 intro l
 induction l with
 | nil => intro ds d hn h;injection h with h;subst h;exact hn
 | cons p l ih =>
  intro ds d hn h
  unfold codeStep at h
  rw [Option.bind_eq_some_iff] at h
  obtain ⟨d1,h1,h2⟩:=h
  refine ih ?_ h2
  unfold instrStep at h1
  split at h1
  ·split at h1
   ·split at h1
    ·injection h1 with h1;subst h1;exact hn
    ·cases h1
   ·exact addDef_nodup hn h1
  ·cases h1
theorem blocksStep_nodup {f:FuncM}:∀ {l:List BlockM} {ds d:Defs},(ds.map (·.1)).Nodup → blocksStep f ds l=some d → (d.map (·.1)).Nodup:=by
 intro l
 induction l with
 | nil => intro ds d hn h;injection h with h;subst h;exact hn
 | cons p l ih =>
  intro ds d hn h
  unfold blocksStep at h
  rw [Option.bind_eq_some_iff] at h
  obtain ⟨d1,h1,h2⟩:=h
  refine ih ?_ h2
  unfold blockStep at h1
  rw [Option.bind_eq_some_iff] at h1
  obtain ⟨d2,h3,h4⟩:=h1
  rw [Option.bind_eq_some_iff] at h4
  obtain ⟨d3,h5,h6⟩:=h4
  split at h6
  ·injection h6 with h6
   subst h6
   exact codeStep_nodup (phisStep_nodup hn h3) h5
  ·cases h6
theorem paramDefs_ge (l:List Int):∀ j,∀ d ∈ paramDefs j l,(j:Int) ≤ d.1:=by
 induction l with
 | nil => intro j d h;cases h
 | cons a l ih =>
  intro j d h
  rcases List.mem_cons.1 h with rfl | h
  ·exact Int.le_refl _
  ·have:=ih (j + 1) d h
   omega
theorem paramDefs_nodup (l:List Int):∀ j,((paramDefs j l).map (·.1)).Nodup:=by
 induction l with
 | nil => intro j;exact List.nodup_nil
 | cons a l ih =>
  intro j
  show (((j:Int),a).1 :: (paramDefs (j + 1) l).map (·.1)).Nodup
  rw [List.nodup_cons]
  refine ⟨fun h => ?_,ih (j + 1)⟩
  obtain ⟨d,hd,he⟩:=List.mem_map.1 h
  have:=paramDefs_ge l (j + 1) d hd
  simp only at he
  omega
theorem formed_nodup {f:FuncM} {ds:Defs} (h:formedM f=some ds):(ds.map (·.1)).Nodup:=by
 unfold formedM at h
 split at h
 ·exact blocksStep_nodup (paramDefs_nodup _ _) h
 ·cases h
def idsS (f:FuncM):List Int:=((lookM f).2.map (·.1)).mergeSort fun x y => decide (x ≤ y)
def idsOut (f:FuncM):List Int:=if (lookM f).1=0 then idsS f else []
theorem blocksStep_len {f:FuncM}:∀ {l:List BlockM} {ds d:Defs},blocksStep f ds l=some d → d.length ≤ ds.length + (l.map sizeB).sum:=by
 intro l
 induction l with
 | nil => intro ds d h;injection h with h;subst h;simp
 | cons p l ih =>
  intro ds d h
  unfold blocksStep at h
  rw [Option.bind_eq_some_iff] at h
  obtain ⟨d1,h1,h2⟩:=h
  have:=ih h2
  have:=blockStep_len h1
  simp only [List.map_cons,List.sum_cons]
  unfold sizeB
  unfold sizeB at *
  omega
theorem look_len {f:FuncM} (h:(lookM f).1=0):(lookM f).2.length ≤ 4112:=by
 have hf:=look_formed h
 unfold formedM at hf
 split at hf
 ·rename_i hl
  simp only [Bool.and_eq_true] at hl
  have h1:=limits_bd hl.1.1
  have h2:=blocksStep_len hf
  rw [paramDefs_len] at h2
  omega
 ·cases hf
end Go.Proofs.YtikogmpibkefdaaGreat

namespace Go.Proofs.YtikogmpibkefdaaGreat
open Go.RowKit
def Grows (ds d:Defs):Prop:=(∀ x ∈ ds,x ∈ d) ∧ ∀ x ∈ d,x ∈ ds ∨ (0 ≤ x.1 ∧ x.1 ≤ 1048575)
theorem Grows.refl (ds:Defs):Grows ds ds:=⟨fun _ h => h,fun _ h => .inl h⟩
theorem Grows.trans {a b c:Defs} (h:Grows a b) (k:Grows b c):Grows a c :=
 ⟨fun x hx => k.1 x (h.1 x hx),fun x hx => by rcases k.2 x hx with h1 | h1;exact h.2 x h1;exact .inr h1⟩
theorem addDef_grows {np:Nat} {ds d:Defs} {id t:Int} (h:addDef np ds id t=some d):Grows ds d:=by
 unfold addDef defB at h
 split at h
 ·rename_i hc
  injection h with h
  subst h
  simp only [Bool.and_eq_true] at hc
  have:=within_bd hc.2
  refine ⟨fun x hx => List.mem_append_left _ hx,fun x hx => ?_⟩
  rcases List.mem_append.1 hx with hx | hx
  ·exact .inl hx
  ·simp at hx
   subst hx
   exact .inr (by show 0 ≤ id ∧ id ≤ 1048575;omega)
 ·cases h
theorem phisStep_grows {f:FuncM}:∀ {l:List PhiM} {ds d:Defs},phisStep f ds l=some d → Grows ds d:=by
 intro l
 induction l with
 | nil => intro ds d h;injection h with h;subst h;exact Grows.refl _
 | cons p l ih =>
  intro ds d h
  unfold phisStep at h
  rw [Option.bind_eq_some_iff] at h
  obtain ⟨d1,h1,h2⟩:=h
  refine Grows.trans ?_ (ih h2)
  unfold phiStep at h1
  split at h1
  ·exact addDef_grows h1
  ·cases h1
theorem codeStep_grows {f:FuncM}:∀ {l:List InstrM} {ds d:Defs},codeStep f ds l=some d → Grows ds d:=by
 intro l
 induction l with
 | nil => intro ds d h;injection h with h;subst h;exact Grows.refl _
 | cons p l ih =>
  intro ds d h
  unfold codeStep at h
  rw [Option.bind_eq_some_iff] at h
  obtain ⟨d1,h1,h2⟩:=h
  refine Grows.trans ?_ (ih h2)
  unfold instrStep at h1
  split at h1
  ·split at h1
   ·split at h1
    ·injection h1 with h1;subst h1;exact Grows.refl _
    ·cases h1
   ·exact addDef_grows h1
  ·cases h1
theorem blocksStep_grows {f:FuncM}:∀ {l:List BlockM} {ds d:Defs},blocksStep f ds l=some d → Grows ds d:=by
 intro l
 induction l with
 | nil => intro ds d h;injection h with h;subst h;exact Grows.refl _
 | cons p l ih =>
  intro ds d h
  unfold blocksStep at h
  rw [Option.bind_eq_some_iff] at h
  obtain ⟨d1,h1,h2⟩:=h
  refine Grows.trans ?_ (ih h2)
  unfold blockStep at h1
  rw [Option.bind_eq_some_iff] at h1
  obtain ⟨d2,h3,h4⟩:=h1
  rw [Option.bind_eq_some_iff] at h4
  obtain ⟨d3,h5,h6⟩:=h4
  split at h6
  ·injection h6 with h6
   subst h6
   exact (phisStep_grows h3).trans (codeStep_grows h5)
  ·cases h6
theorem paramDefs_mem (l:List Int):∀ (j k:Nat),j ≤ k → k < j + l.length → ∃ d ∈ paramDefs j l,d.1=(k:Int):=by
 induction l with
 | nil => intro j k h1 h2;simp at h2;omega
 | cons a l ih =>
  intro j k h1 h2
  by_cases e:j=k
  ·subst e
   exact ⟨_,List.mem_cons_self ..,rfl⟩
  ·simp only [List.length_cons] at h2
   obtain ⟨d,hd,he⟩:=ih (j + 1) k (by omega) (by omega)
   exact ⟨d,List.mem_cons_of_mem _ hd,he⟩
theorem paramDefs_lt (l:List Int):∀ j,∀ d ∈ paramDefs j l,d.1 < (j + l.length:Nat):=by
 induction l with
 | nil => intro j d h;cases h
 | cons a l ih =>
  intro j d h
  simp only [List.length_cons]
  rcases List.mem_cons.1 h with rfl | h
  ·show (j:Int) < _
   omega
  ·have:=ih (j + 1) d h
   omega
theorem formed_keys {f:FuncM} {ds:Defs} (h:formedM f=some ds):(∀ x ∈ ds,0 ≤ x.1 ∧ x.1 ≤ 1048575) ∧ ∀ k:Nat,k < f.params.length → (k:Int) ∈ ds.map (·.1):=by
 unfold formedM at h
 split at h
 ·rename_i hc
  simp only [Bool.and_eq_true] at hc
  have hl:=(limits_bd hc.1.1).1
  have hg:=blocksStep_grows h
  refine ⟨fun x hx => ?_,fun k hk => ?_⟩
  ·rcases hg.2 x hx with h1 | h1
   ·have h2:=paramDefs_ge _ _ x h1
    have h3:=paramDefs_lt _ _ x h1
    omega
   ·exact h1
  ·obtain ⟨d,hd,he⟩:=paramDefs_mem f.params 0 k (by omega) (by omega)
   exact List.mem_map.2 ⟨d,hg.1 d hd,he⟩
 ·cases h
def nextId (f:FuncM):Int:=match (idsS f).getLast? with | some x => x + 1 | none => f.params.length
theorem uses_i64 {f:FuncM} (h:∀ q ∈ f.blocks,BlockOk q):∀ u ∈ usesM f,I64 u.1:=by
 intro u hu
 obtain ⟨q,hq,hu⟩:=List.mem_flatMap.1 hu
 obtain ⟨h1,h2,h3⟩:=h q hq
 rcases List.mem_append.1 hu with hu | hu
 ·obtain ⟨p,hp,hu⟩:=List.mem_flatMap.1 hu
  obtain ⟨v,hv,rfl⟩:=List.mem_map.1 hu
  exact (h1 p hp).2 v hv
 ·rcases List.mem_append.1 hu with hu | hu
  ·obtain ⟨x,hx,hu⟩:=List.mem_flatMap.1 hu
   exact h2 x hx _ (List.of_mem_zip hu).1
  ·unfold usesTerm at hu
   split at hu
   ·simp at hu;subst hu;exact h3
   ·split at hu
    ·simp at hu;subst hu;exact h3
    ·cases hu
theorem flat_len {α β:Type} (g:α → List β) (M:Nat):∀ l:List α,(∀ a ∈ l,(g a).length ≤ M) → (l.flatMap g).length ≤ l.length * M:=by
 intro l
 induction l with
 | nil => intro _;simp
 | cons a l ih =>
  intro h
  rw [List.flatMap_cons,List.length_append,List.length_cons,Nat.add_mul]
  have h1:=h a (List.mem_cons_self ..)
  have h2:=ih (fun b hb => h b (List.mem_cons_of_mem _ hb))
  omega
theorem look_size {f:FuncM} (h:(lookM f).1=0):sizeM f ≤ 4096:=by
 have hf:=look_formed h
 unfold formedM at hf
 split at hf
 ·rename_i hl
  simp only [Bool.and_eq_true] at hl
  exact (limits_bd hl.1.1).2.2.2.2.2.2.2
 ·cases hf
end Go.Proofs.YtikogmpibkefdaaGreat

namespace Go.Proofs.YtikogmpibkefdaaGreat
open Go.RowKit
theorem use_info:(Tryz.prog.info? 48).map (fun i => (i.zero,i.size,i.bytes))=some (some (.agg #[.int .i64 0,.int .i64 0,.int .i64 0,.int .i64 0,.int .i64 0]),5,40):=by kernel_rfl
def RU (w:World) (base:Nat) (v:Value) (us:List (Int × Int)):Prop :=
 ∃ rows:List (List Int),rows.map (fun r => (r.getD 0 0,r.getD 1 0))=us ∧ (∀ r ∈ rows,r.length=5) ∧ w.ownsRow base 48 5 v us.length (rows.flatten.map (Value.int .i64))
theorem RU.push {w':World} {base:Nat} {v':Value} {us:List (Int × Int)} {rows:List (List Int)} (h1:rows.map (fun r => (r.getD 0 0,r.getD 1 0))=us) (h2:∀ r ∈ rows,r.length=5) {a b c d e:Int}
  (h:w'.ownsRow base 48 5 v' (us.length + 1) (rows.flatten.map (Value.int .i64) ++ [.int .i64 a,.int .i64 b,.int .i64 c,.int .i64 d,.int .i64 e])):RU w' base v' (us ++ [(a,b)]):=by
 refine ⟨rows ++ [[a,b,c,d,e]],by rw [List.map_append,h1];rfl,?_,?_⟩
 ·intro r hr
  rcases List.mem_append.1 hr with hr | hr
  ·exact h2 r hr
  ·simp at hr
   subst hr
   rfl
 ·simpa using h
theorem RU.alloc {w:World} {base:Nat} {v:Value} {us:List (Int × Int)} (h:RU w base v us) (o:Obj):RU (w.alloc o) base v us:=by
 obtain ⟨rows,h1,h2,h3⟩:=h
 exact ⟨rows,h1,h2,h3.alloc o⟩
theorem RU.below {w w':World} {base:Nat} {v:Value} {us:List (Int × Int)} (h:RU w base v us) (hb:Below w.heap.size w w'):RU w' base v us:=by
 obtain ⟨rows,h1,h2,h3⟩:=h
 exact ⟨rows,h1,h2,h3.kept (row:=none) ⟨hb.os,hb.tape,hb.output,hb.size,fun k hk _ => hb.block k hk⟩ (by
  cases hv:v.ownBlock with
  | none => exact .inl rfl
  | some k => exact .inr (by simp))⟩
theorem five_new (w:World) (cs:List Value) (t:TypeId):∀ (j:Nat) (u:Value),cs[j]?=some u → (w.alloc (.cells cs.toArray t)).cell? ((⟨w.heap.size,0,none⟩:Addr).add j)=some u:=by
 intro j u hu
 rw [Go.WideShapes.add_plain,cell_of_row _ _ _ _ _ _ (heap_alloc_new w _),Nat.zero_add]
 simpa using hu
structure Ka (base:Nat) (w w':World):Prop where
 os:w'.os=w.os
 tape:w'.tape=w.tape
 output:w'.output=w.output
 size:w.heap.size ≤ w'.heap.size
 low:∀ b,b < base → w'.heap[b]?=w.heap[b]?
 other:∀ (b:Nat) (cs:Array Value) (t:TypeId),w.heap[b]?=some (Obj.cells cs t (0,0)) → t ≠ 48 → w'.heap[b]?=some (Obj.cells cs t (0,0))
theorem Ka.refl (base:Nat) (w:World):Ka base w w:=⟨rfl,rfl,rfl,Nat.le_refl _,fun _ _ => rfl,fun _ _ _ h _ => h⟩
theorem Ka.trans {base:Nat} {a b c:World} (h:Ka base a b) (k:Ka base b c):Ka base a c :=
 ⟨k.os.trans h.os,k.tape.trans h.tape,k.output.trans h.output,Nat.le_trans h.size k.size,fun i hi => (k.low i hi).trans (h.low i hi),fun i cs t hi ht => k.other i cs t (h.other i cs t hi ht) ht⟩
theorem Ka.of_below {base:Nat} {w w':World} (h:Below w.heap.size w w') (hb:base ≤ w.heap.size):Ka base w w' :=
 ⟨h.os,h.tape,h.output,h.size,fun i hi => h.block i (by omega),fun i cs t hi _ => (h.block i (lt_of_heap hi)).trans hi⟩
theorem Ka.alloc {base:Nat} {a w:World} (h:Ka base a w) (hb:base ≤ w.heap.size) (o:Obj):Ka base a (w.alloc o):=h.trans (Ka.of_below ((Below.refl _ _).alloc (Nat.le_refl _) o) hb)
theorem Ka.drew {base:Nat} {a w:World} (h:Ka base a w):Ka base a w.drew:=h.trans ⟨rfl,rfl,rfl,Nat.le_refl _,fun _ _ => rfl,fun _ _ _ h _ => h⟩
theorem own_ne' {w:World} {base:Nat} {e t:TypeId} {size n g:Nat} {v:Value} {xs:List Value} {cs:Array Value} (h:w.ownsRow base e size v n xs) (hg:w.heap[g]?=some (.cells cs t (0,0))) (hne:e ≠ t):some g ≠ v.ownBlock:=by
 rcases h.2 with ⟨rfl,_⟩ | ⟨g2,cap,cur,rfl,_,hh,_⟩
 ·simp [Value.ownBlock]
 ·intro he
  have:g=g2:=by simpa [Value.ownBlock] using he
  subst this
  rw [hg] at hh
  injection hh with hh
  injection hh with _ ht
  exact hne ht.symm
theorem Ka.grown {base n:Nat} {w w':World} {v:Value} {xs:List Value} (hg:w.grownBy w' v.ownBlock) (ho:w.ownsRow base 48 5 v n xs) (hb:base ≤ w.heap.size):Ka base w w' :=
 ⟨hg.os,hg.tape,hg.output,hg.size,fun i hi => hg.block i (by omega) (fun e => by have:=(ho.lt i e.symm).1;omega),fun i cs t hi ht => (hg.block i (lt_of_heap hi) (own_ne' ho hi (fun e => ht e.symm))).trans hi⟩
theorem Ka.keeps {base:Nat} {w w':World} (h:Ka base w w'):Keeps base w w':=fun b o hb => World.cell?_of_block (a:=⟨b,o,none⟩) (h.low b hb)
theorem Keeps.mono' {B B':Nat} {w w':World} (h:Keeps B' w w') (hB:B ≤ B'):Keeps B w w':=fun b o hb => h b o (by omega)
theorem Ka.row {base g:Nat} {w w':World} {cs:Array Value} {t:TypeId} (h:Ka base w w') (hg:w.heap[g]?=some (.cells cs t (0,0))) (ht:t ≠ 48):∀ o,w'.cell? ⟨g,o,none⟩=cs[o]? :=
 row_cells hg ((h.other g cs t hg ht).trans hg.symm)
theorem Ka.below {w w':World} (h:Ka w.heap.size w w'):Below w.heap.size w w':=⟨h.os,h.tape,h.output,h.size,h.low⟩
theorem nodup_lt:∀ (n:Nat) (l:List Nat),l.Nodup → (∀ x ∈ l,x < n) → l.length ≤ n:=by
 intro n
 induction n with
 | zero =>
  intro l _ h
  cases l with
  | nil => simp
  | cons a l => exact absurd (h a (List.mem_cons_self ..)) (by omega)
 | succ n ih =>
  intro l hn h
  have h1:=ih (l.erase n) (hn.erase _) (fun x hx => by
   have h2:=h x (List.mem_of_mem_erase hx)
   have h3:x ≠ n:=fun e => by subst e;exact (hn.not_mem_erase) hx
   omega)
  have h2:=List.length_erase (a:=n) (l:=l)
  split at h2 <;> omega
theorem once_nodup {nb:Nat}:∀ (l seen:List Int),onceB nb seen l=true → l.Nodup ∧ (∀ x ∈ l,0 ≤ x ∧ x ≤ nb - 1) ∧ ∀ x ∈ l,x ∉ seen:=by
 intro l
 induction l with
 | nil => intro seen _;exact ⟨List.nodup_nil,(fun _ h => by cases h),(fun _ h => by cases h)⟩
 | cons b l ih =>
  intro seen h
  unfold onceB at h
  simp only [Bool.and_eq_true,Bool.not_eq_true'] at h
  obtain ⟨h1,h2,h3⟩:=ih _ h.2
  have hb:=within_bd h.1.1
  have hbs:b ∉ seen:=fun hm => by have:=h.1.2;rw [List.contains_eq_mem] at this;simp [hm] at this
  refine ⟨List.nodup_cons.2 ⟨fun hm => h3 b hm (List.mem_cons_self ..),h1⟩,fun x hx => ?_,fun x hx => ?_⟩
  ·rcases List.mem_cons.1 hx with rfl | hx
   ·exact hb
   ·exact h2 x hx
  ·rcases List.mem_cons.1 hx with rfl | hx
   ·exact hbs
   ·exact fun hm => h3 x hx (List.mem_cons_of_mem _ hm)
theorem once_len {nb:Nat} {l:List Int} (h:onceB nb [] l=true):l.length ≤ nb:=by
 obtain ⟨h1,h2,_⟩:=once_nodup l [] h
 have h3:=nodup_lt nb (l.map Int.toNat) (by
  rw [List.Nodup,List.pairwise_map]
  refine List.Pairwise.imp_of_mem ?_ h1
  intro a b ha hb hne e
  have:=h2 a ha
  have:=h2 b hb
  omega) (fun x hx => by
  obtain ⟨a,ha,rfl⟩:=List.mem_map.1 hx
  have:=h2 a ha
  omega)
 rw [List.length_map] at h3
 exact h3
theorem flat_take' {α β:Type} (g:α → List β) (l:List α) (k:Nat) (a:α) (h:l[k]?=some a):(l.take (k + 1)).flatMap g=(l.take k).flatMap g ++ g a:=by
 obtain ⟨hk,rfl⟩:=List.getElem?_eq_some_iff.1 h
 rw [List.take_succ_eq_append_getElem hk,List.flatMap_append]
 simp
theorem map_take' {α β:Type} (g:α → β) (l:List α) (k:Nat) (a:α) (h:l[k]?=some a):(l.take (k + 1)).map g=(l.take k).map g ++ [g a]:=by
 obtain ⟨hk,rfl⟩:=List.getElem?_eq_some_iff.1 h
 rw [List.take_succ_eq_append_getElem hk,List.map_append]
 rfl
theorem zip_take' {α β:Type} (l:List α) (r:List β) (k:Nat) (a:α) (b:β) (h:l[k]?=some a) (h2:r[k]?=some b):(l.take (k + 1)).zip (r.take (k + 1))=(l.take k).zip (r.take k) ++ [(a,b)]:=by
 obtain ⟨hk,rfl⟩:=List.getElem?_eq_some_iff.1 h
 obtain ⟨hk2,rfl⟩:=List.getElem?_eq_some_iff.1 h2
 rw [List.take_succ_eq_append_getElem hk,List.take_succ_eq_append_getElem hk2,List.zip_append (by simp;omega)]
 rfl
theorem flat_take_le {α β:Type} (g:α → List β) (l:List α) (k:Nat):((l.take k).flatMap g).length ≤ (l.flatMap g).length:=by
 conv => rhs;rw [← List.take_append_drop k l,List.flatMap_append,List.length_append]
 omega
theorem flat_at_le {α β:Type} (g:α → List β) (l:List α) (k:Nat) (a:α) (h:l[k]?=some a):((l.take k).flatMap g).length + (g a).length ≤ (l.flatMap g).length:=by
 have h1:=flat_take_le g l (k + 1)
 rw [flat_take' g l k a h,List.length_append] at h1
 exact h1
theorem usesBlock_parts (q:BlockM):(usesBlock q).length=(q.phis.flatMap usesPhi).length + ((q.code.flatMap usesInstr).length + (usesTerm q.term).length):=by
 unfold usesBlock
 rw [List.length_append,List.length_append]
def Few (bs:List BlockM):Prop:=(bs.flatMap usesBlock).length ≤ 3000000
theorem few_phi {bs:List BlockM} (hf:Few bs) {k j m:Nat} {q:BlockM} {p:PhiM} (hq:bs[k]?=some q) (hp:q.phis[j]?=some p) (hm:m < p.vals.length) (us1 us2:List (Int × Int)) (h1:us1=(bs.take k).flatMap usesBlock) (h2:us2=us1 ++ (q.phis.take j).flatMap usesPhi) :
  (us2 ++ (p.vals.take m).map fun v => (v,p.typ)).length < 3000000:=by
 have a:=flat_at_le usesBlock bs k q hq
 have b:=flat_at_le usesPhi q.phis j p hp
 have c:=usesBlock_parts q
 have d:(usesPhi p).length=p.vals.length:=by unfold usesPhi;rw [List.length_map]
 unfold Few at hf
 rw [h2,h1]
 simp only [List.length_append,List.length_map,List.length_take]
 omega
theorem few_instr {bs:List BlockM} (hf:Few bs) {k j m:Nat} {q:BlockM} {x:InstrM} (hq:bs[k]?=some q) (hp:q.code[j]?=some x) (hm:m < x.args.length) (hl:x.args.length=(takesS x.op).length) (us1 us2 us3:List (Int × Int)) (h1:us1=(bs.take k).flatMap usesBlock) (h2:us2=us1 ++ q.phis.flatMap usesPhi) (h3:us3=us2 ++ (q.code.take j).flatMap usesInstr) :
  (us3 ++ (x.args.take m).zip ((takesS x.op).take m)).length < 3000000:=by
 have a:=flat_at_le usesBlock bs k q hq
 have b:=flat_at_le usesInstr q.code j x hp
 have c:=usesBlock_parts q
 have d:(usesInstr x).length=x.args.length:=by unfold usesInstr;rw [List.length_zip];omega
 unfold Few at hf
 rw [h3,h2,h1]
 simp only [List.length_append,List.length_zip,List.length_take]
 omega
theorem few_term {bs:List BlockM} (hf:Few bs) {k:Nat} {q:BlockM} (hq:bs[k]?=some q) (hm:0 < (usesTerm q.term).length) (us1 us2:List (Int × Int)) (h1:us1=(bs.take k).flatMap usesBlock) (h2:us2=us1 ++ q.phis.flatMap usesPhi) :
  (us2 ++ q.code.flatMap usesInstr).length < 3000000:=by
 have a:=flat_at_le usesBlock bs k q hq
 have c:=usesBlock_parts q
 unfold Few at hf
 rw [h2,h1]
 simp only [List.length_append]
 omega
set_option maxRecDepth 100000 in
set_option maxHeartbeats 8000000 in
theorem refUses_any (bs:List BlockM) (B:Nat) (pv xv cv bv:Value) (w:World) (hbv:BlocksR w B bv bs) (hB:B ≤ w.heap.size) (hfew:Few bs) (hl5:bs.length ≤ 512)
  (hform:∀ b ∈ bs,∀ x ∈ b.code,x.args.length=(takesS x.op).length) (hphi:∀ b ∈ bs,∀ p ∈ b.phis,p.vals.length=p.fr.length) :
  Calls Tryz.prog 24 #[.agg #[pv,xv,cv,bv]] w fun e w' => ∃ v,e=.returned v ∧ RU w' w.heap.size v (bs.flatMap usesBlock) ∧ Below w.heap.size w w':=by
 have HFEW:=hideI hfew
 have HFO:=hideI hform
 have HPH:=hideI hphi
 have HBB:=hideI hbv
 obtain ⟨i0,hi,hz0,hz1,hz2⟩:=info_parts use_info
 obtain ⟨A,c,rfl,hbm,hbx⟩:=hbv
 have HX:=hideI hbx
 clear hbx hfew hform hphi
 obtain ⟨W0,hW0⟩:∃ W0:World,W0=(w.alloc (.cells #[pv,xv,cv,.slice A bs.length c] 25)).alloc (.cells #[] 48):=⟨_,rfl⟩
 have hK0:Hid (Ka w.heap.size w W0):=by rw [hW0];exact ((Ka.refl _ w).alloc (Nat.le_refl _) _).alloc (by simp) _
 have hbox0:Hid (W0.heap[w.heap.size]?=some (.cells #[pv,xv,cv,.slice A bs.length c] 25 (0,0))):=by
  show _=_
  rw [hW0,Below.heap_alloc _ _ _ (by simp)]
  exact heap_alloc_new w _
 have hR0:Hid (RU W0 w.heap.size (.slice (some ⟨w.heap.size + 1,0,none⟩) 0 0) []):=by
  have:=World.ownsRow_made (base:=w.heap.size) (e:=48) (size:=5) (w.alloc (.cells #[pv,xv,cv,.slice A bs.length c] 25)) #[] 0 (by simp) (by decide) rfl
  show RU W0 _ _ _
  rw [hW0]
  exact ⟨[],rfl,(fun _ h => by cases h),by simpa using this⟩
 have HW0:=hideI hW0
 clear hW0
 go_enter Tryz.func24,Tryz.ntmps24
 go_wp2
 rw [← HW0.out]
 go_loopw [3,4] (fun o i wr => ∃ k:Nat,k ≤ bs.length ∧ i=.int .i64 k ∧ RU wr w.heap.size o ((bs.take k).flatMap usesBlock) ∧ Ka w.heap.size W0 wr) (fun _ i _ => bs.length - (intOf i).toNat)
 case atStart => exact ⟨0,Nat.zero_le _,rfl,by simpa using hR0.out,Ka.refl _ _⟩
 case round =>
  obtain ⟨k,hk,rfl,hIk,hFk⟩:=hrel
  obtain ⟨u3,rfl⟩:∃ u3':Value,u3'=u3:=⟨_,rfl⟩
  have HIk:=hideI hIk
  have HFk:=hideI hFk
  have hx:=hFk.row hbox0.out (by decide)
  have hsz:w.heap.size < wr.heap.size:=by have h1:=hFk.size;have h2:=lt_of_heap hbox0.out;omega
  have HK:=hideI (Keeps.mono' (hK0.out.trans hFk).keeps hB)
  clear hIk hFk
  by_cases hlt:k < bs.length
  ·obtain ⟨q,hq⟩:∃ q,bs[k]?=some q:=⟨_,List.getElem?_eq_getElem hlt⟩
   obtain ⟨b,off,qpv,qcv,qtv,rfl,hb,e0,e1,e2,e3,e4,e5,hpv,hcv,htv,_⟩:=HX.out k q hq
   have c0:=(HK.out b (off + k * 6) hb).trans e0
   have c1:=(HK.out b (off + k * 6 + 1) hb).trans e1
   have c2:=(HK.out b (off + k * 6 + 2) hb).trans e2
   have c3:=(HK.out b (off + k * 6 + 3) hb).trans e3
   have c4:=(HK.out b (off + k * 6 + 4) hb).trans e4
   have c5:=(HK.out b (off + k * 6 + 5) hb).trans e5
   have HQ:=hideI hq
   obtain ⟨PA,pc,rfl,hpm,hpx⟩:=hpv
   obtain ⟨CA,cc,rfl,hcm,hcx⟩:=hcv
   obtain ⟨TA,tc,rfl,_⟩:=htv
   have HPX:=hideI hpx
   have HCX:=hideI hcx
   clear e0 e1 e2 e3 e4 e5 hq hpx hcx
   obtain ⟨wo,rfl⟩:∃ wo:World,wo=wr:=⟨_,rfl⟩
   obtain ⟨W1,hW1⟩:∃ W1:World,W1=wo.alloc (.cells #[.slice PA q.phis.length pc,.slice CA q.code.length cc,.int .i64 q.term.op,.int .i64 q.term.val,.slice TA q.term.to.length tc,.int .i64 q.term.n] 59):=⟨_,rfl⟩
   have HF1:Hid (Ka w.heap.size W0 W1):=by rw [hW1];exact HFk.out.alloc (by omega) _
   have HI1:Hid (RU W1 w.heap.size u3 ((bs.take k).flatMap usesBlock)):=by rw [hW1];exact HIk.out.alloc _
   have HB1:Hid (W1.heap[wo.heap.size]?=some (.cells #[.slice PA q.phis.length pc,.slice CA q.code.length cc,.int .i64 q.term.op,.int .i64 q.term.val,.slice TA q.term.to.length tc,.int .i64 q.term.n] 59 (0,0))):=by rw [hW1];exact heap_alloc_new wo _
   have HW1:=hideI hW1
   clear hW1
   obtain ⟨us1,hus1⟩:∃ us1,us1=(bs.take k).flatMap usesBlock:=⟨_,rfl⟩
   rw [← hus1] at HI1
   have HU1:=hideI hus1
   clear hus1
   go_wp2
   rw [← HW1.out]
   go_loopw [3,6] (fun o i wr => ∃ j:Nat,j ≤ q.phis.length ∧ i=.int .i64 j ∧ RU wr w.heap.size o (us1 ++ (q.phis.take j).flatMap usesPhi) ∧ Ka w.heap.size W1 wr) (fun _ i _ => q.phis.length - (intOf i).toNat)
   case atStart => exact ⟨0,Nat.zero_le _,rfl,by simpa using HI1.out,Ka.refl _ _⟩
   case round =>
    obtain ⟨j,hj,rfl,hIj,hFj⟩:=hrel
    have HIj:=hideI hIj
    have HFj:=hideI hFj
    have hx1:=hFj.row HB1.out (by decide)
    have hsz1:wo.heap.size < wr.heap.size:=by have h1:=hFj.size;have h2:=lt_of_heap HB1.out;omega
    have HK1:=hideI (Keeps.mono' ((hK0.out.trans HF1.out).trans hFj).keeps hB)
    clear hIj hFj
    by_cases hlj:j < q.phis.length
    ·obtain ⟨p,hp⟩:∃ p,q.phis[j]?=some p:=⟨_,List.getElem?_eq_getElem hlj⟩
     obtain ⟨b2,off2,fv,vv,rfl,hb2,e0,e1,e2,e3,hf,hv,_⟩:=HPX.out j p hp
     have HQ2:=hideI hp
     have hpl:Hid (p.vals.length=p.fr.length):=HPH.out q (List.mem_of_getElem? HQ.out) p (List.mem_of_getElem? hp)
     obtain ⟨FA,fc,rfl,hfm,hfx⟩:=hf
     obtain ⟨VA,vc,rfl,hvm,hvx⟩:=hv
     have HVX:=hideI hvx
     have HFX:=hideI hfx
     have HE:=hideI (And.intro e1 (And.intro e2 e3))
     have d3:=(HK1.out b2 (off2 + j * 4 + 3) hb2).trans e3
     obtain ⟨wi,rfl⟩:∃ wi:World,wi=wr:=⟨_,rfl⟩
     obtain ⟨us2,hus2⟩:∃ us2,us2=us1 ++ (q.phis.take j).flatMap usesPhi:=⟨_,rfl⟩
     rw [← hus2] at HIj
     have HU2:=hideI hus2
     clear e0 e1 e2 e3 hp hvx hfx hus2
     go_wp2
     clear d3
     go_loopw [3,7] (fun o i wr => ∃ m:Nat,m ≤ p.vals.length ∧ i=.int .i64 m ∧ RU wr w.heap.size o (us2 ++ (p.vals.take m).map fun v => (v,p.typ)) ∧ Ka w.heap.size wi wr) (fun _ i _ => p.vals.length - (intOf i).toNat)
     case atStart => exact ⟨0,Nat.zero_le _,rfl,by simpa using HIj.out,Ka.refl _ _⟩
     case round =>
      obtain ⟨m,hm,rfl,hIm,hFm⟩:=hrel
      have hx2:=(HFj.out.trans hFm).row HB1.out (by decide)
      have HK2:=hideI (Keeps.mono' (((hK0.out.trans HF1.out).trans HFj.out).trans hFm).keeps hB)
      have hsz2:w.heap.size ≤ wr.heap.size:=by have h1:=hFm.size;omega
      have d1:=(HK2.out b2 (off2 + j * 4 + 1) hb2).trans HE.out.1
      have d2:=(HK2.out b2 (off2 + j * 4 + 2) hb2).trans HE.out.2.1
      have d3:=(HK2.out b2 (off2 + j * 4 + 3) hb2).trans HE.out.2.2
      have HIm:=hideI hIm
      have HFm:=hideI hFm
      clear hIm hFm
      by_cases hlm:m < p.vals.length
      ·obtain ⟨b3,off3,rfl,hb3,e3⟩:=HVX.out m hlm
       obtain ⟨v,hv⟩:∃ v,p.vals[m]?=some v:=⟨_,List.getElem?_eq_getElem hlm⟩
       have hlf:m < p.fr.length:=by rw [← hpl.out];exact hlm
       obtain ⟨b4,off4,rfl,hb4,e4⟩:=HFX.out m hlf
       obtain ⟨fr,hfr⟩:∃ fr,p.fr[m]?=some fr:=⟨_,List.getElem?_eq_getElem hlf⟩
       rw [hv] at e3
       rw [hfr] at e4
       have f3:=(HK2.out b3 (off3 + m) hb3).trans e3
       have f4:=(HK2.out b4 (off4 + m) hb4).trans e4
       simp only [Option.getD_some] at f3 f4
       have HV:=hideI hv
       have hfw:=few_phi HFEW.out HQ.out HQ2.out hlm us1 us2 HU1.out HU2.out
       obtain ⟨uu,huu⟩:∃ uu,uu=us2 ++ (p.vals.take m).map fun v => (v,p.typ):=⟨_,rfl⟩
       rw [← huu] at hfw HIm
       have HUU:=hideI huu
       clear e3 e4 hv hfr huu
       have g0:wr.cell? ⟨wo.heap.size,0,none⟩=some (.slice (some ⟨b2,off2,none⟩) q.phis.length pc):=hx2 0
       clear hx2
       obtain ⟨rows,hrw1,hrw2,hown⟩:=HIm.out
       have HR1:=hideI hrw1
       have HR2:=hideI hrw2
       clear hrw1 hrw2
       have G0:Hid (∀ W,Ka w.heap.size wr W → W.cell? ⟨wo.heap.size,0,none⟩=some (.slice (some ⟨b2,off2,none⟩) q.phis.length pc) ∧ W.cell? ⟨b2,off2 + j * 4 + 1,none⟩=some (.int .i64 p.typ) ∧ W.cell? ⟨b2,off2 + j * 4 + 2,none⟩=some (.slice (some ⟨b4,off4,none⟩) p.fr.length fc) ∧ W.cell? ⟨b2,off2 + j * 4 + 3,none⟩=some (.slice (some ⟨b3,off3,none⟩) p.vals.length vc) ∧ W.cell? ⟨b3,off3 + m,none⟩=some (.int .i64 v) ∧ W.cell? ⟨b4,off4 + m,none⟩=some (.int .i64 fr)) :=
        fun W hW => ⟨((HFj.out.trans HFm.out).trans hW).row HB1.out (by decide) 0,(hW.keeps _ _ (by omega)).trans d1,(hW.keeps _ _ (by omega)).trans d2,(hW.keeps _ _ (by omega)).trans d3,(hW.keeps _ _ (by omega)).trans f3,(hW.keeps _ _ (by omega)).trans f4⟩
       go_wp2
       go_region_held3 (fun w' => w'.cell? ⟨wo.heap.size,0,none⟩=some (.slice (some ⟨b2,off2,none⟩) q.phis.length pc) ∧ w'.cell? ⟨b2,off2 + j * 4 + 1,none⟩=some (.int .i64 p.typ) ∧ w'.cell? ⟨b2,off2 + j * 4 + 2,none⟩=some (.slice (some ⟨b4,off4,none⟩) p.fr.length fc) ∧ w'.cell? ⟨b2,off2 + j * 4 + 3,none⟩=some (.slice (some ⟨b3,off3,none⟩) p.vals.length vc) ∧ w'.cell? ⟨b3,off3 + m,none⟩=some (.int .i64 v) ∧ w'.cell? ⟨b4,off4 + m,none⟩=some (.int .i64 fr)) (first | go_keep | exact G0.out _ ((((Ka.refl _ wr).alloc hsz2 _).drew).trans hka) | exact G0.out _ (((Ka.refl _ wr).alloc hsz2 _).trans hka))
        (first | (refine step_append_lies _ rfl (.tmp 44) (.tmp 71) _ rfl w.heap.size 48 i0 _ 5 40 Tryz.underlying45 hi hz0 hz1 hz2 rfl (by decide) _ _ _ rfl (hown.alloc _) ⟨wr.heap.size,0,none⟩ 1 1 [.int .i64 v,.int .i64 p.typ,.int .i64 k,.int .i64 (-1),.int .i64 fr] rfl rfl (five_new _ _ _) (by simp [Value.oneCell']) (by decide) (by unfold maxLen;omega) (by omega) (by simp;omega) _ rfl ?_;intro g1 cap1 w4 hown1 hgrow1 hor hgl1;have hka:=Ka.grown hgrow1 (hown.alloc _) (by simp;omega)))
       have HIN:Hid (RU w4 w.heap.size (.slice (some ⟨g1,0,none⟩) (uu.length + 1) cap1) (us2 ++ (p.vals.take (m + 1)).map fun v => (v,p.typ))):=by
        have:=RU.push (b:=p.typ) HR1.out HR2.out hown1
        rw [map_take' (fun v => (v,p.typ)) p.vals m v HV.out,← List.append_assoc,← HUU.out]
        exact this
       have HFN:Hid (Ka w.heap.size wi w4):=(HFm.out.trans (((Ka.refl _ wr).alloc hsz2 _).drew)).trans hka
       clear hown1 hgrow1 hor hgl1 hka
       go_wp2
       go_roundw
       case rel => exact ⟨m + 1,by omega,by go_num,HIN.out,HFN.out⟩
       case measure => simp [intOf];omega
      ·have HIend:Hid (RU wr w.heap.size u3 (us2 ++ usesPhi p)):=by have:=HIm.out;rw [List.take_of_length_le (by omega)] at this;exact this
       go_wp2
       go_roundw
       case rel => exact ⟨j + 1,by omega,by go_num,by rw [flat_take' _ _ _ _ HQ2.out,← List.append_assoc,← HU2.out];exact HIend.out,HFj.out.trans HFm.out⟩
       case measure => simp [intOf];omega
    ·have HIend:Hid (RU wr w.heap.size u3 (us1 ++ q.phis.flatMap usesPhi)):=by have:=HIj.out;rw [List.take_of_length_le (by omega)] at this;exact this
     go_wp2
     obtain ⟨wp,rfl⟩:∃ wp:World,wp=wr:=⟨_,rfl⟩
     clear hx1 hsz1 HK1 hlj
     obtain ⟨us3,hus3⟩:∃ us3,us3=us1 ++ q.phis.flatMap usesPhi:=⟨_,rfl⟩
     rw [← hus3] at HIend
     have HU3:=hideI hus3
     clear hus3
     go_loopw [3,8] (fun o i wr => ∃ j:Nat,j ≤ q.code.length ∧ i=.int .i64 j ∧ RU wr w.heap.size o (us3 ++ (q.code.take j).flatMap usesInstr) ∧ Ka w.heap.size W1 wr) (fun _ i _ => q.code.length - (intOf i).toNat)
     case atStart => exact ⟨0,Nat.zero_le _,rfl,by simpa using HIend.out,HFj.out⟩
     case round =>
      obtain ⟨j2,hj2,rfl,hIj2,hFj2⟩:=hrel
      have HIj2:=hideI hIj2
      have HFj2:=hideI hFj2
      have hx1:=hFj2.row HB1.out (by decide)
      have hsz1:wo.heap.size < wr.heap.size:=by have h1:=hFj2.size;have h2:=lt_of_heap HB1.out;omega
      have hsz0:w.heap.size ≤ wr.heap.size:=by omega
      have HK1:=hideI (Keeps.mono' ((hK0.out.trans HF1.out).trans hFj2).keeps hB)
      clear hIj2 hFj2
      by_cases hlj2:j2 < q.code.length
      ·obtain ⟨x,hp⟩:∃ x,q.code[j2]?=some x:=⟨_,List.getElem?_eq_getElem hlj2⟩
       have hxl:Hid (x.args.length=(takesS x.op).length):=HFO.out q (List.mem_of_getElem? HQ.out) x (List.mem_of_getElem? hp)
       obtain ⟨b2,off2,av,rfl,hb2,e0,e1,e2,e3,hf,_⟩:=HCX.out j2 x hp
       have d0:=(HK1.out b2 (off2 + j2 * 4) hb2).trans e0
       have HE2:=hideI e2
       have HQ2:=hideI hp
       obtain ⟨AA,ac,rfl,ham,hax⟩:=hf
       have HAX:=hideI hax
       clear e0 e1 e2 e3 hp hax
       obtain ⟨wi,rfl⟩:∃ wi:World,wi=wr:=⟨_,rfl⟩
       go_wp2_with (go_at_call 57;refine (refArgs_any _ _).mono ?_;rintro e w3 ⟨tv,rfl,htv,hbA⟩;obtain ⟨TK,tkc,rfl,htm,htx⟩:=htv;have HTX:=hideI htx;have HBA:=hideI hbA;clear htx hbA)
       have HF3:Hid (Ka w.heap.size W1 w3):=HFj2.out.trans (Ka.of_below HBA.out hsz0)
       have HI3:Hid (RU w3 w.heap.size u3 (us3 ++ (q.code.take j2).flatMap usesInstr)):=HIj2.out.below HBA.out
       obtain ⟨us4,hus4⟩:∃ us4,us4=us3 ++ (q.code.take j2).flatMap usesInstr:=⟨_,rfl⟩
       rw [← hus4] at HI3
       have HU4:=hideI hus4
       have hsz3:wi.heap.size ≤ w3.heap.size:=HBA.out.size
       clear hus4 hx1 d0
       go_loopw [3,12] (fun o i wr => ∃ m:Nat,m ≤ (takesS x.op).length ∧ i=.int .i64 m ∧ RU wr w.heap.size o (us4 ++ (x.args.take m).zip ((takesS x.op).take m)) ∧ Ka w.heap.size w3 wr) (fun _ i _ => (takesS x.op).length - (intOf i).toNat)
       case atStart => exact ⟨0,Nat.zero_le _,rfl,by simpa using HI3.out,Ka.refl _ _⟩
       case round =>
        obtain ⟨m,hm,rfl,hIm,hFm⟩:=hrel
        have HIm:=hideI hIm
        have HFm:=hideI hFm
        have HK2:=hideI (Keeps.mono' ((hK0.out.trans HF1.out).trans (HF3.out.trans hFm)).keeps hB)
        have hsz2:w.heap.size ≤ wr.heap.size:=by have h1:=hFm.size;omega
        clear hIm hFm
        by_cases hlm:m < (takesS x.op).length
        ·have hla:m < x.args.length:=by rw [hxl.out];exact hlm
         obtain ⟨b3,off3,rfl,hb3,e3⟩:=HAX.out m hla
         obtain ⟨v,hv⟩:∃ v,x.args[m]?=some v:=⟨_,List.getElem?_eq_getElem hla⟩
         obtain ⟨t,ht⟩:∃ t,(takesS x.op)[m]?=some t:=⟨_,List.getElem?_eq_getElem hlm⟩
         obtain ⟨g,cs,rfl,hg,hgb,hgc⟩:=HTX.out (by omega)
         have hgx:=(HFm.out.row hgb (by decide) m).trans (hgc m hlm)
         rw [hv] at e3
         rw [ht] at hgx
         have f3:=(HK2.out b3 (off3 + m) hb3).trans e3
         have d2:=(HK2.out b2 (off2 + j2 * 4 + 2) hb2).trans HE2.out
         simp only [Option.getD_some] at f3 hgx
         have HV:=hideI hv
         have HT2:=hideI ht
         have HGB:=hideI (And.intro hgb (hgc m hlm))
         have hfw:=few_instr HFEW.out HQ.out HQ2.out hla hxl.out us1 us3 us4 HU1.out HU3.out HU4.out
         obtain ⟨uu,huu⟩:∃ uu,uu=us4 ++ (x.args.take m).zip ((takesS x.op).take m):=⟨_,rfl⟩
         rw [← huu] at hfw HIm
         have HUU:=hideI huu
         obtain ⟨rows,hrw1,hrw2,hown⟩:=HIm.out
         have HR1:=hideI hrw1
         have HR2:=hideI hrw2
         have g0:wr.cell? ⟨wo.heap.size,1,none⟩=some (.slice (some ⟨b2,off2,none⟩) q.code.length cc):=((HF3.out.trans HFm.out).row HB1.out (by decide) 1)
         clear e3 hv ht hgb hgc huu hrw1 hrw2
         have G0:Hid (∀ W,Ka w.heap.size wr W → W.cell? ⟨wo.heap.size,1,none⟩=some (.slice (some ⟨b2,off2,none⟩) q.code.length cc) ∧ W.cell? ⟨b2,off2 + j2 * 4 + 2,none⟩=some (.slice (some ⟨b3,off3,none⟩) x.args.length ac) ∧ W.cell? ⟨b3,off3 + m,none⟩=some (.int .i64 v) ∧ W.cell? ⟨g,m,none⟩=some (.int .i64 t)) :=
          fun W hW => ⟨((HF3.out.trans HFm.out).trans hW).row HB1.out (by decide) 1,(hW.keeps _ _ (by omega)).trans d2,(hW.keeps _ _ (by omega)).trans f3,(by rw [((HFm.out.trans hW).row HGB.out.1 (by decide) m),← hgx,HFm.out.row HGB.out.1 (by decide) m])⟩
         go_wp2
         go_region_held3 (fun w' => w'.cell? ⟨wo.heap.size,1,none⟩=some (.slice (some ⟨b2,off2,none⟩) q.code.length cc) ∧ w'.cell? ⟨b2,off2 + j2 * 4 + 2,none⟩=some (.slice (some ⟨b3,off3,none⟩) x.args.length ac) ∧ w'.cell? ⟨b3,off3 + m,none⟩=some (.int .i64 v) ∧ w'.cell? ⟨g,m,none⟩=some (.int .i64 t)) (first | go_keep | exact G0.out _ ((((Ka.refl _ wr).alloc hsz2 _).drew).trans hka) | exact G0.out _ (((Ka.refl _ wr).alloc hsz2 _).trans hka))
          (first | (refine step_append_lies _ rfl (.tmp 97) (.tmp 114) _ rfl w.heap.size 48 i0 _ 5 40 Tryz.underlying45 hi hz0 hz1 hz2 rfl (by decide) _ _ _ rfl (hown.alloc _) ⟨wr.heap.size,0,none⟩ 1 1 [.int .i64 v,.int .i64 t,.int .i64 k,.int .i64 j2,.int .i64 0] rfl rfl (five_new _ _ _) (by simp [Value.oneCell']) (by decide) (by unfold maxLen;omega) (by omega) (by simp;omega) _ rfl ?_;intro g1 cap1 w4 hown1 hgrow1 hor hgl1;have hka:=Ka.grown hgrow1 (hown.alloc _) (by simp;omega)))
         have HIN:Hid (RU w4 w.heap.size (.slice (some ⟨g1,0,none⟩) (uu.length + 1) cap1) (us4 ++ (x.args.take (m + 1)).zip ((takesS x.op).take (m + 1)))):=by
          have:=RU.push (b:=t) HR1.out HR2.out hown1
          rw [zip_take' _ _ _ _ _ HV.out HT2.out,← List.append_assoc,← HUU.out]
          exact this
         have HFN:Hid (Ka w.heap.size w3 w4):=(HFm.out.trans (((Ka.refl _ wr).alloc hsz2 _).drew)).trans hka
         clear hown1 hgrow1 hor hgl1 hka
         go_wp2
         go_roundw
         case rel => exact ⟨m + 1,by omega,by go_num,HIN.out,HFN.out⟩
         case measure => simp [intOf];omega
        ·have HIe:Hid (RU wr w.heap.size u3 (us4 ++ usesInstr x)):=by
          have:=HIm.out
          rw [List.take_of_length_le (by rw [hxl.out];omega),List.take_of_length_le (by omega)] at this
          exact this
         go_wp2
         go_roundw
         case rel => exact ⟨j2 + 1,by omega,by go_num,by rw [flat_take' _ _ _ _ HQ2.out,← List.append_assoc,← HU4.out];exact HIe.out,HF3.out.trans HFm.out⟩
         case measure => simp [intOf];omega
      ·have HIe:Hid (RU wr w.heap.size u3 (us3 ++ q.code.flatMap usesInstr)):=by have:=HIj2.out;rw [List.take_of_length_le (by omega)] at this;exact this
       have HUB:Hid ((bs.take (k + 1)).flatMap usesBlock=(us3 ++ q.code.flatMap usesInstr) ++ usesTerm q.term):=by
        show _=_
        rw [flat_take' _ _ _ _ HQ.out,HU3.out,HU1.out]
        simp only [usesBlock,List.append_assoc]
       cases h2:q.term.op == 2
       ·cases h3:q.term.op == 3
        ·have hu:usesTerm q.term=[]:=by
          unfold usesTerm
          rw [if_neg (by simpa using h2),if_neg (by simpa using h3)]
         have HU:=hideI hu
         clear hu
         go_wp2
         go_roundw
         case rel => exact ⟨k + 1,by omega,by go_num,by rw [HUB.out,HU.out,List.append_nil];exact HIe.out,HF1.out.trans HFj2.out⟩
         case measure => simp [intOf];omega
        ·have hu:usesTerm q.term=[(q.term.val,0)]:=by
          unfold usesTerm
          rw [if_neg (by simpa using h2),if_pos (by simpa using h3)]
         have HU:=hideI hu
         have hfw:=few_term HFEW.out HQ.out (by rw [hu];exact Nat.zero_lt_one) us1 us3 HU1.out HU3.out
         clear hu
         obtain ⟨uu,huu⟩:∃ uu,uu=us3 ++ q.code.flatMap usesInstr:=⟨_,rfl⟩
         rw [← huu] at hfw HIe HUB
         clear huu
         obtain ⟨rows,hrw1,hrw2,hown⟩:=HIe.out
         have HR1:=hideI hrw1
         have HR2:=hideI hrw2
         clear hrw1 hrw2
         go_wp2_with (at_builtin;refine wpList_append_lies _ rfl _ _ _ rfl w.heap.size 48 i0 _ 5 40 Tryz.underlying45 hi hz0 hz1 hz2 rfl (by decide) _ _ _ rfl (hown.alloc _) ⟨wr.heap.size,0,none⟩ 1 1 [.int .i64 q.term.val,.int .i64 0,.int .i64 k,.int .i64 q.code.length,.int .i64 0] rfl rfl (five_new _ _ _) (by simp [Value.oneCell']) (by decide) (by unfold maxLen;omega) (by omega) (by simp;omega) _ rfl ?_;intro g1 cap1 w4 hown1 hgrow1 hor hgl1;have hka:=hideI (Ka.grown hgrow1 (hown.alloc _) (by simp;omega));have HO1:=hideI hown1;clear hown1 hgrow1 hor hgl1)
         go_roundw
         case rel => exact ⟨k + 1,by omega,by go_num,by rw [HUB.out,HU.out];exact RU.push HR1.out HR2.out HO1.out,(HF1.out.trans (HFj2.out.alloc hsz0 _)).trans hka.out⟩
         case measure => simp [intOf];omega
       ·have hu:usesTerm q.term=[(q.term.val,2)]:=by
         unfold usesTerm
         rw [if_pos (by simpa using h2)]
        have HU:=hideI hu
        have hfw:=few_term HFEW.out HQ.out (by rw [hu];exact Nat.zero_lt_one) us1 us3 HU1.out HU3.out
        clear hu
        have h3:(q.term.op == 3)=false:=by
         have:q.term.op=2:=by simpa using h2
         rw [this];rfl
        obtain ⟨uu,huu⟩:∃ uu,uu=us3 ++ q.code.flatMap usesInstr:=⟨_,rfl⟩
        rw [← huu] at hfw HIe HUB
        clear huu
        obtain ⟨rows,hrw1,hrw2,hown⟩:=HIe.out
        have HR1:=hideI hrw1
        have HR2:=hideI hrw2
        clear hrw1 hrw2
        go_wp2_with (at_builtin;refine wpList_append_lies _ rfl _ _ _ rfl w.heap.size 48 i0 _ 5 40 Tryz.underlying45 hi hz0 hz1 hz2 rfl (by decide) _ _ _ rfl (hown.alloc _) ⟨wr.heap.size,0,none⟩ 1 1 [.int .i64 q.term.val,.int .i64 2,.int .i64 k,.int .i64 q.code.length,.int .i64 0] rfl rfl (five_new _ _ _) (by simp [Value.oneCell']) (by decide) (by unfold maxLen;omega) (by omega) (by simp;omega) _ rfl ?_;intro g1 cap1 w4 hown1 hgrow1 hor hgl1;have hka:=hideI (Ka.grown hgrow1 (hown.alloc _) (by simp;omega));have HO1:=hideI hown1;have hx4:=((HFj2.out.alloc hsz0 _).trans hka.out).row HB1.out (by decide);clear hown1 hgrow1 hor hgl1)
        go_roundw
        case rel => exact ⟨k + 1,by omega,by go_num,by rw [HUB.out,HU.out];exact RU.push HR1.out HR2.out HO1.out,(HF1.out.trans (HFj2.out.alloc hsz0 _)).trans hka.out⟩
        case measure => simp [intOf];omega
  ·go_wp2
   go_ret
   refine ⟨_,rfl,?_,(hK0.out.trans HFk.out).below⟩
   have:=HIk.out
   rw [List.take_of_length_le (by omega)] at this
   exact this
end Go.Proofs.YtikogmpibkefdaaGreat
