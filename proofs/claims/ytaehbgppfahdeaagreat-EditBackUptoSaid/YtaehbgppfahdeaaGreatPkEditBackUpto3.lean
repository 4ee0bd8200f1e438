/- What EditBackUpto rests on, part 3: LookAt, Sizes, CountM, Keys, Law, Open, Facts, GOrder, GReach, GLists. -/
import Derived.Test.YtaehbgppfahdeaaGreatPkEditBackUpto2
import Derived.ProofKit
import Derived.OpenShut
import Derived.SizedLaws
import Derived.Deep.Slices
import Derived.OwnWalk
import Derived.RegionTactic
import Derived.ChangeAlike
import Derived.BigRegion
import Derived.Outline
import Derived.Laws.OwnMore
import Derived.Laws.EntriesVeiled
import Derived.Deep.Onto

namespace Go.Proofs.YtaehbgppfahdeaaGreat
open Go.RowKit Go.Maps
theorem formed_code {f:FuncM}:∀ {l:List InstrM} {ds d:Defs},codeStep f ds l=some d → ∀ x ∈ l,x.args.length=(takesS x.op).length:=by
 intro l
 induction l with
 | nil => intro ds d _ x hx;cases hx
 | cons y l ih =>
  intro ds d h x hx
  unfold codeStep at h
  rw [Option.bind_eq_some_iff] at h
  obtain ⟨d1,h1,h2⟩:=h
  rcases List.mem_cons.1 hx with rfl | hx
  ·unfold instrStep at h1
   split at h1
   ·rename_i hi
    unfold instrB at hi
    simp only [Bool.and_eq_true,beq_iff_eq] at hi
    exact hi.2.1
   ·cases h1
  ·exact ih h2 x hx
theorem formed_blocks {f:FuncM}:∀ {l:List BlockM} {ds d:Defs},blocksStep f ds l=some d → ∀ b ∈ l,∀ x ∈ b.code,x.args.length=(takesS x.op).length:=by
 intro l
 induction l with
 | nil => intro ds d _ x hx;cases hx
 | cons y l ih =>
  intro ds d h x hx
  unfold blocksStep at h
  rw [Option.bind_eq_some_iff] at h
  obtain ⟨d1,h1,h2⟩:=h
  rcases List.mem_cons.1 hx with rfl | hx
  ·unfold blockStep at h1
   rw [Option.bind_eq_some_iff] at h1
   obtain ⟨d2,h3,h4⟩:=h1
   rw [Option.bind_eq_some_iff] at h4
   obtain ⟨d3,h5,h6⟩:=h4
   exact formed_code h5
  ·exact ih h2 x hx
theorem formed_args {f:FuncM} {ds:Defs} (h:formedM f=some ds):∀ b ∈ f.blocks,∀ x ∈ b.code,x.args.length=(takesS x.op).length:=by
 unfold formedM at h
 split at h
 ·exact formed_blocks h
 ·cases h
theorem look_none {f:FuncM} (h:formedM f=none):lookM f=(2,[]):=by
 unfold lookM
 rw [h]
theorem look_some {f:FuncM} {ds:Defs} (h:formedM f=some ds):lookM f=if usesErr ds (usesM f)=0 then (0,ds) else (usesErr ds (usesM f),[]):=by
 unfold lookM usesErr
 rw [h]
 cases h1:unknownB ds (usesM f) <;> cases h2:unfitB ds (usesM f) <;> simp [h1,h2]
theorem grown_free {w w':World} {g M:Nat} {cs:Array Value} {t:TypeId} (h:w.heap[g]?=some (.cells cs t (0,0))) (hg:w.grownBy w' (some M)) (hM:g ≠ M):∀ o,w'.frozen? ⟨g,o,none⟩=false:=by
 intro o
 simp [World.frozen?,(hg.block _ (lt_of_heap h) (by simpa using hM)).trans h]
theorem free_row {w w':World} {g:Nat} {cs:Array Value} {t:TypeId} (h:w.heap[g]?=some (.cells cs t (0,0))) (hk:w'.heap[g]?=w.heap[g]?):∀ o,w'.frozen? ⟨g,o,none⟩=false:=by
 intro o
 simp [World.frozen?,hk.trans h]
def LookPost (f:FuncM) (pv bv:Value) (w:World) (e:Ending) (w':World):Prop :=
 Below w.heap.size w w' ∧
 ((lookM f).1=0 ∧ (∃ M,w.heap.size ≤ M ∧ e=.returned (.tuple #[.agg #[pv,.int .i64 f.arrays,.int .i64 f.cells,bv,.map (some M)],.int .i64 0]) ∧ MapIs w' M (lookM f).2) ∨
  (lookM f).1 ≠ 0 ∧ e=.returned (.tuple #[.agg #[.slice none 0 0,.int .i64 0,.int .i64 0,.slice none 0 0,.map none],.int .i64 (lookM f).1]))
set_option maxHeartbeats 1000000 in
theorem lookAt_any (f:FuncM) (B:Nat) (pv bv:Value) (w:World) (hpv:Ints w B pv f.params) (hbv:BlocksR w B bv f.blocks) (hB:B ≤ w.heap.size) (hid:∀ u ∈ usesM f,I64 u.1) :
  Calls Tryz.prog 63 #[.agg #[pv,.int .i64 f.arrays,.int .i64 f.cells,bv]] w (LookPost f pv bv w):=by
 have HP:=hideI hpv
 have HB:=hideI hbv
 have HID:=hideI hid
 obtain ⟨P,pc,rfl,_⟩:=hpv
 obtain ⟨A,c,rfl,_⟩:=hbv
 have hmm:=@run_makeMap Tryz.prog
 obtain ⟨W4,hW4⟩:∃ W4:World,W4=(((w.alloc (.cells #[.slice P f.params.length pc,.int .i64 f.arrays,.int .i64 f.cells,.slice A f.blocks.length c] 25)).alloc (.cells #[.slice none 0 0,.int .i64 0,.int .i64 0,.slice none 0 0,.map none] 129)).alloc (.map #[] 0)).alloc (.cells #[.slice P f.params.length pc,.int .i64 f.arrays,.int .i64 f.cells,.slice A f.blocks.length c,.map (some (w.heap.size + 1 + 1))] 129):=⟨_,rfl⟩
 have hsz:W4.heap.size=w.heap.size + 4:=by rw [hW4];simp
 have hBl:Below w.heap.size w W4:=by rw [hW4];exact (((((Below.refl _ w).alloc (Nat.le_refl _) _).alloc (by simp) _).alloc (by simp;omega) _).alloc (by simp;omega) _)
 have h1:W4.heap[w.heap.size + 1]?=some (.cells #[.slice none 0 0,.int .i64 0,.int .i64 0,.slice none 0 0,.map none] 129 (0,0)):=by
  rw [hW4,Below.heap_alloc _ _ _ (by simp),Below.heap_alloc _ _ _ (by simp)]
  have:=heap_alloc_new (w.alloc (.cells #[.slice P f.params.length pc,.int .i64 f.arrays,.int .i64 f.cells,.slice A f.blocks.length c] 25)) (.cells #[.slice none 0 0,.int .i64 0,.int .i64 0,.slice none 0 0,.map none] 129)
  simpa using this
 have h3:W4.heap[w.heap.size + 1 + 1 + 1]?=some (.cells #[.slice P f.params.length pc,.int .i64 f.arrays,.int .i64 f.cells,.slice A f.blocks.length c,.map (some (w.heap.size + 1 + 1))] 129 (0,0)):=by
  rw [hW4]
  have:=heap_alloc_new (((w.alloc (.cells #[.slice P f.params.length pc,.int .i64 f.arrays,.int .i64 f.cells,.slice A f.blocks.length c] 25)).alloc (.cells #[.slice none 0 0,.int .i64 0,.int .i64 0,.slice none 0 0,.map none] 129)).alloc (.map #[] 0)) (.cells #[.slice P f.params.length pc,.int .i64 f.arrays,.int .i64 f.cells,.slice A f.blocks.length c,.map (some (w.heap.size + 1 + 1))] 129)
  simpa using this
 have hm:MapIs W4 (w.heap.size + 1 + 1) []:=by
  rw [hW4]
  have:=MapIs.new ((w.alloc (.cells #[.slice P f.params.length pc,.int .i64 f.arrays,.int .i64 f.cells,.slice A f.blocks.length c] 25)).alloc (.cells #[.slice none 0 0,.int .i64 0,.int .i64 0,.slice none 0 0,.map none] 129))
  exact MapIs.alloc (by simpa using this) _
 have hk:Keeps B w W4:=Keeps.of_below (hBl.mono hB)
 have HF:=hideI (formed_any f B (w.heap.size + 1 + 1) (.slice P f.params.length pc) (.slice A f.blocks.length c) W4 (HP.out.keeps hk) (HB.out.keeps hk) (by omega) hm)
 have HH1:=hideI h1
 have HH3:=hideI h3
 have HSZ:=hideI hsz
 have HBl:=hideI hBl
 clear hid hsz hBl h1 h3 hm hk
 subst hW4
 cases hf:formedM f with
 | none =>
  have HFM:=hideI hf
  clear hf
  go_enter Tryz.func63,Tryz.ntmps63
  go_wp2_with (go_at_call 109;refine HF.out.mono ?_;rintro e w5 ⟨rfl,hg5,_⟩;rw [HFM.out];have k1:=grown_row HH1.out hg5 (by omega);have k3:=grown_row HH3.out hg5 (by omega);have q1:=grown_free HH1.out hg5 (by omega);have HG5:=hideI hg5;clear hg5)
  refine bodyPost_ret (v:=.tuple #[.agg #[.slice none 0 0,.int .i64 0,.int .i64 0,.slice none 0 0,.map none],.int .i64 2]) (by simp [results,Tryz.results63,go_sem,k1]) rfl ?_
  refine ⟨?_,.inr ⟨by rw [look_none HFM.out];decide,by rw [look_none HFM.out]⟩⟩
  exact (((((HBl.out.grown HG5.out (by rw [HSZ.out];omega) (by intro k hk;injection hk with hk;omega)).setCell (by simp) _).setCell (by simp) _).setCell (by simp) _).setCell (by simp) _).setCell (by simp) _
 | some ds =>
  have HFM:=hideI hf
  clear hf
  cases hc:(usesErr ds (usesM f) != 0)
  ·have HC:=hideI hc
   go_enter Tryz.func63,Tryz.ntmps63
   go_wp2_with (first
    | (go_at_call 109;refine HF.out.mono ?_;rintro e w5 ⟨rfl,hg5,hm5⟩;rw [HFM.out];have k1:=grown_row HH1.out hg5 (by omega);have k3:=grown_row HH3.out hg5 (by omega);have q1:=grown_free HH1.out hg5 (by omega);have HG5:=hideI hg5;have HM5:=hideI (hm5 _ HFM.out);have hz5:w.heap.size + 1 + 1 + 1 < w5.heap.size:=(by have:=hg5.size;rw [HSZ.out] at this;omega);clear hg5 hm5)
    | (go_at_call 110;refine (checkUses_any f ds B (w.heap.size + 1 + 1) _ _ _ _ _ (HB.out.keeps (Keeps.of_below ((HBl.out.grown HG5.out (by rw [HSZ.out];omega) (by intro k hk;injection hk with hk;omega)).mono hB))) (by omega) HM5.out (formed_args HFM.out) HID.out).mono ?_;rintro e w6 ⟨rfl,hb6⟩;have k6:=row_cells (HH1.out) ((hb6.block _ (by omega)).trans (HG5.out.block _ (by rw [HSZ.out];omega) (by simp)));have q6:=free_row HH1.out ((hb6.block _ (by omega)).trans (HG5.out.block _ (by rw [HSZ.out];omega) (by simp)));have l6:=row_cells (HH3.out) ((hb6.block _ (by omega)).trans (HG5.out.block _ (by rw [HSZ.out];omega) (by simp)));have HB6:=hideI hb6;clear hb6))
   have h0:usesErr ds (usesM f)=0:=by simpa using HC.out
   have hl:lookM f=(0,ds):=by rw [look_some HFM.out,if_pos h0]
   refine bodyPost_ret (v:=.tuple #[.agg #[.slice P f.params.length pc,.int .i64 f.arrays,.int .i64 f.cells,.slice A f.blocks.length c,.map (some (w.heap.size + 1 + 1))],.int .i64 0]) (by simp [results,Tryz.results63,go_sem,k6]) rfl ?_
   refine ⟨((((((HBl.out.grown HG5.out (by rw [HSZ.out];omega) (by intro k hk;injection hk with hk;omega)).trans (HB6.out.mono (by omega))).setCell (by simp) _).setCell (by simp) _).setCell (by simp) _).setCell (by simp) _).setCell (by simp) _,.inl ⟨by rw [hl],w.heap.size + 1 + 1,by omega,rfl,?_⟩⟩
   rw [hl]
   exact (((((HM5.out.below HB6.out HM5.out.lt).set_ _ (by simp)).set_ _ (by simp)).set_ _ (by simp)).set_ _ (by simp)).set_ _ (by simp)
  ·have HC:=hideI hc
   go_enter Tryz.func63,Tryz.ntmps63
   go_wp2_with (first
    | (go_at_call 109;refine HF.out.mono ?_;rintro e w5 ⟨rfl,hg5,hm5⟩;rw [HFM.out];have k1:=grown_row HH1.out hg5 (by omega);have k3:=grown_row HH3.out hg5 (by omega);have q1:=grown_free HH1.out hg5 (by omega);have HG5:=hideI hg5;have HM5:=hideI (hm5 _ HFM.out);have hz5:w.heap.size + 1 + 1 + 1 < w5.heap.size:=(by have:=hg5.size;rw [HSZ.out] at this;omega);clear hg5 hm5)
    | (go_at_call 110;refine (checkUses_any f ds B (w.heap.size + 1 + 1) _ _ _ _ _ (HB.out.keeps (Keeps.of_below ((HBl.out.grown HG5.out (by rw [HSZ.out];omega) (by intro k hk;injection hk with hk;omega)).mono hB))) (by omega) HM5.out (formed_args HFM.out) HID.out).mono ?_;rintro e w6 ⟨rfl,hb6⟩;have k6:=row_cells (HH1.out) ((hb6.block _ (by omega)).trans (HG5.out.block _ (by rw [HSZ.out];omega) (by simp)));have q6:=free_row HH1.out ((hb6.block _ (by omega)).trans (HG5.out.block _ (by rw [HSZ.out];omega) (by simp)));have l6:=row_cells (HH3.out) ((hb6.block _ (by omega)).trans (HG5.out.block _ (by rw [HSZ.out];omega) (by simp)));have HB6:=hideI hb6;clear hb6))
   have h0:usesErr ds (usesM f) ≠ 0:=by simpa using HC.out
   have hl:lookM f=(usesErr ds (usesM f),[]):=by rw [look_some HFM.out,if_neg h0]
   refine bodyPost_ret (v:=.tuple #[.agg #[.slice none 0 0,.int .i64 0,.int .i64 0,.slice none 0 0,.map none],.int .i64 (usesErr ds (usesM f))]) (by simp [results,Tryz.results63,go_sem,k6]) rfl ?_
   exact ⟨((((((HBl.out.grown HG5.out (by rw [HSZ.out];omega) (by intro k hk;injection hk with hk;omega)).trans (HB6.out.mono (by omega))).setCell (by simp) _).setCell (by simp) _).setCell (by simp) _).setCell (by simp) _).setCell (by simp) _,.inr ⟨by rw [hl];exact h0,by rw [hl]⟩⟩
end Go.Proofs.YtaehbgppfahdeaaGreat

namespace Go.Proofs.YtaehbgppfahdeaaGreat
open Go.RowKit Go.Maps
theorem look_bd {f:FuncM} (h:(lookM f).1=0):f.blocks.length ≤ 512:=by
 cases hf:formedM f with
 | none => rw [look_none hf] at h;cases h
 | some ds =>
  unfold formedM at hf
  split at hf
  ·rename_i hl
   simp only [Bool.and_eq_true] at hl
   exact (limits_bd hl.1.1).2.2.2.2.2.2.1
  ·cases hf
set_option maxHeartbeats 1000000 in
theorem check_any (f:FuncM) (B:Nat) (pv bv:Value) (w:World) (hpv:Ints w B pv f.params) (hbv:BlocksR w B bv f.blocks) (hB:B ≤ w.heap.size) (hid:∀ u ∈ usesM f,I64 u.1) :
  Calls Tryz.prog 83 #[.agg #[pv,.int .i64 f.arrays,.int .i64 f.cells,bv]] w fun e w' => e=.returned (.int .i64 (lookM f).1) ∧ Below w.heap.size w w':=by
 have HP:=hideI hpv
 have HB:=hideI hbv
 have HID:=hideI hid
 obtain ⟨P,pc,rfl,_⟩:=hpv
 obtain ⟨A,c,rfl,_⟩:=hbv
 have hk:Keeps B w (w.alloc (.cells #[.slice P f.params.length pc,.int .i64 f.arrays,.int .i64 f.cells,.slice A f.blocks.length c] 25)):=(Keeps.refl w).alloc hB _
 have HL:=hideI (lookAt_any f B _ _ _ (HP.out.keeps hk) (HB.out.keeps hk) (by simp;omega) HID.out)
 clear hid hk
 go_enter Tryz.func83,Tryz.ntmps83
 go_wp2_with fail
 refine HL.out.mono ?_
 rintro e w1 ⟨hb1,h | h⟩
 ·obtain ⟨h0,M,hM,rfl,hm⟩:=h
  have H0:=hideI h0
  have HB1:=hideI (below_one (hb1.mono (by simp)))
  clear hb1 hm h0
  go_wp2
  go_ret
  exact ⟨by rw [H0.out];rfl,HB1.out.alloc HB1.out.size _⟩
 ·obtain ⟨h0,rfl⟩:=h
  have HB1:=hideI (below_one (hb1.mono (by simp)))
  clear hb1
  go_wp2
  go_ret
  exact ⟨rfl,HB1.out.alloc HB1.out.size _⟩
end Go.Proofs.YtaehbgppfahdeaaGreat

namespace Go.Proofs.YtaehbgppfahdeaaGreat
open Go.RowKit Go.Maps
def cntU (id:Int) (us:List (Int × Int)):Int:=(us.countP fun u => u.1 == id:Nat)
def typeOut (f:FuncM) (id:Int):Int × Int:=if (lookM f).1=0 then (match (lookM f).2.at id with | some t => (t,0) | none => (0,9)) else (0,(lookM f).1)
def useOut (f:FuncM) (id:Int):Int × Int:=if (lookM f).1=0 then (match (lookM f).2.at id with | some _ => (cntU id (usesM f),0) | none => (0,9)) else (0,(lookM f).1)
theorem typeOut_err {f:FuncM} {id:Int} (h:(lookM f).1 ≠ 0):typeOut f id=(0,(lookM f).1):=by unfold typeOut;rw [if_neg h]
theorem typeOut_none {f:FuncM} {id:Int} (h:(lookM f).1=0) (hd:(lookM f).2.at id=none):typeOut f id=(0,9):=by unfold typeOut;rw [if_pos h,hd]
theorem typeOut_some {f:FuncM} {id t:Int} (h:(lookM f).1=0) (hd:(lookM f).2.at id=some t):typeOut f id=(t,0):=by unfold typeOut;rw [if_pos h,hd]
theorem look_formed {f:FuncM} (h:(lookM f).1=0):formedM f=some (lookM f).2:=by
 cases hf:formedM f with
 | none => rw [look_none hf] at h;cases h
 | some ds =>
  rw [look_some hf] at h ⊢
  split at h
  ·rename_i hu
   rw [if_pos hu]
  ·rename_i hu
   exact absurd h hu
end Go.Proofs.YtaehbgppfahdeaaGreat

namespace Go.Proofs.YtaehbgppfahdeaaGreat
open Go.RowKit Go.Maps
theorem at_some {ds:Defs} {k:Int}:(ds.at k).isSome=true ↔ k ∈ ds.map (·.1):=by
 unfold Defs.at
 rw [Option.isSome_map,List.find?_isSome]
 simp only [List.mem_map,beq_iff_eq]
theorem nodup_snoc {ds:Defs} {id t:Int} (h:(ds.map (·.1)).Nodup) (hn:ds.at id=none):((ds ++ [(id,t)]).map (·.1)).Nodup:=by
 rw [List.map_append,List.nodup_append]
 refine ⟨h,by simp,?_⟩
 intro a ha b hb e
 simp at hb
 subst hb e
 have:=at_some.2 ha
 rw [hn] at this
 cases this
theorem addDef_nodup {np:Nat} {ds d:Defs} {id t:Int} (h:(ds.map (·.1)).Nodup) (ha:addDef np ds id t=some d):(d.map (·.1)).Nodup:=by
 unfold addDef defB at ha
 split at ha
 ·rename_i hc
  injection ha with ha
  subst ha
  simp only [Bool.and_eq_true,Bool.not_eq_true',Option.isSome_eq_false_iff,Option.isNone_iff_eq_none] at hc
  exact nodup_snoc h hc.1
 ·cases ha
theorem phisStep_nodup {f:FuncM}:∀ {l:List PhiM} {ds d:Defs},(ds.map (·.1)).Nodup → phisStep f ds l=some d → (d.map (·.1)).Nodup:=by
 intro l
 induction l with
 | nil => intro ds d hn h;injection h with h;subst h;exact hn
 | cons p l ih =>
  intro ds d hn h
  unfold phisStep at h
  rw [Option.bind_eq_some_iff] at h
  obtain ⟨d1,h1,h2⟩:=h
  refine ih ?_ h2
  unfold phiStep at h1
  split at h1
  ·exact addDef_nodup hn h1
  ·cases h1
theorem codeStep_nodup {f:FuncM}:∀ {l:List InstrM} {ds d:Defs},(ds.map (·.1)).Nodup → codeStep f ds l=some d → (d.map (·.1)).Nodup:=by
 intro l
 induction l with
 | nil => intro ds d hn h;injection h with h;subst h;exact hn
 | cons p l ih =>
  intro ds d hn h
  unfold codeStep at h
  rw [Option.bind_eq_some_iff] at h
  obtain ⟨d1,h1,h2⟩:=h
  refine ih ?_ h2
  unfold instrStep at h1
  split at h1
  ·split at h1
   ·split at h1
    ·injection h1 with h1;subst h1;exact hn
    ·cases h1
   ·exact addDef_nodup hn h1
  ·cases h1
theorem blocksStep_nodup {f:FuncM}:∀ {l:List BlockM} {ds d:Defs},(ds.map (·.1)).Nodup → blocksStep f ds l=some d → (d.map (·.1)).Nodup:=by
 intro l
 induction l with
 | nil => intro ds d hn h;injection h with h;subst h;exact hn
 | cons p l ih =>
  intro ds d hn h
  unfold blocksStep at h
  rw [Option.bind_eq_some_iff] at h
  obtain ⟨d1,h1,h2⟩:=h
  refine ih ?_ h2
  unfold blockStep at h1
  rw [Option.bind_eq_some_iff] at h1
  obtain ⟨d2,h3,h4⟩:=h1
  rw [Option.bind_eq_some_iff] at h4
  obtain ⟨d3,h5,h6⟩:=h4
  split at h6
  ·injection h6 with h6
   subst h6
   exact codeStep_nodup (phisStep_nodup hn h3) h5
  ·cases h6
theorem paramDefs_ge (l:List Int):∀ j,∀ d ∈ paramDefs j l,(j:Int) ≤ d.1:=by
 induction l with
 | nil => intro j d h;cases h
 | cons a l ih =>
  intro j d h
  rcases List.mem_cons.1 h with rfl | h
  ·exact Int.le_refl _
  ·have:=ih (j + 1) d h
   omega
theorem paramDefs_nodup (l:List Int):∀ j,((paramDefs j l).map (·.1)).Nodup:=by
 induction l with
 | nil => intro j;exact List.nodup_nil
 | cons a l ih =>
  intro j
  show (((j:Int),a).1 :: (paramDefs (j + 1) l).map (·.1)).Nodup
  rw [List.nodup_cons]
  refine ⟨fun h => ?_,ih (j + 1)⟩
  obtain ⟨d,hd,he⟩:=List.mem_map.1 h
  have:=paramDefs_ge l (j + 1) d hd
  simp only at he
  omega
theorem formed_nodup {f:FuncM} {ds:Defs} (h:formedM f=some ds):(ds.map (·.1)).Nodup:=by
 unfold formedM at h
 split at h
 ·exact blocksStep_nodup (paramDefs_nodup _ _) h
 ·cases h
def idsS (f:FuncM):List Int:=((lookM f).2.map (·.1)).mergeSort fun x y => decide (x ≤ y)
def idsOut (f:FuncM):List Int:=if (lookM f).1=0 then idsS f else []
end Go.Proofs.YtaehbgppfahdeaaGreat

namespace Go.Proofs.YtaehbgppfahdeaaGreat
open Go.ChangeShapes Go.WideShapes Go.ChangeAt Go.RowKit
theorem own:ownKnob Tryz.prog.godebug=none:=by kernel_rfl
section
variable {H:Type} {enc:TypeId × Value → H} {P:Program}
theorem law_args (hl:laidOutB P=true) {W W':World} (hb:Below W.heap.size W W'):∀ (ts:List TypeId) (vs:List Value) (ds:List (DataW H)) (ps:List MemPlace),
  DataW.TrodAll enc P W 0 (fun _ => true) true ts vs ds ps → (∀ t ∈ ts,P.readableRec t=true ∧ t < P.types.size) → (∀ x ∈ ps,x.block < W.heap.size) →
  DataW.TrodAll enc P W' 0 (fun b => decide (b < W.heap.size)) true ts vs ds ps:=by
 intro ts
 induction ts with
 | nil =>
  intro vs ds ps h _ _
  cases vs <;> cases ds <;> first | exact h | exact h.elim
 | cons t ts ih =>
  intro vs ds ps h hr hlt
  cases vs with
  | nil => cases ds <;> exact h.elim
  | cons v vs =>
   cases ds with
   | nil => exact h.elim
   | cons d ds =>
    obtain ⟨p,q,h1,h2,rfl⟩:=h
    have hrt:=hr t (List.mem_cons_self ..)
    exact ⟨p,q,Below.trod hl hrt.1 hrt.2 h1 hb (fun x hx => hlt x (List.mem_append_left _ hx)),
     ih vs ds q h2 (fun u hu => hr u (List.mem_cons_of_mem _ hu)) (fun x hx => hlt x (List.mem_append_right _ hx)),rfl⟩
theorem law_post (hl:laidOutB P=true) {fn:Func} {s:ChangeSpec} {apart fresh:Bool} {W W':World} {args:Array Value} {ds:List (DataW H)} {before:List MemPlace} {tb:TypeId}
  (hW:DataW.Whole enc P fn.params.toList s.vars apart W args.toList ds [] before) (hv:s.vars=[]) (hr:fn.resultTypes=#[tb]) (htb:P.underlying tb=some .bool)
  (hres:(s.fn H (ds ++ [])).results=[.lit (.bool true)]) (harg:(s.fn H (ds ++ [])).args=ds) (hvar:(s.fn H (ds ++ [])).vars=[])
  (hread:∀ t ∈ fn.params.toList,P.readableRec t=true ∧ t < P.types.size) (hb:Below W.heap.size W W') :
  s.post enc P fn apart fresh false false W args (.bool true) W':=by
 have hlt:∀ p ∈ before,p.block < W.heap.size:=fun p hp => hW.lt p hp
 have hW0:=hW
 obtain ⟨p,q,hA,hV,rfl,hz,hn⟩:=hW
 rw [hv] at hV
 have hq:q=[]:=hV
 subst hq
 refine ⟨ds,[],p ++ [],[],p,[],hW0,?_,?_,?_,?_,fun h => by cases h⟩
 ·rw [hr,hres]
  exact trodAll_cons_mk (shut_bool htb _) trodAll_mk0
 ·rw [harg]
  exact law_args hl hb _ _ _ _ hA hread (fun x hx => hlt x (by simpa using hx))
 ·rw [hv,hvar]
  rfl
 ·exact hb.frame _
end
end Go.Proofs.YtaehbgppfahdeaaGreat

namespace Go.Proofs.YtaehbgppfahdeaaGreat
open Go.ChangeShapes Go.WideShapes Go.ChangeAt Go.RowKit Go.Deep
theorem list_choose {α:Type} {R:Nat → α → Prop}:∀ n,(∀ k,k < n → ∃ a,R k a) → ∃ l:List α,l.length=n ∧ ∀ k a,l[k]?=some a → R k a:=by
 intro n
 induction n with
 | zero => intro _;exact ⟨[],rfl,fun k a h => by simp at h⟩
 | succ n ih =>
  intro h
  obtain ⟨l,hl,hr⟩:=ih (fun k hk => h k (by omega))
  obtain ⟨a,ha⟩:=h n (by omega)
  refine ⟨l ++ [a],by simp [hl],fun k b hb => ?_⟩
  rw [List.getElem?_append] at hb
  split at hb
  ·exact hr k b hb
  ·rename_i hk
   have hk2:k - l.length=0:=by
    cases hc:k - l.length with
    | zero => rfl
    | succ m => rw [hc] at hb;simp at hb
   rw [hk2] at hb
   simp at hb
   subst hb
   rw [show k=n from by omega]
   exact ha
section
variable {H:Type} {enc:TypeId × Value → H} {w:World}
abbrev Rd (enc:TypeId × Value → H) (w:World) (fuel:Nat) (t:TypeId) (cs:List Value) (x:DataW H × List MemPlace):Prop:=DataW.trod enc Tryz.prog w 0 (fun _ => true) true fuel t cs=some x
def Sz (t:TypeId) (d:DataW H):Prop:=∀ n ∈ d.weights Tryz.prog t,n ≤ reachBytes
theorem Sz.slice {t e:TypeId} {es sp:List (DataW H)} (h:Sz t (.slice es sp)) (hu:Tryz.prog.underlying t=some (.slice e)):(es.length + sp.length) * Tryz.prog.bytesOf e ≤ reachBytes ∧ ∀ d ∈ es,Sz e d:=by
 unfold Sz at h
 simp only [DataW.weights,hu] at h
 refine ⟨h _ (List.mem_cons_self ..),fun d hd n hn => h n (List.mem_cons_of_mem _ (List.mem_append_left _ ?_))⟩
 clear h
 induction es with
 | nil => cases hd
 | cons a es ih =>
  rw [DataW.weightsAll]
  rcases List.mem_cons.1 hd with rfl | hd
  ·exact List.mem_append_left _ hn
  ·exact List.mem_append_right _ (ih hd)
theorem Sz.agg {t:TypeId} {fs:Array Field} {ds:List (DataW H)} (h:Sz t (.agg ds)) (hu:Tryz.prog.underlying t=some (.struct fs)) {j:Nat} {f:Field} {d:DataW H} (hf:fs[j]?=some f) (hd:ds[j]?=some d):Sz f.type d:=by
 intro n hn
 unfold Sz at h
 simp only [DataW.weights,hu] at h
 exact h n (DataW.weights_mem_each (by simp [hf]) hd n hn)
theorem reach_small {a b k:Nat} (h:(a + b) * k ≤ reachBytes) (hk:1 ≤ k):a ≤ 140737488351232:=by
 have h1:(a + b) * 1 ≤ (a + b) * k:=Nat.mul_le_mul_left _ hk
 have h2:reachBytes=140737488351232:=rfl
 omega
theorem bytes3:Tryz.prog.bytesOf 3=8:=by kernel_rfl
theorem bytes75:Tryz.prog.bytesOf 76=64:=by kernel_rfl
theorem bytes49:Tryz.prog.bytesOf 68=48:=by kernel_rfl
theorem bytes55:Tryz.prog.bytesOf 62=96:=by kernel_rfl
theorem cells3:Tryz.prog.cellsOf 3=1:=by kernel_rfl
theorem cells22:Tryz.prog.cellsOf 22=1:=by kernel_rfl
theorem cells23:Tryz.prog.cellsOf 23=1:=by kernel_rfl
theorem cells25:Tryz.prog.cellsOf 25=4:=by kernel_rfl
theorem cells49:Tryz.prog.cellsOf 68=4:=by kernel_rfl
theorem cells50:Tryz.prog.cellsOf 58=1:=by kernel_rfl
theorem cells52:Tryz.prog.cellsOf 60=4:=by kernel_rfl
theorem cells53:Tryz.prog.cellsOf 57=1:=by kernel_rfl
theorem cells55:Tryz.prog.cellsOf 62=6:=by kernel_rfl
theorem cells75:Tryz.prog.cellsOf 76=4:=by kernel_rfl
theorem addr_of {a:Addr} {v:Value} (h:w.cell? (a.add 0)=some v):∃ b off,a=⟨b,off,none⟩ ∧ b < w.heap.size:=by
 obtain ⟨b,off,spot⟩:=a
 have h0:(⟨b,off,spot⟩:Addr).add 0=⟨b,off,spot⟩:=by simp [Addr.add]
 rw [h0] at h
 have hspot:spot=none:=World.cell?_spot h
 exact ⟨b,off,by rw [hspot],World.block_lt_of_cell? w _ h⟩
theorem rd_ints {fuel:Nat} {v:Value} {x:DataW H × List MemPlace} (h:Rd enc w fuel 22 [v] x) (hs:Sz 22 x.1):∃ xs,Ints w w.heap.size v xs ∧ ∀ n ∈ xs,I64 n:=by
 rcases open_ints Tryz.underlying22 Tryz.underlying3 cells3 h with ⟨hv,_⟩ | ⟨a,len,cap,zs,hv,_,hl,hm,hz,hx,hc,hw⟩
 ·injection hv with hv
  subst hv
  exact ⟨[],Ints.nil _ _,fun n hn => by cases hn⟩
 ·injection hv with hv
  subst hv
  simp only [if_true] at hz
  have hlen:(zs.take len).length=len:=by rw [List.length_take];omega
  refine ⟨zs.take len,⟨some a,cap,by rw [hlen],?_,fun k hk => ?_⟩,fun n hn => hw n (List.mem_of_mem_take hn)⟩
  ·rw [hlen]
   rw [hx] at hs
   have h1:=(hs.slice Tryz.underlying22).1
   simp only [lits,List.length_map] at h1
   have:=reach_small h1 (by rw [bytes3];omega)
   omega
  ·rw [hlen] at hk
   have h1:=hc k (by omega)
   obtain ⟨b,off,rfl,hb⟩:=addr_of (hc 0 (by omega))
   refine ⟨b,off,rfl,hb,?_⟩
   rw [← Go.WideShapes.add_plain,h1]
   congr 2
   rw [List.getElem?_take,if_pos hk]
   rfl
theorem rd_slice {t e:TypeId} (ht:Tryz.prog.underlying t=some (.slice e)) {c:Nat} (hc:Tryz.prog.cellsOf e=c) (hby:1 ≤ Tryz.prog.bytesOf e) (hpos:0 < c) {fuel:Nat} {v:Value} {x:DataW H × List MemPlace} (h:Rd enc w fuel t [v] x) (hs:Sz t x.1) :
  ∃ A n cap,v=.slice A n cap ∧ n ≤ 140737488351232 ∧ ∀ k,k < n → ∃ b off cs f y,A=some ⟨b,off,none⟩ ∧ b < w.heap.size ∧ cs.length=c ∧ (∀ j,j < c → w.cell? ⟨b,off + (k * c + j),none⟩=cs[j]?) ∧ Rd enc w f e cs y ∧ Sz e y.1:=by
 rcases open_slice ht h with ⟨hv,_⟩ | ⟨a,len,cap,m,n,D,Pl,hv,_,hl,hm,hmm,hx,hi⟩
 ·injection hv with hv
  subst hv
  exact ⟨none,0,0,rfl,by omega,fun k hk => by omega⟩
 ·injection hv with hv
  subst hv
  simp only [if_true] at hmm
  rw [hx] at hs
  have h1:=hs.slice ht
  simp only [List.length_map,List.length_range] at h1
  refine ⟨some a,len,cap,rfl,by have:=reach_small h1.1 hby;omega,fun k hk => ?_⟩
  obtain ⟨cs0,hcs0,_⟩:=hi 0 (by omega)
  obtain ⟨_,hl0,hat0⟩:=World.cells?_some hcs0
  rw [hc] at hl0 hat0
  have h00:=hat0 0 hpos
  obtain ⟨v0,hv0⟩:∃ v0,cs0[0]?=some v0:=⟨_,List.getElem?_eq_getElem (by omega)⟩
  have h01:w.cell? (a.add 0)=some v0:=by
   rw [hv0,Nat.zero_mul] at h00
   rw [← h00]
   rfl
  obtain ⟨b,off,rfl,hb⟩:=addr_of h01
  obtain ⟨cs,hcs,hr⟩:=hi k (by omega)
  obtain ⟨_,hlen,hat⟩:=World.cells?_some hcs
  rw [hc] at hlen hat
  refine ⟨b,off,cs,n,_,rfl,hb,hlen,fun j hj => ?_,hr,h1.2 _ (List.mem_map.2 ⟨k,List.mem_range.2 (by omega),rfl⟩)⟩
  rw [← hat j hj,Go.WideShapes.add_plain,Go.WideShapes.add_plain,Nat.add_assoc]
theorem rd_field {t:TypeId} {fs:Array Field} (ht:Tryz.prog.underlying t=some (.struct fs)) {fuel:Nat} {cs:List Value} {x:DataW H × List MemPlace} (h:Rd enc w fuel t cs x) (hs:Sz t x.1) {j:Nat} {f:Field} (hf:fs[j]?=some f) :
  ∃ n y,Rd enc w n f.type ((cs.drop f.offset).take (Tryz.prog.cellsOf f.type)) y ∧ Sz f.type y.1:=by
 obtain ⟨ys,n,_,hx,_,hlen,hg⟩:=DataW.trod_struct ht h
 have h1:=hg j f hf
 have hj:j < ys.length:=by rw [hlen];exact (Array.getElem?_eq_some_iff.1 hf).1
 rw [List.getElem?_eq_getElem hj] at h1
 rw [hx] at hs
 exact ⟨n,ys[j],h1,hs.agg ht hf (by rw [List.getElem?_map,List.getElem?_eq_getElem hj];rfl)⟩
theorem drop_take_one {cs:List Value} {j:Nat} {v:Value} (h:cs[j]?=some v):(cs.drop j).take 1=[v]:=by
 obtain ⟨hj,rfl⟩:=List.getElem?_eq_some_iff.1 h
 rw [List.drop_eq_getElem_cons hj]
 rfl
theorem rd_field1 {t:TypeId} {fs:Array Field} (ht:Tryz.prog.underlying t=some (.struct fs)) {fuel:Nat} {cs:List Value} {x:DataW H × List MemPlace} (h:Rd enc w fuel t cs x) (hs:Sz t x.1) (j:Nat) {f:Field} (hf:fs[j]?=some f)
  (ft:TypeId) (h1:f.type=ft) (off:Nat) (h2:f.offset=off) (hc:Tryz.prog.cellsOf ft=1) {v:Value} (hv:cs[off]?=some v):∃ n y,Rd enc w n ft [v] y ∧ Sz ft y.1:=by
 subst h1 h2
 obtain ⟨n,y,hr,hz⟩:=rd_field ht h hs hf
 rw [hc,drop_take_one hv] at hr
 exact ⟨n,y,hr,hz⟩
theorem rd_fieldT {t:TypeId} {fs:Array Field} (ht:Tryz.prog.underlying t=some (.struct fs)) {fuel:Nat} {cs:List Value} {x:DataW H × List MemPlace} (h:Rd enc w fuel t cs x) (hs:Sz t x.1) (j:Nat) {f:Field} (hf:fs[j]?=some f)
  (ft:TypeId) (h1:f.type=ft) (off:Nat) (h2:f.offset=off) {c:Nat} (hc:Tryz.prog.cellsOf ft=c):∃ n y,Rd enc w n ft ((cs.drop off).take c) y ∧ Sz ft y.1:=by
 subst h1 h2 hc
 exact rd_field ht h hs hf
theorem rd_int {fuel:Nat} {v:Value} {x:DataW H × List MemPlace} (h:Rd enc w fuel 3 [v] x):∃ n,v=.int .i64 n ∧ I64 n:=by
 obtain ⟨n,hv,_,hw⟩:=DataW.trod_int Tryz.underlying3 h
 injection hv with hv
 exact ⟨n,hv,hw⟩
theorem four {cs:List Value} (h:cs.length=4):∃ a b c d,cs=[a,b,c,d]:=by
 match cs,h with
 | [a,b,c,d],_ => exact ⟨a,b,c,d,rfl⟩
theorem six {cs:List Value} (h:cs.length=6):∃ a b c d e f,cs=[a,b,c,d,e,f]:=by
 match cs,h with
 | [a,b,c,d,e,f],_ => exact ⟨a,b,c,d,e,f,rfl⟩
theorem rd_phis {fuel:Nat} {v:Value} {x:DataW H × List MemPlace} (h:Rd enc w fuel 57 [v] x) (hs:Sz 57 x.1) :
  ∃ ps,PhisR w w.heap.size v ps ∧ ∀ p ∈ ps,p.vals.length ≤ 140737488351232 ∧ ∀ n ∈ p.vals,I64 n:=by
 obtain ⟨A,n,cap,rfl,hn,hk⟩:=rd_slice Tryz.underlying57 cells75 (by rw [bytes75];omega) (by omega) h hs
 obtain ⟨ps,hl,hps⟩:=list_choose (α:=PhiM) (R:=fun k p => (∃ b off fv vv,A=some ⟨b,off,none⟩ ∧ b < w.heap.size ∧
  w.cell? ⟨b,off + k * 4,none⟩=some (.int .i64 p.id) ∧ w.cell? ⟨b,off + k * 4 + 1,none⟩=some (.int .i64 p.typ) ∧ w.cell? ⟨b,off + k * 4 + 2,none⟩=some fv ∧ w.cell? ⟨b,off + k * 4 + 3,none⟩=some vv ∧
  Ints w w.heap.size fv p.fr ∧ Ints w w.heap.size vv p.vals ∧ I64 p.id ∧ I64 p.typ) ∧ p.vals.length ≤ 140737488351232 ∧ ∀ n ∈ p.vals,I64 n) n (fun k hlt => by
   obtain ⟨b,off,cs,f,y,hA,hb,hlen,hc,hr,hz⟩:=hk k hlt
   obtain ⟨c0,c1,c2,c3,rfl⟩:=four hlen
   obtain ⟨n0,y0,r0,z0⟩:=rd_field1 Tryz.underlying76 hr hz 0 rfl 3 rfl 0 rfl cells3 rfl
   obtain ⟨n1,y1,r1,z1⟩:=rd_field1 Tryz.underlying76 hr hz 1 rfl 3 rfl 1 rfl cells3 rfl
   obtain ⟨n2,y2,r2,z2⟩:=rd_field1 Tryz.underlying76 hr hz 2 rfl 22 rfl 2 rfl cells22 rfl
   obtain ⟨n3,y3,r3,z3⟩:=rd_field1 Tryz.underlying76 hr hz 3 rfl 22 rfl 3 rfl cells22 rfl
   obtain ⟨id,rfl,hi⟩:=rd_int r0
   obtain ⟨ty,rfl,ht⟩:=rd_int r1
   obtain ⟨fr,hf,_⟩:=rd_ints r2 z2
   obtain ⟨va,hv,hvi⟩:=rd_ints r3 z3
   refine ⟨⟨id,ty,fr,va⟩,⟨b,off,_,_,hA,hb,hc 0 (by omega),hc 1 (by omega),hc 2 (by omega),hc 3 (by omega),hf,hv,hi,ht⟩,?_,hvi⟩
   obtain ⟨_,_,_,hm,_⟩:=hv
   exact hm)
 subst hl
 exact ⟨ps,⟨A,cap,rfl,hn,fun k p hp => (hps k p hp).1⟩,fun p hp => by obtain ⟨k,hk⟩:=List.mem_iff_getElem?.1 hp;exact (hps k p hk).2⟩
theorem rd_code {fuel:Nat} {v:Value} {x:DataW H × List MemPlace} (h:Rd enc w fuel 58 [v] x) (hs:Sz 58 x.1) :
  ∃ xs,CodeR w w.heap.size v xs ∧ ∀ p ∈ xs,∀ n ∈ p.args,I64 n:=by
 obtain ⟨A,n,cap,rfl,hn,hk⟩:=rd_slice Tryz.underlying58 cells49 (by rw [bytes49];omega) (by omega) h hs
 obtain ⟨ps,hl,hps⟩:=list_choose (α:=InstrM) (R:=fun k x => (∃ b off av,A=some ⟨b,off,none⟩ ∧ b < w.heap.size ∧
  w.cell? ⟨b,off + k * 4,none⟩=some (.int .i64 x.op) ∧ w.cell? ⟨b,off + k * 4 + 1,none⟩=some (.int .i64 x.id) ∧ w.cell? ⟨b,off + k * 4 + 2,none⟩=some av ∧ w.cell? ⟨b,off + k * 4 + 3,none⟩=some (.int .i64 x.n) ∧
  Ints w w.heap.size av x.args ∧ I64 x.op ∧ I64 x.id ∧ I64 x.n) ∧ ∀ n ∈ x.args,I64 n) n (fun k hlt => by
   obtain ⟨b,off,cs,f,y,hA,hb,hlen,hc,hr,hz⟩:=hk k hlt
   obtain ⟨c0,c1,c2,c3,rfl⟩:=four hlen
   obtain ⟨n0,y0,r0,z0⟩:=rd_field1 Tryz.underlying68 hr hz 0 rfl 3 rfl 0 rfl cells3 rfl
   obtain ⟨n1,y1,r1,z1⟩:=rd_field1 Tryz.underlying68 hr hz 1 rfl 3 rfl 1 rfl cells3 rfl
   obtain ⟨n2,y2,r2,z2⟩:=rd_field1 Tryz.underlying68 hr hz 2 rfl 22 rfl 2 rfl cells22 rfl
   obtain ⟨n3,y3,r3,z3⟩:=rd_field1 Tryz.underlying68 hr hz 3 rfl 3 rfl 3 rfl cells3 rfl
   obtain ⟨op,rfl,ho⟩:=rd_int r0
   obtain ⟨id,rfl,hi⟩:=rd_int r1
   obtain ⟨ar,hf,hfi⟩:=rd_ints r2 z2
   obtain ⟨nn,rfl,hnn⟩:=rd_int r3
   exact ⟨⟨op,id,ar,nn⟩,⟨b,off,_,hA,hb,hc 0 (by omega),hc 1 (by omega),hc 2 (by omega),hc 3 (by omega),hf,ho,hi,hnn⟩,hfi⟩)
 subst hl
 exact ⟨ps,⟨A,cap,rfl,hn,fun k p hp => (hps k p hp).1⟩,fun p hp => by obtain ⟨k,hk⟩:=List.mem_iff_getElem?.1 hp;exact (hps k p hk).2⟩
def BlockOk (q:BlockM):Prop:=(∀ p ∈ q.phis,p.vals.length ≤ 140737488351232 ∧ ∀ n ∈ p.vals,I64 n) ∧ (∀ p ∈ q.code,∀ n ∈ p.args,I64 n) ∧ I64 q.term.val
theorem rd_blocks {fuel:Nat} {v:Value} {x:DataW H × List MemPlace} (h:Rd enc w fuel 23 [v] x) (hs:Sz 23 x.1) :
  ∃ bs,BlocksR w w.heap.size v bs ∧ ∀ q ∈ bs,BlockOk q:=by
 obtain ⟨A,n,cap,rfl,hn,hk⟩:=rd_slice Tryz.underlying23 cells55 (by rw [bytes55];omega) (by omega) h hs
 obtain ⟨ps,hl,hps⟩:=list_choose (α:=BlockM) (R:=fun k q => (∃ b off pv cv tv,A=some ⟨b,off,none⟩ ∧ b < w.heap.size ∧
  w.cell? ⟨b,off + k * 6,none⟩=some pv ∧ w.cell? ⟨b,off + k * 6 + 1,none⟩=some cv ∧ w.cell? ⟨b,off + k * 6 + 2,none⟩=some (.int .i64 q.term.op) ∧ w.cell? ⟨b,off + k * 6 + 3,none⟩=some (.int .i64 q.term.val) ∧
  w.cell? ⟨b,off + k * 6 + 4,none⟩=some tv ∧ w.cell? ⟨b,off + k * 6 + 5,none⟩=some (.int .i64 q.term.n) ∧
  PhisR w w.heap.size pv q.phis ∧ CodeR w w.heap.size cv q.code ∧ Ints w w.heap.size tv q.term.to ∧ I64 q.term.op ∧ I64 q.term.val ∧ I64 q.term.n) ∧ BlockOk q) n (fun k hlt => by
   obtain ⟨b,off,cs,f,y,hA,hb,hlen,hc,hr,hz⟩:=hk k hlt
   obtain ⟨c0,c1,c2,c3,c4,c5,rfl⟩:=six hlen
   obtain ⟨n0,y0,r0,z0⟩:=rd_field1 Tryz.underlying62 hr hz 0 rfl 57 rfl 0 rfl cells53 rfl
   obtain ⟨n1,y1,r1,z1⟩:=rd_field1 Tryz.underlying62 hr hz 1 rfl 58 rfl 1 rfl cells50 rfl
   obtain ⟨n2,y2,r2,z2⟩:=rd_fieldT Tryz.underlying62 hr hz 2 rfl 60 rfl 2 rfl cells52
   obtain ⟨m0,u0,q0,s0⟩:=rd_field1 Tryz.underlying60 r2 z2 0 rfl 3 rfl 0 rfl cells3 rfl
   obtain ⟨m1,u1,q1,s1⟩:=rd_field1 Tryz.underlying60 r2 z2 1 rfl 3 rfl 1 rfl cells3 rfl
   obtain ⟨m2,u2,q2,s2⟩:=rd_field1 Tryz.underlying60 r2 z2 2 rfl 22 rfl 2 rfl cells22 rfl
   obtain ⟨m3,u3,q3,s3⟩:=rd_field1 Tryz.underlying60 r2 z2 3 rfl 3 rfl 3 rfl cells3 rfl
   obtain ⟨phs,hph,hpo⟩:=rd_phis r0 z0
   obtain ⟨xs,hxs,hxo⟩:=rd_code r1 z1
   obtain ⟨op,rfl,ho⟩:=rd_int q0
   obtain ⟨va,rfl,hva⟩:=rd_int q1
   obtain ⟨to,hto,_⟩:=rd_ints q2 s2
   obtain ⟨nn,rfl,hnn⟩:=rd_int q3
   exact ⟨⟨phs,xs,⟨op,va,to,nn⟩⟩,⟨b,off,_,_,_,hA,hb,hc 0 (by omega),hc 1 (by omega),hc 2 (by omega),hc 3 (by omega),hc 4 (by omega),hc 5 (by omega),hph,hxs,hto,ho,hva,hnn⟩,hpo,hxo,hva⟩)
 subst hl
 exact ⟨ps,⟨A,cap,rfl,hn,fun k p hp => (hps k p hp).1⟩,fun p hp => by obtain ⟨k,hk⟩:=List.mem_iff_getElem?.1 hp;exact (hps k p hk).2⟩
structure FnIn (w:World) (f:FuncM) (pv bv:Value):Prop where
 par:Ints w w.heap.size pv f.params
 blk:BlocksR w w.heap.size bv f.blocks
 ok:∀ q ∈ f.blocks,BlockOk q
theorem rd_func {fuel:Nat} {cs:List Value} {x:DataW H × List MemPlace} (h:Rd enc w fuel 25 cs x) (hs:Sz 25 x.1) :
  ∃ (f:FuncM) (pv bv:Value),cs=[pv,.int .i64 f.arrays,.int .i64 f.cells,bv] ∧ FnIn w f pv bv:=by
 obtain ⟨ys,n,_,hx,hlen,_,hg⟩:=DataW.trod_struct Tryz.underlying25 h
 rw [cells25] at hlen
 obtain ⟨c0,c1,c2,c3,rfl⟩:=four hlen
 obtain ⟨n0,y0,r0,z0⟩:=rd_field1 Tryz.underlying25 h hs 0 rfl 22 rfl 0 rfl cells22 rfl
 obtain ⟨n1,y1,r1,z1⟩:=rd_field1 Tryz.underlying25 h hs 1 rfl 3 rfl 1 rfl cells3 rfl
 obtain ⟨n2,y2,r2,z2⟩:=rd_field1 Tryz.underlying25 h hs 2 rfl 3 rfl 2 rfl cells3 rfl
 obtain ⟨n3,y3,r3,z3⟩:=rd_field1 Tryz.underlying25 h hs 3 rfl 23 rfl 3 rfl cells23 rfl
 obtain ⟨ps,hps,_⟩:=rd_ints r0 z0
 obtain ⟨a,rfl,_⟩:=rd_int r1
 obtain ⟨c,rfl,_⟩:=rd_int r2
 obtain ⟨bs,hbs,hok⟩:=rd_blocks r3 z3
 exact ⟨⟨ps,a,c,bs⟩,c0,c3,rfl,hps,hbs,hok⟩
set_option maxRecDepth 100000 in
theorem open_func {ts:List TypeId} {ds:List (DataW H)} {base:Nat} {v:Value} {d:DataW H} {p:List MemPlace} (hok:Value.okWide Tryz.prog w .any base 25 v) (h:DataW.Trod enc Tryz.prog w 0 (fun _ => true) true 25 v d p)
  (hsz:(DataW.weightsEach Tryz.prog ts ds).all (· ≤ reachBytes)=true) {j:Nat} (ht:ts[j]?=some 25) (hd:ds[j]?=some d) :
  ∃ (f:FuncM) (pv bv:Value),v=.agg #[pv,.int .i64 f.arrays,.int .i64 f.cells,bv] ∧ FnIn w f pv bv:=by
 obtain ⟨cs,rfl,_⟩:=okWide_struct Tryz.underlying25 hok
 obtain ⟨fuel,hf⟩:=h
 have hs:Sz 25 d:=by
  intro n hn
  have h1:=List.all_eq_true.1 hsz n (DataW.weights_mem_each ht hd n hn)
  rw [decide_eq_true_eq] at h1
  exact h1
 obtain ⟨f,pv,bv,hcs,hF⟩:=rd_func (x:=(d,p)) hf hs
 refine ⟨f,pv,bv,?_,hF⟩
 congr 1
 have h2:cs.toList=[pv,.int .i64 f.arrays,.int .i64 f.cells,bv]:=hcs
 rw [← Array.toArray_toList (xs:=cs),h2]
end
end Go.Proofs.YtaehbgppfahdeaaGreat

namespace Go.Proofs.YtaehbgppfahdeaaGreat
open Go.RowKit
def Grows (ds d:Defs):Prop:=(∀ x ∈ ds,x ∈ d) ∧ ∀ x ∈ d,x ∈ ds ∨ (0 ≤ x.1 ∧ x.1 ≤ 1048575)
theorem Grows.refl (ds:Defs):Grows ds ds:=⟨fun _ h => h,fun _ h => .inl h⟩
theorem Grows.trans {a b c:Defs} (h:Grows a b) (k:Grows b c):Grows a c :=
 ⟨fun x hx => k.1 x (h.1 x hx),fun x hx => by rcases k.2 x hx with h1 | h1;exact h.2 x h1;exact .inr h1⟩
theorem addDef_grows {np:Nat} {ds d:Defs} {id t:Int} (h:addDef np ds id t=some d):Grows ds d:=by
 unfold addDef defB at h
 split at h
 ·rename_i hc
  injection h with h
  subst h
  simp only [Bool.and_eq_true] at hc
  have:=within_bd hc.2
  refine ⟨fun x hx => List.mem_append_left _ hx,fun x hx => ?_⟩
  rcases List.mem_append.1 hx with hx | hx
  ·exact .inl hx
  ·simp at hx
   subst hx
   exact .inr (by show 0 ≤ id ∧ id ≤ 1048575;omega)
 ·cases h
theorem phisStep_grows {f:FuncM}:∀ {l:List PhiM} {ds d:Defs},phisStep f ds l=some d → Grows ds d:=by
 intro l
 induction l with
 | nil => intro ds d h;injection h with h;subst h;exact Grows.refl _
 | cons p l ih =>
  intro ds d h
  unfold phisStep at h
  rw [Option.bind_eq_some_iff] at h
  obtain ⟨d1,h1,h2⟩:=h
  refine Grows.trans ?_ (ih h2)
  unfold phiStep at h1
  split at h1
  ·exact addDef_grows h1
  ·cases h1
theorem codeStep_grows {f:FuncM}:∀ {l:List InstrM} {ds d:Defs},codeStep f ds l=some d → Grows ds d:=by
 intro l
 induction l with
 | nil => intro ds d h;injection h with h;subst h;exact Grows.refl _
 | cons p l ih =>
  intro ds d h
  unfold codeStep at h
  rw [Option.bind_eq_some_iff] at h
  obtain ⟨d1,h1,h2⟩:=h
  refine Grows.trans ?_ (ih h2)
  unfold instrStep at h1
  split at h1
  ·split at h1
   ·split at h1
    ·injection h1 with h1;subst h1;exact Grows.refl _
    ·cases h1
   ·exact addDef_grows h1
  ·cases h1
theorem blocksStep_grows {f:FuncM}:∀ {l:List BlockM} {ds d:Defs},blocksStep f ds l=some d → Grows ds d:=by
 intro l
 induction l with
 | nil => intro ds d h;injection h with h;subst h;exact Grows.refl _
 | cons p l ih =>
  intro ds d h
  unfold blocksStep at h
  rw [Option.bind_eq_some_iff] at h
  obtain ⟨d1,h1,h2⟩:=h
  refine Grows.trans ?_ (ih h2)
  unfold blockStep at h1
  rw [Option.bind_eq_some_iff] at h1
  obtain ⟨d2,h3,h4⟩:=h1
  rw [Option.bind_eq_some_iff] at h4
  obtain ⟨d3,h5,h6⟩:=h4
  split at h6
  ·injection h6 with h6
   subst h6
   exact (phisStep_grows h3).trans (codeStep_grows h5)
  ·cases h6
theorem paramDefs_mem (l:List Int):∀ (j k:Nat),j ≤ k → k < j + l.length → ∃ d ∈ paramDefs j l,d.1=(k:Int):=by
 induction l with
 | nil => intro j k h1 h2;simp at h2;omega
 | cons a l ih =>
  intro j k h1 h2
  by_cases e:j=k
  ·subst e
   exact ⟨_,List.mem_cons_self ..,rfl⟩
  ·simp only [List.length_cons] at h2
   obtain ⟨d,hd,he⟩:=ih (j + 1) k (by omega) (by omega)
   exact ⟨d,List.mem_cons_of_mem _ hd,he⟩
theorem paramDefs_lt (l:List Int):∀ j,∀ d ∈ paramDefs j l,d.1 < (j + l.length:Nat):=by
 induction l with
 | nil => intro j d h;cases h
 | cons a l ih =>
  intro j d h
  simp only [List.length_cons]
  rcases List.mem_cons.1 h with rfl | h
  ·show (j:Int) < _
   omega
  ·have:=ih (j + 1) d h
   omega
theorem formed_keys {f:FuncM} {ds:Defs} (h:formedM f=some ds):(∀ x ∈ ds,0 ≤ x.1 ∧ x.1 ≤ 1048575) ∧ ∀ k:Nat,k < f.params.length → (k:Int) ∈ ds.map (·.1):=by
 unfold formedM at h
 split at h
 ·rename_i hc
  simp only [Bool.and_eq_true] at hc
  have hl:=(limits_bd hc.1.1).1
  have hg:=blocksStep_grows h
  refine ⟨fun x hx => ?_,fun k hk => ?_⟩
  ·rcases hg.2 x hx with h1 | h1
   ·have h2:=paramDefs_ge _ _ x h1
    have h3:=paramDefs_lt _ _ x h1
    omega
   ·exact h1
  ·obtain ⟨d,hd,he⟩:=paramDefs_mem f.params 0 k (by omega) (by omega)
   exact List.mem_map.2 ⟨d,hg.1 d hd,he⟩
 ·cases h
def nextId (f:FuncM):Int:=match (idsS f).getLast? with | some x => x + 1 | none => f.params.length
theorem uses_i64 {f:FuncM} (h:∀ q ∈ f.blocks,BlockOk q):∀ u ∈ usesM f,I64 u.1:=by
 intro u hu
 obtain ⟨q,hq,hu⟩:=List.mem_flatMap.1 hu
 obtain ⟨h1,h2,h3⟩:=h q hq
 rcases List.mem_append.1 hu with hu | hu
 ·obtain ⟨p,hp,hu⟩:=List.mem_flatMap.1 hu
  obtain ⟨v,hv,rfl⟩:=List.mem_map.1 hu
  exact (h1 p hp).2 v hv
 ·rcases List.mem_append.1 hu with hu | hu
  ·obtain ⟨x,hx,hu⟩:=List.mem_flatMap.1 hu
   exact h2 x hx _ (List.of_mem_zip hu).1
  ·unfold usesTerm at hu
   split at hu
   ·simp at hu;subst hu;exact h3
   ·split at hu
    ·simp at hu;subst hu;exact h3
    ·cases hu
theorem flat_len {α β:Type} (g:α → List β) (M:Nat):∀ l:List α,(∀ a ∈ l,(g a).length ≤ M) → (l.flatMap g).length ≤ l.length * M:=by
 intro l
 induction l with
 | nil => intro _;simp
 | cons a l ih =>
  intro h
  rw [List.flatMap_cons,List.length_append,List.length_cons,Nat.add_mul]
  have h1:=h a (List.mem_cons_self ..)
  have h2:=ih (fun b hb => h b (List.mem_cons_of_mem _ hb))
  omega
theorem look_size {f:FuncM} (h:(lookM f).1=0):sizeM f ≤ 4096:=by
 have hf:=look_formed h
 unfold formedM at hf
 split at hf
 ·rename_i hl
  simp only [Bool.and_eq_true] at hl
  exact (limits_bd hl.1.1).2.2.2.2.2.2.2
 ·cases hf
end Go.Proofs.YtaehbgppfahdeaaGreat

namespace Go.Proofs.YtaehbgppfahdeaaGreat
open Go.RowKit
def RevTo {α:Type} (xs ys:List α) (k:Nat):Prop :=
 ys.length=xs.length ∧ ∀ p,p < xs.length → ys[p]?=if p < k ∨ xs.length ≤ p + k then xs[xs.length - 1 - p]? else xs[p]?
theorem RevTo.start {α:Type} (xs:List α):RevTo xs xs 0:=⟨rfl,fun p hp => by rw [if_neg (by omega)]⟩
theorem RevTo.step {α:Type} {xs ys:List α} {k m:Nat} {a b:α} (h:RevTo xs ys k) (hm:m + k + 1=xs.length) (hlt:k < m) (ha:ys[k]?=some a) (hb:ys[m]?=some b):RevTo xs ((ys.set k b).set m a) (k + 1):=by
 refine ⟨by rw [List.length_set,List.length_set,h.1],fun p hp => ?_⟩
 have h1:=h.2 k (by omega)
 have h2:=h.2 m (by omega)
 rw [if_neg (by omega)] at h1 h2
 by_cases e2:p=m
 ·subst e2
  rw [List.getElem?_set_self (by rw [List.length_set,h.1];omega),if_pos (by omega),← ha,h1]
  congr 1
  omega
 ·rw [List.getElem?_set_ne (by omega)]
  by_cases e1:p=k
  ·subst e1
   rw [List.getElem?_set_self (by rw [h.1];omega),if_pos (by omega),← hb,h2]
   congr 1
   omega
  ·rw [List.getElem?_set_ne (by omega),h.2 p hp]
   by_cases hc:p < k ∨ xs.length ≤ p + k
   ·rw [if_pos hc,if_pos (by omega)]
   ·rw [if_neg hc,if_neg (by omega)]
theorem RevTo.last {α:Type} {xs ys:List α} {k m:Nat} (h:RevTo xs ys k) (hm:m + k + 1=xs.length) (hge:m ≤ k):ys=xs.reverse:=by
 apply List.ext_getElem?
 intro p
 by_cases hp:p < xs.length
 ·rw [h.2 p hp,List.getElem?_reverse hp]
  by_cases hc:p < k ∨ xs.length ≤ p + k
  ·rw [if_pos hc]
  ·rw [if_neg hc]
   congr 1
   omega
 ·rw [List.getElem?_eq_none (by rw [h.1];omega),List.getElem?_eq_none (by rw [List.length_reverse];omega)]
set_option maxRecDepth 100000 in
set_option maxHeartbeats 2000000 in
theorem reverse_any (base g cap:Nat) (xs:List Int) (w:World) (hn:0 < xs.length) (hn2:xs.length ≤ 1000000) (hown:w.ownsRow base 3 1 (.slice (some ⟨g,0,none⟩) xs.length cap) xs.length (xs.map (Value.int .i64))) :
  Calls Tryz.prog 167 #[.slice (some ⟨g,0,none⟩) xs.length cap] w fun e w' => e=.returned (.tuple #[]) ∧ w'.ownsRow base 3 1 (.slice (some ⟨g,0,none⟩) xs.length cap) xs.length (xs.reverse.map (Value.int .i64)) ∧ w.grownBy w' (some g):=by
 have HOWN:=hideI hown
 obtain ⟨n,hN⟩:∃ n,n=xs.length:=⟨_,rfl⟩
 have HN:=hideI hN
 rw [← hN] at hn hn2 ⊢
 clear hown hN
 go_enter Tryz.func167,Tryz.ntmps167
 go_wp2
 go_loopw [2,3] (fun u v wr => ∃ (k m:Nat) (ys:List Int),m + k + 1=n ∧ u=.int .i64 k ∧ v=.int .i64 m ∧ Hid (RevTo xs ys k) ∧ Hid (wr.ownsRow base 3 1 (.slice (some ⟨g,0,none⟩) n cap) n (ys.map (Value.int .i64))) ∧ Hid (w.grownBy wr (some g))) (fun _ v _ => (intOf v).toNat)
 case atStart => exact ⟨0,n - 1,xs,by omega,rfl,by go_num,hideI (RevTo.start xs),(by have:=HOWN.out;rw [← HN.out] at this;exact hideI this),hideI (World.grownBy.refl _ _)⟩
 case round =>
  obtain ⟨k,m,ys,hm,rfl,rfl,HR,HO,HG⟩:=hrel
  have hyl:ys.length=n:=by rw [HR.out.1,← HN.out]
  have HM:Hid (m + k + 1=xs.length):=by show _=_;rw [← HN.out];exact hm
  by_cases hlt:k < m
  ·obtain ⟨a,ha⟩:∃ a,ys[k]?=some a:=⟨_,List.getElem?_eq_getElem (by omega)⟩
   obtain ⟨b,hb⟩:∃ b,ys[m]?=some b:=⟨_,List.getElem?_eq_getElem (by omega)⟩
   have q1:wr.cell? ⟨g,k,none⟩=some (.int .i64 a):=by rw [World.ownsRow.cellAt HO.out k (by omega),List.getElem?_map,ha];rfl
   have q2:wr.cell? ⟨g,m,none⟩=some (.int .i64 b):=by rw [World.ownsRow.cellAt HO.out m (by omega),List.getElem?_map,hb];rfl
   have q3:wr.frozen? ⟨g,k,none⟩=false:=World.ownsRow.frozenAt HO.out k
   have q4:wr.frozen? ⟨g,m,none⟩=false:=World.ownsRow.frozenAt HO.out m
   have HA:=hideI ha
   have HB:=hideI hb
   have hkm:k ≠ m:=by omega
   have hmk:m ≠ k:=by omega
   have hkn:k < n:=by omega
   have hmn:m < n:=by omega
   obtain ⟨m',rfl⟩:∃ m',m=m' + 1:=⟨m - 1,by omega⟩
   have HM2:Hid (m' + (k + 1) + 1=n):=by show _=_;omega
   clear ha hb hyl hm
   go_wp2
   go_region
   have HS:Hid (((wr.setCell ⟨g,k,none⟩ (.int .i64 b)).setCell ⟨g,m' + 1,none⟩ (.int .i64 a)).drew.ownsRow base 3 1 (.slice (some ⟨g,0,none⟩) n cap) n (((ys.set k b).set (m' + 1) a).map (Value.int .i64))):=by
    show World.ownsRow _ _ _ _ _ _ _
    rw [List.map_set,List.map_set]
    exact ((World.ownsRow.stored (World.ownsRow.stored HO.out k _).1 (m' + 1) _).1).drew
   have HG2:Hid (w.grownBy ((wr.setCell ⟨g,k,none⟩ (.int .i64 b)).setCell ⟨g,m' + 1,none⟩ (.int .i64 a)).drew (some g)) :=
    ((HG.out.trans_grown (World.ownsRow.stored HO.out k _).2).trans_grown (World.ownsRow.stored (World.ownsRow.stored HO.out k (.int .i64 b)).1 (m' + 1) _).2).trans_grown ⟨rfl,rfl,rfl,Nat.le_refl _,fun _ _ _ => rfl⟩
   clear q1 q2 q3 q4
   go_wp2
   go_roundw
   case rel => exact ⟨k + 1,m',(ys.set k b).set (m' + 1) a,HM2.out,by go_num,by go_num,HR.out.step HM.out (by omega) HA.out HB.out,HS,HG2⟩
   case measure => simp [intOf]
  ·have hge:m ≤ k:=by omega
   clear hm hyl
   go_wp2
   go_end0
   refine ⟨rfl,?_,HG.out⟩
   rw [← HR.out.last HM.out hge]
   exact HO.out
end Go.Proofs.YtaehbgppfahdeaaGreat
namespace Go.Proofs.YtaehbgppfahdeaaGreat
open Go.RowKit Go.Maps
theorem bool_info:(Tryz.prog.info? 4).map (fun i => (i.zero,i.size,i.bytes))=some (some (.bool false),1,1):=by kernel_rfl
theorem term_in {nb:Nat} {t:TermM} {f:FuncM} (hn:f.blocks.length=nb) (h:termB f t=true):∀ x ∈ t.to,1 ≤ x ∧ x < nb:=by
 unfold termB targetsB at h
 simp only [Bool.and_eq_true,List.all_eq_true] at h
 intro x hx
 have:=h.1 x hx
 unfold withinB at this
 simp only [Bool.and_eq_true,decide_eq_true_eq] at this
 omega
theorem blocksStep_term {f:FuncM}:∀ {l:List BlockM} {ds d:Defs},blocksStep f ds l=some d → ∀ b ∈ l,termB f b.term=true:=by
 intro l
 induction l with
 | nil => intro ds d _ b hb;cases hb
 | cons p l ih =>
  intro ds d h b hb
  unfold blocksStep at h
  rw [Option.bind_eq_some_iff] at h
  obtain ⟨d1,h1,h2⟩:=h
  rcases List.mem_cons.1 hb with rfl | hb
  ·unfold blockStep at h1
   rw [Option.bind_eq_some_iff] at h1
   obtain ⟨d2,h3,h4⟩:=h1
   rw [Option.bind_eq_some_iff] at h4
   obtain ⟨d3,h5,h6⟩:=h4
   split at h6
   ·assumption
   ·cases h6
  ·exact ih h2 b hb
theorem look_term {f:FuncM} (h:(lookM f).1=0):∀ b ∈ f.blocks,termB f b.term=true:=by
 have hf:=look_formed h
 unfold formedM at hf
 split at hf
 ·exact blocksStep_term hf
 ·cases hf
theorem look_ends {f:FuncM} (h:(lookM f).1=0):EndsIn f.blocks:=by
 intro q hq t ht
 have:=term_in rfl (look_term h q hq) t ht
 omega
theorem look_some_block {f:FuncM} (h:(lookM f).1=0):0 < f.blocks.length ∧ f.blocks.length ≤ 512:=by
 have hf:=look_formed h
 unfold formedM at hf
 split at hf
 ·rename_i hl
  simp only [Bool.and_eq_true] at hl
  have h1:=hl.1.1
  unfold limitsB withinB at h1
  simp only [Bool.and_eq_true,decide_eq_true_eq] at h1
  omega
 ·cases hf
theorem marks_none (n:Nat):marks n []=(List.range n).map fun _ => Value.bool false:=by
 unfold marks
 apply List.map_congr_left
 intro i _
 simp
theorem marks_made (n:Nat):(madeCells (Value.bool false).cells (n * 1)).toList=marks n []:=by
 rw [show (Value.bool false).cells=#[Value.bool false] from rfl,toList_madeCells_one,Nat.mul_one,marks_none]
 apply List.ext_getElem?
 intro i
 by_cases h:i < n
 ·rw [List.getElem?_replicate,if_pos h,List.getElem?_map,List.getElem?_eq_getElem (by simpa using h)]
  rfl
 ·rw [List.getElem?_eq_none (by simp;omega),List.getElem?_eq_none (by simp;omega)]
theorem dfs_new {w w1:World} {gr:Array Value} {n:Nat} (hown:w1.ownsRow (w.heap.size + 1) 4 1 (.slice (some ⟨w.heap.size + 1,0,none⟩) n n) n (madeCells (Value.bool false).cells (n * 1)).toList)
  (hg:(w.alloc (.cells gr 182)).grownBy w1 none) :
  Dfs w.heap.size w1.heap.size n gr [] [] (((w1.alloc (.cells #[.slice (some ⟨w.heap.size + 1,0,none⟩) n n] 91)).alloc (.cells #[.slice none 0 0] 22)).alloc
   (.cells #[.func (.func 166) #[] #[.pointer (some ⟨w1.heap.size,0,none⟩),.pointer (some ⟨w.heap.size,0,none⟩),.pointer (some ⟨w1.heap.size + 1 + 1,0,none⟩),.pointer (some ⟨w1.heap.size + 1,0,none⟩)]] 221)):=by
 have hlt:w.heap.size + 1 < w1.heap.size:=(hown.lt _ rfl).2
 rw [marks_made] at hown
 refine ⟨hlt,?_,((hown.alloc _).alloc _).alloc _,?_,⟨.slice none 0 0,?_,?_⟩,?_⟩
 ·rw [Below.heap_alloc _ _ _ (by simp;omega),Below.heap_alloc _ _ _ (by simp;omega),Below.heap_alloc _ _ _ (by omega),hg.block _ (by simp) (by simp)]
  exact heap_alloc_new w _
 ·rw [Below.heap_alloc _ _ _ (by simp;omega),Below.heap_alloc _ _ _ (by simp)]
  exact heap_alloc_new w1 _
 ·rw [Below.heap_alloc _ _ _ (by simp)]
  have:=heap_alloc_new (w1.alloc (.cells #[.slice (some ⟨w.heap.size + 1,0,none⟩) n n] 91)) (.cells #[.slice none 0 0] 22)
  simpa using this
 ·exact World.ownsRow_nil _ _ _ _
 ·have:=heap_alloc_new ((w1.alloc (.cells #[.slice (some ⟨w.heap.size + 1,0,none⟩) n n] 91)).alloc (.cells #[.slice none 0 0] 22)) (.cells #[.func (.func 166) #[] #[.pointer (some ⟨w1.heap.size,0,none⟩),.pointer (some ⟨w.heap.size,0,none⟩),.pointer (some ⟨w1.heap.size + 1 + 1,0,none⟩),.pointer (some ⟨w1.heap.size + 1,0,none⟩)]] 221)
  simpa using this
theorem dfs_below {w w1:World} {gr:Array Value} {t:TypeId} {o1 o2 o3:Obj} (hg:(w.alloc (.cells gr t)).grownBy w1 none):Below w.heap.size w (((w1.alloc o1).alloc o2).alloc o3):=by
 have h1:Below w.heap.size w w1:=((Below.refl _ _).alloc (Nat.le_refl _) _).grown hg (by simp) (by simp)
 have hs:=h1.size
 exact ((h1.alloc hs _).alloc (by simp;omega) _).alloc (by simp;omega) _
theorem reverse_nat (base g cap:Nat) (l:List Nat) (w:World) (hn:0 < l.length) (hn2:l.length ≤ 1000000) (hown:w.ownsRow base 3 1 (.slice (some ⟨g,0,none⟩) l.length cap) l.length (natInts l)) :
  Calls Tryz.prog 167 #[.slice (some ⟨g,0,none⟩) l.length cap] w fun e w' => e=.returned (.tuple #[]) ∧ w'.ownsRow base 3 1 (.slice (some ⟨g,0,none⟩) l.length cap) l.length (natInts l.reverse) ∧ w.grownBy w' (some g):=by
 have hx:natInts l=(l.map fun (x:Nat) => (x:Int)).map (Value.int .i64):=by unfold natInts;rw [List.map_map];rfl
 have hy:natInts l.reverse=(l.map fun (x:Nat) => (x:Int)).reverse.map (Value.int .i64):=by unfold natInts;rw [← List.map_reverse,List.map_map];rfl
 have h:=reverse_any base g cap (l.map fun (x:Nat) => (x:Int)) w (by simpa using hn) (by simpa using hn2) (by rw [List.length_map,← hx];exact hown)
 rw [List.length_map,← hy] at h
 exact h
theorem OrderIs.range {bs:List BlockM} {o:List Nat} (h:OrderIs bs o) (hin:EndsIn bs) (h0:0 < bs.length):∀ x ∈ o,x < bs.length:=by
 obtain ⟨bg,dn,v,rfl⟩:=h
 have v2:Visit (succM bs) [0] ([],[]) (bg,dn ++ [0]):=.go (by simp) v (.nil _)
 have hr:=visit_range hin.succ v2 (by simpa using h0) (by simp)
 obtain ⟨new,d⟩:=v2.did
 have hd:dn ++ [0]=new:=by simpa using d.done
 intro x hx
 rw [hd] at hx
 exact hr x ((d.begun x).2 (.inr (List.mem_reverse.1 hx)))
def OrdPost (bs:List BlockM) (w:World) (e:Ending) (w':World):Prop :=
 ∃ (o:List Nat) (g cap:Nat),e=.returned (.slice (some ⟨g,0,none⟩) o.length cap) ∧ OrderIs bs o ∧ 0 < o.length ∧ o.length ≤ bs.length ∧ w'.ownsRow w.heap.size 3 1 (.slice (some ⟨g,0,none⟩) o.length cap) o.length (natInts o) ∧ Below w.heap.size w w'
theorem ord_len {bs:List BlockM} {dn bg l:List Nat} (hin:EndsIn bs) (h0:0 < bs.length) (hv:Visit (succM bs) (succM bs 0) ([0],[]) (bg,dn)) (hl:l=dn ++ [0]):0 < l.length ∧ l.length ≤ bs.length:=by
 have ho:OrderIs bs (dn ++ [0]).reverse:=⟨bg,dn,hv,rfl⟩
 have:=below_len _ _ ho.facts.2.1 (ho.range hin h0)
 rw [List.length_reverse,← hl] at this
 exact ⟨by rw [hl];simp,this⟩
theorem ord_post {bs:List BlockM} {w w':World} {dn bg l:List Nat} {g cap base:Nat} (hin:EndsIn bs) (h0:0 < bs.length) (hv:Visit (succM bs) (succM bs 0) ([0],[]) (bg,dn)) (hl:l=dn ++ [0]) (hb:w.heap.size ≤ base)
  (hown:w'.ownsRow base 3 1 (.slice (some ⟨g,0,none⟩) l.length cap) l.length (natInts l.reverse)) (hB:Below w.heap.size w w') :
  OrdPost bs w (.returned (.slice (some ⟨g,0,none⟩) l.length cap)) w':=by
 subst hl
 have ho:OrderIs bs (dn ++ [0]).reverse:=⟨bg,dn,hv,rfl⟩
 refine ⟨(dn ++ [0]).reverse,g,cap,by rw [List.length_reverse],ho,by simp,?_,?_,hB⟩
 ·exact below_len _ _ ho.facts.2.1 (ho.range hin h0)
 ·rw [List.length_reverse]
  exact World.ownsRow.mono hown hb
set_option maxRecDepth 100000 in
set_option maxHeartbeats 2000000 in
theorem order_any (bs:List BlockM) (B:Nat) (pv av cv bv:Value) (w:World) (hbv:BlocksR w B bv bs) (hB:B ≤ w.heap.size) (h0:0 < bs.length) (hn5:bs.length ≤ 512) (hin:EndsIn bs) :
  Calls Tryz.prog 116 #[.agg #[pv,av,cv,bv]] w (OrdPost bs w):=by
 have HBL:=hideI hbv
 have HIN:=hideI hin
 obtain ⟨A,c,rfl,hbm,_⟩:=hbv
 obtain ⟨i0,hix,hz0,hz1,hz2⟩:=info_parts bool_info
 clear hin
 go_enter Tryz.func116,Tryz.ntmps116
 go_wp2_with (first
  | (at_make;go_must (refine wpList_make_full _ rfl _ _ 91 rfl (w.heap.size + 1) 4 i0 (.bool false) 1 Tryz.underlying91 hix hz0 hz1 .i64 .i64 _ _ bs.length rfl rfl rfl rfl (by rw [hz2];omega) (by unfold maxLen;omega) (by simp) ?_);intro w1 hown1 hg1;rw [World.size_alloc] at hown1;go_must (have HD0:=hideI (dfs_new hown1 hg1);have HB0:Hid (∀ o1 o2 o3:Obj,Below w.heap.size w (((w1.alloc o1).alloc o2).alloc o3)):=fun o1 o2 o3 => dfs_below hg1;clear hown1 hg1))
  | (go_at_call 166;go_must (refine (visit_any bs w.heap.size w1.heap.size pv av cv _ hn5 HIN.out bs.length [] [] 0 _ (by simp) (by simp) (by simp) (by simp) h0 (by simp) ((HBL.out.more' hB).keeps (Keeps.of_below (HB0.out _ _ _))) HD0.out).mono ?_);rintro e w2 ⟨bg,dn,rfl,hv,hd,hb⟩;obtain ⟨l,hl⟩:∃ l,l=dn ++ [0]:=⟨_,rfl⟩;rw [← hl] at hd;have HL:=hideI hl;obtain ⟨hl0,hl1⟩:=ord_len HIN.out h0 hv hl;have HV:=hideI hv;have HB2:=hideI ((HB0.out _ _ _).trans hb);have hR:=hd.hR;obtain ⟨v,hdv,hown⟩:=hd.done;obtain ⟨g,cap,rfl,hg1,hg2⟩:=hown.form hl0;have hdb:=cell_of_one hdv;have HDV:=hideI hdv;have HO:=hideI hown;clear hv hd hb hdv hown HD0 HB0 hl)
  | (go_at_call 167;go_must (refine (reverse_nat (w1.heap.size + 3) g cap l _ hl0 (by omega) HO.out).mono ?_);rintro e w3 ⟨rfl,ho3,hg3⟩;have HO3:=hideI ho3;have HG3:=hideI hg3;have hdb3:=cell_of_one ((hg3.block (w1.heap.size + 1) (lt_of_block HDV.out) (by simp;omega)).trans HDV.out);clear ho3 hg3 hdb))
 go_ret
 refine ord_post HIN.out h0 HV.out HL.out (by omega) HO3.out (HB2.out.trans ⟨HG3.out.os,HG3.out.tape,HG3.out.output,HG3.out.size,fun b hb => HG3.out.block b (Nat.lt_of_lt_of_le hb HB2.out.size) (by simp;omega)⟩)
end Go.Proofs.YtaehbgppfahdeaaGreat

namespace Go.Proofs.YtaehbgppfahdeaaGreat
open Go.RowKit Go.Maps
theorem nat_cell {w:World} {base g n cap i x:Nat} {o:List Nat} (h:w.ownsRow base 3 1 (.slice (some ⟨g,0,none⟩) n cap) n (natInts o)) (hx:o[i]?=some x):w.cell? ⟨g,i,none⟩=some (.int .i64 (x:Int)):=by
 have hl:o.length=n:=by have:=h.1;unfold natInts at this;simpa using this
 have hi:=(List.getElem?_eq_some_iff.1 hx).1
 rw [World.ownsRow.cellAt h i (by omega)]
 unfold natInts
 rw [List.getElem?_map,hx]
 rfl
theorem own_kept_below {base B:Nat} {e:TypeId} {size n:Nat} {v:Value} {xs:List Value} {w w':World} (h:w.ownsRow base e size v n xs) (hb:Below B w w') (hv:∀ k,v.ownBlock=some k → k < B):w'.ownsRow base e size v n xs:=by
 refine ⟨h.1,?_⟩
 rcases h.2 with h2 | ⟨g,cap,cur,rfl,h3,h4,r⟩
 ·exact .inl h2
 ·exact .inr ⟨g,cap,cur,rfl,h3,(hb.block g (hv g rfl)).trans h4,r⟩
end Go.Proofs.YtaehbgppfahdeaaGreat

namespace Go.Proofs.YtaehbgppfahdeaaGreat
open Go.RowKit
def IdxIs (xs:List Int) (x r:Int):Prop:=(r=-1 ∧ x ∉ xs) ∨ ∃ k:Nat,r=k ∧ xs[k]?=some x ∧ x ∉ xs.take k
theorem IdxIs.mem {xs:List Int} {x r:Int} (h:IdxIs xs x r):decide (x ∈ xs)=decide (0 ≤ r):=by
 rcases h with ⟨rfl,h⟩ | ⟨k,rfl,h,_⟩
 ·simp [h]
 ·simp [List.mem_of_getElem? h]
def IdxPost (xs:List Int) (x:Int) (w:World) (e:Ending) (w':World):Prop:=∃ r,e=.returned (.int .i64 r) ∧ IdxIs xs x r ∧ w=w'
theorem not_mem_take_succ {xs:List Int} {k:Nat} {x y:Int} (h:x ∉ xs.take k) (hy:xs[k]?=some y) (hne:y ≠ x):x ∉ xs.take (k + 1):=by
 rw [List.take_add_one,hy]
 simp only [Option.toList_some,List.mem_append,List.mem_singleton,not_or]
 exact ⟨h,fun e => hne e.symm⟩
set_option maxRecDepth 100000 in
set_option maxHeartbeats 1000000 in
theorem index_any (xs:List Int) (B:Nat) (v:Value) (x:Int) (w:World) (hx:Ints w B v xs) :
  Calls Tryz.prog 213 #[v,.int .i64 x] w (IdxPost xs x w):=by
 obtain ⟨A,c,rfl,hm,hcell⟩:=hx
 have HC:=hideI hcell
 clear hcell
 go_enter Tryz.func213,Tryz.ntmps213
 go_wp2
 go_loop [8] (fun u => ∃ k:Nat,k ≤ xs.length ∧ u=.int .i64 k ∧ Hid (x ∉ xs.take k)) (fun u => xs.length - (intOf u).toNat)
 case atStart => exact ⟨0,Nat.zero_le _,rfl,by exact hideI (by simp)⟩
 case round =>
  obtain ⟨k,hk,rfl,HN⟩:=hrel
  by_cases hlt:k < xs.length
  ·obtain ⟨b,off,rfl,hb,hcell⟩:=HC.out k hlt
   obtain ⟨y,hy⟩:∃ y,xs[k]?=some y:=⟨_,List.getElem?_eq_getElem hlt⟩
   rw [hy] at hcell
   simp only [Option.getD_some] at hcell
   have HY:=hideI hy
   clear hy
   cases he:x == y
   ·have HE:=hideI he
    go_wp2
    go_round
    case rel => exact ⟨k + 1,by omega,by go_num,hideI (not_mem_take_succ HN.out HY.out (by have:=HE.out;simp at this;exact fun e => this e.symm))⟩
    case measure => simp [intOf];omega
   ·have HE:=hideI he
    go_wp2
    go_ret
    exact ⟨k,rfl,.inr ⟨k,rfl,by have:=HE.out;simp at this;rw [this];exact HY.out,HN.out⟩,rfl⟩
  ·have HE:Hid (xs.take k=xs):=List.take_of_length_le (by omega)
   rw [HE.out] at HN
   go_wp2
   go_ret
   exact ⟨-1,rfl,.inl ⟨rfl,HN.out⟩,rfl⟩
set_option maxHeartbeats 1000000 in
theorem contains_any (xs:List Int) (B:Nat) (v:Value) (x:Int) (w:World) (hx:Ints w B v xs) :
  Calls Tryz.prog 180 #[v,.int .i64 x] w fun e w' => e=.returned (.bool (decide (x ∈ xs))) ∧ w=w':=by
 have HX:=hideI hx
 obtain ⟨A,c,rfl,hm,_⟩:=hx
 go_enter Tryz.func180,Tryz.ntmps180
 go_wp2_with (go_at_call 213;go_must (refine (index_any xs B _ x _ HX.out).mono ?_);rintro e w2 ⟨r,rfl,hr,rfl⟩;have HR:=hideI hr;clear hr)
 go_ret
 exact ⟨by rw [HR.out.mem];rfl,rfl⟩
set_option maxRecDepth 100000 in
set_option maxHeartbeats 1000000 in
theorem has_any (xs:List Int) (B:Nat) (v:Value) (x:Int) (w:World) (hx:Ints w B v xs) :
  Calls Tryz.prog 56 #[v,.int .i64 x] w fun e w' => e=.returned (.bool (decide (x ∈ xs))) ∧ w=w':=by
 obtain ⟨A,c,rfl,hm,hcell⟩:=hx
 have HC:=hideI hcell
 clear hcell
 go_enter Tryz.func56,Tryz.ntmps56
 go_wp2
 go_loop [5] (fun u => ∃ k:Nat,k ≤ xs.length ∧ u=.int .i64 k ∧ Hid (x ∉ xs.take k)) (fun u => xs.length - (intOf u).toNat)
 case atStart => exact ⟨0,Nat.zero_le _,rfl,by exact hideI (by simp)⟩
 case round =>
  obtain ⟨k,hk,rfl,HN⟩:=hrel
  by_cases hlt:k < xs.length
  ·obtain ⟨b,off,rfl,hb,hcell⟩:=HC.out k hlt
   obtain ⟨y,hy⟩:∃ y,xs[k]?=some y:=⟨_,List.getElem?_eq_getElem hlt⟩
   rw [hy] at hcell
   simp only [Option.getD_some] at hcell
   have HY:=hideI hy
   clear hy
   cases he:y == x
   ·have HE:=hideI he
    go_wp2
    go_round
    case rel => exact ⟨k + 1,by omega,by go_num,hideI (not_mem_take_succ HN.out HY.out (by have:=HE.out;simpa using this))⟩
    case measure => simp [intOf];omega
   ·have HE:=hideI he
    go_wp2
    go_ret
    exact ⟨by have h1:=HE.out;simp at h1;have h2:=List.mem_of_getElem? HY.out;rw [h1] at h2;simp [h2],rfl⟩
  ·have HE:Hid (xs.take k=xs):=List.take_of_length_le (by omega)
   rw [HE.out] at HN
   go_wp2
   go_ret
   exact ⟨by have:=HN.out;simp [this],rfl⟩
end Go.Proofs.YtaehbgppfahdeaaGreat
namespace Go.Proofs.YtaehbgppfahdeaaGreat
open Go.RowKit Go.Maps
theorem ints_info:(Tryz.prog.info? 22).map (fun i => (i.zero,i.size,i.bytes))=some (some (.slice none 0 0),1,24):=by kernel_rfl
structure Lists (w:World) (base gb n:Nat) (vs:List Value) (ls:List (List Nat)):Prop where
 vl:vs.length=n
 ll:ls.length=n
 row:w.ownsRow base 22 1 (.slice (some ⟨gb,0,none⟩) n n) n vs
 own:∀ (t:Nat) v l,vs[t]?=some v → ls[t]?=some l → w.ownsRow (gb + 1) 3 1 v l.length (natInts l)
 apart:∀ (t t':Nat) v v',t ≠ t' → vs[t]?=some v → vs[t']?=some v' → v.ownBlock=none ∨ v.ownBlock ≠ v'.ownBlock
variable {w w1:World} {base gb n:Nat} {vs:List Value} {ls:List (List Nat)}
theorem Lists.lt (h:Lists w base gb n vs ls):base ≤ gb ∧ gb < w.heap.size:=h.row.lt gb rfl
theorem Lists.made {W:World} (hown:W.ownsRow base 22 1 (.slice (some ⟨gb,0,none⟩) n n) n (madeCells (Value.slice none 0 0).cells (n * 1)).toList):Lists W base gb n (List.replicate n (.slice none 0 0)) ((List.range n).map fun _ => []):=by
 rw [show (Value.slice none 0 0).cells=#[Value.slice none 0 0] from rfl,toList_madeCells_one,Nat.mul_one] at hown
 refine ⟨by simp,by simp,hown,fun t v l hv hl => ?_,fun t t' v v' _ hv _ => ?_⟩
 ·have e1:=List.mem_of_getElem? hv
  rw [List.mem_replicate] at e1
  obtain ⟨_,rfl⟩:=e1
  have e2:=List.mem_of_getElem? hl
  rw [List.mem_map] at e2
  obtain ⟨_,_,rfl⟩:=e2
  exact World.ownsRow_nil _ _ _ _
 ·have e1:=List.mem_of_getElem? hv
  rw [List.mem_replicate] at e1
  obtain ⟨_,rfl⟩:=e1
  exact .inl rfl
theorem Lists.push {t b g' cap':Nat} {v:Value} {l:List Nat} {o:Obj} (h:Lists w base gb n vs ls) (hv:vs[t]?=some v) (hl:ls[t]?=some l)
  (hown':w1.ownsRow (gb + 1) 3 1 (.slice (some ⟨g',0,none⟩) (l.length + 1) cap') (l.length + 1) (natInts l ++ [.int .i64 (b:Int)])) (hg:(w.alloc o).grownBy w1 v.ownBlock) (hor:v.ownBlock=some g' ∨ g'=(w.alloc o).heap.size) :
  Lists (w1.setCell ⟨gb,t,none⟩ (.slice (some ⟨g',0,none⟩) (l.length + 1) cap')) base gb n (vs.set t (.slice (some ⟨g',0,none⟩) (l.length + 1) cap')) (ls.set t (l ++ [b])):=by
 have htl:t < vs.length:=(List.getElem?_eq_some_iff.1 hv).1
 have htl2:t < ls.length:=(List.getElem?_eq_some_iff.1 hl).1
 have hvo:=h.own t v l hv hl
 have hgbv:∀ k,v.ownBlock=some k → gb + 1 ≤ k:=fun k hk => (hvo.lt k hk).1
 have hrow1:w1.ownsRow base 22 1 (.slice (some ⟨gb,0,none⟩) n n) n vs:=(h.row.alloc o).kept hg (.inr (fun e => by have:=hgbv gb e.symm;omega))
 refine ⟨by rw [List.length_set,h.vl],by rw [List.length_set,h.ll],(hrow1.stored t _).1,fun t' v' l' hv' hl' => ?_,fun t1 t2 v1 v2 hne h1 h2 => ?_⟩
 ·by_cases e:t=t'
  ·subst e
   rw [List.getElem?_set_self htl] at hv'
   rw [List.getElem?_set_self htl2] at hl'
   cases hv'
   cases hl'
   have h1:=ownsRow_setCell_other hown' (a:=⟨gb,t,none⟩) (by
    intro e
    have:=(hown'.lt _ e).1
    simp only at this
    omega) (.slice (some ⟨g',0,none⟩) (l.length + 1) cap')
   simpa [natInts] using h1
  ·rw [List.getElem?_set_ne e] at hv' hl'
   have h0:=h.own t' v' l' hv' hl'
   have h1:=(h0.alloc o).kept hg (by
    rcases h.apart t' t v' v (fun x => e x.symm) hv' hv with h2 | h2
    ·exact .inl h2
    ·exact .inr h2)
   exact ownsRow_setCell_other h1 (by
    intro e
    have:=(h1.lt _ e).1
    simp only at this
    omega) _
 ·have hlt:∀ (t:Nat) v k,vs[t]?=some v → v.ownBlock=some k → k < w.heap.size:=fun t v k hv hk => by
   have ht:t < ls.length:=by rw [h.ll,← h.vl];exact (List.getElem?_eq_some_iff.1 hv).1
   exact ((h.own t v _ hv (List.getElem?_eq_getElem ht)).lt k hk).2
  by_cases e1:t=t1
  ·subst e1
   rw [List.getElem?_set_self htl] at h1
   rw [List.getElem?_set_ne hne] at h2
   cases h1
   right
   intro e
   rcases hor with h3 | h3
   ·rcases h.apart t2 t v2 v (fun x => hne x.symm) h2 hv with h4 | h4
    ·rw [h4] at e;cases e
    ·exact h4 (e.symm.trans (by rw [h3];rfl))
   ·have:=hlt t2 v2 g' h2 e.symm
    simp at h3
    omega
  ·rw [List.getElem?_set_ne e1] at h1
   by_cases e2:t=t2
   ·subst e2
    rw [List.getElem?_set_self htl] at h2
    cases h2
    rcases hor with h3 | h3
    ·rcases h.apart t1 t v1 v (fun x => hne x) h1 hv with h4 | h4
     ·exact .inl h4
     ·exact .inr (fun e => h4 (e.trans (by rw [h3];rfl)))
    ·right
     intro e
     have:=hlt t1 v1 g' h1 e
     simp at h3
     omega
   ·rw [List.getElem?_set_ne e2] at h2
    exact h.apart t1 t2 v1 v2 hne h1 h2
theorem Lists.pushed {t:Nat} {v:Value} {l:List Nat} {o:Obj} {u:Value} {B:Nat} {w0:World} (h:Lists w base gb n vs ls) (hv:vs[t]?=some v) (hl:ls[t]?=some l) (hg:(w.alloc o).grownBy w1 v.ownBlock) (hB:Below B w0 w) (hBg:B ≤ gb) :
  Below B w0 (w1.setCell ⟨gb,t,none⟩ u):=by
 have hlt:=h.lt
 refine ((hB.alloc (by omega) o).grown hg (by simp;omega) (fun j hj => ?_)).setCell (by simpa using hBg) _
 have:=((h.own t v l hv hl).lt j hj).1
 omega
theorem Lists.held {t:Nat} {v:Value} {l:List Nat} {o:Obj} (h:Lists w base gb n vs ls) (hv:vs[t]?=some v) (hl:ls[t]?=some l) (hg:(w.alloc o).grownBy w1 v.ownBlock):w1.cell? ⟨gb,t,none⟩=some v ∧ w1.frozen? ⟨gb,t,none⟩=false:=by
 have hrow1:w1.ownsRow base 22 1 (.slice (some ⟨gb,0,none⟩) n n) n vs:=(h.row.alloc o).kept hg (.inr (fun e => by have:=((h.own t v l hv hl).lt gb e.symm).1;omega))
 have htl:t < vs.length:=(List.getElem?_eq_some_iff.1 hv).1
 have hvl:=h.vl
 exact ⟨by rw [World.ownsRow.cellAt hrow1 t (by omega)];exact hv,World.ownsRow.frozenAt hrow1 t⟩
theorem nat_ints {w:World} {B n:Nat} {v:Value} {l:List Nat} (h:w.ownsRow B 3 1 v n (natInts l)) (hl:l.length ≤ 100000):Ints w w.heap.size v (l.map fun (x:Nat) => (x:Int)):=by
 refine ints_own (B:=B) (n:=n) ?_ (by rw [List.length_map];omega)
 rw [List.map_map]
 exact h
theorem mem_nat {l:List Nat} {k:Nat}:((k:Int) ∈ l.map fun (x:Nat) => (x:Int)) ↔ k ∈ l:=by
 rw [List.mem_map]
 constructor
 ·rintro ⟨x,hx,he⟩
  have:x=k:=by omega
  exact this ▸ hx
 ·exact fun h => ⟨k,h,rfl⟩
def predsTo (bs:List BlockM) (k t:Nat):List Nat:=(List.range k).filter fun b => decide (t ∈ succM bs b)
theorem predsTo_lt {bs:List BlockM} {k t x:Nat} (h:x ∈ predsTo bs k t):x < k:=by
 unfold predsTo at h
 simpa using (List.mem_filter.1 h).1
theorem predsTo_succ (bs:List BlockM) (k t:Nat):predsTo bs (k + 1) t=predsTo bs k t ++ if t ∈ succM bs k then [k] else []:=by
 unfold predsTo
 rw [List.range_succ,List.filter_append]
 by_cases h:t ∈ succM bs k <;> simp [h]
theorem predsTo_len (bs:List BlockM) (k t:Nat):(predsTo bs k t).length ≤ k:=by
 unfold predsTo
 have:=List.length_filter_le (fun b => decide (t ∈ succM bs b)) (List.range k)
 simpa using this
def predsAt (bs:List BlockM) (n k i:Nat):List (List Nat):=(List.range n).map fun t => predsTo bs k t ++ if t ∈ (succM bs k).take i then [k] else []
theorem predsAt_at {bs:List BlockM} {n k i t:Nat} (h:t < n):(predsAt bs n k i)[t]?=some (predsTo bs k t ++ if t ∈ (succM bs k).take i then [k] else []):=by
 unfold predsAt
 rw [List.getElem?_map,List.getElem?_eq_getElem (by simpa using h)]
 simp
theorem predsAt_zero (bs:List BlockM) (n:Nat):predsAt bs n 0 0=(List.range n).map fun _ => []:=by
 unfold predsAt predsTo
 simp
theorem predsAt_next (bs:List BlockM) (n k:Nat) {i:Nat} (hi:(succM bs k).length ≤ i):predsAt bs n k i=predsAt bs n (k + 1) 0:=by
 unfold predsAt
 apply List.map_congr_left
 intro t _
 rw [predsTo_succ,List.take_of_length_le hi]
 simp
theorem predsAt_skip {bs:List BlockM} {n k i t:Nat} (ht:(succM bs k)[i]?=some t) (hin:t ∈ (succM bs k).take i):predsAt bs n k (i + 1)=predsAt bs n k i:=by
 unfold predsAt
 apply List.map_congr_left
 intro u _
 have:u ∈ (succM bs k).take (i + 1) ↔ u ∈ (succM bs k).take i:=by
  rw [List.take_add_one,ht]
  simp only [Option.toList_some,List.mem_append,List.mem_singleton]
  constructor
  ·rintro (h | rfl)
   ·exact h
   ·exact hin
  ·exact .inl
 simp only [this]
theorem predsAt_push {bs:List BlockM} {n k i t:Nat} (ht:(succM bs k)[i]?=some t) (_hn:t ∉ (succM bs k).take i) (_htn:t < n):(predsAt bs n k i).set t (predsTo bs k t ++ [k])=predsAt bs n k (i + 1):=by
 apply List.ext_getElem?
 intro u
 by_cases hu:u < n
 ·rw [predsAt_at hu]
  have hm:u ∈ (succM bs k).take (i + 1) ↔ u ∈ (succM bs k).take i ∨ u=t:=by
   rw [List.take_add_one,ht]
   simp
  by_cases e:t=u
  ·subst e
   rw [List.getElem?_set_self (by unfold predsAt;simpa using hu)]
   simp [hm]
  ·rw [List.getElem?_set_ne e,predsAt_at hu]
   have:u ∈ (succM bs k).take (i + 1) ↔ u ∈ (succM bs k).take i:=by rw [hm];exact ⟨fun h => h.resolve_right (fun x => e x.symm),.inl⟩
   simp only [this]
 ·rw [List.getElem?_eq_none (by rw [List.length_set];unfold predsAt;simp;omega),List.getElem?_eq_none (by unfold predsAt;simp;omega)]
theorem predsAt_mem {bs:List BlockM} {k i t:Nat}:k ∈ predsTo bs k t ++ (if t ∈ (succM bs k).take i then [k] else []) ↔ t ∈ (succM bs k).take i:=by
 constructor
 ·intro h
  rcases List.mem_append.1 h with h | h
  ·have:=predsTo_lt h;omega
  ·split at h
   ·assumption
   ·cases h
 ·intro h
  rw [if_pos h]
  simp
end Go.Proofs.YtaehbgppfahdeaaGreat
