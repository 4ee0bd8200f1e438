/- The reference's Without: what can be come to without one block. -/
import Derived.Test.YtclbhbnidodmdaaWays
import Derived.Test.YtclbhbnidodmdaaGOutP
import Derived.Deep.LoopGhost
import Derived.ArgAppend
namespace Go.Proofs.Ytclbhbnidodmdaa

inductive ReachW (bs : List BlockM) (gone : Int) : Nat → Prop
  | start (h : gone ≠ 0) : ReachW bs gone 0
  | step {x y : Nat} (h : ReachW bs gone y) (hx : x ∈ succM bs y) (hg : (x : Int) ≠ gone) : ReachW bs gone x

/-- the state of the search: S is marked, ws is still to be looked at; of one block the first i ends are looked at -/
structure Bfs (bs : List BlockM) (gone : Int) (b : Option (Nat × Nat)) (S ws : List Nat) : Prop where
  nodup : S.Nodup
  lt : ∀ x ∈ S, x < bs.length
  sound : ∀ x ∈ S, ReachW bs gone x
  zero : 0 ∈ S
  sub : ∀ x ∈ ws, x ∈ S
  closed : ∀ x ∈ S, x ∈ ws ∨ ∀ (j y : Nat), (succM bs x)[j]? = some y → (y : Int) ≠ gone → (∀ i, b = some (x, i) → j < i) → y ∈ S
  here : ∀ x i, b = some (x, i) → x ∈ S

variable {bs : List BlockM} {gone : Int} {b i t : Nat} {S ws : List Nat}

theorem Bfs.start (h : gone ≠ 0) (hn : 0 < bs.length) : Bfs bs gone none [0] [0] :=
  ⟨by simp, by simpa using hn, by simpa using ReachW.start h, by simp, by simp, fun x hx => .inl (by simpa using hx), fun _ _ h => by cases h⟩

theorem Bfs.pop (h : Bfs bs gone none S (b :: ws)) : Bfs bs gone (some (b, 0)) S ws := by
  refine ⟨h.nodup, h.lt, h.sound, h.zero, fun x hx => h.sub x (List.mem_cons_of_mem _ hx), fun x hx => ?_, fun x i e => by cases e; exact h.sub _ (List.mem_cons_self ..)⟩
  by_cases e : x = b
  · subst e
    exact .inr fun j y _ _ hi => absurd (hi 0 rfl) (by omega)
  · rcases h.closed x hx with h1 | h1
    · rcases List.mem_cons.1 h1 with h2 | h2
      · exact absurd h2 e
      · exact .inl h2
    · exact .inr fun j y hj hy _ => h1 j y hj hy (fun i e => by cases e)

theorem Bfs.skip (h : Bfs bs gone (some (b, i)) S ws) (ht : (succM bs b)[i]? = some t) (hs : t ∈ S ∨ (t : Int) = gone) : Bfs bs gone (some (b, i + 1)) S ws := by
  refine ⟨h.nodup, h.lt, h.sound, h.zero, h.sub, fun x hx => ?_, fun x k e => by cases e; exact h.here _ _ rfl⟩
  rcases h.closed x hx with h1 | h1
  · exact .inl h1
  · right
    intro j y hj hy hi
    by_cases e : x = b
    · subst e
      have hji := hi _ rfl
      by_cases e2 : j = i
      · subst e2
        rw [ht] at hj
        cases hj
        exact hs.resolve_right hy
      · exact h1 j y hj hy (fun k ek => by cases ek; omega)
    · exact h1 j y hj hy (fun k ek => by cases ek; exact absurd rfl e)

theorem Bfs.push (h : Bfs bs gone (some (b, i)) S ws) (ht : (succM bs b)[i]? = some t) (hs : t ∉ S) (hg : (t : Int) ≠ gone) (hl : t < bs.length) : Bfs bs gone (some (b, i + 1)) (t :: S) (ws ++ [t]) := by
  refine ⟨List.nodup_cons.2 ⟨hs, h.nodup⟩, fun x hx => ?_, fun x hx => ?_, List.mem_cons_of_mem _ h.zero, fun x hx => ?_, fun x hx => ?_, fun x k e => by cases e; exact List.mem_cons_of_mem _ (h.here _ _ rfl)⟩
  · rcases List.mem_cons.1 hx with rfl | hx
    · exact hl
    · exact h.lt x hx
  · rcases List.mem_cons.1 hx with rfl | hx
    · exact .step (h.sound b (h.here _ _ rfl)) (List.mem_of_getElem? ht) hg
    · exact h.sound x hx
  · rcases List.mem_append.1 hx with hx | hx
    · exact List.mem_cons_of_mem _ (h.sub x hx)
    · rw [List.mem_singleton] at hx
      subst hx
      exact List.mem_cons_self ..
  · rcases List.mem_cons.1 hx with rfl | hx
    · exact .inl (by simp)
    · rcases h.closed x hx with h1 | h1
      · exact .inl (List.mem_append_left _ h1)
      · right
        intro j y hj hy hi
        by_cases e : x = b
        · subst e
          have hji := hi _ rfl
          by_cases e2 : j = i
          · subst e2
            rw [ht] at hj
            cases hj
            exact List.mem_cons_self ..
          · exact List.mem_cons_of_mem _ (h1 j y hj hy (fun k ek => by cases ek; omega))
        · exact List.mem_cons_of_mem _ (h1 j y hj hy (fun k ek => by cases ek; exact absurd rfl e))

theorem Bfs.next (h : Bfs bs gone (some (b, i)) S ws) (hi : (succM bs b).length ≤ i) : Bfs bs gone none S ws := by
  refine ⟨h.nodup, h.lt, h.sound, h.zero, h.sub, fun x hx => ?_, fun _ _ e => by cases e⟩
  rcases h.closed x hx with h1 | h1
  · exact .inl h1
  · right
    intro j y hj hy _
    refine h1 j y hj hy (fun k ek => ?_)
    cases ek
    have := (List.getElem?_eq_some_iff.1 hj).1
    omega

theorem Bfs.all (h : Bfs bs gone none S []) (x : Nat) : x ∈ S ↔ ReachW bs gone x := by
  refine ⟨h.sound x, fun hr => ?_⟩
  induction hr with
  | start => exact h.zero
  | step _ hx hg ih =>
    rcases h.closed _ ih with h1 | h1
    · cases h1
    · obtain ⟨j, hj⟩ := List.getElem?_of_mem hx
      exact h1 j _ hj hg (fun _ e => by cases e)

/-- the order holds just what can be come to -/
theorem OrderIs.reach {o : List Nat} (h : OrderIs bs o) (x : Nat) : x ∈ o ↔ ReachW bs (-1) x := by
  obtain ⟨h0, hn, hc, hp⟩ := h.facts
  constructor
  · intro hx
    obtain ⟨i, hi⟩ := List.getElem?_of_mem hx
    clear hx
    induction i using Nat.strongRecOn generalizing x with
    | ind i ih =>
      rcases Nat.eq_zero_or_pos i with rfl | hpos
      · rw [h0] at hi
        cases hi
        exact .start (by decide)
      · obtain ⟨j, y, hj, hy, hs⟩ := hp i x hpos hi
        exact .step (ih j hj y hy) hs (by omega)
  · intro hr
    induction hr with
    | start => exact List.mem_of_getElem? h0
    | step _ hx _ ih => exact hc _ ih _ hx

end Go.Proofs.Ytclbhbnidodmdaa

namespace Go.Proofs.Ytclbhbnidodmdaa
open Go.RowKit Go.Maps

/-- a list that is cut at its front and grows at its end -/
def WorkR (w : World) (base : Nat) (v : Value) (ws : List Nat) : Prop :=
  ∃ g off cap cur, v = .slice (some ⟨g, off, none⟩) ws.length cap ∧ base ≤ g ∧ w.heap[g]? = some (.cells cur 3 (0, 0)) ∧ ws.length ≤ cap ∧ off + cap ≤ cur.size ∧ cap ≤ maxLen ∧ ∀ i (x : Nat), ws[i]? = some x → cur[off + i]? = some (.int .i64 (x : Int))

theorem WorkR.block {w w' : World} {base : Nat} {v : Value} {ws : List Nat} (h : WorkR w base v ws) (hk : ∀ g, base ≤ g → g < w.heap.size → w'.heap[g]? = w.heap[g]?) : WorkR w' base v ws := by
  obtain ⟨g, off, cap, cur, rfl, hb, hg, r⟩ := h
  exact ⟨g, off, cap, cur, rfl, hb, (hk g hb (Array.getElem?_eq_some_iff.1 hg).1).trans hg, r⟩

theorem WorkR.start {w : World} {base : Nat} (hb : base ≤ w.heap.size) : WorkR (w.alloc (.cells #[.int .i64 0] 3)) base (.slice (some ⟨w.heap.size, 0, none⟩) 1 1) [0] :=
  ⟨_, 0, 1, _, rfl, hb, heap_alloc_new w _, Nat.le_refl _, by simp, by decide, fun i x hx => by
    rcases i with _ | i
    · simp at hx; subst hx; rfl
    · simp at hx⟩

theorem WorkR.room {w : World} {base g off cap t : Nat} {cur : Array Value} {ws : List Nat} {o : Obj} (hb : base ≤ g) (hg : w.heap[g]? = some (.cells cur 3 (0, 0))) (h1 : off + cap ≤ cur.size) (h2 : cap ≤ maxLen) (h3 : ∀ i (x : Nat), ws[i]? = some x → cur[off + i]? = some (.int .i64 (x : Int))) (hr : ws.length + 1 ≤ cap) :
    WorkR ((w.alloc o).setCells g (off + ws.length) [.int .i64 (t : Int)]) base (.slice (some ⟨g, off, none⟩) (ws.length + 1) cap) (ws ++ [t]) := by
  have hgl := (Array.getElem?_eq_some_iff.1 hg).1
  have hg2 : (w.alloc o).heap[g]? = some (.cells cur 3 (0, 0)) := (Below.heap_alloc w o g hgl).trans hg
  refine ⟨g, off, cap, cur.setIfInBounds (off + ws.length) (.int .i64 (t : Int)), by rw [List.length_append]; rfl, hb, ?_, by rw [List.length_append]; exact hr, by simpa using h1, h2, fun i x hx => ?_⟩
  · exact heap_setCell_same _ g _ cur _ _ hg2
  · rw [Array.getElem?_setIfInBounds]
    by_cases hi : i < ws.length
    · rw [List.getElem?_append_left hi] at hx
      rw [if_neg (by omega)]
      exact h3 i x hx
    · rw [List.getElem?_append_right (by omega)] at hx
      have hi2 : i = ws.length := by
        have := (List.getElem?_eq_some_iff.1 hx).1
        simp at this
        omega
      subst hi2
      simp at hx
      subst hx
      rw [if_pos rfl, if_pos (by omega)]

theorem WorkR.own {w : World} {base b0 t : Nat} {v : Value} {ws : List Nat} {xs : List Value} (hown : w.ownsRow b0 3 1 v (ws.length + 1) (xs ++ [.int .i64 (t : Int)])) (hb : base ≤ b0) (hxs : xs = natInts ws) : WorkR w base v (ws ++ [t]) := by
  subst hxs
  rcases hown.2 with ⟨_, h⟩ | ⟨g, cap, cur, rfl, hbg, hg, hc, hm, hs, ht⟩
  · omega
  · refine ⟨g, 0, cap, cur, by rw [List.length_append]; rfl, by omega, hg, by rw [List.length_append]; exact hc, by omega, hm, fun i x hx => ?_⟩
    have hi := (List.getElem?_eq_some_iff.1 hx).1
    rw [List.length_append, List.length_singleton] at hi
    have h1 : (cur.toList.take ((ws.length + 1) * 1))[i]? = (natInts (ws ++ [t]))[i]? := by rw [ht]; unfold natInts; rw [List.map_append]; rfl
    rw [List.getElem?_take, if_pos (by omega)] at h1
    rw [Nat.zero_add, ← Array.getElem?_toList, h1]
    unfold natInts
    rw [List.getElem?_map, hx]
    rfl

theorem work_spare {X : World} {g off n : Nat} {cur : Array Value} (hg : X.heap[g]? = some (.cells cur 3 (0, 0))) (h : off + n < cur.size) (x : Value) : ∀ j, j < [x].length → (X.cell? ⟨g, off + n * 1 + j, none⟩).isSome = true ∧ X.frozen? ⟨g, off + n * 1 + j, none⟩ = false := by
  intro j hj
  simp at hj
  subst hj
  rw [Nat.mul_one, Nat.add_zero]
  refine ⟨?_, frozen_of_row X g (off + n) cur _ hg⟩
  rw [row_cells hg rfl, Array.getElem?_eq_getElem h]
  rfl

theorem one_new' (w : World) (a : Addr) (u x : Value) : ∀ (j : Nat) (y : Value), [x][j]? = some y → ((w.setCell a u).alloc (.cells #[x] 3)).cell? ((⟨w.heap.size, 0, none⟩ : Addr).add j) = some y := by
  have := one_new (w.setCell a u) x
  simpa using this

theorem without_room {wr w1 : World} {N n g i t : Nat} {S : List Nat} {o : Obj} {x : Value} (hs : (wr.setCell ⟨N + 1, t, none⟩ (.bool true)).ownsRow (N + 1) 4 1 (.slice (some ⟨N + 1, 0, none⟩) n n) n (marks n S)) (hb : Below (N + 1) w1 wr) (hg : N + 2 ≤ g) (hsz : N + 1 ≤ w1.heap.size) :
    (((wr.setCell ⟨N + 1, t, none⟩ (.bool true)).alloc o).setCells g i [x]).ownsRow (N + 1) 4 1 (.slice (some ⟨N + 1, 0, none⟩) n n) n (marks n S) ∧ Below (N + 1) w1 (((wr.setCell ⟨N + 1, t, none⟩ (.bool true)).alloc o).setCells g i [x]) := by
  refine ⟨ownsRow_setCell_other (hs.alloc o) (by simp [Value.ownBlock]; omega) _, ?_⟩
  exact ((hb.setCell (Nat.le_refl _) _).alloc (by have := hb.size; simp; omega) _).setCell (by simp; omega) _

theorem without_grow {wr w1 w3 : World} {N n t : Nat} {S : List Nat} {o : Obj} (hs : (wr.setCell ⟨N + 1, t, none⟩ (.bool true)).ownsRow (N + 1) 4 1 (.slice (some ⟨N + 1, 0, none⟩) n n) n (marks n S)) (hb : Below (N + 1) w1 wr) (hsz : N + 1 ≤ w1.heap.size) (hg : ((wr.setCell ⟨N + 1, t, none⟩ (.bool true)).alloc o).grownBy w3 none) :
    w3.ownsRow (N + 1) 4 1 (.slice (some ⟨N + 1, 0, none⟩) n n) n (marks n S) ∧ Below (N + 1) w1 w3 := by
  refine ⟨(hs.alloc o).kept hg (.inr (by simp [Value.ownBlock])), ?_⟩
  exact ((hb.setCell (Nat.le_refl _) _).alloc (by have := hb.size; simp; omega) _).grown hg (by have := hb.size; simp; omega) (by simp)

theorem natInts_at {ws : List Nat} {cur : Array Value} {off : Nat} (h : ∀ i (x : Nat), ws[i]? = some x → cur[off + i]? = some (.int .i64 (x : Int))) {w : World} {g : Nat} (hg : w.heap[g]? = some (.cells cur 3 (0, 0))) :
    ∀ j u, (natInts ws)[j]? = some u → w.cell? ⟨g, off + j, none⟩ = some u := by
  intro j u hu
  unfold natInts at hu
  rw [List.getElem?_map] at hu
  cases hx : ws[j]? with
  | none => rw [hx] at hu; cases hu
  | some x =>
    rw [hx] at hu
    cases hu
    rw [row_cells hg rfl]
    exact h j x hx

def WithoutPost (bs : List BlockM) (gone : Int) (w : World) (e : Ending) (w' : World) : Prop :=
  ∃ (S : List Nat) (g : Nat), e = .returned (.slice (some ⟨g, 0, none⟩) bs.length bs.length) ∧ (∀ x, x ∈ S ↔ ReachW bs gone x) ∧ w'.ownsRow w.heap.size 4 1 (.slice (some ⟨g, 0, none⟩) bs.length bs.length) bs.length (marks bs.length S) ∧ Below w.heap.size w w'

theorem no_zero {bs : List BlockM} (x : Nat) : x ∈ ([] : List Nat) ↔ ReachW bs 0 x := by
  constructor
  · intro h; cases h
  · intro h
    exfalso
    induction h with
    | start h => exact h rfl
    | step _ _ _ ih => exact ih

set_option maxRecDepth 100000 in
set_option maxHeartbeats 4000000 in
theorem refWithout_any (bs : List BlockM) (B : Nat) (pv av cv bv : Value) (gone : Int) (w : World) (hbv : BlocksR w B bv bs) (hB : B ≤ w.heap.size) (h0 : 0 < bs.length) (hn5 : bs.length ≤ 512) (hin : EndsIn bs) (hg0 : gone ≠ 0) :
    Calls Try.prog 20 #[.agg #[pv, av, cv, bv], .int .i64 gone] w (WithoutPost bs gone w) := by
  have HBL := hideI hbv
  have HIN := hideI hin
  have HG0 := hideI hg0
  obtain ⟨A, c, rfl, hbm, _⟩ := hbv
  obtain ⟨i0, hix, hz0, hz1, hz2⟩ := info_parts bool_info
  have hgb : (gone == 0) = false := by simpa using hg0
  clear hin hg0
  go_enter Try.func20, Try.ntmps20
  go_wp2_with (first
    | (at_make; go_must (refine wpList_make_full _ rfl _ _ 31 rfl (w.heap.size + 1) 4 i0 (.bool false) 1 Try.underlying31 hix hz0 hz1 .i64 .i64 _ _ bs.length rfl rfl rfl rfl (by rw [hz2]; omega) (by unfold maxLen; omega) (by simp) ?_); intro w1 hown1 hg1; rw [World.size_alloc] at hown1; go_must (rw [marks_made] at hown1; have HBX := hideI ((hg1.block w.heap.size (by simp) (by simp)).trans (heap_alloc_new w _)); have HB0 : Hid (Below w.heap.size w w1) := ((Below.refl _ _).alloc (Nat.le_refl _) _).grown hg1 (by simp) (by simp); have hlt1 : w.heap.size + 1 < w1.heap.size := (hown1.lt _ rfl).2; have HO1 := hideI hown1; have c0 : w1.cell? ⟨w.heap.size + 1, 0, none⟩ = some (.bool (decide (0 ∈ ([] : List Nat)))) := (by rw [World.ownsRow.cellAt hown1 0 (by omega), marks_at h0]); have f0 : w1.frozen? ⟨w.heap.size + 1, 0, none⟩ = false := World.ownsRow.frozenAt hown1 0; clear hown1 hg1; have hne := fun (h : bs = []) => (by rw [h] at h0; simp at h0 : False))))
  clear hix hz0 hz1 hz2 hgb
  obtain ⟨ws, hws⟩ : ∃ ws : World, ws = (w1.setCell ⟨w.heap.size + 1, 0, none⟩ (.bool true)).alloc (.cells #[.int .i64 0] 3) := ⟨_, rfl⟩
  have HK0 : Hid (WorkR ws (w.heap.size + 2) (.slice (some ⟨w1.heap.size, 0, none⟩) 1 1) [0]) := by
    show WorkR _ _ _ _
    rw [hws]
    have := WorkR.start (w := w1.setCell ⟨w.heap.size + 1, 0, none⟩ (.bool true)) (base := w.heap.size + 2) (by simp; omega)
    simpa using this
  have HOS : Hid (ws.ownsRow (w.heap.size + 1) 4 1 (.slice (some ⟨w.heap.size + 1, 0, none⟩) bs.length bs.length) bs.length (marks bs.length [0])) := by
    show World.ownsRow _ _ _ _ _ _ _
    rw [hws]
    have := (World.ownsRow.stored HO1.out 0 (.bool true)).1.alloc (.cells #[.int .i64 0] 3)
    rwa [marks_set] at this
  have HBS : Hid (Below (w.heap.size + 1) w1 ws) := by show Below _ _ _; rw [hws]; exact ((Below.refl _ _).setCell (by simp) _).alloc (by simp; omega) _
  rw [← hws]
  clear hws c0 f0
  go_loopg [6] (2 * bs.length + 2) (fun gk vo wr => ∃ (S ws : List Nat) (v : Value), v = vo ∧ (bs.length - S.length) * 2 + ws.length ≤ gk ∧ gk ≤ 2 * bs.length + 2 ∧ Hid (Bfs bs gone none S ws) ∧ Hid (WorkR wr (w.heap.size + 2) v ws) ∧ Hid (wr.ownsRow (w.heap.size + 1) 4 1 (.slice (some ⟨w.heap.size + 1, 0, none⟩) bs.length bs.length) bs.length (marks bs.length S)) ∧ Hid (Below (w.heap.size + 1) w1 wr))
  case atStart => exact ⟨[0], [0], _, rfl, by simp; omega, Nat.le_refl _, hideI (Bfs.start HG0.out h0), HK0, HOS, HBS⟩
  case round =>
    obtain ⟨S, ws, v, rfl, hgk, hgm, HF, HK, HO, HBr⟩ := hrel
    obtain ⟨g, off, cap, cur, rfl, hwb, hwg, hwc, hws, hwm, hwx⟩ := HK.out
    have HWX := hideI hwx
    have HWG := hideI hwg
    obtain ⟨L, hL⟩ : ∃ L, L = ws.length := ⟨_, rfl⟩
    rw [← hL]
    cases ws with
    | nil =>
      obtain rfl : L = 0 := hL
      clear hwx hwg
      go_wp2
      go_ret
      exact ⟨S, _, rfl, HF.out.all, World.ownsRow.mono HO.out (by omega), HB0.out.trans (HBr.out.mono (by omega))⟩
    | cons b ws =>
      rw [List.length_cons] at hL
      have hbl : b < bs.length := HF.out.lt b (HF.out.sub b (List.mem_cons_self ..))
      have hSl := below_len _ _ HF.out.nodup HF.out.lt
      have hhead : wr.cell? ⟨g, off, none⟩ = some (.int .i64 (b : Int)) := by rw [row_cells hwg rfl]; exact hwx 0 b rfl
      have HP := hideI HF.out.pop
      obtain ⟨q, hq⟩ : ∃ q, bs[b]? = some q := ⟨_, List.getElem?_eq_getElem hbl⟩
      obtain ⟨A', c', e0, _, hbx⟩ := (HBL.out.more' hB).keeps (Keeps.of_below (HB0.out.trans (HBr.out.mono (Nat.le_succ _))))
      cases e0
      obtain ⟨ab, boff, pq, cq, tv, rfl, hab, x0, x1, x2, x3, x4, x5, _, _, htv, _⟩ := hbx b q hq
      have HTV := hideI htv
      have HQ := hideI hq
      have HSU : Hid (succM bs b = q.term.to.map Int.toNat) := by show _ = _; unfold succM; rw [hq]
      obtain ⟨TA, tc, rfl, htm, _⟩ := htv
      obtain ⟨m, hm⟩ : ∃ m, m = q.term.to.length := ⟨_, rfl⟩
      have HM := hideI hm
      rw [← hm] at x4 htm
      have hxr := row_cells HBX.out (HBr.out.block w.heap.size (by omega))
      have g3 := hxr 3
      simp only [List.length_cons] at hgk hwc
      have HWX1 : Hid (∀ i (x : Nat), ws[i]? = some x → cur[off + 1 + i]? = some (.int .i64 (x : Int))) := fun i x hx => by
        have := HWX.out (i + 1) x (by simpa using hx)
        rwa [show off + (i + 1) = off + 1 + i by omega] at this
      clear hbx hq x0 x1 x2 x3 x5 hm hxr hwx hwg
      have HBo := HBr
      by_cases hc1 : cap = 1
      · subst hc1
        obtain rfl : ws = [] := List.eq_nil_of_length_eq_zero (by omega)
        obtain rfl : L = 1 := hL
        have HK1 : Hid (WorkR wr (w.heap.size + 2) (.slice (some ⟨g, off, none⟩) 0 0) []) := ⟨g, off, 0, cur, rfl, hwb, HWG.out, Nat.le_refl _, by omega, by unfold maxLen; omega, fun i x hx => by simp at hx⟩
        go_wp2
        obtain ⟨wo, rfl⟩ : ∃ wo : World, wo = wr := ⟨_, rfl⟩
        clear x4 hhead g3
        go_loopw [6, 9] (fun vo u wr => ∃ (i : Nat) (S ws : List Nat) (v : Value), v = vo ∧ i ≤ m ∧ u = .int .i64 i ∧ (bs.length - S.length) * 2 + ws.length + 1 ≤ gk ∧ Hid (Bfs bs gone (some (b, i)) S ws) ∧ Hid (WorkR wr (w.heap.size + 2) v ws) ∧ Hid (wr.ownsRow (w.heap.size + 1) 4 1 (.slice (some ⟨w.heap.size + 1, 0, none⟩) bs.length bs.length) bs.length (marks bs.length S)) ∧ Hid (Below (w.heap.size + 1) w1 wr)) (fun _ u _ => m - (intOf u).toNat)
        case atStart => exact ⟨0, S, _, _, rfl, Nat.zero_le _, rfl, by simp; omega, HP, HK1, HO, HBr⟩
        case round =>
          obtain ⟨i, S, ws, v, rfl, hi, rfl, hg2, HF, HK, HO, HBr⟩ := hrel
          obtain ⟨g, off, cap, cur, rfl, hwb, hwg, hwc, hws, hwm, hwx⟩ := HK.out
          have hSl := below_len _ _ HF.out.nodup HF.out.lt
          have hgl := (Array.getElem?_eq_some_iff.1 hwg).1
          have HWX := hideI hwx
          have HWG := hideI hwg
          clear hwx hwg
          by_cases hlt : i < m
          · obtain ⟨t, ht⟩ : ∃ t, q.term.to[i]? = some t := ⟨_, List.getElem?_eq_getElem (by rw [HM.out] at hlt; exact hlt)⟩
            have htn := HIN.out q (List.mem_of_getElem? HQ.out) t (List.mem_of_getElem? ht)
            obtain ⟨tn, rfl⟩ : ∃ tn : Nat, t = (tn : Int) := ⟨t.toNat, by omega⟩
            have htl : tn < bs.length := by omega
            have HTI : Hid ((succM bs b)[i]? = some tn) := by
              show _ = _
              rw [HSU.out, List.getElem?_map, ht]
              rfl
            obtain ⟨TA', tc', e0, _, hxx⟩ := (HTV.out.keeps (Keeps.refl _))
            cases e0
            obtain ⟨tb, toff, rfl, htb, hcell0⟩ := hxx i (by rw [← HM.out]; exact hlt)
            rw [ht] at hcell0
            simp only [Option.getD_some] at hcell0
            have hcell : wr.cell? ⟨tb, toff + i, none⟩ = some (.int .i64 (tn : Int)) := by
              rw [← hcell0]
              exact World.cell?_of_block (a := ⟨tb, toff + i, none⟩) ((HBr.out.block tb (by omega)).trans (HBo.out.block tb (by omega)).symm)
            have hmk : wr.cell? ⟨w.heap.size + 1, tn, none⟩ = some (.bool (decide (tn ∈ S))) := by rw [World.ownsRow.cellAt HO.out tn (by omega), marks_at htl]
            have hmf : wr.frozen? ⟨w.heap.size + 1, tn, none⟩ = false := World.ownsRow.frozenAt HO.out tn
            have hne1 : tb ≠ w.heap.size + 1 := by omega
            clear hxx ht htn hcell0
            by_cases hin2 : tn ∈ S
            · have HIN2 := hideI hin2
              rw [show decide (tn ∈ S) = true from by simpa using hin2] at hmk
              clear hin2 hmf
              go_wp2
              go_roundw
              case rel => exact ⟨i + 1, S, ws, _, rfl, by omega, by go_num, hg2, hideI (HF.out.skip HTI.out (.inl HIN2.out)), HK, HO, HBr⟩
              case measure => simp [intOf]; omega
            · have HIN2 := hideI hin2
              rw [show decide (tn ∈ S) = false from by simpa using hin2] at hmk
              have HSL := hideI (fresh_len HF.out.nodup HF.out.lt htl hin2)
              clear hin2
              by_cases htg : (tn : Int) = gone
              · have HTG := hideI htg
                have e1 : ((tn : Int) != gone) = false := by simpa using htg
                clear htg hmf
                go_wp2
                go_roundw
                case rel => exact ⟨i + 1, S, ws, _, rfl, by omega, by go_num, hg2, hideI (HF.out.skip HTI.out (.inr HTG.out)), HK, HO, HBr⟩
                case measure => simp [intOf]; omega
              · have HTG := hideI htg
                have e1 : ((tn : Int) != gone) = true := by simpa using htg
                clear htg
                have HS := World.ownsRow.stored HO.out tn (.bool true)
                rw [marks_set] at HS
                have HOS := hideI HS.1
                have HGS := hideI HS.2
                have HFN := hideI (HF.out.push HTI.out HIN2.out HTG.out htl)
                have hgne : g ≠ w.heap.size + 1 := by omega
                have HWG2 := hideI ((HGS.out.block g hgl (by simpa using hgne)).trans HWG.out)
                have hlen : (bs.length - (tn :: S).length) * 2 + (ws ++ [tn]).length + 1 ≤ gk := by have := HSL.out; simp; omega
                have HLEN := hideI hlen
                have hwl : ws.length ≤ 2000 := by omega
                obtain ⟨i1, hjx, hy0, hy1, hy2⟩ := info_parts int_info
                clear HS hlen
                have HWG3 : Hid (((wr.setCell ⟨w.heap.size + 1, tn, none⟩ (.bool true)).alloc (.cells #[.int .i64 (tn : Int)] 3)).heap[g]? = some (.cells cur 3 (0, 0))) := (Below.heap_alloc _ _ g (by simpa using hgl)).trans HWG2.out
                by_cases hrm : ws.length + 1 ≤ cap
                · have HSP := hideI (work_spare HWG3.out (n := ws.length) (off := off) (by omega) (.int .i64 (tn : Int)))
                  have HWB := hideI (without_room (i := off + ws.length) (o := .cells #[.int .i64 (tn : Int)] 3) (x := .int .i64 (tn : Int)) HOS.out HBr.out hwb (by omega))
                  have HWN := hideI (WorkR.room (t := tn) (o := .cells #[.int .i64 (tn : Int)] 3) hwb HWG2.out hws hwm HWX.out hrm)
                  go_wp2_with (at_builtin; go_must (refine wpList_append_arg _ rfl _ _ _ rfl 3 i1 (.int .i64 0) 1 8 Try.underlying22 hjx hy0 hy1 hy2 rfl (by decide) g off ws.length cap (natInts ws) rfl (by unfold natInts; simp) (natInts_at HWX.out HWG3.out) ⟨wr.heap.size, 0, none⟩ 1 1 [.int .i64 tn] rfl rfl (one_new' _ _ _ _) (by simp [Value.oneCell']) (fun _ => HSP.out) (by simp only [maxLen]; omega) (by omega) (fun _ => ?_) (fun h => absurd h (by omega))))
                  go_roundw
                  case rel => exact ⟨i + 1, tn :: S, ws ++ [tn], _, rfl, by omega, by go_num, HLEN.out, HFN, HWN, hideI HWB.out.1, hideI HWB.out.2⟩
                  case measure => simp [intOf]; omega
                · go_wp2_with (at_builtin; go_must (refine wpList_append_arg _ rfl _ _ _ rfl 3 i1 (.int .i64 0) 1 8 Try.underlying22 hjx hy0 hy1 hy2 rfl (by decide) g off ws.length cap (natInts ws) rfl (by unfold natInts; simp) (natInts_at HWX.out HWG3.out) ⟨wr.heap.size, 0, none⟩ 1 1 [.int .i64 tn] rfl rfl (one_new' _ _ _ _) (by simp [Value.oneCell']) (fun h => absurd h (by omega)) (by simp only [maxLen]; omega) (by omega) (fun h => absurd h (by omega)) (fun _ v2 w3 hown3 hg3 => ?_)); have HWN := hideI (WorkR.own hown3 (base := w.heap.size + 2) (by simp; omega) rfl); have HWB := hideI (without_grow HOS.out HBr.out (by omega) hg3); clear hown3 hg3)
                  go_roundw
                  case rel => exact ⟨i + 1, tn :: S, ws ++ [tn], v2, rfl, by omega, by go_num, HLEN.out, HFN, HWN, hideI HWB.out.1, hideI HWB.out.2⟩
                  case measure => simp [intOf]; omega
          · have HF2 := hideI (HF.out.next (by rw [HSU.out, List.length_map, ← HM.out]; omega))
            go_wp2
            go_roundg ((bs.length - S.length) * 2 + ws.length)
            case rel => exact ⟨S, ws, _, rfl, Nat.le_refl _, by omega, HF2, HK, HO, HBr⟩
            case measure => omega
      · have HK1 : Hid (WorkR wr (w.heap.size + 2) (.slice (some ⟨g, off + 1, none⟩) (L - 1) (cap - 1)) ws) := ⟨g, off + 1, cap - 1, cur, by rw [hL]; rfl, hwb, HWG.out, by omega, by omega, by omega, HWX1.out⟩
        have hLp : 1 ≤ L := by omega
        have hLb : decide (0 < L) = true := by simp; omega
        have hcp : ¬ cap ≤ 1 := by omega
        have HLL := hideI hL
        clear hL
        go_wp2
        obtain ⟨wo, rfl⟩ : ∃ wo : World, wo = wr := ⟨_, rfl⟩
        clear x4 hhead g3
        go_loopw [6, 9] (fun vo u wr => ∃ (i : Nat) (S ws : List Nat) (v : Value), v = vo ∧ i ≤ m ∧ u = .int .i64 i ∧ (bs.length - S.length) * 2 + ws.length + 1 ≤ gk ∧ Hid (Bfs bs gone (some (b, i)) S ws) ∧ Hid (WorkR wr (w.heap.size + 2) v ws) ∧ Hid (wr.ownsRow (w.heap.size + 1) 4 1 (.slice (some ⟨w.heap.size + 1, 0, none⟩) bs.length bs.length) bs.length (marks bs.length S)) ∧ Hid (Below (w.heap.size + 1) w1 wr)) (fun _ u _ => m - (intOf u).toNat)
        case atStart => exact ⟨0, S, _, _, rfl, Nat.zero_le _, rfl, by omega, HP, HK1, HO, HBr⟩
        case round =>
          obtain ⟨i, S, ws, v, rfl, hi, rfl, hg2, HF, HK, HO, HBr⟩ := hrel
          obtain ⟨g, off, cap, cur, rfl, hwb, hwg, hwc, hws, hwm, hwx⟩ := HK.out
          have hSl := below_len _ _ HF.out.nodup HF.out.lt
          have hgl := (Array.getElem?_eq_some_iff.1 hwg).1
          have HWX := hideI hwx
          have HWG := hideI hwg
          clear hwx hwg
          by_cases hlt : i < m
          · obtain ⟨t, ht⟩ : ∃ t, q.term.to[i]? = some t := ⟨_, List.getElem?_eq_getElem (by rw [HM.out] at hlt; exact hlt)⟩
            have htn := HIN.out q (List.mem_of_getElem? HQ.out) t (List.mem_of_getElem? ht)
            obtain ⟨tn, rfl⟩ : ∃ tn : Nat, t = (tn : Int) := ⟨t.toNat, by omega⟩
            have htl : tn < bs.length := by omega
            have HTI : Hid ((succM bs b)[i]? = some tn) := by
              show _ = _
              rw [HSU.out, List.getElem?_map, ht]
              rfl
            obtain ⟨TA', tc', e0, _, hxx⟩ := (HTV.out.keeps (Keeps.refl _))
            cases e0
            obtain ⟨tb, toff, rfl, htb, hcell0⟩ := hxx i (by rw [← HM.out]; exact hlt)
            rw [ht] at hcell0
            simp only [Option.getD_some] at hcell0
            have hcell : wr.cell? ⟨tb, toff + i, none⟩ = some (.int .i64 (tn : Int)) := by
              rw [← hcell0]
              exact World.cell?_of_block (a := ⟨tb, toff + i, none⟩) ((HBr.out.block tb (by omega)).trans (HBo.out.block tb (by omega)).symm)
            have hmk : wr.cell? ⟨w.heap.size + 1, tn, none⟩ = some (.bool (decide (tn ∈ S))) := by rw [World.ownsRow.cellAt HO.out tn (by omega), marks_at htl]
            have hmf : wr.frozen? ⟨w.heap.size + 1, tn, none⟩ = false := World.ownsRow.frozenAt HO.out tn
            have hne1 : tb ≠ w.heap.size + 1 := by omega
            clear hxx ht htn hcell0
            by_cases hin2 : tn ∈ S
            · have HIN2 := hideI hin2
              rw [show decide (tn ∈ S) = true from by simpa using hin2] at hmk
              clear hin2 hmf
              go_wp2
              go_roundw
              case rel => exact ⟨i + 1, S, ws, _, rfl, by omega, by go_num, hg2, hideI (HF.out.skip HTI.out (.inl HIN2.out)), HK, HO, HBr⟩
              case measure => simp [intOf]; omega
            · have HIN2 := hideI hin2
              rw [show decide (tn ∈ S) = false from by simpa using hin2] at hmk
              have HSL := hideI (fresh_len HF.out.nodup HF.out.lt htl hin2)
              clear hin2
              by_cases htg : (tn : Int) = gone
              · have HTG := hideI htg
                have e1 : ((tn : Int) != gone) = false := by simpa using htg
                clear htg hmf
                go_wp2
                go_roundw
                case rel => exact ⟨i + 1, S, ws, _, rfl, by omega, by go_num, hg2, hideI (HF.out.skip HTI.out (.inr HTG.out)), HK, HO, HBr⟩
                case measure => simp [intOf]; omega
              · have HTG := hideI htg
                have e1 : ((tn : Int) != gone) = true := by simpa using htg
                clear htg
                have HS := World.ownsRow.stored HO.out tn (.bool true)
                rw [marks_set] at HS
                have HOS := hideI HS.1
                have HGS := hideI HS.2
                have HFN := hideI (HF.out.push HTI.out HIN2.out HTG.out htl)
                have hgne : g ≠ w.heap.size + 1 := by omega
                have HWG2 := hideI ((HGS.out.block g hgl (by simpa using hgne)).trans HWG.out)
                have hlen : (bs.length - (tn :: S).length) * 2 + (ws ++ [tn]).length + 1 ≤ gk := by have := HSL.out; simp; omega
                have HLEN := hideI hlen
                have hwl : ws.length ≤ 2000 := by omega
                obtain ⟨i1, hjx, hy0, hy1, hy2⟩ := info_parts int_info
                clear HS hlen
                have HWG3 : Hid (((wr.setCell ⟨w.heap.size + 1, tn, none⟩ (.bool true)).alloc (.cells #[.int .i64 (tn : Int)] 3)).heap[g]? = some (.cells cur 3 (0, 0))) := (Below.heap_alloc _ _ g (by simpa using hgl)).trans HWG2.out
                by_cases hrm : ws.length + 1 ≤ cap
                · have HSP := hideI (work_spare HWG3.out (n := ws.length) (off := off) (by omega) (.int .i64 (tn : Int)))
                  have HWB := hideI (without_room (i := off + ws.length) (o := .cells #[.int .i64 (tn : Int)] 3) (x := .int .i64 (tn : Int)) HOS.out HBr.out hwb (by omega))
                  have HWN := hideI (WorkR.room (t := tn) (o := .cells #[.int .i64 (tn : Int)] 3) hwb HWG2.out hws hwm HWX.out hrm)
                  go_wp2_with (at_builtin; go_must (refine wpList_append_arg _ rfl _ _ _ rfl 3 i1 (.int .i64 0) 1 8 Try.underlying22 hjx hy0 hy1 hy2 rfl (by decide) g off ws.length cap (natInts ws) rfl (by unfold natInts; simp) (natInts_at HWX.out HWG3.out) ⟨wr.heap.size, 0, none⟩ 1 1 [.int .i64 tn] rfl rfl (one_new' _ _ _ _) (by simp [Value.oneCell']) (fun _ => HSP.out) (by simp only [maxLen]; omega) (by omega) (fun _ => ?_) (fun h => absurd h (by omega))))
                  go_roundw
                  case rel => exact ⟨i + 1, tn :: S, ws ++ [tn], _, rfl, by omega, by go_num, HLEN.out, HFN, HWN, hideI HWB.out.1, hideI HWB.out.2⟩
                  case measure => simp [intOf]; omega
                · go_wp2_with (at_builtin; go_must (refine wpList_append_arg _ rfl _ _ _ rfl 3 i1 (.int .i64 0) 1 8 Try.underlying22 hjx hy0 hy1 hy2 rfl (by decide) g off ws.length cap (natInts ws) rfl (by unfold natInts; simp) (natInts_at HWX.out HWG3.out) ⟨wr.heap.size, 0, none⟩ 1 1 [.int .i64 tn] rfl rfl (one_new' _ _ _ _) (by simp [Value.oneCell']) (fun h => absurd h (by omega)) (by simp only [maxLen]; omega) (by omega) (fun h => absurd h (by omega)) (fun _ v2 w3 hown3 hg3 => ?_)); have HWN := hideI (WorkR.own hown3 (base := w.heap.size + 2) (by simp; omega) rfl); have HWB := hideI (without_grow HOS.out HBr.out (by omega) hg3); clear hown3 hg3)
                  go_roundw
                  case rel => exact ⟨i + 1, tn :: S, ws ++ [tn], v2, rfl, by omega, by go_num, HLEN.out, HFN, HWN, hideI HWB.out.1, hideI HWB.out.2⟩
                  case measure => simp [intOf]; omega
          · have HF2 := hideI (HF.out.next (by rw [HSU.out, List.length_map, ← HM.out]; omega))
            go_wp2
            go_roundg ((bs.length - S.length) * 2 + ws.length)
            case rel => exact ⟨S, ws, _, rfl, Nat.le_refl _, by omega, HF2, HK, HO, HBr⟩
            case measure => omega

end Go.Proofs.Ytclbhbnidodmdaa
