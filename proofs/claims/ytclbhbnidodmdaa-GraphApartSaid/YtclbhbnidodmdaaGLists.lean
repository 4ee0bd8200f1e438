/- Lists of lists of numbers that a call makes. -/
import Derived.Test.YtclbhbnidodmdaaInts
import Derived.Test.YtclbhbnidodmdaaGReach
namespace Go.Proofs.Ytclbhbnidodmdaa
open Go.RowKit

def IdxIs (xs : List Int) (x r : Int) : Prop := (r = -1 ∧ x ∉ xs) ∨ ∃ k : Nat, r = k ∧ xs[k]? = some x ∧ x ∉ xs.take k

theorem IdxIs.mem {xs : List Int} {x r : Int} (h : IdxIs xs x r) : decide (x ∈ xs) = decide (0 ≤ r) := by
  rcases h with ⟨rfl, h⟩ | ⟨k, rfl, h, _⟩
  · simp [h]
  · simp [List.mem_of_getElem? h]

def IdxPost (xs : List Int) (x : Int) (w : World) (e : Ending) (w' : World) : Prop := ∃ r, e = .returned (.int .i64 r) ∧ IdxIs xs x r ∧ w = w'

theorem not_mem_take_succ {xs : List Int} {k : Nat} {x y : Int} (h : x ∉ xs.take k) (hy : xs[k]? = some y) (hne : y ≠ x) : x ∉ xs.take (k + 1) := by
  rw [List.take_add_one, hy]
  simp only [Option.toList_some, List.mem_append, List.mem_singleton, not_or]
  exact ⟨h, fun e => hne e.symm⟩

set_option maxRecDepth 100000 in
set_option maxHeartbeats 1000000 in
theorem index_any (xs : List Int) (B : Nat) (v : Value) (x : Int) (w : World) (hx : Ints w B v xs) :
    Calls Try.prog 88 #[v, .int .i64 x] w (IdxPost xs x w) := by
  obtain ⟨A, c, rfl, hm, hcell⟩ := hx
  have HC := hideI hcell
  clear hcell
  go_enter Try.func88, Try.ntmps88
  go_wp2
  go_loop [8] (fun u => ∃ k : Nat, k ≤ xs.length ∧ u = .int .i64 k ∧ Hid (x ∉ xs.take k)) (fun u => xs.length - (intOf u).toNat)
  case atStart => exact ⟨0, Nat.zero_le _, rfl, by exact hideI (by simp)⟩
  case round =>
    obtain ⟨k, hk, rfl, HN⟩ := hrel
    by_cases hlt : k < xs.length
    · obtain ⟨b, off, rfl, hb, hcell⟩ := HC.out k hlt
      obtain ⟨y, hy⟩ : ∃ y, xs[k]? = some y := ⟨_, List.getElem?_eq_getElem hlt⟩
      rw [hy] at hcell
      simp only [Option.getD_some] at hcell
      have HY := hideI hy
      clear hy
      cases he : x == y
      · have HE := hideI he
        go_wp2
        go_round
        case rel => exact ⟨k + 1, by omega, by go_num, hideI (not_mem_take_succ HN.out HY.out (by have := HE.out; simp at this; exact fun e => this e.symm))⟩
        case measure => simp [intOf]; omega
      · have HE := hideI he
        go_wp2
        go_ret
        exact ⟨k, rfl, .inr ⟨k, rfl, by have := HE.out; simp at this; rw [this]; exact HY.out, HN.out⟩, rfl⟩
    · have HE : Hid (xs.take k = xs) := List.take_of_length_le (by omega)
      rw [HE.out] at HN
      go_wp2
      go_ret
      exact ⟨-1, rfl, .inl ⟨rfl, HN.out⟩, rfl⟩

set_option maxHeartbeats 1000000 in
theorem contains_any (xs : List Int) (B : Nat) (v : Value) (x : Int) (w : World) (hx : Ints w B v xs) :
    Calls Try.prog 72 #[v, .int .i64 x] w fun e w' => e = .returned (.bool (decide (x ∈ xs))) ∧ w = w' := by
  have HX := hideI hx
  obtain ⟨A, c, rfl, hm, _⟩ := hx
  go_enter Try.func72, Try.ntmps72
  go_wp2_with (go_at_call 88; go_must (refine (index_any xs B _ x _ HX.out).mono ?_); rintro e w2 ⟨r, rfl, hr, rfl⟩; have HR := hideI hr; clear hr)
  go_ret
  exact ⟨by rw [HR.out.mem]; rfl, rfl⟩

set_option maxRecDepth 100000 in
set_option maxHeartbeats 1000000 in
theorem has_any (xs : List Int) (B : Nat) (v : Value) (x : Int) (w : World) (hx : Ints w B v xs) :
    Calls Try.prog 39 #[v, .int .i64 x] w fun e w' => e = .returned (.bool (decide (x ∈ xs))) ∧ w = w' := by
  obtain ⟨A, c, rfl, hm, hcell⟩ := hx
  have HC := hideI hcell
  clear hcell
  go_enter Try.func39, Try.ntmps39
  go_wp2
  go_loop [5] (fun u => ∃ k : Nat, k ≤ xs.length ∧ u = .int .i64 k ∧ Hid (x ∉ xs.take k)) (fun u => xs.length - (intOf u).toNat)
  case atStart => exact ⟨0, Nat.zero_le _, rfl, by exact hideI (by simp)⟩
  case round =>
    obtain ⟨k, hk, rfl, HN⟩ := hrel
    by_cases hlt : k < xs.length
    · obtain ⟨b, off, rfl, hb, hcell⟩ := HC.out k hlt
      obtain ⟨y, hy⟩ : ∃ y, xs[k]? = some y := ⟨_, List.getElem?_eq_getElem hlt⟩
      rw [hy] at hcell
      simp only [Option.getD_some] at hcell
      have HY := hideI hy
      clear hy
      cases he : y == x
      · have HE := hideI he
        go_wp2
        go_round
        case rel => exact ⟨k + 1, by omega, by go_num, hideI (not_mem_take_succ HN.out HY.out (by have := HE.out; simpa using this))⟩
        case measure => simp [intOf]; omega
      · have HE := hideI he
        go_wp2
        go_ret
        exact ⟨by have h1 := HE.out; simp at h1; have h2 := List.mem_of_getElem? HY.out; rw [h1] at h2; simp [h2], rfl⟩
    · have HE : Hid (xs.take k = xs) := List.take_of_length_le (by omega)
      rw [HE.out] at HN
      go_wp2
      go_ret
      exact ⟨by have := HN.out; simp [this], rfl⟩

end Go.Proofs.Ytclbhbnidodmdaa

namespace Go.Proofs.Ytclbhbnidodmdaa
open Go.RowKit Go.Maps

theorem ints_info : (Try.prog.info? 22).map (fun i => (i.zero, i.size, i.bytes)) = some (some (.slice none 0 0), 1, 24) := by kernel_rfl

structure Lists (w : World) (base gb n : Nat) (vs : List Value) (ls : List (List Nat)) : Prop where
  vl : vs.length = n
  ll : ls.length = n
  row : w.ownsRow base 22 1 (.slice (some ⟨gb, 0, none⟩) n n) n vs
  own : ∀ (t : Nat) v l, vs[t]? = some v → ls[t]? = some l → w.ownsRow (gb + 1) 3 1 v l.length (natInts l)
  apart : ∀ (t t' : Nat) v v', t ≠ t' → vs[t]? = some v → vs[t']? = some v' → v.ownBlock = none ∨ v.ownBlock ≠ v'.ownBlock

variable {w w1 : World} {base gb n : Nat} {vs : List Value} {ls : List (List Nat)}

theorem Lists.lt (h : Lists w base gb n vs ls) : base ≤ gb ∧ gb < w.heap.size := h.row.lt gb rfl

theorem Lists.made {W : World} (hown : W.ownsRow base 22 1 (.slice (some ⟨gb, 0, none⟩) n n) n (madeCells (Value.slice none 0 0).cells (n * 1)).toList) : Lists W base gb n (List.replicate n (.slice none 0 0)) ((List.range n).map fun _ => []) := by
  rw [show (Value.slice none 0 0).cells = #[Value.slice none 0 0] from rfl, toList_madeCells_one, Nat.mul_one] at hown
  refine ⟨by simp, by simp, hown, fun t v l hv hl => ?_, fun t t' v v' _ hv _ => ?_⟩
  · have e1 := List.mem_of_getElem? hv
    rw [List.mem_replicate] at e1
    obtain ⟨_, rfl⟩ := e1
    have e2 := List.mem_of_getElem? hl
    rw [List.mem_map] at e2
    obtain ⟨_, _, rfl⟩ := e2
    exact World.ownsRow_nil _ _ _ _
  · have e1 := List.mem_of_getElem? hv
    rw [List.mem_replicate] at e1
    obtain ⟨_, rfl⟩ := e1
    exact .inl rfl

theorem Lists.push {t b g' cap' : Nat} {v : Value} {l : List Nat} {o : Obj} (h : Lists w base gb n vs ls) (hv : vs[t]? = some v) (hl : ls[t]? = some l)
    (hown' : w1.ownsRow (gb + 1) 3 1 (.slice (some ⟨g', 0, none⟩) (l.length + 1) cap') (l.length + 1) (natInts l ++ [.int .i64 (b : Int)])) (hg : (w.alloc o).grownBy w1 v.ownBlock) (hor : v.ownBlock = some g' ∨ g' = (w.alloc o).heap.size) :
    Lists (w1.setCell ⟨gb, t, none⟩ (.slice (some ⟨g', 0, none⟩) (l.length + 1) cap')) base gb n (vs.set t (.slice (some ⟨g', 0, none⟩) (l.length + 1) cap')) (ls.set t (l ++ [b])) := by
  have htl : t < vs.length := (List.getElem?_eq_some_iff.1 hv).1
  have htl2 : t < ls.length := (List.getElem?_eq_some_iff.1 hl).1
  have hvo := h.own t v l hv hl
  have hgbv : ∀ k, v.ownBlock = some k → gb + 1 ≤ k := fun k hk => (hvo.lt k hk).1
  have hrow1 : w1.ownsRow base 22 1 (.slice (some ⟨gb, 0, none⟩) n n) n vs := (h.row.alloc o).kept hg (.inr (fun e => by have := hgbv gb e.symm; omega))
  refine ⟨by rw [List.length_set, h.vl], by rw [List.length_set, h.ll], (hrow1.stored t _).1, fun t' v' l' hv' hl' => ?_, fun t1 t2 v1 v2 hne h1 h2 => ?_⟩
  · by_cases e : t = t'
    · subst e
      rw [List.getElem?_set_self htl] at hv'
      rw [List.getElem?_set_self htl2] at hl'
      cases hv'
      cases hl'
      have h1 := ownsRow_setCell_other hown' (a := ⟨gb, t, none⟩) (by
        intro e
        have := (hown'.lt _ e).1
        simp only at this
        omega) (.slice (some ⟨g', 0, none⟩) (l.length + 1) cap')
      simpa [natInts] using h1
    · rw [List.getElem?_set_ne e] at hv' hl'
      have h0 := h.own t' v' l' hv' hl'
      have h1 := (h0.alloc o).kept hg (by
        rcases h.apart t' t v' v (fun x => e x.symm) hv' hv with h2 | h2
        · exact .inl h2
        · exact .inr h2)
      exact ownsRow_setCell_other h1 (by
        intro e
        have := (h1.lt _ e).1
        simp only at this
        omega) _
  · have hlt : ∀ (t : Nat) v k, vs[t]? = some v → v.ownBlock = some k → k < w.heap.size := fun t v k hv hk => by
      have ht : t < ls.length := by rw [h.ll, ← h.vl]; exact (List.getElem?_eq_some_iff.1 hv).1
      exact ((h.own t v _ hv (List.getElem?_eq_getElem ht)).lt k hk).2
    by_cases e1 : t = t1
    · subst e1
      rw [List.getElem?_set_self htl] at h1
      rw [List.getElem?_set_ne hne] at h2
      cases h1
      right
      intro e
      rcases hor with h3 | h3
      · rcases h.apart t2 t v2 v (fun x => hne x.symm) h2 hv with h4 | h4
        · rw [h4] at e; cases e
        · exact h4 (e.symm.trans (by rw [h3]; rfl))
      · have := hlt t2 v2 g' h2 e.symm
        simp at h3
        omega
    · rw [List.getElem?_set_ne e1] at h1
      by_cases e2 : t = t2
      · subst e2
        rw [List.getElem?_set_self htl] at h2
        cases h2
        rcases hor with h3 | h3
        · rcases h.apart t1 t v1 v (fun x => hne x) h1 hv with h4 | h4
          · exact .inl h4
          · exact .inr (fun e => h4 (e.trans (by rw [h3]; rfl)))
        · right
          intro e
          have := hlt t1 v1 g' h1 e
          simp at h3
          omega
      · rw [List.getElem?_set_ne e2] at h2
        exact h.apart t1 t2 v1 v2 hne h1 h2

theorem Lists.pushed {t : Nat} {v : Value} {l : List Nat} {o : Obj} {u : Value} {B : Nat} {w0 : World} (h : Lists w base gb n vs ls) (hv : vs[t]? = some v) (hl : ls[t]? = some l) (hg : (w.alloc o).grownBy w1 v.ownBlock) (hB : Below B w0 w) (hBg : B ≤ gb) :
    Below B w0 (w1.setCell ⟨gb, t, none⟩ u) := by
  have hlt := h.lt
  refine ((hB.alloc (by omega) o).grown hg (by simp; omega) (fun j hj => ?_)).setCell (by simpa using hBg) _
  have := ((h.own t v l hv hl).lt j hj).1
  omega

theorem Lists.held {t : Nat} {v : Value} {l : List Nat} {o : Obj} (h : Lists w base gb n vs ls) (hv : vs[t]? = some v) (hl : ls[t]? = some l) (hg : (w.alloc o).grownBy w1 v.ownBlock) : w1.cell? ⟨gb, t, none⟩ = some v ∧ w1.frozen? ⟨gb, t, none⟩ = false := by
  have hrow1 : w1.ownsRow base 22 1 (.slice (some ⟨gb, 0, none⟩) n n) n vs := (h.row.alloc o).kept hg (.inr (fun e => by have := ((h.own t v l hv hl).lt gb e.symm).1; omega))
  have htl : t < vs.length := (List.getElem?_eq_some_iff.1 hv).1
  have hvl := h.vl
  exact ⟨by rw [World.ownsRow.cellAt hrow1 t (by omega)]; exact hv, World.ownsRow.frozenAt hrow1 t⟩

theorem nat_ints {w : World} {B n : Nat} {v : Value} {l : List Nat} (h : w.ownsRow B 3 1 v n (natInts l)) (hl : l.length ≤ 100000) : Ints w w.heap.size v (l.map fun (x : Nat) => (x : Int)) := by
  refine ints_own (B := B) (n := n) ?_ (by rw [List.length_map]; omega)
  rw [List.map_map]
  exact h

theorem mem_nat {l : List Nat} {k : Nat} : ((k : Int) ∈ l.map fun (x : Nat) => (x : Int)) ↔ k ∈ l := by
  rw [List.mem_map]
  constructor
  · rintro ⟨x, hx, he⟩
    have : x = k := by omega
    exact this ▸ hx
  · exact fun h => ⟨k, h, rfl⟩

/-- who goes to t, of the first k blocks -/
def predsTo (bs : List BlockM) (k t : Nat) : List Nat := (List.range k).filter fun b => decide (t ∈ succM bs b)

theorem predsTo_lt {bs : List BlockM} {k t x : Nat} (h : x ∈ predsTo bs k t) : x < k := by
  unfold predsTo at h
  simpa using (List.mem_filter.1 h).1

theorem predsTo_succ (bs : List BlockM) (k t : Nat) : predsTo bs (k + 1) t = predsTo bs k t ++ if t ∈ succM bs k then [k] else [] := by
  unfold predsTo
  rw [List.range_succ, List.filter_append]
  by_cases h : t ∈ succM bs k <;> simp [h]

theorem predsTo_len (bs : List BlockM) (k t : Nat) : (predsTo bs k t).length ≤ k := by
  unfold predsTo
  have := List.length_filter_le (fun b => decide (t ∈ succM bs b)) (List.range k)
  simpa using this

/-- the lists when k blocks are done, and the first i of the next one's ends -/
def predsAt (bs : List BlockM) (n k i : Nat) : List (List Nat) := (List.range n).map fun t => predsTo bs k t ++ if t ∈ (succM bs k).take i then [k] else []

theorem predsAt_at {bs : List BlockM} {n k i t : Nat} (h : t < n) : (predsAt bs n k i)[t]? = some (predsTo bs k t ++ if t ∈ (succM bs k).take i then [k] else []) := by
  unfold predsAt
  rw [List.getElem?_map, List.getElem?_eq_getElem (by simpa using h)]
  simp

theorem predsAt_zero (bs : List BlockM) (n : Nat) : predsAt bs n 0 0 = (List.range n).map fun _ => [] := by
  unfold predsAt predsTo
  simp

theorem predsAt_next (bs : List BlockM) (n k : Nat) {i : Nat} (hi : (succM bs k).length ≤ i) : predsAt bs n k i = predsAt bs n (k + 1) 0 := by
  unfold predsAt
  apply List.map_congr_left
  intro t _
  rw [predsTo_succ, List.take_of_length_le hi]
  simp

theorem predsAt_skip {bs : List BlockM} {n k i t : Nat} (ht : (succM bs k)[i]? = some t) (hin : t ∈ (succM bs k).take i) : predsAt bs n k (i + 1) = predsAt bs n k i := by
  unfold predsAt
  apply List.map_congr_left
  intro u _
  have : u ∈ (succM bs k).take (i + 1) ↔ u ∈ (succM bs k).take i := by
    rw [List.take_add_one, ht]
    simp only [Option.toList_some, List.mem_append, List.mem_singleton]
    constructor
    · rintro (h | rfl)
      · exact h
      · exact hin
    · exact .inl
  simp only [this]

theorem predsAt_push {bs : List BlockM} {n k i t : Nat} (ht : (succM bs k)[i]? = some t) (hn : t ∉ (succM bs k).take i) (htn : t < n) : (predsAt bs n k i).set t (predsTo bs k t ++ [k]) = predsAt bs n k (i + 1) := by
  apply List.ext_getElem?
  intro u
  by_cases hu : u < n
  · rw [predsAt_at hu]
    have hm : u ∈ (succM bs k).take (i + 1) ↔ u ∈ (succM bs k).take i ∨ u = t := by
      rw [List.take_add_one, ht]
      simp
    by_cases e : t = u
    · subst e
      rw [List.getElem?_set_self (by unfold predsAt; simpa using hu)]
      simp [hm]
    · rw [List.getElem?_set_ne e, predsAt_at hu]
      have : u ∈ (succM bs k).take (i + 1) ↔ u ∈ (succM bs k).take i := by rw [hm]; exact ⟨fun h => h.resolve_right (fun x => e x.symm), .inl⟩
      simp only [this]
  · rw [List.getElem?_eq_none (by rw [List.length_set]; unfold predsAt; simp; omega), List.getElem?_eq_none (by unfold predsAt; simp; omega)]

theorem predsAt_mem {bs : List BlockM} {k i t : Nat} : k ∈ predsTo bs k t ++ (if t ∈ (succM bs k).take i then [k] else []) ↔ t ∈ (succM bs k).take i := by
  constructor
  · intro h
    rcases List.mem_append.1 h with h | h
    · have := predsTo_lt h; omega
    · split at h
      · assumption
      · cases h
  · intro h
    rw [if_pos h]
    simp

end Go.Proofs.Ytclbhbnidodmdaa
