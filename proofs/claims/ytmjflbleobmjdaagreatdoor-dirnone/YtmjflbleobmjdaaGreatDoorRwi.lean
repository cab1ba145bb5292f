/-
  Layer 17: rows of numbers, how they lie; the library's Clone, BinarySearch, Delete, Sort, Compact on rows of the call's own.
-/
import Derived.Test.YtmjflbleobmjdaaGreatDoorPla
import Derived.Test.YtmjflbleobmjdaaGreatDoorShl
import Derived.Test.YtmjflbleobmjdaaGreatDoorCut
namespace Go.Proofs.YtmjflbleobmjdaaGreatDoor
set_option linter.unusedVariables false
set_option linter.unusedSimpArgs false
open Go.ChangeShapes Go.WideShapes Go.ChangeAt Go.RowKit

theorem hidD {p : Prop} (h : p) : Hid p := h
def ints (l : List Int) : List Value := l.map (Value.int .i64)
theorem ints_len (l : List Int) : (ints l).length = l.length := List.length_map _
theorem ints_app (a b : List Int) : ints (a ++ b) = ints a ++ ints b := List.map_append
theorem ints_one (l : List Int) : ∀ u ∈ ints l, u.oneCell' = true := by
  intro u hu
  obtain ⟨x, _, rfl⟩ := List.mem_map.1 hu
  rfl
theorem ints_at (l : List Int) {j : Nat} (h : j < l.length) : (ints l)[j]? = some (.int .i64 (l.getD j 0)) := by
  unfold ints
  rw [List.getElem?_map, List.getD_eq_getElem?_getD, List.getElem?_eq_getElem h]; rfl
/-- A row of numbers that is read: it lies in a block that A takes. -/
structure RowI (A : Nat → Prop) (w : World) (v : Value) (l : List Int) : Prop where
  len : l.length ≤ 1000000
  ex : ∃ a c, v = .slice a l.length c ∧ l.length ≤ c ∧ c ≤ 9223372036854775807 ∧ (l ≠ [] → ∃ b off, a = some ⟨b, off, none⟩ ∧ A b ∧ b < w.heap.size ∧ ∀ j, j < l.length → w.cell? ⟨b, off + j, none⟩ = some (.int .i64 (l.getD j 0)))
theorem RowI.keep {A : Nat → Prop} {w w' : World} {v : Value} {l : List Int} (h : RowI A w v l) (hs : w.heap.size ≤ w'.heap.size) (hk : ∀ b, A b → b < w.heap.size → w'.heap[b]? = w.heap[b]?) : RowI A w' v l := by
  obtain ⟨hl, a, c, e, h1, h2, h3⟩ := h
  refine ⟨hl, a, c, e, h1, h2, fun hn => ?_⟩
  obtain ⟨b, off, ea, hA, hb, hc⟩ := h3 hn
  exact ⟨b, off, ea, hA, by omega, fun j hj => (World.cell?_of_block (hk b hA hb)).trans (hc j hj)⟩
theorem RowI.below {A : Nat → Prop} {w w' : World} {v : Value} {l : List Int} (h : RowI A w v l) (hb : Below w.heap.size w w') : RowI A w' v l := h.keep hb.size fun b _ hlt => hb.block b hlt
theorem RowI.mono {A A' : Nat → Prop} {w : World} {v : Value} {l : List Int} (h : RowI A w v l) (hA : ∀ b, A b → A' b) : RowI A' w v l := by
  obtain ⟨hl, a, c, e, h1, h2, h3⟩ := h
  refine ⟨hl, a, c, e, h1, h2, fun hn => ?_⟩
  obtain ⟨b, off, ea, hA1, hr⟩ := h3 hn
  exact ⟨b, off, ea, hA b hA1, hr⟩
theorem RowI.nil (A : Nat → Prop) (w : World) : RowI A w (.slice none 0 0) [] := ⟨by simp, none, 0, rfl, by simp, by omega, fun h => absurd rfl h⟩
/-- A row of the call's own. -/
def OwI (w : World) (B : Nat) (v : Value) (l : List Int) : Prop := w.ownsRow B 3 1 v l.length (ints l)
theorem OwI.cases {w : World} {B : Nat} {v : Value} {l : List Int} (h : OwI w B v l) : (v = .slice none 0 0 ∧ l = []) ∨ ∃ g c cur, v = .slice (some ⟨g, 0, none⟩) l.length c ∧ B ≤ g ∧ w.heap[g]? = some (.cells cur 3 (0, 0)) ∧ l.length ≤ c ∧ c ≤ maxLen ∧ cur.size = c ∧ cur.toList.take l.length = ints l := by
  rcases h.2 with ⟨e, h0⟩ | ⟨g, c, cur, e, hb, hg, h1, h2, h3, h4⟩
  · exact .inl ⟨e, List.length_eq_zero_iff.1 h0⟩
  · exact .inr ⟨g, c, cur, e, hb, hg, h1, h2, by omega, by rw [← h4, Nat.mul_one]⟩
theorem OwI.mk {w : World} {B g c : Nat} {l : List Int} {cur : Array Value} (hb : B ≤ g) (hg : w.heap[g]? = some (.cells cur 3 (0, 0))) (h1 : l.length ≤ c) (h2 : c ≤ maxLen) (h3 : cur.size = c) (h4 : cur.toList.take l.length = ints l) : OwI w B (.slice (some ⟨g, 0, none⟩) l.length c) l :=
  ⟨by rw [ints_len, Nat.mul_one], .inr ⟨g, c, cur, rfl, hb, hg, h1, h2, by omega, by rw [Nat.mul_one]; exact h4⟩⟩
theorem blk_lt {w : World} {g : Nat} {o : Obj} (h : w.heap[g]? = some o) : g < w.heap.size := (Array.getElem?_eq_some_iff.1 h).1
theorem cur_at {cur : Array Value} {l : List Int} (h : cur.toList.take l.length = ints l) {j : Nat} (hj : j < l.length) : cur[j]? = some (.int .i64 (l.getD j 0)) := by
  have := congrArg (fun t => t[j]?) h
  simp only [List.getElem?_take, if_pos hj, ints_at l hj] at this
  simpa using this
theorem OwI.row {w : World} {B : Nat} {v : Value} {l : List Int} (h : OwI w B v l) (hl : l.length ≤ 1000000) : RowI (fun b => B ≤ b) w v l := by
  rcases h.cases with ⟨rfl, rfl⟩ | ⟨g, c, cur, rfl, hb, hg, h1, h2, h3, h4⟩
  · exact RowI.nil _ _
  · refine ⟨hl, _, c, rfl, h1, by unfold maxLen at h2; omega, fun _ => ⟨g, 0, rfl, hb, blk_lt hg, fun j hj => ?_⟩⟩
    rw [cell_of_row w g _ cur 3 (0, 0) hg, Nat.zero_add]
    exact cur_at h4 hj
theorem OwI.same {w w' : World} {B : Nat} {v : Value} {l : List Int} (h : OwI w B v l) (hb : ∀ x, v.ownBlock = some x → w'.heap[x]? = w.heap[x]?) : OwI w' B v l := own_same h hb
theorem OwI.base {w : World} {B B' : Nat} {v : Value} {l : List Int} (h : OwI w B v l) (hB : B' ≤ B) : OwI w B' v l := by
  refine ⟨h.1, h.2.imp id fun ⟨g, cap, cur, a1, a2, a3⟩ => ⟨g, cap, cur, a1, by omega, a3⟩⟩
theorem OwI.lt {w : World} {B : Nat} {v : Value} {l : List Int} (h : OwI w B v l) : ∀ x, v.ownBlock = some x → B ≤ x ∧ x < w.heap.size := fun x hx => World.ownsRow.lt h x hx
theorem OwI.drewN {w : World} {B : Nat} {v : Value} {l : List Int} (h : OwI w B v l) (q : Nat) : OwI (w.drewN q) B v l := h
theorem OwI.nil (w : World) (B : Nat) : OwI w B (.slice none 0 0) [] := World.ownsRow_nil _ _ _ _
/-! ### The library's words for what a row holds. -/
theorem holds_own {w : World} {g : Nat} {l : List Int} {cur : Array Value} (hg : w.heap[g]? = some (.cells cur 3 (0, 0))) (h4 : cur.toList.take l.length = ints l) : Go.Sort.Holds (Value.int .i64) w g 0 l.toArray := by
  intro j hj
  have hj' : j < l.length := by simpa using hj
  refine ⟨?_, by simp [World.frozen?, hg]⟩
  rw [cell_of_row w g _ cur 3 (0, 0) hg, Nat.zero_add, cur_at h4 hj']
  simp [hj', List.getD_eq_getElem?_getD]
theorem put_cells {cur : Array Value} {ys : List Int} (h : ys.length ≤ cur.size) : (Go.Sort.putCells (Value.int .i64) 0 ys.toArray cur).size = cur.size ∧ (Go.Sort.putCells (Value.int .i64) 0 ys.toArray cur).toList.take ys.length = ints ys := by
  refine ⟨by simp [Go.Sort.putCells], ?_⟩
  apply List.ext_getElem?
  intro j
  by_cases hj : j < ys.length
  · rw [List.getElem?_take, if_pos hj, ints_at ys hj]
    simp only [Array.getElem?_toList, Go.Sort.putCells, Array.getElem?_mapIdx]
    rw [Array.getElem?_eq_getElem (by omega)]
    simp [hj, List.getD_eq_getElem?_getD]
  · rw [List.getElem?_take, if_neg hj, List.getElem?_eq_none (by rw [ints_len]; omega)]
/-- Behind a contract in the library's words: the row's cells, and all other blocks. -/
theorem put_world {w : World} {g q : Nat} {cur : Array Value} {ys : List Int} (hg : w.heap[g]? = some (.cells cur 3 (0, 0))) (h : ys.length ≤ cur.size) :
    (∃ cur' : Array Value, (Go.Sort.putRow (Value.int .i64) (Go.Sort.ahead w q) g 0 ys.toArray).heap[g]? = some (.cells cur' 3 (0, 0)) ∧ cur'.size = cur.size ∧ cur'.toList.take ys.length = ints ys) ∧ w.grownBy (Go.Sort.putRow (Value.int .i64) (Go.Sort.ahead w q) g 0 ys.toArray) (some g) := by
  have hl := blk_lt hg
  obtain ⟨h1, h2⟩ := put_cells (cur := cur) h
  refine ⟨⟨_, ?_, h1, h2⟩, rfl, rfl, rfl, by simp, fun k hk hne => ?_⟩
  · show (w.heap.modify g _)[g]? = _
    rw [Array.getElem?_modify, if_pos rfl, hg]; rfl
  · show (w.heap.modify g _)[k]? = _
    rw [Array.getElem?_modify, if_neg (fun e => hne (by rw [e]))]
theorem take_pre {a b : List Int} {cur : Array Value} (h : cur.toList.take (a ++ b).length = ints (a ++ b)) : cur.toList.take a.length = ints a := by
  have := congrArg (fun t => t.take a.length) h
  simp only [List.take_take] at this
  rw [ints_app, List.take_left' (ints_len a), List.length_append, Nat.min_eq_left (by omega)] at this
  exact this
/-- What became of a world: a row of the call's own was written, new blocks were made. -/
theorem grown_below {w X Y : World} {v : Value} {B : Nat} (hB : Below B w X) (hg : X.grownBy Y v.ownBlock) (hv : ∀ x, v.ownBlock = some x → B ≤ x) (h0 : B ≤ X.heap.size) : Below B w Y := hB.grown hg h0 hv
set_option maxHeartbeats 2000000 in
theorem search_nil (x : Int) (w : World) : Calls Tryz.prog 45 #[.slice none 0 0, .int .i64 x] w fun e w' => e = .returned (.tuple #[.int .i64 0, .bool false]) ∧ ∃ q, w' = w.drewN q := by
  go_enter Tryz.func45, Tryz.ntmps45
  go_wp2
  go_loopg [7, 8] 0 (fun gf s7 s8 wx => s7 = .int .i64 0 ∧ s8 = .int .i64 0 ∧ wx = w)
  case atStart => exact ⟨rfl, rfl, rfl⟩
  case round =>
    obtain ⟨rfl, rfl, hww⟩ := hrel
    obtain rfl := hww.symm
    go_wp2
    go_ret2
    exact ⟨rfl, 0, rfl⟩
theorem count_nil (x : Int) : ([] : List Int).countP (· < x) = 0 := rfl
/-- BinarySearch on a rising row of the call's own. -/
theorem find_any {w : World} {B : Nat} {v : Value} {l : List Int} (h : OwI w B v l) (hr : Rise l) (hl : l.length ≤ 1000000) (x : Int) :
    Calls Tryz.prog 45 #[v, .int .i64 x] w fun e w' => e = .returned (.tuple #[.int .i64 (l.countP (· < x) : Nat), .bool (decide (x ∈ l))]) ∧ ∃ q, w' = w.drewN q := by
  rcases h.cases with ⟨rfl, rfl⟩ | ⟨g, c, cur, rfl, hb, hg, h1, h2, h3, h4⟩
  · have := search_nil x w
    rw [count_nil, show decide (x ∈ ([] : List Int)) = false by simp]
    exact this
  · have := Tryz.int_search g 0 l.length c l x w (Nat.le_refl _) (by omega) (fun j hj => by
      rw [cell_of_row w g _ cur 3 (0, 0) hg, Nat.zero_add]; exact cur_at h4 hj) (by rw [List.take_length]; exact hr.imp fun h => Int.le_of_lt h)
    rw [List.take_length] at this
    have e : l.contains x = decide (x ∈ l) := by
      by_cases hx : x ∈ l
      · rw [decide_eq_true hx, List.contains_iff_mem]; exact hx
      · rw [decide_eq_false hx, Bool.eq_false_iff]; simpa using hx
    rw [e] at this
    exact this
/-- Delete of the one thing that was found. -/
theorem delete_any {w : World} {B : Nat} {v : Value} {l : List Int} (h : OwI w B v l) (hr : Rise l) (hl : l.length ≤ 1000000) (x : Int) (hx : x ∈ l) :
    Calls Tryz.prog 46 #[v, .int .i64 (l.countP (· < x) : Nat), .int .i64 (((l.countP (· < x) : Nat) : Int) + 1)] w fun e w' => ∃ v', e = .returned v' ∧ OwI w' B v' (l.filter (· != x)) ∧ w.grownBy w' v.ownBlock ∧ v'.ownBlock = v.ownBlock := by
  rcases h.cases with ⟨rfl, rfl⟩ | ⟨g, c, cur, rfl, hb, hg, h1, h2, h3, h4⟩
  · cases hx
  · have hk := count_lt hr hx
    have hd := Tryz.int_delete g 0 c (l.countP (· < x)) (l.countP (· < x) + 1) l w (holds_own hg h4) h1 (by unfold maxLen at h2; omega) (by omega) (by omega)
    refine hd.mono fun e w' ⟨he, q, hw⟩ => ?_
    subst he hw
    have hc := cut_at hr hx
    have hlen : (l.filter (· != x)).length = l.length - (l.countP (· < x) + 1 - l.countP (· < x)) := by
      rw [← hc]; simp; omega
    obtain ⟨⟨cur', hg', hs', ht'⟩, hgr⟩ := put_world (q := q) (ys := l.take (l.countP (· < x)) ++ l.drop (l.countP (· < x) + 1) ++ List.replicate (l.countP (· < x) + 1 - l.countP (· < x)) 0) hg (by rw [hc]; simp only [List.length_append, List.length_replicate, hlen]; omega)
    rw [hc] at ht'
    refine ⟨.slice (some ⟨g, 0, none⟩) (l.filter (· != x)).length c, by rw [hlen], ?_, hgr, rfl⟩
    rw [hc]
    rw [hc] at hg'
    exact OwI.mk hb hg' (by rw [hlen]; omega) h2 (by omega) (take_pre ht')
/-- Sort. -/
theorem sort_any {w : World} {B : Nat} {v : Value} {l : List Int} (h : OwI w B v l) (hl : l.length ≤ 1000000) :
    Calls Tryz.prog 52 #[v] w fun e w' => e = .returned (.tuple #[]) ∧ OwI w' B v (l.mergeSort fun x y => decide (x ≤ y)) ∧ w.grownBy w' v.ownBlock := by
  rcases h.cases with ⟨rfl, rfl⟩ | ⟨g, c, cur, rfl, hb, hg, h1, h2, h3, h4⟩
  · refine (Tryz.int_sort_none none 0 w).mono fun e w' ⟨he, hw⟩ => ?_
    subst he hw
    exact ⟨rfl, by simpa using OwI.nil w' B, rfl, rfl, rfl, Nat.le_refl _, fun _ _ _ => rfl⟩
  · refine (Tryz.int_sort g 0 c l w (holds_own hg h4) (blk_lt hg) (by omega)).mono fun e w' ⟨he, n, os, hw⟩ => ?_
    subst he hw
    have hlen : (l.mergeSort fun x y => decide (x ≤ y)).length = l.length := List.length_mergeSort _
    obtain ⟨⟨cur', hg', hs', ht'⟩, hgr⟩ := put_world (q := n) (ys := l.mergeSort fun x y => decide (x ≤ y)) hg (by rw [hlen]; omega)
    have hsz : (Go.Sort.putRow (Value.int .i64) (Go.Sort.ahead w n) g 0 (l.mergeSort fun x y => decide (x ≤ y)).toArray).heap.size = w.heap.size := by simp
    have old : ∀ k, k < w.heap.size → (Go.Sort.grow (Go.Sort.putRow (Value.int .i64) (Go.Sort.ahead w n) g 0 (l.mergeSort fun x y => decide (x ≤ y)).toArray) os).heap[k]? = (Go.Sort.putRow (Value.int .i64) (Go.Sort.ahead w n) g 0 (l.mergeSort fun x y => decide (x ≤ y)).toArray).heap[k]? := fun k hk => by
      show (_ ++ os)[k]? = _
      rw [Array.getElem?_append_left (by rw [hsz]; exact hk)]
    refine ⟨rfl, ?_, hgr.os, hgr.tape, hgr.output, ?_, fun k hk hne => (old k hk).trans (hgr.block k hk hne)⟩
    · have := OwI.mk (w := Go.Sort.grow (Go.Sort.putRow (Value.int .i64) (Go.Sort.ahead w n) g 0 (l.mergeSort fun x y => decide (x ≤ y)).toArray) os) (B := B) (l := l.mergeSort fun x y => decide (x ≤ y)) hb ((old g (blk_lt hg)).trans hg') (by rw [hlen]; exact h1) h2 (by omega) ht'
      rwa [hlen] at this
    · show w.heap.size ≤ (_ ++ os).size
      rw [Array.size_append, hsz]; omega
/-- Compact. -/
theorem compact_any {w : World} {B : Nat} {v : Value} {l : List Int} (h : OwI w B v l) (hl : l.length ≤ 1000000) :
    Calls Tryz.prog 53 #[v] w fun e w' => ∃ v', e = .returned v' ∧ OwI w' B v' (Lib.compact l) ∧ w.grownBy w' v.ownBlock := by
  rcases h.cases with ⟨rfl, rfl⟩ | ⟨g, c, cur, rfl, hb, hg, h1, h2, h3, h4⟩
  · refine (Tryz.int_compact_none none 0 w).mono fun e w' ⟨he, hw⟩ => ?_
    subst he hw
    exact ⟨_, rfl, OwI.nil w' B, rfl, rfl, rfl, Nat.le_refl _, fun _ _ _ => rfl⟩
  · refine (Tryz.int_compact g 0 c l w (holds_own hg h4) (by omega) h1).mono fun e w' ⟨he, n, hw⟩ => ?_
    subst he hw
    have hlen := Lib.compact_length_le l
    obtain ⟨⟨cur', hg', hs', ht'⟩, hgr⟩ := put_world (q := n) (ys := Lib.compact l ++ List.replicate (l.length - (Lib.compact l).length) 0) hg (by simp only [List.length_append, List.length_replicate]; omega)
    exact ⟨_, rfl, OwI.mk hb hg' (by omega) h2 (by omega) (take_pre ht'), hgr⟩
/-- Clone. -/
theorem clone_row {A : Nat → Prop} {w : World} {v : Value} {l : List Int} (h : RowI A w v l) :
    Calls Tryz.prog 44 #[v] w fun e w' => ∃ v', e = .returned v' ∧ OwI w' w.heap.size v' l ∧ Below w.heap.size w w' := by
  obtain ⟨hl, a, c, rfl, h1, h2, h3⟩ := h
  by_cases hn : l = []
  · subst hn
    cases a with
    | none =>
      refine (Tryz.int_clone_nil 0 c w).mono fun e w' ⟨he, hw⟩ => ?_
      subst he hw
      exact ⟨_, rfl, OwI.nil _ _, Below.refl _ _⟩
    | some x =>
      refine (Tryz.int_clone_zero x c w).mono fun e w' ⟨v', he, ho, _, hb⟩ => ?_
      subst he
      exact ⟨v', rfl, ho, hb⟩
  · obtain ⟨b, off, rfl, _, _, hc⟩ := h3 hn
    refine (Tryz.int_clone b off l.length c l w (Nat.le_refl _) (by omega) hc).mono fun e w' ⟨v', he, ho, _, hb⟩ => ?_
    subst he
    rw [List.take_length] at ho
    exact ⟨v', rfl, ho, hb⟩
end Go.Proofs.YtmjflbleobmjdaaGreatDoor
