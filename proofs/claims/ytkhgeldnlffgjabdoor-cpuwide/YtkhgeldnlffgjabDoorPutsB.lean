/-
  Stores into a row that was laid whole.
-/
import Derived.Test.YtkhgeldnlffgjabDoorTwg
namespace Go.Proofs.YtkhgeldnlffgjabDoor
open Go.ChangeShapes Go.WideShapes Go.ChangeAt Go.RowKit
attribute [local go_sem ↓] loadCpu_seal storeCpu_seal loadIn_seal storeIn_seal
attribute [local go_sem] loadCpu_run storeCpu_run loadIn_run storeIn_run rowAt_at rowAt_past rowAt_drew rowAt_drewN roomCpu_new roomIn_new roomAt_old roomAt_drew roomAt_drewN putCpu_new putIn_new Cp.zero_fold In.fold putRow_past rowCpu_put rowIn_put size_put putRow_drew putRow_drewN alloc_drewN setCell_drewN Cp.at16 Cp.at17 Cp.at18 Cp.at19 Cp.at20 Cp.at21 Cp.size Cp.set16 Cp.set17 Cp.set18 Cp.set19 Cp.set20 Cp.set21 In.at0 In.at1 In.at2 In.at3 In.at4 In.at5 In.at6 In.at7 In.size In.set0 In.set1 In.set2 In.set3 In.ne Cp.ne In.set4 In.set5 In.set6 In.set7
attribute [local go_sem ↓] eqlCpu_seal
set_option linter.unusedVariables false

theorem setCells_only (b : Nat) : ∀ (vs : List Value) (k : Nat) (w : World), w.setCells b k vs = { w with heap := (w.setCells b k vs).heap }
  | [], _, _ => rfl
  | v :: r, k, w => by
    rw [World.setCells]
    have := setCells_only b r (k + 1) (w.setCell ⟨b, k, none⟩ v)
    rw [this]
    rfl
theorem setCells_far (b x : Nat) (hx : x ≠ b) : ∀ (vs : List Value) (k : Nat) (w : World), (w.setCells b k vs).heap[x]? = w.heap[x]?
  | [], _, _ => rfl
  | v :: r, k, w => by rw [World.setCells, setCells_far b x hx r (k + 1) _]; exact heap_setCell_other _ _ _ _ _ hx
theorem room_blk {w : World} {p n : Nat} (hm : roomAt w p n = true) : ∃ Y t, w.heap[p]? = some (.cells Y t (0, 0)) ∧ Y.size = n := by
  unfold roomAt at hm
  split at hm
  case h_2 => cases hm
  rename_i Y t fr hY
  simp only [Bool.and_eq_true, beq_iff_eq] at hm
  exact ⟨Y, t, by rw [hY, hm.2], hm.1⟩
theorem put_blk {X : World} {b : Nat} {Z : Array Value} (h : roomAt X b Z.size = true) : ∃ t, (putRow X b Z).heap[b]? = some (.cells Z t (0, 0)) ∧ X.heap[b]? ≠ none := by
  obtain ⟨Y, t, hY, hs⟩ := room_blk h
  refine ⟨t, ?_, by rw [hY]; simp⟩
  rw [putRow_eq, setCells_heap _ _ _ _ hY, putList_all Z Y hs]
/-- A world that is another but for one block, which holds that row, is that with the row laid. -/
theorem world_put {X Y : World} {b : Nat} {Z : Array Value} {t : TypeId} (h : roomAt X b Z.size = true) (e : Y = { X with heap := Y.heap }) (hx : ∀ x, x ≠ b → Y.heap[x]? = X.heap[x]?) (hb : ∃ W, X.heap[b]? = some (.cells W t (0, 0))) (hy : Y.heap[b]? = some (.cells Z t (0, 0))) : Y = putRow X b Z := by
  obtain ⟨W, hW⟩ := hb
  obtain ⟨W', t', hW', hs⟩ := room_blk h
  rw [hW] at hW'
  cases hW'
  have e2 : (putRow X b Z) = { X with heap := (putRow X b Z).heap } := by rw [putRow_eq]; exact setCells_only b _ _ _
  have eh : Y.heap = (putRow X b Z).heap := by
    apply Array.ext_getElem?
    intro x
    by_cases hxb : x = b
    · subst hxb
      rw [hy, putRow_eq, setCells_heap _ _ _ _ hW, putList_all Z W hs]
    · rw [hx x hxb, putRow_eq, setCells_far b x hxb]
  rw [e, e2, eh]
theorem put_set {X : World} {b j : Nat} {c d : Array Value} {v : Value} (h : roomAt X b c.size = true) (hd : c.setIfInBounds j v = d) : (putRow X b c).setCell ⟨b, j, none⟩ v = putRow X b d := by
  obtain ⟨Y, t, hY, hs⟩ := room_blk h
  have hsd : d.size = c.size := by rw [← hd]; simp
  have e1 : (putRow X b c).heap[b]? = some (.cells c t (0, 0)) := by rw [putRow_eq, setCells_heap _ _ _ _ hY, putList_all c Y hs]
  refine world_put (t := t) (by rw [hsd]; exact h) ?_ (fun x hx => ?_) ⟨Y, hY⟩ ?_
  · rw [putRow_eq, setCells_only b _ _ X]; rfl
  · rw [heap_setCell_other _ _ _ _ _ hx, putRow_eq, setCells_far b x hx]
  · rw [Go.Joins.block_setCell e1 v, hd]
theorem row_set {X : World} {b j : Nat} {c d : Array Value} {v : Value} (h : roomAt X b c.size = true) (hr : rowAt X b = some c) (hd : c.setIfInBounds j v = d) : X.setCell ⟨b, j, none⟩ v = putRow X b d := by
  obtain ⟨Y, t, hY, hs⟩ := room_blk h
  have hsd : d.size = c.size := by rw [← hd]; simp
  have hc : Y = c := by unfold rowAt at hr; rw [hY] at hr; exact Option.some.inj hr
  subst hc
  refine world_put (t := t) (by rw [hsd]; exact h) rfl (fun x hx => heap_setCell_other _ _ _ _ _ hx) ⟨Y, hY⟩ ?_
  rw [Go.Joins.block_setCell hY v, hd]
theorem put_cell (X : World) (b j : Nat) (c : Cp) (h : roomAt X b 22 = true) : (putRow X b c.cells).cell? ⟨b, j, none⟩ = c.cells[j]? := rowAt_cell (rowCpu_put X b c h) j
theorem put_room (X : World) (b b' n : Nat) (c : Cp) (h : roomAt X b 22 = true) : roomAt (putRow X b c.cells) b' n = roomAt X b' n := by
  obtain ⟨Y, t, hY, hs⟩ := room_blk h
  by_cases e : b' = b
  · subst e
    have e1 : (putRow X b' c.cells).heap[b']? = some (.cells c.cells t (0, 0)) := by rw [putRow_eq, setCells_heap _ _ _ _ hY, putList_all c.cells Y hs]
    unfold roomAt
    rw [e1, hY]
    simp [hs, Cp.size]
  · unfold roomAt
    rw [putRow_eq, setCells_far b b' e]
theorem put_froz (X : World) (b j : Nat) (c : Cp) (h : roomAt X b 22 = true) (hj : j < 22) : (putRow X b c.cells).frozen? ⟨b, j, none⟩ = false := by
  have := (room_there (w := putRow X b c.cells) (b := b) (n := 22) (by rw [put_room X b b 22 c h]; exact h) j hj).2
  simpa using this
theorem put_row_far (X : World) (b b' : Nat) (Z : Array Value) (hb : b' ≠ b) : rowAt (putRow X b Z) b' = rowAt X b' := by
  unfold rowAt
  rw [putRow_eq, setCells_far b b' hb]
theorem put_cell_far (X : World) (b b' j : Nat) (Z : Array Value) (hb : b' ≠ b) : (putRow X b Z).cell? ⟨b', j, none⟩ = X.cell? ⟨b', j, none⟩ := by
  unfold World.cell?
  rw [putRow_eq, setCells_far b b' hb]
theorem put_froz_far (X : World) (b b' j : Nat) (Z : Array Value) (hb : b' ≠ b) : (putRow X b Z).frozen? ⟨b', j, none⟩ = X.frozen? ⟨b', j, none⟩ := by
  unfold World.frozen?
  rw [putRow_eq, setCells_far b b' hb]
theorem put16 (X : World) (b : Nat) (c : Cp) (v : Int) (h : roomAt X b 22 = true) : (putRow X b c.cells).setCell ⟨b, 16, none⟩ (.int .u32 v) = putRow X b ({ c with H := v } : Cp).cells := put_set h (Cp.set16 c v)
theorem put19 (X : World) (b : Nat) (c : Cp) (v : Bool) (h : roomAt X b 22 = true) : (putRow X b c.cells).setCell ⟨b, 19, none⟩ (.bool v) = putRow X b ({ c with C := v } : Cp).cells := put_set h (Cp.set19 c v)
theorem put20 (X : World) (b : Nat) (c : Cp) (v : Bool) (h : roomAt X b 22 = true) : (putRow X b c.cells).setCell ⟨b, 20, none⟩ (.bool v) = putRow X b ({ c with V := v } : Cp).cells := put_set h (Cp.set20 c v)
theorem put21 (X : World) (b : Nat) (c : Cp) (v : Int) (h : roomAt X b 22 = true) : (putRow X b c.cells).setCell ⟨b, 21, none⟩ (.int .u32 v) = putRow X b ({ c with PC := v } : Cp).cells := put_set h (Cp.set21 c v)
theorem putR (X : World) (b a : Nat) (c : Cp) (v : Int) (h : roomAt X b 22 = true) (ha : a < 16) : (putRow X b c.cells).setCell ⟨b, a, none⟩ (.int .u32 v) = putRow X b (c.setR a v).cells := put_set h (Cp.setAt c a v ha)
/-- One row of several is laid anew. -/
theorem Keeps.upd {w X : World} {rows : List (Nat × Array Value)} (h : Keeps w rows X) {b : Nat} {c d : Array Value} (hin : (b, c) ∈ rows) (hb : w.heap.size ≤ b) (hd : d.size = c.size) : Keeps w (rows.map fun r => if r.1 = b then (b, d) else r) (putRow X b d) := by
  have rb : roomAt X b d.size = true := by rw [hd]; exact h.room hin
  have lb := (h.2 (b, c) hin).2.2
  obtain ⟨Y, t, hY, hs⟩ := room_blk rb
  refine ⟨below_put h.1 b hb d, fun q hq => ?_⟩
  obtain ⟨r, hr, rfl⟩ := List.mem_map.1 hq
  by_cases e : r.1 = b
  · simp only [if_pos e]
    refine ⟨rowAt_put rb, ?_, by rw [size_put]; exact lb⟩
    have e1 : (putRow X b d).heap[b]? = some (.cells d t (0, 0)) := by rw [putRow_eq, setCells_heap _ _ _ _ hY, putList_all d Y hs]
    unfold roomAt
    rw [e1]
    simp
  · simp only [if_neg e]
    have k := h.2 r hr
    refine ⟨(put_row_far X b r.1 d e).trans k.1, ?_, by rw [size_put]; exact k.2.2⟩
    have k2 := k.2.1
    unfold roomAt at k2 ⊢
    rw [putRow_eq, setCells_far b r.1 e]
    exact k2
theorem Keeps.cellset {w X : World} {rows : List (Nat × Array Value)} (h : Keeps w rows X) {b j : Nat} {c d : Array Value} {v : Value} (hin : (b, c) ∈ rows) (hd : c.setIfInBounds j v = d) : X.setCell ⟨b, j, none⟩ v = putRow X b d := row_set (h.room hin) (h.row hin) hd
end Go.Proofs.YtkhgeldnlffgjabDoor
