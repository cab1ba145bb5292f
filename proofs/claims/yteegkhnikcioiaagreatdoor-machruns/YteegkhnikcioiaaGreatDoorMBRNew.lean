/-
  How the document's disk lies in memory.
  The document's disk, made new or from an image.
-/
import Derived.Test.YteegkhnikcioiaaGreatDoorMBMeth
import Derived.Deep.RegionLaw
namespace Go.Proofs.YteegkhnikcioiaaGreatDoor
open Go.ChangeShapes Go.WideShapes Go.ChangeAt Go.RowKit
attribute [local go_sem ↓] loadSec_seal storeSec_seal eqlSec_seal zeroSec
attribute [local go_sem] loadSec_run storeSec_run rowAt_at rowAt_old rowAt_drew rowAt_drewN roomSec_new roomAt_old roomAt_drew roomAt_drewN putSec_new putRow_past rowSec_put size_put putRow_drew putRow_drewN alloc_drewN setCell_drewN sec_size

set_option linter.unusedVariables false

def strs (F : Nat → ByteArray) (n : Nat) : List Value := (List.range n).map fun i => .string (F i)
theorem strs_len (F : Nat → ByteArray) (n : Nat) : (strs F n).length = n := by simp [strs]
theorem strs_at (F : Nat → ByteArray) {n i : Nat} (h : i < n) : (strs F n)[i]? = some (.string (F i)) := by simp [strs, h]
theorem strs_succ (F : Nat → ByteArray) (n : Nat) : strs F n ++ [.string (F n)] = strs F (n + 1) := by simp [strs, List.range_succ]
structure Rk where
  n : Nat
  F : Nat → ByteArray
  fv : Value
  m : Nat
  wn : Nat → Nat
  C : Nat → ByteArray
  wv : Value
def rcells (wn : Nat → Nat) (C : Nat → ByteArray) : Nat → List Value
  | 0 => []
  | k + 1 => rcells wn C k ++ [.int .i64 (wn k), .string (C k)]
theorem rcells_len (wn : Nat → Nat) (C : Nat → ByteArray) : ∀ m, (rcells wn C m).length = m * 2
  | 0 => rfl
  | m + 1 => by rw [rcells, List.length_append, rcells_len wn C m]; simp; omega
theorem rcells_at (wn : Nat → Nat) (C : Nat → ByteArray) {k : Nat} : ∀ m, k < m → (rcells wn C m)[k * 2]? = some (.int .i64 (wn k)) ∧ (rcells wn C m)[k * 2 + 1]? = some (.string (C k))
  | 0, h => by omega
  | m + 1, h => by
    rw [rcells]
    by_cases e : k = m
    · subst e
      have hl := rcells_len wn C k
      rw [List.getElem?_append_right (by omega), List.getElem?_append_right (by omega), hl]
      simp
    · have hl := rcells_len wn C m
      rw [List.getElem?_append_left (by omega), List.getElem?_append_left (by omega)]
      exact rcells_at wn C m (by omega)
theorem rcells_upd (wn : Nat → Nat) (C : Nat → ByteArray) (k n : Nat) (s : ByteArray) : ∀ m, m ≤ k → rcells (upd wn k n) (upd C k s) m = rcells wn C m
  | 0, _ => rfl
  | m + 1, h => by rw [rcells, rcells, rcells_upd wn C k n s m (by omega), upd_ne _ _ (by omega), upd_ne _ _ (by omega)]
def Rk.mut (R : Rk) (r x : Nat) : Prop := x = r ∨ R.fv.ownBlock = some x ∨ R.wv.ownBlock = some x
structure RepR (w : World) (r : Nat) (R : Rk) : Prop where
  n1 : R.n ≤ 1024
  m1 : R.m ≤ 4096
  blk : rowAt w r = some #[R.fv, R.wv]
  room : roomAt w r 2 = true
  first : w.ownsRow 0 9 1 R.fv R.n (strs R.F R.n)
  row : w.ownsRow 0 133 2 R.wv R.m (rcells R.wn R.C R.m)
  d1 : ∀ x, R.fv.ownBlock = some x → x ≠ r ∧ R.wv.ownBlock ≠ some x
  d2 : ∀ x, R.wv.ownBlock = some x → x ≠ r
  lt : ∀ x, R.mut r x → x < w.heap.size
theorem RepR.keep {w w' : World} {r : Nat} {R : Rk} (h : RepR w r R) (hs : w.heap.size ≤ w'.heap.size) (hw : ∀ x, R.mut r x → w'.heap[x]? = w.heap[x]?) : RepR w' r R where
  n1 := h.n1
  m1 := h.m1
  blk := (rowAt_same (hw r (.inl rfl))).trans h.blk
  room := (roomAt_same (hw r (.inl rfl))).trans h.room
  first := own_same h.first fun x hx => hw x (.inr (.inl hx))
  row := own_same h.row fun x hx => hw x (.inr (.inr hx))
  d1 := h.d1
  d2 := h.d2
  lt := fun x hx => Nat.lt_of_lt_of_le (h.lt x hx) hs
theorem RepR.below {w w' : World} {r : Nat} {R : Rk} (h : RepR w r R) (hb : Below w.heap.size w w') : RepR w' r R := h.keep hb.size fun x hx => hb.block x (h.lt x hx)
theorem RepR.cell0 {w : World} {r : Nat} {R : Rk} (h : RepR w r R) : w.cell? ⟨r, 0, none⟩ = some R.fv ∧ w.frozen? ⟨r, 0, none⟩ = false := ⟨rowAt_cell h.blk 0, by have := (room_there h.room 0 (by omega)).2; simpa using this⟩
theorem RepR.cell1 {w : World} {r : Nat} {R : Rk} (h : RepR w r R) : w.cell? ⟨r, 1, none⟩ = some R.wv ∧ w.frozen? ⟨r, 1, none⟩ = false := ⟨rowAt_cell h.blk 1, by have := (room_there h.room 1 (by omega)).2; simpa using this⟩
theorem ownV {w : World} {e : TypeId} {s n : Nat} {v : Value} {xs : List Value} (h : w.ownsRow 0 e s v n xs) : ∃ a c, v = .slice a n c := by
  rcases h.2 with ⟨e, e0⟩ | ⟨g, cap, _, e, _⟩
  · exact ⟨none, 0, by rw [e, e0]⟩
  · exact ⟨_, _, e⟩
def Rk.firstTo (R : Rk) (s : ByteArray) (g c : Nat) : Rk := { R with n := R.n + 1, F := upd R.F R.n s, fv := .slice (some ⟨g, 0, none⟩) (R.n + 1) c }
def Rk.rowTo (R : Rk) (n : Nat) (s : ByteArray) (g c : Nat) : Rk := { R with m := R.m + 1, wn := upd R.wn R.m n, C := upd R.C R.m s, wv := .slice (some ⟨g, 0, none⟩) (R.m + 1) c }
theorem strs_upd (F : Nat → ByteArray) (k : Nat) (s : ByteArray) : strs (upd F k s) (k + 1) = strs F k ++ [.string s] := by
  rw [← strs_succ, upd_at]
  congr 1
  exact List.map_congr_left fun i hi => by rw [upd_ne _ _ (by have := List.mem_range.1 hi; omega)]
/-- A block of two cells, one of which is set. -/
theorem two_set {w : World} {r : Nat} {a b : Value} (hb : rowAt w r = some #[a, b]) (hr : roomAt w r 2 = true) (v : Value) : (rowAt (w.setCell ⟨r, 0, none⟩ v) r = some #[v, b] ∧ roomAt (w.setCell ⟨r, 0, none⟩ v) r 2 = true) ∧ (rowAt (w.setCell ⟨r, 1, none⟩ v) r = some #[a, v] ∧ roomAt (w.setCell ⟨r, 1, none⟩ v) r 2 = true) := by
  unfold roomAt at hr
  unfold rowAt at hb
  split at hr
  case h_2 => cases hr
  rename_i Y t fr hY
  rw [hY] at hb
  have hb : Y = #[a, b] := Option.some.inj hb
  have hfr : fr = (0, 0) := by simp at hr; exact hr.2
  subst hb hfr
  have b0 := Go.Joins.block_setCell (i := 0) hY v
  have b1 := Go.Joins.block_setCell (i := 1) hY v
  refine ⟨⟨?_, ?_⟩, ?_, ?_⟩
  · unfold rowAt; rw [b0]; rfl
  · unfold roomAt; rw [b0]; rfl
  · unfold rowAt; rw [b1]; rfl
  · unfold roomAt; rw [b1]; rfl
theorem rep_first {w w5 : World} {r g c : Nat} {R : Rk} {s : ByteArray} {vs : Obj} (h : RepR w r R) (hn : R.n < 1024) (hown : w5.ownsRow 0 9 1 (.slice (some ⟨g, 0, none⟩) (R.n + 1) c) (R.n + 1) (strs R.F R.n ++ [.string s])) (hgrow : (w.alloc vs).grownBy w5 R.fv.ownBlock) (hat : R.fv.ownBlock = some g ∨ g = w.heap.size + 1) :
    RepR (w5.setCell ⟨r, 0, none⟩ (.slice (some ⟨g, 0, none⟩) (R.n + 1) c)) r (R.firstTo s g c) ∧ Tou (R.mut r) w (w5.setCell ⟨r, 0, none⟩ (.slice (some ⟨g, 0, none⟩) (R.n + 1) c)) ∧ (∀ x, (R.firstTo s g c).mut r x → R.mut r x ∨ w.heap.size ≤ x) := by
  have r0 : r < w.heap.size := h.lt r (.inl rfl)
  have s0 : (w.alloc vs).heap.size = w.heap.size + 1 := by simp
  have s5 : w.heap.size + 1 ≤ w5.heap.size := by rw [← s0]; exact hgrow.size
  have same5 : ∀ x, x < w.heap.size → R.fv.ownBlock ≠ some x → w5.heap[x]? = w.heap[x]? := fun x hx h1 => by
    rw [hgrow.block x (by omega) (fun e => h1 e.symm), Below.heap_alloc _ _ _ hx]
  have fr : R.fv.ownBlock ≠ some r := fun e => (h.d1 r e).1 rfl
  have gr : g ≠ r := by
    rcases hat with e | e
    · exact (h.d1 g e).1
    · omega
  have gw : R.wv.ownBlock ≠ some g := by
    rcases hat with e | e
    · exact (h.d1 g e).2
    · intro e2; have := h.lt g (.inr (.inr e2)); omega
  have mutx : ∀ x, (R.firstTo s g c).mut r x → R.mut r x ∨ (x = g ∧ w.heap.size ≤ x) := fun x hx => by
    rcases hx with e | e | e
    · exact .inl (.inl e)
    · have e : g = x := Option.some.inj (show some g = some x from e)
      rcases hat with e2 | e2
      · exact .inl (.inr (.inl (e ▸ e2)))
      · exact .inr ⟨e.symm, by omega⟩
    · exact .inl (.inr (.inr e))
  have t5 := two_set ((rowAt_same (same5 r r0 fr)).trans h.blk) ((roomAt_same (same5 r r0 fr)).trans h.room) (.slice (some ⟨g, 0, none⟩) (R.n + 1) c)
  refine ⟨{
    n1 := hn
    m1 := h.m1
    blk := t5.1.1
    room := t5.1.2
    first := by
      show World.ownsRow _ 0 9 1 _ (R.n + 1) (strs (upd R.F R.n s) (R.n + 1))
      rw [strs_upd]
      refine own_same hown fun x hx => ?_
      have e := Option.some.inj (show some g = some x from hx)
      subst e
      exact Below.heap_setCell _ _ _ _ gr
    row := own_same h.row fun x hx => by
      have hx : R.wv.ownBlock = some x := hx
      rw [Below.heap_setCell _ _ _ _ (h.d2 x hx), same5 x (h.lt x (.inr (.inr hx))) (fun e => (h.d1 x e).2 hx)]
    d1 := fun x hx => by
      have e := Option.some.inj (show some g = some x from hx)
      subst e; exact ⟨gr, gw⟩
    d2 := h.d2
    lt := fun x hx => by
      rw [show (w5.setCell ⟨r, 0, none⟩ (.slice (some ⟨g, 0, none⟩) (R.n + 1) c)).heap.size = w5.heap.size by simp]
      rcases mutx x hx with h1 | ⟨h1, _⟩
      · have := h.lt x h1; omega
      · have := World.ownsRow.lt hown g rfl; omega }, ⟨hgrow.os, hgrow.tape, hgrow.output, by simp; omega, fun x hx hm => ?_⟩, fun x hx => (mutx x hx).imp id (·.2)⟩
  rw [Below.heap_setCell _ _ _ _ (fun e => hm (.inl e)), same5 x hx (fun e => hm (.inr (.inl e)))]
theorem rep_row {w w5 : World} {r g c n : Nat} {R : Rk} {s : ByteArray} {vs : Obj} (h : RepR w r R) (hm : R.m < 4096) (hown : w5.ownsRow 0 133 2 (.slice (some ⟨g, 0, none⟩) (R.m + 1) c) (R.m + 1) (rcells R.wn R.C R.m ++ [.int .i64 n, .string s])) (hgrow : (w.alloc vs).grownBy w5 R.wv.ownBlock) (hat : R.wv.ownBlock = some g ∨ g = w.heap.size + 1) :
    RepR (w5.setCell ⟨r, 1, none⟩ (.slice (some ⟨g, 0, none⟩) (R.m + 1) c)) r (R.rowTo n s g c) ∧ Tou (R.mut r) w (w5.setCell ⟨r, 1, none⟩ (.slice (some ⟨g, 0, none⟩) (R.m + 1) c)) ∧ (∀ x, (R.rowTo n s g c).mut r x → R.mut r x ∨ w.heap.size ≤ x) := by
  have r0 : r < w.heap.size := h.lt r (.inl rfl)
  have s0 : (w.alloc vs).heap.size = w.heap.size + 1 := by simp
  have s5 : w.heap.size + 1 ≤ w5.heap.size := by rw [← s0]; exact hgrow.size
  have same5 : ∀ x, x < w.heap.size → R.wv.ownBlock ≠ some x → w5.heap[x]? = w.heap[x]? := fun x hx h1 => by
    rw [hgrow.block x (by omega) (fun e => h1 e.symm), Below.heap_alloc _ _ _ hx]
  have fr : R.wv.ownBlock ≠ some r := fun e => h.d2 r e rfl
  have gr : g ≠ r := by
    rcases hat with e | e
    · exact h.d2 g e
    · omega
  have gw : R.fv.ownBlock ≠ some g := by
    rcases hat with e | e
    · exact fun e2 => (h.d1 g e2).2 e
    · intro e2; have := h.lt g (.inr (.inl e2)); omega
  have mutx : ∀ x, (R.rowTo n s g c).mut r x → R.mut r x ∨ (x = g ∧ w.heap.size ≤ x) := fun x hx => by
    rcases hx with e | e | e
    · exact .inl (.inl e)
    · exact .inl (.inr (.inl e))
    · have e : g = x := Option.some.inj (show some g = some x from e)
      rcases hat with e2 | e2
      · exact .inl (.inr (.inr (e ▸ e2)))
      · exact .inr ⟨e.symm, by omega⟩
  have t5 := two_set ((rowAt_same (same5 r r0 fr)).trans h.blk) ((roomAt_same (same5 r r0 fr)).trans h.room) (.slice (some ⟨g, 0, none⟩) (R.m + 1) c)
  refine ⟨{
    n1 := h.n1
    m1 := hm
    blk := t5.2.1
    room := t5.2.2
    first := own_same h.first fun x hx => by
      have hx : R.fv.ownBlock = some x := hx
      rw [Below.heap_setCell _ _ _ _ (h.d1 x hx).1, same5 x (h.lt x (.inr (.inl hx))) (h.d1 x hx).2]
    row := by
      have e : rcells (upd R.wn R.m n) (upd R.C R.m s) (R.m + 1) = rcells R.wn R.C R.m ++ [.int .i64 n, .string s] := by
        rw [rcells, rcells_upd _ _ _ _ _ _ (Nat.le_refl _), upd_at, upd_at]
      show World.ownsRow _ 0 _ 2 _ (R.m + 1) (rcells (upd R.wn R.m n) (upd R.C R.m s) (R.m + 1))
      rw [e]
      refine own_same hown fun x hx => ?_
      have e := Option.some.inj (show some g = some x from hx)
      subst e
      exact Below.heap_setCell _ _ _ _ gr
    d1 := fun x hx => ⟨(h.d1 x hx).1, fun e => by
      have e := Option.some.inj (show some g = some x from e)
      subst e; exact gw hx⟩
    d2 := fun x hx => by
      have e := Option.some.inj (show some g = some x from hx)
      subst e; exact gr
    lt := fun x hx => by
      rw [show (w5.setCell ⟨r, 1, none⟩ (.slice (some ⟨g, 0, none⟩) (R.m + 1) c)).heap.size = w5.heap.size by simp]
      rcases mutx x hx with h1 | ⟨h1, _⟩
      · have := h.lt x h1; omega
      · have := World.ownsRow.lt hown g rfl; omega }, ⟨hgrow.os, hgrow.tape, hgrow.output, by simp; omega, fun x hx hm => ?_⟩, fun x hx => (mutx x hx).imp id (·.2)⟩
  rw [Below.heap_setCell _ _ _ _ (fun e => hm (.inl e)), same5 x hx (fun e => hm (.inr (.inr e)))]
end Go.Proofs.YteegkhnikcioiaaGreatDoor

namespace Go.Proofs.YteegkhnikcioiaaGreatDoor
open Go.ChangeShapes Go.WideShapes Go.ChangeAt Go.RowKit
attribute [local go_sem ↓] loadSec_seal storeSec_seal eqlSec_seal zeroSec
attribute [local go_sem] loadSec_run storeSec_run rowAt_at rowAt_old rowAt_drew rowAt_drewN roomSec_new roomAt_old roomAt_drew roomAt_drewN putSec_new putRow_past rowSec_put size_put putRow_drew putRow_drewN alloc_drewN setCell_drewN sec_size

set_option linter.unusedVariables false

theorem info9 : (Tryz.prog.info? 9).map (fun i => (i.zero, i.size, i.bytes)) = some (some (.string ⟨#[]⟩), 1, 16) := by kernel_rfl
theorem noughts_any (w : World) : Calls Tryz.prog 48 #[] w fun e w' => e = .returned (.string (strF (fun _ => 0) 1024)) ∧ Below w.heap.size w w' := by
  obtain ⟨i0, hi, hz0, hz1, hz2⟩ := info_parts info5
  go_enter Tryz.func48, Tryz.ntmps48
  go_wp2_with (at_make; refine wpList_make_full _ rfl _ _ 49 rfl w.heap.size 5 i0 (.int .u8 0) 1 Tryz.underlying49 hi hz0 hz1 .i64 .i64 _ _ 1024 rfl rfl rfl rfl (by rw [hz2]; decide) (by decide) (Nat.le_refl _) ?_; intro w2 hown2 hgrow2; have hx := conv_str 1024 ((BRow.made hown2).rd (by decide) (fun i _ => ⟨Int.le_refl _, show (0 : Int) ≤ 255 by decide⟩)); have HB : Hid (Below w.heap.size w w2) := (Below.refl _ w).grown hgrow2 (Nat.le_refl _) (fun k hk => by cases hk); clear hown2 hgrow2)
  go_ret
  exact ⟨rfl, HB.out⟩
def emptyR : Rk := { n := 0, F := fun _ => ⟨#[]⟩, fv := .slice none 0 0, m := 0, wn := fun _ => 0, C := fun _ => ⟨#[]⟩, wv := .slice none 0 0 }
theorem none_rep (w : World) (t : TypeId) : RepR (w.alloc (.cells #[.slice none 0 0, .slice none 0 0] t)) w.heap.size emptyR where
  n1 := by simp [emptyR]
  m1 := by simp [emptyR]
  blk := rowAt_new _ _ _ _
  room := roomAt_new _ _ _ _ _ rfl rfl
  first := World.ownsRow_nil _ _ _ _
  row := World.ownsRow_nil _ _ _ _
  d1 := fun x hx => by simp [emptyR, Value.ownBlock] at hx
  d2 := fun x hx => by simp [emptyR, Value.ownBlock] at hx
  lt := fun x hx => by
    rcases hx with rfl | hx | hx
    · simp
    · simp [emptyR, Value.ownBlock] at hx
    · simp [emptyR, Value.ownBlock] at hx
/-- The disk while its sectors are laid. -/
structure RIn (w : World) (r k : Nat) (s : Nat → ByteArray) (X : World) : Prop where
  ex : ∃ R, RepR X r R ∧ R.n = k ∧ R.m = 0 ∧ (∀ i, i < k → R.F i = s i) ∧ (∀ x, R.mut r x → w.heap.size ≤ x)
  below : Below w.heap.size w X
theorem RIn.start (w : World) (s : Nat → ByteArray) (t : TypeId) : RIn w w.heap.size 0 s (w.alloc (.cells #[.slice none 0 0, .slice none 0 0] t)) :=
  ⟨⟨emptyR, none_rep w t, rfl, rfl, fun i hi => by omega, fun x hx => by
    rcases hx with rfl | hx | hx
    · exact Nat.le_refl _
    · simp [emptyR, Value.ownBlock] at hx
    · simp [emptyR, Value.ownBlock] at hx⟩, (Below.refl _ w).alloc (Nat.le_refl _) _⟩
theorem RIn.step {w X Y w5 : World} {r k g c : Nat} {s : Nat → ByteArray} {R : Rk} {vs : Obj} (h : RIn w r k s X) (hk : k < 1024) (hb : Below X.heap.size X Y) (hR : RepR X r R) (hn : R.n = k) (hm : R.m = 0) (hF : ∀ i, i < k → R.F i = s i) (hmu : ∀ x, R.mut r x → w.heap.size ≤ x)
    (hown : w5.ownsRow 0 9 1 (.slice (some ⟨g, 0, none⟩) (R.n + 1) c) (R.n + 1) (strs R.F R.n ++ [.string (s k)])) (hgrow : (Y.alloc vs).grownBy w5 R.fv.ownBlock) (hat : R.fv.ownBlock = some g ∨ g = Y.heap.size + 1) : RIn w r (k + 1) s (w5.setCell ⟨r, 0, none⟩ (.slice (some ⟨g, 0, none⟩) (R.n + 1) c)) := by
  obtain ⟨h1, h2, h3⟩ := rep_first (hR.below hb) (by omega) hown hgrow hat
  have hbw : Below w.heap.size w Y := h.below.trans (hb.mono h.below.size)
  refine ⟨⟨_, h1, by show R.n + 1 = k + 1; omega, hm, fun i hi => ?_, fun x hx => ?_⟩, hbw.trans (h2.below hbw.size hmu)⟩
  · show upd R.F R.n (s k) i = s i
    by_cases e : i = R.n
    · rw [e, upd_at, hn]
    · rw [upd_ne _ _ e]; exact hF i (by omega)
  · rcases h3 x hx with h4 | h4
    · exact hmu x h4
    · have := hbw.size; omega
theorem back_cells {X Y w5 : World} {r : Nat} {R : Rk} {vs : Obj} (hR : RepR X r R) (hb : Below X.heap.size X Y) (hgrow : (Y.alloc vs).grownBy w5 R.fv.ownBlock) : w5.cell? ⟨r, 0, none⟩ = some R.fv ∧ w5.frozen? ⟨r, 0, none⟩ = false := by
  have hY := hR.below hb
  have r0 : r < Y.heap.size := hY.lt r (.inl rfl)
  have e : w5.heap[r]? = Y.heap[r]? := by
    rw [hgrow.block r (by simp; omega) (fun e => (hR.d1 r e.symm).1 rfl), Below.heap_alloc _ _ _ r0]
  exact ⟨(World.cell?_of_block e).trans hY.cell0.1, (World.frozen?_of_block e).trans hY.cell0.2⟩
theorem one_src (w : World) (x : Value) (t : TypeId) (k : Nat) (hk : k = w.heap.size) : ∀ j u, [x][j]? = some u → (w.alloc (.cells #[x] t)).cell? ((⟨k, 0, none⟩ : Addr).add j) = some u := by subst hk; exact cell_one_new w x t
theorem rnew_none (n : Int) (w : World) (h : isSizeB n = false) : Calls Tryz.prog 28 #[.int .i64 n] w fun e w' => e = .returned (.tuple #[.pointer none, .int .i64 30]) ∧ Below w.heap.size w w' := by
  have h2 : n < 8 ∨ (8 ≤ n ∧ 1024 < n) := by simp [isSizeB] at h; omega
  rcases h2 with h2 | ⟨h2, h3⟩
  all_goals
    go_enter Tryz.func28, Tryz.ntmps28
    go_wp2
    go_ret2
    exact ⟨rfl, by go_grown⟩
set_option maxHeartbeats 4000000 in
set_option maxRecDepth 20000 in
theorem rnew_some (n : Nat) (w : World) (n0 : 8 ≤ n) (n1 : n ≤ 1024) : Calls Tryz.prog 28 #[.int .i64 n] w fun e w' => ∃ r R, e = .returned (.tuple #[.pointer (some ⟨r, 0, none⟩), .int .i64 0]) ∧ RepR w' r R ∧ R.n = n ∧ R.m = 0 ∧ (∀ i, i < n → R.F i = strF (fun _ => 0) 1024) ∧ (∀ x, R.mut r x → w.heap.size ≤ x) ∧ Below w.heap.size w w' := by
  obtain ⟨i0, hi, hz0, hz1, hz2⟩ := info_parts info9
  go_enter Tryz.func28, Tryz.ntmps28
  go_wp2
  go_loopw [5] (fun i X => ∃ k : Nat, k ≤ n ∧ i = .int .i64 k ∧ RIn w w.heap.size k (fun _ => strF (fun _ => 0) 1024) X) (fun i _ => n - (intOf i).toNat)
  case atStart => exact ⟨0, by omega, rfl, RIn.start w _ _⟩
  case round =>
    obtain ⟨k, hk, rfl, hX⟩ := hrel
    have HX : Hid _ := hX
    by_cases hlt : k < n
    · obtain ⟨R, hR, hn, hm, hF, hmu⟩ := hX.ex
      obtain ⟨c0, f0⟩ := hR.cell0
      obtain ⟨fa, fc, hfv⟩ := ownV hR.first
      have HR : Hid (RepR _ w.heap.size R ∧ R.n = k ∧ R.m = 0 ∧ (∀ i, i < k → R.F i = strF (fun _ => 0) 1024) ∧ (∀ x, R.mut w.heap.size x → w.heap.size ≤ x) ∧ R.fv = .slice fa R.n fc) := ⟨hR, hn, hm, hF, hmu, hfv⟩
      have r0 : w.heap.size < _ := hR.lt _ (.inl rfl)
      have j0 : (k : Int) < (n : Int) := by omega
      clear hR hn hm hF hmu hX hfv
      go_wp2
      go_region_law (first | (refine step_append_lies _ rfl _ _ 83 rfl 0 9 i0 (.string ⟨#[]⟩) 1 16 Tryz.underlying83 hi hz0 hz1 hz2 rfl (by decide) R.fv R.n (strs R.F R.n) rfl (own_same (HR.out.1.below HB1.out).first (fun x hx => Below.heap_alloc _ _ _ ((HR.out.1.below HB1.out).lt x (.inr (.inl hx))))) ⟨w1.heap.size, 0, none⟩ 1 1 [.string (strF (fun _ => 0) 1024)] rfl rfl (one_src _ _ _ _ rfl) (by simp [Value.oneCell']) (by omega) (by unfold maxLen; have := HR.out.2.1; omega) (by have := HR.out.2.1; omega) (Nat.zero_le _) _ rfl ?_; intro g c w5 hown hgrow hat hlt; obtain ⟨d0, d1⟩ := back_cells HR.out.1 HB1.out hgrow; have HS : Hid (RIn w w.heap.size (k + 1) (fun _ => strF (fun _ => 0) 1024) (w5.setCell ⟨w.heap.size, 0, none⟩ (.slice (some ⟨g, 0, none⟩) (R.n + 1) c))) := HX.out.step (by omega) HB1.out HR.out.1 HR.out.2.1 HR.out.2.2.1 HR.out.2.2.2.1 HR.out.2.2.2.2.1 hown hgrow (hat.imp id (fun h => by simpa using h)); clear hown hgrow hat hlt) | (go_simp; go_at_call 48; refine (noughts_any _).mono ?_; rintro e w1 ⟨rfl, hb1⟩; have HB1 : Hid (Below wr.heap.size wr w1) := ((Below.refl _ wr).drew).trans hb1; have c1 := (HR.out.1.below HB1.out).cell0.1; have r1 : w.heap.size < w1.heap.size := (HR.out.1.below HB1.out).lt _ (.inl rfl); clear hb1))
      all_goals
        go_wp2
        go_roundw
        case rel => exact ⟨k + 1, by omega, by go_num, HS.out⟩
        case measure => simp [intOf]; omega
    · have hkn : k = n := by omega
      subst hkn
      obtain ⟨R, hR, hn, hm, hF, hmu⟩ := hX.ex
      have HR : Hid (RepR _ w.heap.size R ∧ R.n = k ∧ R.m = 0 ∧ (∀ i, i < k → R.F i = strF (fun _ => 0) 1024) ∧ (∀ x, R.mut w.heap.size x → w.heap.size ≤ x)) := ⟨hR, hn, hm, hF, hmu⟩
      clear hX hR hn hm hF hmu
      go_wp2
      go_ret2
      exact ⟨w.heap.size, R, rfl, HR.out.1, HR.out.2.1, HR.out.2.2.1, HR.out.2.2.2.1, HR.out.2.2.2.2, HX.out.below⟩
end Go.Proofs.YteegkhnikcioiaaGreatDoor
