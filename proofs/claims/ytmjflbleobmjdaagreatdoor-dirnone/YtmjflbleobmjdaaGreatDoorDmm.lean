/-
  Layer 17: rows of files, how they lie; a directory while it is read.
-/
import Derived.Test.YtmjflbleobmjdaaGreatDoorEnt
namespace Go.Proofs.YtmjflbleobmjdaaGreatDoor
set_option linter.unusedVariables false
set_option linter.unusedSimpArgs false
open Go.ChangeShapes Go.WideShapes Go.ChangeAt Go.RowKit
attribute [local go_sem ↓] loadSec_seal storeSec_seal eqlSec_seal zeroSec
attribute [local go_sem] loadSec_run storeSec_run rowAt_at rowAt_old rowAt_drew rowAt_drewN roomSec_new roomAt_old roomAt_drew roomAt_drewN putSec_new putRow_past rowSec_put size_put putRow_drew putRow_drewN alloc_drewN setCell_drewN sec_size

set_option linter.unusedVariables false

/-- A file, and the slice of its sectors. -/
structure Fm where
  f : Fi
  sv : Value
def Fm.cs (m : Fm) : List Value := [.string m.f.nm, .int .i64 m.f.hd, .int .i64 m.f.ln, m.sv]
def filesC : List Fm → List Value
  | [] => []
  | m :: r => m.cs ++ filesC r
theorem filesC_app : ∀ (a b : List Fm), filesC (a ++ b) = filesC a ++ filesC b
  | [], b => rfl
  | m :: r, b => by rw [List.cons_append, filesC, filesC, filesC_app r b, List.append_assoc]
theorem filesC_len : ∀ (a : List Fm), (filesC a).length = a.length * 4
  | [] => rfl
  | m :: r => by rw [filesC, List.length_append, filesC_len r]; simp [Fm.cs]; omega
theorem filesC_at : ∀ (a : List Fm) (i k : Nat) (h : i < a.length), k < 4 → (filesC a)[i * 4 + k]? = (a[i].cs)[k]?
  | [], _, _, h, _ => by cases h
  | m :: r, 0, k, h, hk => by
    rw [filesC, List.getElem?_append_left (by simp [Fm.cs]; omega)]
    simp
  | m :: r, i + 1, k, h, hk => by
    rw [filesC, List.getElem?_append_right (by simp [Fm.cs]; omega)]
    have e : (i + 1) * 4 + k - m.cs.length = i * 4 + k := by simp [Fm.cs]; omega
    rw [e, filesC_at r i k (by simpa using h) hk]; simp
theorem filesC_one : ∀ (a : List Fm), (∀ m ∈ a, m.sv.oneCell' = true) → ∀ u ∈ filesC a, u.oneCell' = true
  | [], _, u, h => by cases h
  | m :: r, hs, u, h => by
    rw [filesC] at h
    rcases List.mem_append.1 h with h | h
    · simp only [Fm.cs, List.mem_cons, List.not_mem_nil, or_false] at h
      rcases h with rfl | rfl | rfl | rfl
      · rfl
      · rfl
      · rfl
      · exact hs m (by simp)
    · exact filesC_one r (fun x hx => hs x (by simp [hx])) u h
/-- A row of files of the call's own. -/
def OwF (w : World) (B : Nat) (v : Value) (L : List Fm) : Prop := w.ownsRow B 54 4 v L.length (filesC L)
theorem OwF.nil (w : World) (B : Nat) : OwF w B (.slice none 0 0) [] := World.ownsRow_nil _ _ _ _
theorem OwF.same {w w' : World} {B : Nat} {v : Value} {L : List Fm} (h : OwF w B v L) (hb : ∀ x, v.ownBlock = some x → w'.heap[x]? = w.heap[x]?) : OwF w' B v L := own_same h hb
theorem OwF.lt {w : World} {B : Nat} {v : Value} {L : List Fm} (h : OwF w B v L) : ∀ x, v.ownBlock = some x → B ≤ x ∧ x < w.heap.size := fun x hx => World.ownsRow.lt h x hx
theorem OwF.base {w : World} {B B' : Nat} {v : Value} {L : List Fm} (h : OwF w B v L) (hB : B' ≤ B) : OwF w B' v L := by
  refine ⟨h.1, h.2.imp id fun ⟨g, cap, cur, a1, a2, a3⟩ => ⟨g, cap, cur, a1, by omega, a3⟩⟩
theorem OwF.cases {w : World} {B : Nat} {v : Value} {L : List Fm} (h : OwF w B v L) : (v = .slice none 0 0 ∧ L = []) ∨ ∃ g c cur, v = .slice (some ⟨g, 0, none⟩) L.length c ∧ B ≤ g ∧ w.heap[g]? = some (.cells cur 54 (0, 0)) ∧ L.length ≤ c ∧ c ≤ maxLen ∧ cur.size = c * 4 ∧ cur.toList.take (L.length * 4) = filesC L := by
  rcases h.2 with ⟨e, h0⟩ | ⟨g, c, cur, e, hb, hg, h1, h2, h3, h4⟩
  · exact .inl ⟨e, List.length_eq_zero_iff.1 h0⟩
  · exact .inr ⟨g, c, cur, e, hb, hg, h1, h2, h3, h4⟩
/-- A row of files that is read. -/
structure RowF (A : Nat → Prop) (w : World) (v : Value) (L : List Fm) : Prop where
  len : L.length ≤ 1000
  ex : ∃ a c, v = .slice a L.length c ∧ L.length ≤ c ∧ c ≤ 9223372036854775807 ∧ (L ≠ [] → ∃ b off, a = some ⟨b, off, none⟩ ∧ A b ∧ b < w.heap.size ∧ ∀ j, j < L.length * 4 → w.cell? ⟨b, off + j, none⟩ = (filesC L)[j]?)
  secs : ∀ m ∈ L, RowI A w m.sv m.f.sec
theorem RowF.keep {A : Nat → Prop} {w w' : World} {v : Value} {L : List Fm} (h : RowF A w v L) (hs : w.heap.size ≤ w'.heap.size) (hk : ∀ b, A b → b < w.heap.size → w'.heap[b]? = w.heap[b]?) : RowF A w' v L := by
  obtain ⟨hl, ⟨a, c, e, h1, h2, h3⟩, hq⟩ := h
  refine ⟨hl, ⟨a, c, e, h1, h2, fun hn => ?_⟩, fun m hm => (hq m hm).keep hs hk⟩
  obtain ⟨b, off, ea, hA, hb, hc⟩ := h3 hn
  exact ⟨b, off, ea, hA, by omega, fun j hj => (World.cell?_of_block (hk b hA hb)).trans (hc j hj)⟩
theorem RowF.below {A : Nat → Prop} {w w' : World} {v : Value} {L : List Fm} (h : RowF A w v L) (hb : Below w.heap.size w w') : RowF A w' v L := h.keep hb.size fun b _ hlt => hb.block b hlt
theorem RowF.mono {A A' : Nat → Prop} {w : World} {v : Value} {L : List Fm} (h : RowF A w v L) (hA : ∀ b, A b → A' b) : RowF A' w v L := by
  obtain ⟨hl, ⟨a, c, e, h1, h2, h3⟩, hq⟩ := h
  refine ⟨hl, ⟨a, c, e, h1, h2, fun hn => ?_⟩, fun m hm => (hq m hm).mono hA⟩
  obtain ⟨b, off, ea, hA1, hr⟩ := h3 hn
  exact ⟨b, off, ea, hA b hA1, hr⟩
theorem OwF.row {A : Nat → Prop} {w : World} {B : Nat} {v : Value} {L : List Fm} (h : OwF w B v L) (hl : L.length ≤ 1000) (hA : ∀ x, v.ownBlock = some x → A x) (hq : ∀ m ∈ L, RowI A w m.sv m.f.sec) : RowF A w v L := by
  refine ⟨hl, ?_, hq⟩
  rcases h.cases with ⟨rfl, rfl⟩ | ⟨g, c, cur, rfl, hb, hg, h1, h2, h3, h4⟩
  · exact ⟨none, 0, rfl, by simp, by omega, fun h => absurd rfl h⟩
  · refine ⟨_, c, rfl, h1, by unfold maxLen at h2; omega, fun _ => ⟨g, 0, rfl, hA g rfl, blk_lt hg, fun j hj => ?_⟩⟩
    rw [cell_of_row w g _ cur _ (0, 0) hg, Nat.zero_add, ← h4, List.getElem?_take, if_pos hj]; simp
/-- Which blocks the rows of a directory that is being read lie in. -/
def AX (B0 x : Nat) (fv : Value) (b : Nat) : Prop := B0 ≤ b ∧ b ≠ x ∧ fv.ownBlock ≠ some b
/-- A directory while it is read. -/
structure RdX (B0 n1 x d : Nat) (D : Dk) (lv : Value) (ls : List Int) (L : List Fm) (u : Nat → Nat) (fv rv : Value) (X : World) : Prop where
  blk : rowAt X x = some #[.pointer (some ⟨d, 0, none⟩), fv, lv, rv, .slice none 0 0]
  room : roomAt X x 5 = true
  b0 : B0 ≤ x
  xn : x < n1
  big : n1 ≤ X.heap.size
  fs : OwF X n1 fv L
  nilf : L = [] → fv.ownBlock = none
  secs : ∀ m ∈ L, RowI (AX B0 x fv) X m.sv m.f.sec
  free : RowI (AX B0 x fv) X rv (lst D.n fun i => u i == 0)
  leaves : RowI (AX B0 x fv) X lv ls
theorem AX.drop {B0 x : Nat} {fv : Value} {b : Nat} (h : AX B0 x fv b) : AX B0 x fv b := h
theorem RdX.below {B0 n1 x d : Nat} {D : Dk} {lv fv rv : Value} {ls : List Int} {L : List Fm} {u : Nat → Nat} {X Y : World} (h : RdX B0 n1 x d D lv ls L u fv rv X) (hb : Below X.heap.size X Y) : RdX B0 n1 x d D lv ls L u fv rv Y := by
  have hx : x < X.heap.size := Nat.lt_of_lt_of_le h.xn h.big
  exact {
    blk := (rowAt_below hb x hx).trans h.blk
    room := (roomAt_below hb x 5 hx).trans h.room
    b0 := h.b0
    xn := h.xn
    big := Nat.le_trans h.big hb.size
    fs := h.fs.same fun y hy => hb.block y (h.fs.lt y hy).2
    nilf := h.nilf
    secs := fun m hm => (h.secs m hm).below hb
    free := h.free.below hb
    leaves := h.leaves.below hb }
/-- A block of five cells, one of which is set. -/
theorem five_set {w : World} {x : Nat} {a b c d e : Value} (hb : rowAt w x = some #[a, b, c, d, e]) (hr : roomAt w x 5 = true) (v : Value) :
    (rowAt (w.setCell ⟨x, 1, none⟩ v) x = some #[a, v, c, d, e] ∧ roomAt (w.setCell ⟨x, 1, none⟩ v) x 5 = true) ∧ (rowAt (w.setCell ⟨x, 2, none⟩ v) x = some #[a, b, v, d, e] ∧ roomAt (w.setCell ⟨x, 2, none⟩ v) x 5 = true) ∧
      (rowAt (w.setCell ⟨x, 3, none⟩ v) x = some #[a, b, c, v, e] ∧ roomAt (w.setCell ⟨x, 3, none⟩ v) x 5 = true) ∧ (rowAt (w.setCell ⟨x, 4, none⟩ v) x = some #[a, b, c, d, v] ∧ roomAt (w.setCell ⟨x, 4, none⟩ v) x 5 = true) := by
  unfold roomAt at hr
  unfold rowAt at hb
  split at hr
  case h_2 => cases hr
  rename_i Y t fr hY
  rw [hY] at hb
  have hb : Y = #[a, b, c, d, e] := Option.some.inj hb
  have hfr : fr = (0, 0) := by simp at hr; exact hr.2
  subst hb hfr
  have b1 := Go.Joins.block_setCell (i := 1) hY v
  have b2 := Go.Joins.block_setCell (i := 2) hY v
  have b3 := Go.Joins.block_setCell (i := 3) hY v
  have b4 := Go.Joins.block_setCell (i := 4) hY v
  refine ⟨⟨?_, ?_⟩, ⟨?_, ?_⟩, ⟨?_, ?_⟩, ?_, ?_⟩
  all_goals first
    | (unfold rowAt; first | (rw [b1]; rfl) | (rw [b2]; rfl) | (rw [b3]; rfl) | (rw [b4]; rfl))
    | (unfold roomAt; first | (rw [b1]; rfl) | (rw [b2]; rfl) | (rw [b3]; rfl) | (rw [b4]; rfl))
theorem RdX.cell {B0 n1 x d : Nat} {D : Dk} {lv fv rv : Value} {ls : List Int} {L : List Fm} {u : Nat → Nat} {X : World} (h : RdX B0 n1 x d D lv ls L u fv rv X) : X.cell? ⟨x, 0, none⟩ = some (.pointer (some ⟨d, 0, none⟩)) ∧ X.cell? ⟨x, 1, none⟩ = some fv ∧ X.cell? ⟨x, 2, none⟩ = some lv ∧ X.cell? ⟨x, 3, none⟩ = some rv ∧ X.cell? ⟨x, 4, none⟩ = some (.slice none 0 0) :=
  ⟨rowAt_cell h.blk 0, rowAt_cell h.blk 1, rowAt_cell h.blk 2, rowAt_cell h.blk 3, rowAt_cell h.blk 4⟩
theorem room_fz {w : World} {x n : Nat} (h : roomAt w x n = true) {j : Nat} (hj : j < n) : w.frozen? ⟨x, j, none⟩ = false := by
  have := (room_there h j hj).2
  rwa [Nat.zero_add] at this
/-- The free ones are laid anew. -/
theorem RdX.setFree {B0 n1 x d : Nat} {D : Dk} {lv fv rv rv' : Value} {ls : List Int} {L : List Fm} {u u' : Nat → Nat} {X : World} (h : RdX B0 n1 x d D lv ls L u fv rv X) (hr : RowI (AX B0 x fv) X rv' (lst D.n fun i => u' i == 0)) : RdX B0 n1 x d D lv ls L u' fv rv' (X.setCell ⟨x, 3, none⟩ rv') := by
  have hk : ∀ b, AX B0 x fv b → b < X.heap.size → (X.setCell ⟨x, 3, none⟩ rv').heap[b]? = X.heap[b]? := fun b hb _ => Below.heap_setCell _ _ _ _ hb.2.1
  have hs : X.heap.size ≤ (X.setCell ⟨x, 3, none⟩ rv').heap.size := by simp
  obtain ⟨_, _, ⟨f1, f2⟩, _⟩ := five_set h.blk h.room rv'
  exact {
    blk := f1
    room := f2
    b0 := h.b0
    xn := h.xn
    big := Nat.le_trans h.big hs
    fs := h.fs.same fun y hy => Below.heap_setCell _ _ _ _ (by have := (h.fs.lt y hy).1; have := h.xn; show y ≠ x; omega)
    nilf := h.nilf
    secs := fun m hm => (h.secs m hm).keep hs hk
    free := hr.keep hs hk
    leaves := h.leaves.keep hs hk }
end Go.Proofs.YtmjflbleobmjdaaGreatDoor
