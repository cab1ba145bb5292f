/-
  The walk of the law on what was written last.
-/
import Derived.Test.YthkpohlgekfnjaaBoth
namespace Go.Proofs.Ythkpohlgekfnjaa
open Go.ChangeShapes Go.WideShapes Go.ChangeAt Go.RowKit
attribute [local go_sem ↓] loadSec_seal storeSec_seal eqlSec_seal zeroSec
attribute [local go_sem] loadSec_run storeSec_run rowAt_at rowAt_old rowAt_drew rowAt_drewN roomSec_new roomAt_old roomAt_drew roomAt_drewN putSec_new putRow_past rowSec_put size_put putRow_drew putRow_drewN alloc_drewN setCell_drewN sec_size
namespace diskLast
def stc (s : St) : Array Value := #[.int .i64 s.Kind, .int .i64 s.N, .int .u8 s.Fill, .int .u8 s.Mark, .int .i64 (-1)]
def fOf (s : St) : Nat → Int := fillF s.Fill s.Mark
theorem fOf_byte {s : St} (h : s.Ok) : ∀ i, i < 1024 → 0 ≤ fOf s i ∧ fOf s i ≤ 255 := fun i _ => fillF_byte h i
/-- The two steps, in their variables. -/
structure Two (B : Nat) (p q : Nat) (s t : St) (X : World) : Prop where
  a : rowAt X p = some (stc s)
  b : rowAt X q = some (stc t)
  p : p < B
  q : q < B
theorem Two.below {B p q : Nat} {s t : St} {X Y : World} (h : Two B p q s t X) (hb : Below B X Y) : Two B p q s t Y :=
  ⟨(rowAt_same (hb.block p h.p)).trans h.a, (rowAt_same (hb.block q h.q)).trans h.b, h.p, h.q⟩
theorem Two.cells {B p q : Nat} {s t : St} {X : World} (h : Two B p q s t X) :
    (X.cell? ⟨p, 0, none⟩ = some (.int .i64 s.Kind) ∧ X.cell? ⟨p, 1, none⟩ = some (.int .i64 s.N) ∧ X.cell? ⟨p, 2, none⟩ = some (.int .u8 s.Fill) ∧ X.cell? ⟨p, 3, none⟩ = some (.int .u8 s.Mark) ∧ X.cell? ⟨p, 4, none⟩ = some (.int .i64 (-1))) ∧
    (X.cell? ⟨q, 0, none⟩ = some (.int .i64 t.Kind) ∧ X.cell? ⟨q, 1, none⟩ = some (.int .i64 t.N) ∧ X.cell? ⟨q, 2, none⟩ = some (.int .u8 t.Fill) ∧ X.cell? ⟨q, 3, none⟩ = some (.int .u8 t.Mark) ∧ X.cell? ⟨q, 4, none⟩ = some (.int .i64 (-1))) := by
  have e : ∀ j, X.cell? ⟨p, j, none⟩ = (stc s)[j]? := rowAt_cell h.a
  have f : ∀ j, X.cell? ⟨q, j, none⟩ = (stc t)[j]? := rowAt_cell h.b
  exact ⟨⟨e 0, e 1, e 2, e 3, e 4⟩, f 0, f 1, f 2, f 3, f 4⟩
theorem filled_last (s : St) (w : World) : Calls Try.prog 22 #[.agg #[.int .i64 s.Kind, .int .i64 s.N, .int .u8 s.Fill, .int .u8 s.Mark, .int .i64 (-1)]] w fun e w' => ∃ g, e = .returned (.slice (some ⟨g, 0, none⟩) 1024 1024) ∧ BRow w' g 1024 (fOf s) ∧ w.heap.size ≤ g ∧ Below w.heap.size w w' :=
  filled_n s.Kind s.N s.Fill s.Mark (-1) 1024 w (by omega) (.inr ⟨by omega, rfl⟩)
/-- What stands behind the making of the disk. -/
structure Sta (w : World) (B p q b : Nat) (s t : St) (D : Dk) (X : World) : Prop where
  rep : Rep X b D
  n : D.n = 16
  two : Two B p q s t X
  fresh : D.fresh b B
  below : Below w.heap.size w X
  B1 : w.heap.size ≤ B
  B2 : B ≤ X.heap.size
theorem Sta.next {w X Y : World} {B p q b : Nat} {s t : St} {D : Dk} (h : Sta w B p q b s t D X) (hb : Below X.heap.size X Y) : Sta w B p q b s t D Y :=
  ⟨h.rep.below hb, h.n, h.two.below (hb.mono h.B2), h.fresh, h.below.trans (hb.mono h.below.size), h.B1, Nat.le_trans h.B2 hb.size⟩
theorem Sta.wrote {w X Y : World} {B p q b : Nat} {s t : St} {D E : Dk} (h : Sta w B p q b s t D X) (hR : Rep Y b E) (hn : E.n = D.n) (ht : Tou (D.mut b) X Y) (hm : ∀ x, E.mut b x → D.mut b x ∨ X.heap.size ≤ x) (hf : ∀ x, E.fix x → D.fix x ∨ X.heap.size ≤ x) : Sta w B p q b s t E Y := by
  have hb : Below B X Y := ht.below h.B2 fun x hx => h.fresh x (.inl hx)
  refine ⟨hR, hn.trans h.n, h.two.below hb, fun x hx => ?_, h.below.trans (hb.mono h.B1), h.B1, Nat.le_trans h.B2 hb.size⟩
  have hB := h.B2
  rcases hx with hx | hx
  · rcases hm x hx with h1 | h1
    · exact h.fresh x (.inl h1)
    · omega
  · rcases hf x hx with h1 | h1
    · exact h.fresh x (.inr h1)
    · omega
theorem Sta.begin {w w1 w2 : World} {b : Nat} {s t : St} {D : Dk} {x y : Int} {tp : TypeId} (hs : Below ((w.alloc (.cells #[.int .i64 s.Kind, .int .i64 s.N, .int .u8 s.Fill, .int .u8 s.Mark, .int .i64 x] tp)).alloc (.cells #[.int .i64 t.Kind, .int .i64 t.N, .int .u8 t.Fill, .int .u8 t.Mark, .int .i64 y] tp)).heap.size ((w.alloc (.cells #[.int .i64 s.Kind, .int .i64 s.N, .int .u8 s.Fill, .int .u8 s.Mark, .int .i64 x] tp)).alloc (.cells #[.int .i64 t.Kind, .int .i64 t.N, .int .u8 t.Fill, .int .u8 t.Mark, .int .i64 y] tp)) w1)
    (hR : Rep w2 b D) (hn : D.n = 16) (hf : D.fresh b w1.heap.size) (hb : Below w1.heap.size w1 w2) : Sta w w1.heap.size w.heap.size (w.heap.size + 1) b s t D ((w2.setCell ⟨w.heap.size, 4, none⟩ (.int .i64 (-1))).setCell ⟨w.heap.size + 1, 4, none⟩ (.int .i64 (-1))) := by
  have e1 : ((w.alloc (.cells #[.int .i64 s.Kind, .int .i64 s.N, .int .u8 s.Fill, .int .u8 s.Mark, .int .i64 x] tp)).alloc (.cells #[.int .i64 t.Kind, .int .i64 t.N, .int .u8 t.Fill, .int .u8 t.Mark, .int .i64 y] tp)).heap.size = w.heap.size + 2 := by simp
  have z1 := hs.size
  have z2 := hb.size
  have hall := hs.trans (hb.mono z1)
  have b0 : w2.heap[w.heap.size]? = some (.cells #[.int .i64 s.Kind, .int .i64 s.N, .int .u8 s.Fill, .int .u8 s.Mark, .int .i64 x] tp) := by
    rw [hall.block _ (by omega), Below.heap_alloc _ _ _ (by simp)]; exact heap_alloc_last w _
  have b1 : w2.heap[w.heap.size + 1]? = some (.cells #[.int .i64 t.Kind, .int .i64 t.N, .int .u8 t.Fill, .int .u8 t.Mark, .int .i64 y] tp) := by
    rw [hall.block _ (by omega)]
    have := heap_alloc_last (w.alloc (.cells #[.int .i64 s.Kind, .int .i64 s.N, .int .u8 s.Fill, .int .u8 s.Mark, .int .i64 x] tp)) (.cells #[.int .i64 t.Kind, .int .i64 t.N, .int .u8 t.Fill, .int .u8 t.Mark, .int .i64 y] tp)
    simpa using this
  have c0 := Go.Joins.block_setCell (i := 4) b0 (.int .i64 (-1))
  have b1' : (w2.setCell ⟨w.heap.size, 4, none⟩ (.int .i64 (-1))).heap[w.heap.size + 1]? = _ := (Below.heap_setCell _ _ _ _ (by simp)).trans b1
  have c1 := Go.Joins.block_setCell (i := 4) b1' (.int .i64 (-1))
  have c0' := (Below.heap_setCell (w2.setCell ⟨w.heap.size, 4, none⟩ (.int .i64 (-1))) ⟨w.heap.size + 1, 4, none⟩ (.int .i64 (-1)) w.heap.size (by simp)).trans c0
  refine ⟨hR.keep (by simp) fun z hz => ?_, hn, ⟨?_, ?_, by omega, by omega⟩, hf, ?_, by omega, by simp; omega⟩
  · have := hf z hz
    rw [Below.heap_setCell _ _ _ _ (by show z ≠ w.heap.size + 1; omega), Below.heap_setCell _ _ _ _ (by show z ≠ w.heap.size; omega)]
  · unfold rowAt; rw [c0']; rfl
  · unfold rowAt; rw [c1]; rfl
  · have h2 : Below w.heap.size w w2 := Below.trans (by go_grown) (hall.mono (by omega))
    exact (h2.setCell (Nat.le_refl _) _).setCell (by simp) _
theorem begin_cells {w w1 w2 : World} {s t : St} {x y : Int} {tp : TypeId} (hs : Below ((w.alloc (.cells #[.int .i64 s.Kind, .int .i64 s.N, .int .u8 s.Fill, .int .u8 s.Mark, .int .i64 x] tp)).alloc (.cells #[.int .i64 t.Kind, .int .i64 t.N, .int .u8 t.Fill, .int .u8 t.Mark, .int .i64 y] tp)).heap.size ((w.alloc (.cells #[.int .i64 s.Kind, .int .i64 s.N, .int .u8 s.Fill, .int .u8 s.Mark, .int .i64 x] tp)).alloc (.cells #[.int .i64 t.Kind, .int .i64 t.N, .int .u8 t.Fill, .int .u8 t.Mark, .int .i64 y] tp)) w1)
    (hb : Below w1.heap.size w1 w2) : w2.cell? ⟨w.heap.size, 4, none⟩ = some (.int .i64 x) ∧ w2.frozen? ⟨w.heap.size, 4, none⟩ = false ∧ w2.cell? ⟨w.heap.size + 1, 4, none⟩ = some (.int .i64 y) ∧ w2.frozen? ⟨w.heap.size + 1, 4, none⟩ = false := by
  have e1 : ((w.alloc (.cells #[.int .i64 s.Kind, .int .i64 s.N, .int .u8 s.Fill, .int .u8 s.Mark, .int .i64 x] tp)).alloc (.cells #[.int .i64 t.Kind, .int .i64 t.N, .int .u8 t.Fill, .int .u8 t.Mark, .int .i64 y] tp)).heap.size = w.heap.size + 2 := by simp
  have z1 := hs.size
  have hall := hs.trans (hb.mono z1)
  have b0 : w2.heap[w.heap.size]? = some (.cells #[.int .i64 s.Kind, .int .i64 s.N, .int .u8 s.Fill, .int .u8 s.Mark, .int .i64 x] tp) := by
    rw [hall.block _ (by omega), Below.heap_alloc _ _ _ (by simp)]; exact heap_alloc_last w _
  have b1 : w2.heap[w.heap.size + 1]? = some (.cells #[.int .i64 t.Kind, .int .i64 t.N, .int .u8 t.Fill, .int .u8 t.Mark, .int .i64 y] tp) := by
    rw [hall.block _ (by omega)]
    have := heap_alloc_last (w.alloc (.cells #[.int .i64 s.Kind, .int .i64 s.N, .int .u8 s.Fill, .int .u8 s.Mark, .int .i64 x] tp)) (.cells #[.int .i64 t.Kind, .int .i64 t.N, .int .u8 t.Fill, .int .u8 t.Mark, .int .i64 y] tp)
    simpa using this
  exact ⟨cell_of_row w2 _ 4 _ _ (0, 0) b0, by simp [World.frozen?, b0], cell_of_row w2 _ 4 _ _ (0, 0) b1, by simp [World.frozen?, b1]⟩
theorem conv_row {W X : World} {g : Nat} {s : St} (h : BRow W g 1024 (fOf s)) (hs : s.Ok) (hX : X.heap[g]? = W.heap[g]?) : (convert 43 9 (.slice (some ⟨g, 0, none⟩) 1024 1024)).run Try.prog X = .ok (.string (strF (fOf s) 1024)) X := conv_str 1024 ((h.same hX).rd (by decide) (fOf_byte hs))
theorem conv_sec {W X : World} {g : Nat} {f : Nat → Int} (h : rowAt W g = some (sec f)) (hf : ByteF f) (hX : X.heap[g]? = W.heap[g]?) : (convert 43 9 (.slice (some ⟨g, 0, none⟩) 1024 1024)).run Try.prog X = .ok (.string (strF f 1024)) X := conv_str 1024 (sec_rd ((rowAt_same hX).trans h) hf)
theorem drew_heap' (w : World) : w.drew.heap = w.heap := rfl
theorem drewN_heap' (w : World) (n : Nat) : (w.drewN n).heap = w.heap := rfl
theorem below_via {B : Nat} {w W Y Z : World} (h : Below B w W) (hB : B ≤ W.heap.size) (hY : Y.heap = W.heap) (ho : Y.os = W.os) (ht : Y.tape = W.tape) (hu : Y.output = W.output) (hb : Below Y.heap.size Y Z) : Below B w Z :=
  ⟨hb.os.trans (ho.trans h.os), hb.tape.trans (ht.trans h.tape), hb.output.trans (hu.trans h.output), by have := hb.size; have := h.size; rw [hY] at *; omega, fun k hk => by
    rw [hb.block k (by rw [hY]; omega), hY]; exact h.block k hk⟩
theorem heap_eq {X W : World} (h : X.heap = W.heap) (g : Nat) : X.heap[g]? = W.heap[g]? := by rw [h]
theorem stepL {W X Y : World} {R : World → Prop} (full : ∀ X, Below W.heap.size W X → R X) (hb : Below X.heap.size X Y) (h : Below W.heap.size W X ∧ R X) : Below W.heap.size W Y ∧ R Y := by
  have h1 : Below W.heap.size W Y := h.1.trans (hb.mono h.1.size)
  exact ⟨h1, full Y h1⟩
theorem stepD {W Y : World} {R : World → Prop} (full : ∀ X, Below W.heap.size W X → R X) (hb : Below W.drew.heap.size W.drew Y) : Below W.heap.size W Y ∧ R Y := by
  have h1 : Below W.heap.size W Y := ((Below.refl _ W).drew).trans hb
  exact ⟨h1, full Y h1⟩
theorem startL {W : World} {R : World → Prop} (full : ∀ X, Below W.heap.size W X → R X) : Below W.heap.size W W.drew ∧ R W.drew := by
  have h1 : Below W.heap.size W W.drew := (Below.refl _ W).drew
  exact ⟨h1, full _ h1⟩
/-- What a read answered, as long as it stands. -/
def Got (n : Int) (N g : Nat) (f : Nat → Int) (X : World) : Prop := 0 ≤ n → n < N → rowAt X g = some (sec f) ∧ g < X.heap.size
theorem Got.next {n : Int} {N g : Nat} {f : Nat → Int} {X Y : World} (h : Got n N g f X) (hb : Below X.heap.size X Y) : Got n N g f Y := fun h0 h1 =>
  ⟨(rowAt_same (hb.block g (h h0 h1).2)).trans (h h0 h1).1, Nat.lt_of_lt_of_le (h h0 h1).2 hb.size⟩
theorem brow_next {X Y : World} {g n : Nat} {f : Nat → Int} (h : BRow X g n f) (hb : Below X.heap.size X Y) : BRow Y g n f := h.same (hb.block g h.lt)
theorem after_same {D E F : Dk} {n m : Int} {f g : Nat → Int} (h1 : D.after E n f) (h2 : E.after F m g) (hN : D.n = 16) (n0 : 0 ≤ n) (n1 : n < 16) : F.S n.toNat = if n = m then g else f := by
  have e1 := h1.2.2 n.toNat (by omega)
  have e2 := h2.2.2 n.toNat (by have := h1.1; omega)
  rw [e2, e1]
  have e3 : ((n.toNat : Nat) : Int) = n := by omega
  rw [e3, if_pos rfl]
theorem after_last {E F : Dk} {m : Int} {g : Nat → Int} (h2 : E.after F m g) (hN : E.n = 16) (n0 : 0 ≤ m) (n1 : m < 16) : F.S m.toNat = g := by
  have e2 := h2.2.2 m.toNat (by omega)
  have e3 : ((m.toNat : Nat) : Int) = m := by omega
  rw [e2, e3, if_pos rfl]
end diskLast
end Go.Proofs.Ythkpohlgekfnjaa
