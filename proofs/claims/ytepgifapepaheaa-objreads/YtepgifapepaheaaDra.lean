/-
  Layer 7, the document's side: what stands ahead of descriptors is read.
-/
import Derived.Test.YtepgifapepaheaaDrl
import Derived.Test.YtepgifapepaheaaRst
import Derived.Deep.CutBlock
import Derived.Deep.CutRange
namespace Go.Proofs.Ytepgifapepaheaa
set_option linter.unusedVariables false
set_option linter.unusedSimpArgs false
open Go.ChangeShapes Go.WideShapes Go.ChangeAt Go.RowKit

/-- Between two rows. -/
structure SS (w X : World) (b len cap : Nat) (a : Option Addr) (f : Nat → Int) (c : Oc) (o : Ob) (s : St) : Prop where
  rd : DRd X b a len cap f s
  bx : OAt X (w.heap.size + 1) c
  rz : OAt X w.heap.size Oc.zero
  oo : ObAt X (w.heap.size + 2) c o
  tq : Tq w X (fun y => y = b)
section
variable {w X X0 w1 : World} {b len cap : Nat} {a : Option Addr} {f : Nat → Int} {c c' : Oc} {o o' : Ob} {s s1 : St}
theorem SS.pl (h : SS w X b len cap a f c o s) (hb : b < w.heap.size) (ha : ∀ x, a = some x → x.block < w.heap.size) : Pl X b (w.heap.size + 1) w.heap.size a :=
  ⟨by omega, by omega, by omega, h.rd.bl, h.bx.lt, h.rz.lt, fun x hx => by have := ha x hx; have := h.tq.size; exact ⟨by omega, by omega, by omega⟩⟩
theorem SS.li (h : SS w X b len cap a f c o s) : LI X X b len cap a f (w.heap.size + 1) w.heap.size c s := ⟨h.rd, h.bx, h.rz, ⟨rfl, rfl, rfl, Nat.le_refl _, fun _ _ _ => rfl⟩⟩
theorem SS.join (h : SS w X0 b len cap a f c o s) (hb : b < w.heap.size) (l : LI X0 X b len cap a f (w.heap.size + 1) w.heap.size c' s1) (hob : ObAt X (w.heap.size + 2) c o → ObAt X (w.heap.size + 2) c' o') : SS w X b len cap a f c' o' s1 := by
  refine ⟨l.rd, l.bx, l.rz, hob (h.oo.tq l.tq fun k hk e => by rcases e with e | e <;> omega), ?_⟩
  refine ((h.tq.mono (Q := fun y => y = b ∨ y = w.heap.size + 1) fun k _ e => .inl e).trans l.tq).mono fun k hk e => ?_
  rcases e with e | e
  · exact e
  · omega
theorem SS.read (h : SS w X b len cap a f c o s) (hb : b < w.heap.size) (ha : ∀ x, a = some x → x.block < w.heap.size) (hr : DRd w1 b a len cap f s1) (hg : X.grownBy w1 (some b)) : SS w w1 b len cap a f c o s1 := h.join hb (h.li.read (h.pl hb ha) hr hg) id
theorem SS.put {j : Nat} {v u : Value} (h : SS w X b len cap a f c o s) (hb : b < w.heap.size) (ha : ∀ x, a = some x → x.block < w.heap.size) (hj : c.cells[j]? = some u) (hl : OAt (X.setCell ⟨w.heap.size + 1, j, none⟩ v) (w.heap.size + 1) c') (hob : ObAt X (w.heap.size + 2) c' o') : X.cell? ⟨w.heap.size + 1, j, none⟩ = some u ∧ X.frozen? ⟨w.heap.size + 1, j, none⟩ = false ∧ Hid (SS w (X.setCell ⟨w.heap.size + 1, j, none⟩ v) b len cap a f c' o' s) := by
  have t : Tq X (X.setCell ⟨w.heap.size + 1, j, none⟩ v) (fun k => k = w.heap.size + 1) := Tq.set rfl
  exact ⟨(blk_cell h.bx j).trans hj, blk_fz h.bx j, h.rd.tq t (by omega) (fun ad he => by have := ha ad he; omega), hl, h.rz.tq t (by omega), hob.tq t (fun k hk => by omega), ((h.tq.mono (Q := fun k => k = b ∨ k = w.heap.size + 1) fun k _ e => .inl e).trans (t.mono fun k _ e => .inr e)).mono fun k hk e => e.elim id (fun e => by omega)⟩
end
theorem Tq.drd {X Y : World} {P : Nat → Prop} {b len cap : Nat} {a : Option Addr} {f : Nat → Int} {s : St} (h : Tq X Y P) (hr : DRd X b a len cap f s) (hb : ¬ P b) (ha : ∀ ad, a = some ad → ¬ P ad.block) : DRd Y b a len cap f s := hr.tq h hb ha
def W2 (w : World) : World := (w.alloc zeroO).alloc zeroO
theorem W2_ss (w : World) (b len cap : Nat) (a : Option Addr) (f : Nat → Int) (s : St) (h : DRd w b a len cap f s) : SS w (W2 w) b len cap a f Oc.zero ⟨⟨#[]⟩, 0, [], [], [], [], [], 0, [], [], [], [], []⟩ s := by
  have hb : Below w.heap.size w (W2 w) := by unfold W2; go_grown
  refine ⟨h.below hb, ?_, ?_, ObAt.none _ _, Tq.below hb⟩
  · have := blk_new (w.alloc zeroO) zeroO
    rw [show (w.alloc zeroO).heap.size = w.heap.size + 1 by simp] at this
    exact this
  · exact (Below.heap_alloc _ _ _ (by simp)).trans (blk_new _ _)
def firstS (f : Nat → Int) (len : Nat) (s : St) : Ob × St :=
  let x0 := textS f len 20 s
  let x1 := wordS f len x0.2
  let x2 := rowS f len 16 (impS f len) x1.2
  let x3 := rowS f len 65536 (wordS f len) x2.2
  let x4 := rowS f len 100 (prcS f len) x3.2
  let x5 := numS f len 4294967295 x4.2
  let x6 := rowS f len 200 (numS f len 4294967295) x5.2
  let x7 := rowS f len 200 (numS f len 4294967295) x6.2
  let x8 := rowS f len 200 (textS f len 200) x7.2
  (⟨x0.1, x1.1, x2.1, x3.1, x4.1.map (·.1), x4.1.map (·.2.1), x4.1.map (·.2.2), x5.1, x6.1, x7.1, x8.1, [], []⟩, x8.2)
theorem info_imp3 : (Try.prog.info? 59).map (fun i => (i.zero, i.size, i.bytes)) = some (some (.agg #[.string ⟨#[]⟩, .int .u32 0]), 2, 24) := by kernel_rfl
theorem flat_app {α : Type} (enc : α → Array Value) : ∀ (l : List α) (x : α), flat enc (l ++ [x]) = flat enc l ++ (enc x).toList
  | [], x => by simp [flat]
  | y :: r, x => by
    have h1 : flat enc (y :: r ++ [x]) = (enc y).toList ++ flat enc (r ++ [x]) := rfl
    have h2 : flat enc (y :: r) = (enc y).toList ++ flat enc r := rfl
    rw [h1, h2, flat_app enc r x, List.append_assoc]
theorem bad_live (p : Nat) : badI ⟨p, false⟩ = -1 := rfl
theorem bad_stuck (p : Nat) : badI ⟨p, true⟩ = (p : Int) := rfl
theorem rnum_nat (w : World) (b len cap : Nat) (a : Option Addr) (f : Nat → Int) (s : St) (h : DRd w b a len cap f s) (most : Int) (m0 : 0 ≤ most) (m1 : most ≤ 4294967295) : Calls Try.prog 17 #[.pointer (some ⟨b, 0, none⟩), .int .i64 most] w fun e w' => ∃ nn : Nat, e = .returned (.int .i64 (nn : Int)) ∧ Hid (DRd w' b a len cap f (numS f len most s).2 ∧ w.grownBy w' (some b) ∧ nn = (numS f len most s).1.toNat ∧ (nn : Int) ≤ most) := (rnumber_of w b len cap a f s h most m0 m1).mono fun e w' hh => by
  obtain ⟨h1, h2, h3⟩ := hh
  have hb := numS_bd f len most s m0
  refine ⟨(numS f len most s).1.toNat, by rw [h1, Int.toNat_of_nonneg hb.1], h2, h3, rfl, by rw [Int.toNat_of_nonneg hb.1]; exact hb.2⟩
end Go.Proofs.Ytepgifapepaheaa
