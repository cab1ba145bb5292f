/-
  Layer 7: the writer, how it lies; what its small functions write.
-/
import Derived.Test.YtepgifapepaheaaRobj
namespace Go.Proofs.Ytepgifapepaheaa
set_option linter.unusedVariables false
set_option linter.unusedSimpArgs false
open Go.ChangeShapes Go.WideShapes Go.ChangeAt Go.RowKit

theorem Ow.set {X : World} {B p j : Nat} {v u : Value} {l : List Int} (h : Ow X B v l) (hp : p < B) : Ow (X.setCell ⟨p, j, none⟩ u) B v l := own_set h fun x hx => by have := own_lo h x hx; omega
theorem tq_of_below {w X : World} {B p : Nat} (h : Below B w X) : Tq w X (fun k => k = p ∨ B ≤ k) := ⟨h.os, h.tape, h.output, h.size, fun k hk hn => h.block k (by omega)⟩
attribute [local go_sem ↓] appN_seal
/-- A byte put behind a row of bytes. -/
theorem app_u8 {X : World} {B : Nat} {v : Value} {l : List Int} (x : Int) (h : Ow X B v l) (hB : B ≤ X.heap.size) (hn : l.length ≤ 1000000000) :
    ∃ (s : Sl) (Y : World), (appN #[22, 22] 22 #[v, .slice (some ⟨X.heap.size, 0, none⟩) 1 1]).run Try.prog (X.alloc (.cells #[.int .u8 x] 5)) = .ok (.slice s.a s.n s.c) Y ∧ Ow Y B (.slice s.a s.n s.c) (l ++ [x]) ∧ (X.alloc (.cells #[.int .u8 x] 5)).grownBy Y v.ownBlock := by
  obtain ⟨i0, hi0, hz0, hz1, hz2⟩ := info_parts info5
  have hbl : (X.alloc (.cells #[.int .u8 x] 5)).ownsRow B 5 1 v l.length (u8s l) := World.ownsRow.alloc h _
  obtain ⟨v', Y, h1, h2, h3, _⟩ := run_append_own (P := Try.prog) (w := X.alloc (.cells #[.int .u8 x] 5)) B 22 22 5 i0 _ 1 1 Try.underlying22 hi0 hz0 hz1 hz2 rfl (by decide) v l.length (u8s l) hbl ⟨X.heap.size, 0, none⟩ 1 1 [.int .u8 x] rfl (cell_one _ _ _) (by intro u hu; simp at hu; subst hu; rfl) (by unfold maxLen; omega) (by omega) (by simp; omega)
  obtain ⟨va, vn, vc, rfl⟩ := own_slice h2
  exact ⟨⟨va, vn, vc⟩, Y, h1, by unfold Ow; rw [List.length_append, u8s_app]; exact h2, h3⟩
end Go.Proofs.Ytepgifapepaheaa
