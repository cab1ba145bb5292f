/-
  Layer 7: Encode.
-/
import Derived.Test.YtjpaepmnmlpjkaaRgt
import Derived.Test.YtjpaepmnmlpjkaaWox
namespace Go.Proofs.Ytjpaepmnmlpjkaa
set_option linter.unusedVariables false
set_option linter.unusedSimpArgs false
open Go.ChangeShapes Go.WideShapes Go.ChangeAt Go.RowKit
attribute [local go_sem] Oc.at0 Oc.at1 Oc.at2 Oc.at3 Oc.at4 Oc.at5 Oc.at6 Oc.at7 Oc.at8 Oc.at9 Oc.at10 Oc.at11 Oc.at12
attribute [local go_sem ↓] loadO_seal

set_option maxHeartbeats 4000000 in
set_option maxRecDepth 20000 in
theorem encode_no (w : World) (c : Oc) (o : Ob) (h : ObR w c o) (hn : rightB o = false) : Calls Try.prog 11 #[.agg c.cells] w fun e w' => e = .returned (.tuple #[.slice none 0 0, .int .i64 70]) ∧ Below w.heap.size w w' := by
  have D0 : Hid (DI w (w.alloc (.cells c.cells 31)) c o) := DI.mk' h (Below.refl _ _)
  have q0 : (loadO ⟨w.heap.size, 0, none⟩).run Try.prog (w.alloc (.cells c.cells 31)) = .ok (.agg c.cells) _ := loadO_run D0.out.bx
  have RG : Hid (∀ X, DI w X c o → Calls Try.prog 10 #[.agg c.cells] X fun e Y => e = .returned (.bool false) ∧ DI w Y c o) := fun X hX => (right_any X c o hX.rd).mono fun e Y hh => ⟨by rw [← hn]; exact hh.1, hX.below hh.2⟩
  clear h hn
  go_enter Try.func11, Try.ntmps11
  go_wp2_with (go_at_call 10; refine (RG.out _ D0.out).mono ?_; rintro e w1 ⟨rfl, d1⟩)
  go_ret2
  exact ⟨rfl, d1.be⟩
set_option maxHeartbeats 4000000 in
set_option maxRecDepth 20000 in
theorem encode_yes (w : World) (c : Oc) (o : Ob) (h : ObR w c o) (hn : rightB o = true) (hf : Fine o) (hl : (bodyL o).length ≤ 700000000) : Calls Try.prog 11 #[.agg c.cells] w fun e w' => ∃ a n k, e = .returned (.tuple #[.slice a n k, .int .i64 0]) ∧ (∃ B, w.heap.size ≤ B ∧ Ow w' B (.slice a n k) (objL o)) ∧ Below w.heap.size w w' := by
  have D0 : Hid (DI w (w.alloc (.cells c.cells 31)) c o) := DI.mk' h (Below.refl _ _)
  have q0 : (loadO ⟨w.heap.size, 0, none⟩).run Try.prog (w.alloc (.cells c.cells 31)) = .ok (.agg c.cells) _ := loadO_run D0.out.bx
  have RG : Hid (∀ X, DI w X c o → Calls Try.prog 10 #[.agg c.cells] X fun e Y => e = .returned (.bool true) ∧ DI w Y c o) := fun X hX => (right_any X c o hX.rd).mono fun e Y hh => ⟨by rw [← hn]; exact hh.1, hX.below hh.2⟩
  have OB : Hid (∀ X, DI w X c o → Calls Try.prog 24 #[.pointer (some ⟨X.heap.size, 0, none⟩), .agg c.cells] (X.alloc (.cells #[.slice none 0 0] 52)) fun e Y => e = .returned (.tuple #[]) ∧ ∃ a n k, Y.cell? ⟨X.heap.size, 0, none⟩ = some (.slice a n k) ∧ Hid ((∃ B, w.heap.size ≤ B ∧ Ow Y B (.slice a n k) (objL o)) ∧ Below w.heap.size w Y)) := fun X hX => by
    refine (object_w w (X.alloc (.cells #[.slice none 0 0] 52)) X.heap.size c o (blk_new _ _) hX.be.size ((hX.be.alloc hX.be.size _)) h hf hl).mono fun e Y hh => ?_
    obtain ⟨h1, h2, h3⟩ := hh
    obtain ⟨a, n, k, h4, h5⟩ := h2.lies
    exact ⟨h1, a, n, k, blk_cell h4 0, ⟨_, by have := hX.be.size; simp; omega, h5⟩, h3⟩
  clear h hn hf hl
  have LO : Hid (∀ X, DI w X c o → (loadO ⟨w.heap.size, 0, none⟩).run Try.prog (X.alloc (.cells #[.slice none 0 0] 52)) = .ok (.agg c.cells) (X.alloc (.cells #[.slice none 0 0] 52))) := fun X hX => loadO_run (hX.below (by go_grown)).bx
  go_enter Try.func11, Try.ntmps11
  go_wp2_with (first
    | (go_at_call 10; refine (RG.out _ D0.out).mono ?_; rintro e w1 ⟨rfl, d1⟩; have D1 := hid_of d1; have q1 := LO.out w1 d1; clear d1)
    | (go_at_call 24; refine (OB.out w1 D1.out).mono ?_; rintro e w2 ⟨rfl, a, n, k, hc, HE⟩))
  go_ret2
  exact ⟨_, _, _, rfl, HE.out⟩
end Go.Proofs.Ytjpaepmnmlpjkaa
