/-
  Steps that are handed in, opened.
-/
import Derived.Test.YthkpohlgekfnjaaFilled
namespace Go.Proofs.Ythkpohlgekfnjaa
open Go.ChangeShapes Go.WideShapes Go.ChangeAt Go.RowKit

theorem at_of {l : List Value} {k : Nat} {v : Value} (h : (l.drop k).take 1 = [v]) : l[k]? = some v := by
  have : ((l.drop k).take 1)[0]? = some v := by rw [h]; rfl
  simpa using this
theorem some_of {α : Type} {xs : List α} {n i : Nat} (h : xs.length = n) (hi : i < n) : ∃ y, xs[i]? = some y := ⟨xs[i]'(by omega), List.getElem?_eq_getElem (by omega)⟩
theorem Try.cellsStep : Try.prog.cellsOf 33 = 5 := by kernel_rfl
theorem Try.cells3 : Try.prog.cellsOf 3 = 1 := by kernel_rfl
section
variable {H : Type} {enc : TypeId × Value → H} {W : World} {base : Nat} {spare : Nat → Bool} {held : Bool}
theorem num_at {n : Nat} {l : List Value} {k : Nat} {t : TypeId} {q : IntKind} {xs : List (DataW H × List MemPlace)} {i m : Nat} (hu : Try.prog.underlying t = some (.int q)) (hcl : Try.prog.cellsOf t = 1) (hm : xs.length = m) (hi : i < m) (h : DataW.trod enc Try.prog W base spare held n t ((l.drop k).take (Try.prog.cellsOf t)) = xs[i]?) :
    ∃ z, l[k]? = some (.int q z) ∧ (Lit.int q z).wf = true := by
  obtain ⟨y, hy⟩ := some_of hm hi
  rw [hy, hcl] at h
  obtain ⟨z, e1, _, wf⟩ := DataW.trod_int hu h
  exact ⟨z, at_of e1, wf⟩
theorem step_of_cells (cs : Array Value) (hs : cs.size = 5) (h0 : ∃ z, cs[0]? = some (.int .i64 z) ∧ (Lit.int .i64 z).wf = true) (h1 : ∃ z, cs[1]? = some (.int .i64 z) ∧ (Lit.int .i64 z).wf = true) (h2 : ∃ z, cs[2]? = some (.int .u8 z) ∧ (Lit.int .u8 z).wf = true) (h3 : ∃ z, cs[3]? = some (.int .u8 z) ∧ (Lit.int .u8 z).wf = true) (h4 : ∃ z, cs[4]? = some (.int .i64 z) ∧ (Lit.int .i64 z).wf = true) :
    ∃ s : St, s.Ok ∧ .agg cs = s.val ∧ (Lit.int .i64 s.N).wf = true := by
  obtain ⟨a, ea, _⟩ := h0
  obtain ⟨b, eb, wb⟩ := h1
  obtain ⟨c, ec, wc⟩ := h2
  obtain ⟨d, ed, wd⟩ := h3
  obtain ⟨e, ee, _⟩ := h4
  refine ⟨⟨a, b, c, d, e⟩, ⟨by simpa [Lit.wf, IntKind.min, IntKind.max, IntKind.signed, IntKind.bits] using wc, by simpa [Lit.wf, IntKind.min, IntKind.max, IntKind.signed, IntKind.bits] using wd⟩, ?_, wb⟩
  unfold St.val
  congr 1
  apply Array.ext_getElem?
  intro i
  by_cases h : i < 5
  · have : i = 0 ∨ i = 1 ∨ i = 2 ∨ i = 3 ∨ i = 4 := by omega
    rcases this with rfl | rfl | rfl | rfl | rfl
    · rw [ea]; rfl
    · rw [eb]; rfl
    · rw [ec]; rfl
    · rw [ed]; rfl
    · rw [ee]; rfl
  · rw [Array.getElem?_eq_none (by omega), Array.getElem?_eq_none (by simp; omega)]
theorem open_step {r : Reach} {b0 : Nat} {v : Value} {d : DataW H} {p : List MemPlace} (hv : Value.okWide Try.prog W r b0 33 v) (h : DataW.Trod enc Try.prog W base spare held 33 v d p) : ∃ s : St, s.Ok ∧ v = s.val ∧ (Lit.int .i64 s.N).wf = true := by
  obtain ⟨cs, rfl, hsz⟩ := okWide_struct Try.underlying33 hv
  obtain ⟨fuel, hf⟩ := h
  obtain ⟨xs, n, _, _, hl, hlen, hfld⟩ := DataW.trod_struct Try.underlying33 hf
  have hlen5 : xs.length = 5 := hlen
  have hcs : (Value.agg cs).cells.toList = cs.toList := rfl
  rw [hcs] at hfld
  have up : ∀ {k : Nat} {v : Value}, cs.toList[k]? = some v → cs[k]? = some v := fun h => by simpa using h
  obtain ⟨a, ea, wa⟩ := num_at Try.underlying3 Try.cells3 hlen5 (by omega) (hfld 0 _ rfl)
  obtain ⟨b, eb, wb⟩ := num_at Try.underlying3 Try.cells3 hlen5 (by omega) (hfld 1 _ rfl)
  obtain ⟨c, ec, wc⟩ := num_at Try.underlying5 Try.cells5 hlen5 (by omega) (hfld 2 _ rfl)
  obtain ⟨d, ed, wd⟩ := num_at Try.underlying5 Try.cells5 hlen5 (by omega) (hfld 3 _ rfl)
  obtain ⟨e, ee, we⟩ := num_at Try.underlying3 Try.cells3 hlen5 (by omega) (hfld 4 _ rfl)
  exact step_of_cells cs (hsz.trans Try.cellsStep) ⟨a, up ea, wa⟩ ⟨b, up eb, wb⟩ ⟨c, up ec, wc⟩ ⟨d, up ed, wd⟩ ⟨e, up ee, we⟩
end
end Go.Proofs.Ythkpohlgekfnjaa
