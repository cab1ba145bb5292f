/-
  Things to do, opened.
-/
import Derived.Test.YtbkkjnafnckleaaOpenB
import Derived.Test.YtbkkjnafnckleaaBDoesA
namespace Go.Proofs.Ytbkkjnafnckleaa
open Go.ChangeShapes Go.WideShapes Go.ChangeAt Go.RowKit
set_option linter.unusedVariables false
theorem at_of {l : List Value} {k : Nat} {v : Value} (h : (l.drop k).take 1 = [v]) : l[k]? = some v := by
  have : ((l.drop k).take 1)[0]? = some v := by rw [h]; rfl
  simpa using this
theorem sub_at {l : List Value} {k m j : Nat} {v : Value} (h : ((l.drop k).take m)[j]? = some v) : l[k + j]? = some v := by
  rw [List.getElem?_take] at h
  split at h
  · rwa [List.getElem?_drop] at h
  · cases h
theorem some_of {α : Type} {xs : List α} {n i : Nat} (h : xs.length = n) (hi : i < n) : ∃ y, xs[i]? = some y := ⟨xs[i]'(by omega), List.getElem?_eq_getElem (by omega)⟩
theorem Try.cellsOp : Try.prog.cellsOf 34 = 5 := by kernel_rfl
theorem Try.cells3 : Try.prog.cellsOf 3 = 1 := by kernel_rfl
theorem Try.cells30 : Try.prog.cellsOf 30 = 1 := by kernel_rfl
theorem Try.cells9 : Try.prog.cellsOf 9 = 1 := by kernel_rfl
section
variable {H : Type} {enc : TypeId × Value → H} {W : World} {base : Nat} {spare : Nat → Bool} {held : Bool}
theorem num_at {n : Nat} {l : List Value} {k : Nat} {t : TypeId} {q : IntKind} {xs : List (DataW H × List MemPlace)} {i m : Nat} (hu : Try.prog.underlying t = some (.int q)) (hcl : Try.prog.cellsOf t = 1) (hm : xs.length = m) (hi : i < m) (h : DataW.trod enc Try.prog W base spare held n t ((l.drop k).take (Try.prog.cellsOf t)) = xs[i]?) :
    ∃ z, l[k]? = some (.int q z) ∧ (Lit.int q z).wf = true := by
  obtain ⟨y, hy⟩ := some_of hm hi
  rw [hy, hcl] at h
  obtain ⟨z, e1, _, wf⟩ := DataW.trod_int hu h
  exact ⟨z, at_of e1, wf⟩
theorem str_at {n : Nat} {l : List Value} {k : Nat} {t : TypeId} {xs : List (DataW H × List MemPlace)} {i m : Nat} (hu : Try.prog.underlying t = some .string) (hcl : Try.prog.cellsOf t = 1) (hm : xs.length = m) (hi : i < m) (h : DataW.trod enc Try.prog W base spare held n t ((l.drop k).take (Try.prog.cellsOf t)) = xs[i]?) :
    ∃ s, l[k]? = some (.string s) ∧ s.size ≤ maxLen := by
  obtain ⟨y, hy⟩ := some_of hm hi
  rw [hy, hcl] at h
  obtain ⟨s, e1, _, hs⟩ := DataW.trod_string hu h
  exact ⟨s, at_of e1, hs⟩
theorem op_of_list {l : List Value} {fuel : Nat} {x : DataW H × List MemPlace} (hf : DataW.trod enc Try.prog W base spare held fuel 34 l = some x) : ∃ o : Opp, o.Ok ∧ l[0]? = some (.int .i64 o.k) ∧ l[1]? = some (.int .i64 o.ak) ∧ l[2]? = some (.int .u32 o.aa) ∧ l[3]? = some (.int .u32 o.av) ∧ l[4]? = some (.string o.s) := by
  obtain ⟨xs, n, _, _, hl, hlen, hfld⟩ := DataW.trod_struct Try.underlying34 hf
  have hlen3 : xs.length = 3 := hlen
  obtain ⟨a, ea, wa⟩ := num_at Try.underlying3 Try.cells3 hlen3 (by omega) (hfld 0 _ rfl)
  have h1 := hfld 1 _ rfl
  obtain ⟨y, hy⟩ := some_of hlen3 (show 1 < 3 by omega)
  rw [hy] at h1
  obtain ⟨ys, n2, _, _, hl2, hlen2, hf2⟩ := DataW.trod_struct Try.underlying32 h1
  have hlen2' : ys.length = 3 := hlen2
  obtain ⟨b, eb, wb⟩ := num_at Try.underlying3 Try.cells3 hlen2' (by omega) (hf2 0 _ rfl)
  obtain ⟨c, ec, wc⟩ := num_at Try.underlying30 Try.cells30 hlen2' (by omega) (hf2 1 _ rfl)
  obtain ⟨d, ed, wd⟩ := num_at Try.underlying30 Try.cells30 hlen2' (by omega) (hf2 2 _ rfl)
  obtain ⟨s, es, ws⟩ := str_at Try.underlying9 Try.cells9 hlen3 (by omega) (hfld 2 _ rfl)
  have eb' := sub_at eb
  have ec' := sub_at ec
  have ed' := sub_at ed
  exact ⟨⟨a, b, c, d, s⟩, ⟨(wfI wa).1, (wfI wa).2, (wfU wc).1, (wfU wc).2, (wfU wd).1, (wfU wd).2, ws⟩, ea, eb', ec', ed', es⟩
end
set_option maxRecDepth 100000 in
theorem open_ops {H : Type} {enc : TypeId × Value → H} {W : World} {base : Nat} {r : Reach} {b0 : Nat} {v : Value} {d : DataW H} {p : List MemPlace} (hv : Value.okWide Try.prog W r b0 23 v) (h : DataW.Trod enc Try.prog W base (fun _ => true) true 23 v d p) :
    ∃ a len cap g, v = .slice a len cap ∧ RdOp W a len g := by
  obtain ⟨a0, len0, cap0, rfl⟩ := okWide_slice Try.underlying23 hv
  obtain ⟨fuel, hf⟩ := h
  rcases Go.Deep.open_slice Try.underlying23 hf with ⟨hcs, _⟩ | ⟨a, len, cap, m, n, D, Pl, hcs, _, hl, hm, hmm, _, hel⟩
  · simp [Value.cells] at hcs
    obtain ⟨rfl, rfl, rfl⟩ := hcs
    exact ⟨none, 0, 0, fun _ => ⟨0, 0, 0, 0, ⟨#[]⟩⟩, rfl, by unfold maxLen; omega, .inl rfl⟩
  · simp [Value.cells] at hcs
    obtain ⟨rfl, rfl, rfl⟩ := hcs
    have hmc : m = cap0 := by simpa using hmm
    have hall : ∀ i, ∃ s : Opp, i < len0 → s.Ok ∧ W.cell? ((a.add (i * 5)).add 0) = some (.int .i64 s.k) ∧ W.cell? ((a.add (i * 5)).add 1) = some (.int .i64 s.ak) ∧ W.cell? ((a.add (i * 5)).add 2) = some (.int .u32 s.aa) ∧ W.cell? ((a.add (i * 5)).add 3) = some (.int .u32 s.av) ∧ W.cell? ((a.add (i * 5)).add 4) = some (.string s.s) := by
      intro i
      by_cases hi : i < len0
      · obtain ⟨cs', hc, ht⟩ := hel i (by omega)
        rw [Try.cellsOp] at hc
        obtain ⟨s, ok, e0, e1, e2, e3, e4⟩ := op_of_list ht
        have hg := (World.cells?_some hc).2.2
        exact ⟨s, fun _ => ⟨ok, (hg 0 (by omega)).trans e0, (hg 1 (by omega)).trans e1, (hg 2 (by omega)).trans e2, (hg 3 (by omega)).trans e3, (hg 4 (by omega)).trans e4⟩⟩
      · exact ⟨⟨0, 0, 0, 0, ⟨#[]⟩⟩, fun h => absurd h hi⟩
    obtain ⟨g, hg⟩ := Classical.axiomOfChoice hall
    refine ⟨some a, len0, cap0, g, rfl, by omega, ?_⟩
    by_cases h0 : len0 = 0
    · exact .inl h0
    · have first := (hg 0 (by omega)).2.1
      obtain ⟨b, off, spot⟩ := a
      have hspot : spot = none := by
        have := World.cell?_spot first
        simpa [Addr.add] using this
      subst hspot
      have hcell : ∀ i, i < len0 → (g i).Ok ∧ W.cell? ⟨b, off + i * 5, none⟩ = some (.int .i64 (g i).k) ∧ W.cell? ⟨b, off + i * 5 + 1, none⟩ = some (.int .i64 (g i).ak) ∧ W.cell? ⟨b, off + i * 5 + 2, none⟩ = some (.int .u32 (g i).aa) ∧ W.cell? ⟨b, off + i * 5 + 3, none⟩ = some (.int .u32 (g i).av) ∧ W.cell? ⟨b, off + i * 5 + 4, none⟩ = some (.string (g i).s) := fun i hi => by
        have := hg i hi
        simp only [Go.WideShapes.add_plain, Nat.add_zero] at this
        exact this
      exact .inr ⟨b, off, rfl, World.block_lt_of_cell? W _ (hcell 0 (by omega)).2.1, hcell⟩
end Go.Proofs.Ytbkkjnafnckleaa
