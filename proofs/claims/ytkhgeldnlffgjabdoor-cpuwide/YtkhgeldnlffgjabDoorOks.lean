/-
  What Exec leaves is a processor; processors held against each other.
-/
import Derived.Test.YtkhgeldnlffgjabDoorExa
namespace Go.Proofs.YtkhgeldnlffgjabDoor
open Go.ChangeShapes Go.WideShapes Go.ChangeAt Go.RowKit
set_option linter.unusedVariables false

theorem on_ok {c : Cp} (h : c.Ok) : c.on.Ok := ⟨h.R, h.H, by show 0 ≤ (c.PC + 4) % 4294967296 ∧ (c.PC + 4) % 4294967296 ≤ 4294967295; omega⟩
theorem transf_ok {c : Cp} (i : In) {x : Int} (h : c.Ok) (x0 : 0 ≤ x) (x1 : x ≤ 4294967295) : (c.transf i x).Ok := by
  unfold Cp.transf
  split
  · exact on_ok h
  · refine wrote_ok c h i.A _ ?_ ?_ <;> split <;> omega
theorem aimed_ok {c : Cp} {i : In} (h : c.Ok) (hC : 0 ≤ i.C ∧ i.C < 16) : (c.aimed i).Ok := by
  have h1 := on_ok h
  unfold Cp.aimed
  refine ⟨?_, ?_, ?_⟩
  · intro j hj
    show 0 ≤ (if i.V = true then c.on.setR 15 c.on.PC else c.on).R j ∧ _
    split
    · exact (setR_ok c.on h1 15 c.on.PC h1.PC.1 h1.PC.2).R j hj
    · exact h1.R j hj
  · show 0 ≤ (if i.V = true then c.on.setR 15 c.on.PC else c.on).H ∧ _
    split
    · exact h1.H
    · exact h1.H
  · show 0 ≤ (if i.U = true then (c.on.PC + 4 * i.N) % 4294967296 else c.R i.C.toNat) ∧ (if i.U = true then (c.on.PC + 4 * i.N) % 4294967296 else c.R i.C.toNat) ≤ 4294967295
    split
    · omega
    · exact h.R _ (by omega)
theorem execD_ok {c : Cp} (i : In) {x : Int} (h : c.Ok) (x0 : 0 ≤ x) (x1 : x ≤ 4294967295) : (c.execD i x).Ok := by
  unfold Cp.execD
  split
  · rename_i hr
    have R := right_bd hr
    split
    · exact transf_ok i h x0 x1
    · split
      · unfold Cp.branched
        split
        · exact aimed_ok h R.C
        · exact on_ok h
      · rename_i f2 f3
        have hF : i.F = 0 ∨ i.F = 1 := by
          rcases R.F with ⟨f, _⟩ | ⟨f, _⟩ | ⟨f, _⟩ | ⟨f, _⟩
          · exact .inl f
          · exact .inr f
          · exact absurd f f2
          · exact absurd f f3
        cases ht : c.trapsB i
        · exact (operated_goes c i h hr hF ht).2
        · rw [operated_stays c i ht]; exact h
  · exact h
def neqCpu (x y : Value) : Sem Value := binOp .neq 25 x y
theorem neqCpu_seal (x y : Value) : binOp .neq 25 x y = neqCpu x y := rfl
theorem neqCpu_same (a : Cp) (ha : a.Ok) (w : World) : (neqCpu (.agg a.cells) (.agg a.cells)).run Tryd.prog w = .ok (.bool false) w := by
  obtain ⟨r, hr, hi⟩ := eq_cpu a a ha ha w
  rw [neqCpu, run_neq_struct, hr, hi.2 rfl]; rfl
theorem Keeps.put1 {w X : World} {b : Nat} {c : Array Value} (h : Keeps w [(b, c)] X) (hb : w.heap.size ≤ b) (d : Array Value) (hd : d.size = c.size) : Keeps w [(b, d)] (putRow X b d) := by
  have r := h.room (b := b) (c := c) (by simp)
  have l := (h.2 (b, c) (by simp)).2.2
  refine ⟨below_put h.1 b hb d, fun q hq => ?_⟩
  obtain rfl : q = (b, d) := by simpa using hq
  refine ⟨rowAt_put (by rw [hd]; exact r), ?_, by rw [size_put]; exact l⟩
  show roomAt (putRow X b d) b d.size = true
  unfold roomAt at r ⊢
  split at r
  · rename_i Y t fr hY
    rw [putRow_eq, setCells_heap _ _ _ _ hY]
    simp only [Bool.and_eq_true, beq_iff_eq] at r ⊢
    refine ⟨?_, r.2⟩
    rw [putList_size, r.1, hd]
  · cases r
end Go.Proofs.YtkhgeldnlffgjabDoor
