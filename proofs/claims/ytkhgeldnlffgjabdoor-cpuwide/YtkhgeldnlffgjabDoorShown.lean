/-
  How two processors are held against each other; what the document's example comes to.
-/
import Derived.Test.YtkhgeldnlffgjabDoorKeep
import Derived.DeepKeys
namespace Go.Proofs.YtkhgeldnlffgjabDoor
open Go.ChangeShapes Go.WideShapes Go.ChangeAt Go.RowKit
attribute [local go_sem ↓] loadCpu_seal storeCpu_seal loadIn_seal storeIn_seal
attribute [local go_sem] loadCpu_run storeCpu_run loadIn_run storeIn_run rowAt_at rowAt_past rowAt_drew rowAt_drewN roomCpu_new roomIn_new roomAt_old roomAt_drew roomAt_drewN putCpu_new putIn_new Cp.zero_fold In.fold putRow_past rowCpu_put rowIn_put size_put putRow_drew putRow_drewN alloc_drewN setCell_drewN Cp.at16 Cp.at17 Cp.at18 Cp.at19 Cp.at20 Cp.at21 Cp.size Cp.set16 Cp.set17 Cp.set18 Cp.set19 Cp.set20 Cp.set21 In.at0 In.at1 In.at2 In.at3 In.at4 In.at5 In.at6 In.at7 In.size In.set0 In.set1 In.set2 In.set3 In.ne Cp.ne In.set4 In.set5 In.set6 In.set7

def Cp.lits (c : Cp) : List Lit := [.int .u32 (c.R 0), .int .u32 (c.R 1), .int .u32 (c.R 2), .int .u32 (c.R 3), .int .u32 (c.R 4), .int .u32 (c.R 5), .int .u32 (c.R 6), .int .u32 (c.R 7), .int .u32 (c.R 8), .int .u32 (c.R 9), .int .u32 (c.R 10), .int .u32 (c.R 11), .int .u32 (c.R 12), .int .u32 (c.R 13), .int .u32 (c.R 14), .int .u32 (c.R 15), .int .u32 c.H, .bool c.N, .bool c.Z, .bool c.C, .bool c.V, .int .u32 c.PC]
theorem wf_u32 {z : Int} (h : 0 ≤ z ∧ z ≤ 4294967295) : (Lit.int .u32 z).wf = true := by simpa [Lit.wf, IntKind.min, IntKind.max, IntKind.signed, IntKind.bits] using h
theorem Tryd.cellsC : Tryd.prog.cellsOf 25 = 22 := by kernel_rfl
theorem Tryd.cellsA : Tryd.prog.cellsOf 23 = 16 := by kernel_rfl
theorem Tryd.cellsU : Tryd.prog.cellsOf 22 = 1 := by kernel_rfl
theorem Tryd.cellsB : Tryd.prog.cellsOf 4 = 1 := by kernel_rfl
theorem kl_u32 (d : Nat) {z : Int} (h : 0 ≤ z ∧ z ≤ 4294967295) : Tryd.prog.keyLits (d + 1) 22 [.int .u32 z] = some [.int .u32 z] := by
  simp [Program.keyLits, Tryd.underlying22, wf_u32 h]
theorem kl_bool (d : Nat) (b : Bool) : Tryd.prog.keyLits (d + 1) 4 [.bool b] = some [.bool b] := by
  simp [Program.keyLits, Tryd.underlying4]
theorem kl_regs (d : Nat) (c : Cp) (h : c.Ok) : Tryd.prog.keyLits (d + 2) 23 (c.cells.toList.take 16) = some (c.lits.take 16) := by
  have k : ∀ i, i < 16 → Tryd.prog.keyLits (d + 1) 22 [.int .u32 (c.R i)] = some [.int .u32 (c.R i)] := fun i hi => kl_u32 d (h.R i hi)
  unfold Program.keyLits
  simp [Tryd.underlying23, Tryd.cellsA, Tryd.cellsU, Cp.cells, Cp.lits, List.range, List.range.loop, k]
theorem kl_cpu (c : Cp) (h : c.Ok) : Tryd.prog.keyLits 3 25 c.cells.toList = some c.lits := by
  have r := kl_regs 0 c h
  unfold Program.keyLits
  simp only [Cp.cells, Cp.lits] at r ⊢
  simp [Tryd.underlying25, Tryd.cellsC, Tryd.cellsA, Tryd.cellsU, Tryd.cellsB, kl_u32 1 h.H, kl_u32 1 h.PC, kl_bool] at r ⊢
  simp [r]
theorem eq_cpu (a b : Cp) (ha : a.Ok) (hb : b.Ok) (w : World) : ∃ r : Bool, (Op.equalIn 10000 25 (.agg a.cells) (.agg b.cells)).run Tryd.prog w = .ok r w ∧ (r = true ↔ a.lits = b.lits) :=
  run_equalIn_deep 9997 3 25 (by kernel_rfl) w 3 3 (.agg a.cells) (.agg b.cells) a.lits b.lits (by kernel_rfl) (by kernel_rfl) (kl_cpu a ha) (kl_cpu b hb)
def eqlCpu (x y : Value) : Sem Value := binOp .eql 25 x y
theorem eqlCpu_seal (x y : Value) : binOp .eql 25 x y = eqlCpu x y := rfl
theorem eqlCpu_ne (a b : Cp) (ha : a.Ok) (hb : b.Ok) (h : a.PC ≠ b.PC) (w : World) : (eqlCpu (.agg a.cells) (.agg b.cells)).run Tryd.prog w = .ok (.bool false) w := by
  obtain ⟨r, hr, hi⟩ := eq_cpu a b ha hb w
  have hf : r = false := by
    cases r
    · rfl
    · have := hi.1 rfl
      simp only [Cp.lits, List.cons.injEq, Lit.int.injEq] at this
      exact absurd (by simp_all) h
  rw [eqlCpu, run_eql_struct, hr, hf]; rfl
theorem eqlCpu_same (a : Cp) (ha : a.Ok) (w : World) : (eqlCpu (.agg a.cells) (.agg a.cells)).run Tryd.prog w = .ok (.bool true) w := by
  obtain ⟨r, hr, hi⟩ := eq_cpu a a ha ha w
  rw [eqlCpu, run_eql_struct, hr, hi.2 rfl]; rfl
end Go.Proofs.YtkhgeldnlffgjabDoor
