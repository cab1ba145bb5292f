/-
  The document's layer 6: branches of any name and any operands.
  The document's layer 6: an instruction of a form's operands.
-/
import Derived.Test.YtmldlkcgaepaaaaGreatDoorMD6
namespace Go.Proofs.YtmldlkcgaepaaaaGreatDoor
set_option linter.unusedVariables false
set_option linter.unusedSimpArgs false
open Go.ChangeShapes Go.WideShapes Go.ChangeAt Go.RowKit
theorem strs_cell {w : World} {B g cap : Nat} {l : List Bs} (ho : w.ownsRow B 9 1 (.slice (some ⟨g, 0, none⟩) l.length cap) l.length (strs l)) (j : Nat) (hj : j < l.length) : w.cell? ⟨g, j, none⟩ = some (.string (bs l[j])) := by
  have := World.ownsRow.cells ho (g := g) rfl j (.string (bs l[j])) (by simp [strs, List.getElem?_eq_getElem hj])
  rwa [show (⟨g, 0, none⟩ : Addr).add j = ⟨g, j, none⟩ by simp [Addr.add]; omega] at this
theorem own_sl9 {w : World} {B n : Nat} {v : Value} {xs : List Value} (ho : w.ownsRow B 9 1 v n xs) : ∃ a c, v = .slice a n c := by
  rcases ho.2 with ⟨rfl, rfl⟩ | ⟨g, cap, cur, rfl, _⟩
  · exact ⟨_, _, rfl⟩
  · exact ⟨_, _, rfl⟩
theorem own_some {w : World} {B n : Nat} {v : Value} {xs : List Value} (ho : w.ownsRow B 9 1 v n xs) (hn : 0 < n) : ∃ g c, v = .slice (some ⟨g, 0, none⟩) n c ∧ B ≤ g ∧ g < w.heap.size := by
  rcases ho.2 with ⟨rfl, rfl⟩ | ⟨g, cap, cur, rfl, h1, h2, _⟩
  · omega
  · exact ⟨_, _, rfl, h1, (Array.getElem?_eq_some_iff.1 h2).1⟩
theorem rbranch_all (name : Bs) (l : List Bs) (B : Nat) (v : Value) (a : Int) (w : World) (ho : w.ownsRow B 9 1 v l.length (strs l)) (hl : l.length ≤ 65537) (hs : ∀ x ∈ l, x.length ≤ 65536) :
    Calls Tryz.prog 29 #[.string (bs name), v, .int .u32 a] w fun e w' => ∃ i : In, e = .returned (.tuple #[.agg i.cells, .bool (branchD name l a).isSome]) ∧ (∀ j, branchD name l a = some j → i = j) ∧ Below w.heap.size w w' := by
  by_cases h2 : l.length = 2
  · obtain ⟨c, t, rfl⟩ : ∃ c t, l = [c, t] := by
      match l, h2 with
      | [c, t], _ => exact ⟨c, t, rfl⟩
    obtain ⟨g, cap, rfl, _, hg⟩ := own_some ho (by simp)
    have c0 := strs_cell ho 0 (by simp)
    have c1 := strs_cell ho 1 (by simp)
    have ht := hs t (by simp)
    by_cases hj : name = jmpT
    · subst hj; exact rbranch_jmp c t g 0 cap a w hg c0 c1 ht
    · by_cases hc : name = callT
      · subst hc; exact rbranch_call c t g 0 cap a w hg c0 c1 ht
      · have e : branchD name [c, t] a = none := by
          unfold branchD
          simp only []
          rw [if_neg (by rintro (e | e); exact hj e; exact hc e)]
        rw [e]
        refine (rbranch_name name [c, t] (some ⟨g, 0, none⟩) cap a w hj hc).mono fun e' w' ⟨i, h1, h3⟩ => ⟨i, h1, (fun j h => by cases h), h3⟩
  · have e : branchD name l a = none := by
      unfold branchD
      split
      · simp at h2
      · rfl
    rw [e]
    obtain ⟨sa, sc, rfl⟩ := own_sl9 ho
    exact (rbranch_len name l sa sc a w h2 hl).mono fun e' w' ⟨i, h1, h3⟩ => ⟨i, h1, (fun j h => by cases h), h3⟩
end Go.Proofs.YtmldlkcgaepaaaaGreatDoor

namespace Go.Proofs.YtmldlkcgaepaaaaGreatDoor
set_option linter.unusedVariables false
set_option linter.unusedSimpArgs false
open Go.ChangeShapes Go.WideShapes Go.ChangeAt Go.RowKit
attribute [local go_sem ↓] loadIn_seal storeIn_seal
attribute [local go_sem] loadIn_run storeIn_run rowAt_at rowAt_old rowAt_drew rowAt_drewN roomCpu_new roomIn_new roomAt_old roomAt_drew roomAt_drewN putCpu_new putIn_new Cp.zero_fold In.fold putRow_past rowCpu_put rowIn_put size_put putRow_drew putRow_drewN alloc_drewN setCell_drewN Cp.at16 Cp.at17 Cp.at18 Cp.at19 Cp.at20 Cp.at21 Cp.size Cp.set16 Cp.set17 Cp.set18 Cp.set19 Cp.set20 Cp.set21 In.at0 In.at1 In.at2 In.at3 In.at4 In.at5 In.at6 In.at7 In.size In.set0 In.set1 In.set2 In.set3 In.ne Cp.ne In.set4 In.set5 In.set6 In.set7

/-- A form's cells. -/
def fmA (f : Fm) : Array Value := #[.string (bs f.name), .int .i64 f.i.F, .bool f.i.U, .bool f.i.V, .int .i64 f.i.A, .int .i64 f.i.B, .int .i64 f.i.O, .int .i64 f.i.C, .int .i64 f.i.N, .int .i64 (f.regs : Int), .bool f.last]
theorem fmA_at0 (f : Fm) : (fmA f)[0]? = some (.string (bs f.name)) := rfl
theorem fmA_at9 (f : Fm) : (fmA f)[9]? = some (.int .i64 (f.regs : Int)) := rfl
theorem fmA_at10 (f : Fm) : (fmA f)[10]? = some (.bool f.last) := rfl
theorem fmA_size (f : Fm) : (fmA f).size = 11 := rfl
attribute [local go_sem] fmA_at0 fmA_at9 fmA_at10 fmA_size
theorem loadIn_mid {w : World} {b o : Nat} (i : In) (h : w.rangeAt b o i.cells.toList) : (loadIn ⟨b, o, none⟩).run Tryz.prog w = .ok (.agg i.cells) w := by
  have := run_loadVar_mid (P := Tryz.prog) w b o 52 i.cells.toList _ h Tryz.underlying52 rfl Tryz.sizeIn
  simpa [loadIn] using this
theorem fmA_in (f : Fm) : ∀ j v, f.i.cells.toList[j]? = some v → (fmA f)[1 + j]? = some v := by
  intro j v h
  rcases (show j = 0 ∨ j = 1 ∨ j = 2 ∨ j = 3 ∨ j = 4 ∨ j = 5 ∨ j = 6 ∨ j = 7 ∨ 8 ≤ j by omega) with rfl | rfl | rfl | rfl | rfl | rfl | rfl | rfl | h8
  all_goals first
    | exact h
    | (rw [List.getElem?_eq_none (by simpa [In.cells] using h8)] at h; cases h)
theorem fm_load {w : World} {b : Nat} (f : Fm) (h : rowAt w b = some (fmA f)) : (loadIn ⟨b, 1, none⟩).run Tryz.prog w = .ok (.agg f.i.cells) w :=
  loadIn_mid f.i fun j v hv => by rw [rowAt_cell h]; exact fmA_in f j v hv
def stepR (k : Nat) (n : Int) (i : In) : In := if k = 0 then { i with A := n } else { i with B := n }
/-- The registers that stand ahead, the first k of them. -/
def regsI (l : List Bs) : Nat → In → Option In
  | 0, i => some i
  | k + 1, i => (regsI l k i).bind fun j => (rgD (l.getD k [])).map fun n => stepR k n j
theorem regsI_none (l : List Bs) (i : In) : ∀ {k m : Nat}, k ≤ m → regsI l k i = none → regsI l m i = none := by
  intro k m h hn
  induction m with
  | zero => obtain rfl : k = 0 := by omega
            exact hn
  | succ m ih =>
    by_cases e : k = m + 1
    · rw [← e]; exact hn
    · rw [regsI, ih (by omega)]; rfl
def okFm (f : Fm) : Prop := (f.regs = 0 ∧ f.last = true) ∨ (f.regs = 1 ∧ f.last = false) ∨ (f.regs = 1 ∧ f.last = true) ∨ (f.regs = 2 ∧ f.last = true)
def manyF (f : Fm) : Nat := f.regs + if f.last then 1 else 0
theorem readD_eq (f : Fm) (hf : okFm f) (l : List Bs) : readD f l = if l.length = manyF f then (regsI l f.regs f.i).bind (fun i => if f.last then lastD i (l.getD f.regs []) else some i) else none := by
  obtain ⟨nm, i, regs, last⟩ := f
  unfold okFm at hf
  simp only at hf
  rcases hf with ⟨rfl, rfl⟩ | ⟨rfl, rfl⟩ | ⟨rfl, rfl⟩ | ⟨rfl, rfl⟩
  · rcases l with _ | ⟨a, _ | ⟨b, r⟩⟩ <;> simp [readD, manyF, regsI]
  · rcases l with _ | ⟨a, _ | ⟨b, r⟩⟩ <;> simp [readD, manyF, regsI, stepR]
    try (cases rgD a <;> rfl)
  · rcases l with _ | ⟨a, _ | ⟨b, _ | ⟨c, r⟩⟩⟩ <;> simp [readD, manyF, regsI, stepR]
    try (cases rgD a <;> rfl)
  · rcases l with _ | ⟨a, _ | ⟨b, _ | ⟨c, _ | ⟨d, r⟩⟩⟩⟩ <;> simp [readD, manyF, regsI, stepR]
    try (cases rgD a <;> cases rgD b <;> rfl)
end Go.Proofs.YtmldlkcgaepaaaaGreatDoor
