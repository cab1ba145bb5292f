/-
  The document's layer 6: moves, branches and Show: the plain text of every word at every address.
-/
import Derived.Test.YtmldlkcgaepaaaaGreatDoorMR1
import Derived.Test.YtmldlkcgaepaaaaGreatDoorMDecR
namespace Go.Proofs.YtmldlkcgaepaaaaGreatDoor
set_option linter.unusedVariables false
set_option linter.unusedSimpArgs false
open Go.ChangeShapes Go.WideShapes Go.ChangeAt Go.RowKit
attribute [local go_sem ↓] loadIn_seal storeIn_seal
attribute [local go_sem] loadIn_run storeIn_run rowAt_at rowAt_old rowAt_drew rowAt_drewN roomCpu_new roomIn_new roomAt_old roomAt_drew roomAt_drewN putCpu_new putIn_new Cp.zero_fold In.fold putRow_past rowCpu_put rowIn_put size_put putRow_drew putRow_drewN alloc_drewN setCell_drewN Cp.at16 Cp.at17 Cp.at18 Cp.at19 Cp.at20 Cp.at21 Cp.size Cp.set16 Cp.set17 Cp.set18 Cp.set19 Cp.set20 Cp.set21 In.at0 In.at1 In.at2 In.at3 In.at4 In.at5 In.at6 In.at7 In.size In.set0 In.set1 In.set2 In.set3 In.ne Cp.ne In.set4 In.set5 In.set6 In.set7

def movesP (i : In) : Bs := if takesP i then (if i.V then [77, 79, 86, 70, 32] else [77, 79, 86, 72, 32]) ++ regP i.A else [77, 79, 86] ++ marksP i ++ [32] ++ regP i.A ++ [44, 32] ++ lastOp i
theorem reg_size' (n : Int) (h0 : -1000000000000000000 < n) (h1 : n < 1000000000000000000) : (bs (regP n)).size ≤ 22 := by
  have := Lib.itoa_length_le n (by omega) (by omega)
  rw [bs_size, regP]; simp; omega
theorem marks_size (i : In) : (bs (marksP i)).size ≤ 2 := by
  have h1 := let_size i.U 85
  have h2 := let_size i.V 86
  rw [bs_size] at h1 h2 ⊢; unfold marksP; simp; omega
theorem last_size' (i : In) (hi : Wr i) : (bs (lastOp i)).size ≤ 22 := by
  have c := hi.C
  have n := hi.N
  unfold lastOp; split
  · exact reg_size' _ (by omega) (by omega)
  · exact Nat.le_trans (itoa_size _ (by omega) (by omega)) (by omega)
theorem row_lt {w : World} {b : Nat} {X : Array Value} (h : rowAt w b = some X) : b < w.heap.size := by
  unfold rowAt at h
  split at h
  · rename_i hb; exact (Array.getElem?_eq_some_iff.1 hb).1
  · cases h
theorem held_call {X Y : World} {b : Nat} {c : Array Value} (h : rowAt X b = some c ∧ ∀ j, X.cell? ⟨b, j, none⟩ = c[j]?) (hb : Below X.heap.size X Y) : rowAt Y b = some c ∧ ∀ j, Y.cell? ⟨b, j, none⟩ = c[j]? := by
  have := (rowAt_below hb b (row_lt h.1)).trans h.1
  exact ⟨this, rowAt_cell this⟩
def branchP (i : In) (a : Int) : Bs := (if i.V then [67, 65, 76, 76, 32] else [74, 77, 80, 32]) ++ condName i.A ++ [44, 32] ++ (if i.U then Lib.itoa (toP a i.N) else regP i.C)
end Go.Proofs.YtmldlkcgaepaaaaGreatDoor
