/-
  The law on sums and differences of 64 bits: its walk.
-/
import Derived.Test.YtkhgeldnlffgjabDoorWideW
import Derived.Test.YtkhgeldnlffgjabDoorPutsB
namespace Go.Proofs.YtkhgeldnlffgjabDoor
open Go.ChangeShapes Go.WideShapes Go.ChangeAt Go.RowKit
attribute [local go_sem ↓] loadCpu_seal storeCpu_seal loadIn_seal storeIn_seal
attribute [local go_sem] loadCpu_run storeCpu_run loadIn_run storeIn_run rowAt_at rowAt_past rowAt_drew rowAt_drewN roomCpu_new roomIn_new roomAt_old roomAt_drew roomAt_drewN putCpu_new putIn_new Cp.zero_fold In.fold putRow_past rowCpu_put rowIn_put size_put putRow_drew putRow_drewN alloc_drewN setCell_drewN Cp.at16 Cp.at17 Cp.at18 Cp.at19 Cp.at20 Cp.at21 Cp.size Cp.set16 Cp.set17 Cp.set18 Cp.set19 Cp.set20 Cp.set21 In.at0 In.at1 In.at2 In.at3 In.at4 In.at5 In.at6 In.at7 In.size In.set0 In.set1 In.set2 In.set3 In.ne Cp.ne In.set4 In.set5 In.set6 In.set7
attribute [local go_sem ↓] eqlCpu_seal
attribute [local go_sem] put_cell put_room put_froz
set_option linter.unusedVariables false

def twoRow (s t : Int) : Array Value := #[.int .u32 s, .int .u32 t]
def wRows (w : World) (s t p q : Int) (C D : Cp) : List (Nat × Array Value) := [(w.heap.size + 1 + 1 + 1, D.cells), (w.heap.size + 1 + 1, C.cells), (w.heap.size + 1, twoRow p q), (w.heap.size, twoRow s t)]
/-- What holds while a round lays its halves. -/
structure Half (w X : World) (C D : Cp) : Prop where
  rc : roomAt X (w.heap.size + 1 + 1) 22 = true
  qc : ∀ j, X.cell? ⟨w.heap.size + 1 + 1, j, none⟩ = C.cells[j]?
  fc : X.frozen? ⟨w.heap.size + 1 + 1, 1, none⟩ = false
  h1 : ∀ v, X.setCell ⟨w.heap.size + 1 + 1, 1, none⟩ (.int .u32 v) = putRow X (w.heap.size + 1 + 1) (C.setR 1 v).cells
  h2 : ∀ u v, (putRow X (w.heap.size + 1 + 1) (C.setR 1 u).cells).setCell ⟨w.heap.size + 1 + 1, 2, none⟩ (.int .u32 v) = putRow X (w.heap.size + 1 + 1) (halfs u v C).cells
  qd : ∀ Z j, (putRow X (w.heap.size + 1 + 1) Z).cell? ⟨w.heap.size + 1 + 1 + 1, j, none⟩ = D.cells[j]?
  fd : ∀ Z, (putRow X (w.heap.size + 1 + 1) Z).frozen? ⟨w.heap.size + 1 + 1 + 1, 1, none⟩ = false
  h3 : ∀ (e : Cp) v, (putRow X (w.heap.size + 1 + 1) e.cells).setCell ⟨w.heap.size + 1 + 1 + 1, 1, none⟩ (.int .u32 v) = putRow (putRow X (w.heap.size + 1 + 1) e.cells) (w.heap.size + 1 + 1 + 1) (D.setR 1 v).cells
  q2 : ∀ (e : Cp) Z j, (putRow (putRow X (w.heap.size + 1 + 1) e.cells) (w.heap.size + 1 + 1 + 1) Z).cell? ⟨w.heap.size + 1 + 1, j, none⟩ = e.cells[j]?
  rd : ∀ e : Cp, roomAt (putRow X (w.heap.size + 1 + 1) e.cells) (w.heap.size + 1 + 1 + 1) 22 = true
  h4 : ∀ (e : Cp) u v, (putRow (putRow X (w.heap.size + 1 + 1) e.cells) (w.heap.size + 1 + 1 + 1) (D.setR 1 u).cells).setCell ⟨w.heap.size + 1 + 1 + 1, 2, none⟩ (.int .u32 v) = putRow (putRow X (w.heap.size + 1 + 1) e.cells) (w.heap.size + 1 + 1 + 1) (halfs u v D).cells
theorem Half.of {w X : World} {s t p q : Int} {C D : Cp} (K : Keeps w (wRows w s t p q C D) X) : Half w X C D := by
  have rc : roomAt X (w.heap.size + 1 + 1) 22 = true := K.room (b := w.heap.size + 1 + 1) (c := C.cells) (by simp [wRows])
  have rd0 : roomAt X (w.heap.size + 1 + 1 + 1) 22 = true := K.room (b := w.heap.size + 1 + 1 + 1) (c := D.cells) (by simp [wRows])
  have rw0 : rowAt X (w.heap.size + 1 + 1 + 1) = some D.cells := K.row (by simp [wRows])
  have qd0 := K.cell (b := w.heap.size + 1 + 1 + 1) (c := D.cells) (by simp [wRows])
  have rd : ∀ e : Cp, roomAt (putRow X (w.heap.size + 1 + 1) e.cells) (w.heap.size + 1 + 1 + 1) 22 = true := fun e => (put_room X _ _ 22 e rc).trans rd0
  refine ⟨rc, K.cell (by simp [wRows]), K.froz (b := w.heap.size + 1 + 1) (c := C.cells) (by simp [wRows]) 1 (by rw [Cp.size]; omega), fun v => K.cellset (c := C.cells) (by simp [wRows]) (Cp.setAt C 1 v (by omega)), fun u v => putR X _ 2 _ v rc (by omega), fun Z j => (put_cell_far X _ _ j Z (by omega)).trans (qd0 j), fun Z => ?_, fun e v => row_set (c := D.cells) (rd e) ((put_row_far X _ _ _ (by omega)).trans rw0) (Cp.setAt D 1 v (by omega)), fun e Z j => (put_cell_far _ _ _ j Z (by omega)).trans (put_cell X _ j e rc), rd, fun e u v => putR _ _ 2 _ v (rd e) (by omega)⟩
  exact (put_froz_far X _ _ 1 Z (by omega)).trans (K.froz (b := w.heap.size + 1 + 1 + 1) (c := D.cells) (by simp [wRows]) 1 (by rw [Cp.size]; omega))
theorem halfs_keep {w X : World} {s t p q : Int} {C D : Cp} (K : Keeps w (wRows w s t p q C D) X) (E F : Cp) : Keeps w (wRows w s t p q E F) (putRow (putRow X (w.heap.size + 1 + 1) E.cells) (w.heap.size + 1 + 1 + 1) F.cells) := by
  have f1 : ¬ w.heap.size + 1 + 1 + 1 = w.heap.size := by omega
  have f2 : ¬ w.heap.size + 1 + 1 = w.heap.size := by omega
  have f3 : ¬ w.heap.size = w.heap.size + 1 + 1 + 1 := by omega
  have f4 : ¬ w.heap.size = w.heap.size + 1 + 1 := by omega
  have k1 := K.upd (b := w.heap.size + 1 + 1) (c := C.cells) (d := E.cells) (by simp [wRows]) (by omega) rfl
  have k1' : Keeps w (wRows w s t p q E D) (putRow X (w.heap.size + 1 + 1) E.cells) := by simpa [wRows, f1, f2, f3, f4] using k1
  have k2 := k1'.upd (b := w.heap.size + 1 + 1 + 1) (c := D.cells) (d := F.cells) (by simp [wRows]) (by omega) rfl
  simpa [wRows, f1, f2, f3, f4] using k2
theorem sums_keep {w X : World} {s t p q : Int} {C D : Cp} (K : Keeps w (wRows w s t p q C D) X) (s' t' p' q' : Int) : Keeps w (wRows w s' t' p' q' C D) (putRow (putRow X w.heap.size (twoRow s' t')) (w.heap.size + 1) (twoRow p' q')) := by
  have f1 : ¬ w.heap.size + 1 + 1 + 1 = w.heap.size := by omega
  have f2 : ¬ w.heap.size + 1 + 1 = w.heap.size := by omega
  have f3 : ¬ w.heap.size = w.heap.size + 1 + 1 + 1 := by omega
  have f4 : ¬ w.heap.size = w.heap.size + 1 + 1 := by omega
  have k1 := K.upd (b := w.heap.size) (c := twoRow s t) (d := twoRow s' t') (by simp [wRows]) (by omega) rfl
  have k1' : Keeps w (wRows w s' t' p q C D) (putRow X w.heap.size (twoRow s' t')) := by simpa [wRows, f1, f2, f3, f4] using k1
  have k2 := k1'.upd (b := w.heap.size + 1) (c := twoRow p q) (d := twoRow p' q') (by simp [wRows]) (by omega) rfl
  simpa [wRows, f1, f2, f3, f4] using k2
theorem halfs_R (u v : Int) (c : Cp) : (halfs u v c).R 1 = u ∧ (halfs u v c).R 2 = v := ⟨rfl, rfl⟩
end Go.Proofs.YtkhgeldnlffgjabDoor
