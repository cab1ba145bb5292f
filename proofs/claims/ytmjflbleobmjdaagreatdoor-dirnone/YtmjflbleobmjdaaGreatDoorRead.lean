/-
  A sector is read: its bytes, in new memory.
-/
import Derived.Test.YtmjflbleobmjdaaGreatDoorNew
namespace Go.Proofs.YtmjflbleobmjdaaGreatDoor
open Go.ChangeShapes Go.WideShapes Go.ChangeAt Go.RowKit
attribute [local go_sem ↓] loadSec_seal storeSec_seal eqlSec_seal zeroSec
attribute [local go_sem] loadSec_run storeSec_run rowAt_at rowAt_old rowAt_drew rowAt_drewN roomSec_new roomAt_old roomAt_drew roomAt_drewN putSec_new putRow_past rowSec_put size_put putRow_drew putRow_drewN alloc_drewN setCell_drewN sec_size

set_option linter.unusedVariables false

theorem Dk.at0 (D : Dk) : D.cells[0]? = some (.slice (some ⟨D.fb, 0, none⟩) D.n D.fc) := rfl
theorem Dk.at1 (D : Dk) : D.cells[1]? = some (.slice (some ⟨D.nb, 0, none⟩) D.n D.nc) := rfl
theorem Dk.at2 (D : Dk) : D.cells[2]? = some D.rv := rfl
theorem read_nil (n : Int) (w : World) : Calls Tryz.prog 68 #[.pointer none, .int .i64 n] w fun e w' => e = .returned (.tuple #[.slice none 0 0, .int .i64 1]) ∧ Below w.heap.size w w' := by
  go_enter Tryz.func68, Tryz.ntmps68
  go_wp2
  go_ret2
  exact ⟨rfl, by go_grown⟩
theorem read_bad (b : Nat) (D : Dk) (n : Int) (w : World) (h : Rep w b D) (hn : placeE n D.n = 31) : Calls Tryz.prog 68 #[.pointer (some ⟨b, 0, none⟩), .int .i64 n] w fun e w' => e = .returned (.tuple #[.slice none 0 0, .int .i64 31]) ∧ Below w.heap.size w w' := by
  have h1 := (h.cell 1).trans D.at1
  clear h
  go_enter Tryz.func68, Tryz.ntmps68
  go_wp2_with (go_at_call 59; refine (place_any _ _ _ _ _ _ _ h1).mono ?_; rintro e w1 ⟨rfl, hb⟩)
  go_ret2
  exact ⟨rfl, hb⟩
theorem read_good (b : Nat) (D : Dk) (n : Nat) (w : World) (h : Rep w b D) (hn : n < D.n) : Calls Tryz.prog 68 #[.pointer (some ⟨b, 0, none⟩), .int .i64 n] w fun e w' => ∃ g, e = .returned (.tuple #[.slice (some ⟨g, 0, none⟩) 1024 1024, .int .i64 0]) ∧ w.heap.size ≤ g ∧ rowAt w' g = some (sec (D.S n)) ∧ roomAt w' g 1024 = true ∧ g < w'.heap.size ∧ Below w.heap.size w w' := by
  have HR : Hid _ := h
  have h1 := (h.cell 1).trans D.at1
  have hp : placeE n D.n = 0 := by simp [placeE]; omega
  have i0 : (0 : Int) ≤ (n : Int) := by omega
  have i1 : (n : Int) < (D.n : Int) := by omega
  clear h
  go_enter Tryz.func68, Tryz.ntmps68
  go_wp2_with (go_at_call 59; refine (place_any _ _ _ _ _ _ _ h1).mono ?_; rintro e w1 ⟨rfl, hb⟩; have hx := HR.out.below hb; have g1 := (hx.cell 1).trans D.at1; have g2 := (hx.nowAt hn).1; have g3 := (hx.secS n hn).1; have HB : Hid _ := hb; clear hx hb h1)
  go_ret2
  exact ⟨w1.heap.size, rfl, HB.out.size, by simp [go_sem], by simp [go_sem], by simp, HB.out.alloc HB.out.size _⟩
end Go.Proofs.YtmjflbleobmjdaaGreatDoor
