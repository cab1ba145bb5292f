/-
  Layer 17: nothing: the methods of no directory; a new directory is empty.
-/
import Derived.Test.YtmjflbleobmjdaaGreatDoorOpa
namespace Go.Proofs.YtmjflbleobmjdaaGreatDoor
set_option linter.unusedVariables false
set_option linter.unusedSimpArgs false
open Go.ChangeShapes Go.WideShapes Go.ChangeAt Go.RowKit
attribute [local go_sem ↓] loadSec_seal storeSec_seal eqlSec_seal zeroSec
attribute [local go_sem] loadSec_run storeSec_run rowAt_at rowAt_old rowAt_drew rowAt_drewN roomSec_new roomAt_old roomAt_drew roomAt_drewN putSec_new putRow_past rowSec_put size_put putRow_drew putRow_drewN alloc_drewN setCell_drewN sec_size

set_option linter.unusedVariables false

theorem find_nil (s : ByteArray) (w : World) : Calls Tryz.prog 5 #[.pointer none, .string s] w fun e w' => e = .returned (.tuple #[.agg #[.string ⟨#[]⟩, .int .i64 0, .int .i64 0], .int .i64 1]) ∧ Below w.heap.size w w' := by
  go_enter Tryz.func5, Tryz.ntmps5
  go_wp2
  exact bodyPost_ret (v := .tuple #[.agg #[.string ⟨#[]⟩, .int .i64 0, .int .i64 0], .int .i64 1]) (by simp [results, Tryz.results5, go_sem]) rfl ⟨rfl, by go_grown⟩
theorem insert_nil (s : ByteArray) (h l : Int) (w : World) : Calls Tryz.prog 6 #[.pointer none, .agg #[.string s, .int .i64 h, .int .i64 l]] w fun e w' => e = .returned (.int .i64 1) ∧ Below w.heap.size w w' := by
  go_enter Tryz.func6, Tryz.ntmps6
  go_wp2
  first
    | (go_ret; exact ⟨rfl, by go_grown⟩)
    | (go_ret2; exact ⟨rfl, by go_grown⟩)
theorem delete_nil (s : ByteArray) (w : World) : Calls Tryz.prog 7 #[.pointer none, .string s] w fun e w' => e = .returned (.int .i64 1) ∧ Below w.heap.size w w' := by
  go_enter Tryz.func7, Tryz.ntmps7
  go_wp2
  first
    | (go_ret; exact ⟨rfl, by go_grown⟩)
    | (go_ret2; exact ⟨rfl, by go_grown⟩)
theorem rename_nil (s t : ByteArray) (w : World) : Calls Tryz.prog 8 #[.pointer none, .string s, .string t] w fun e w' => e = .returned (.int .i64 1) ∧ Below w.heap.size w w' := by
  go_enter Tryz.func8, Tryz.ntmps8
  go_wp2
  first
    | (go_ret; exact ⟨rfl, by go_grown⟩)
    | (go_ret2; exact ⟨rfl, by go_grown⟩)
theorem take_nil (w : World) : Calls Tryz.prog 9 #[.pointer none] w fun e w' => e = .returned (.tuple #[.int .i64 0, .int .i64 1]) ∧ Below w.heap.size w w' := by
  go_enter Tryz.func9, Tryz.ntmps9
  go_wp2
  first
    | (go_ret; exact ⟨rfl, by go_grown⟩)
    | (go_ret2; exact ⟨rfl, by go_grown⟩)
theorem give_nil (k : Int) (w : World) : Calls Tryz.prog 10 #[.pointer none, .int .i64 k] w fun e w' => e = .returned (.int .i64 1) ∧ Below w.heap.size w w' := by
  go_enter Tryz.func10, Tryz.ntmps10
  go_wp2
  first
    | (go_ret; exact ⟨rfl, by go_grown⟩)
    | (go_ret2; exact ⟨rfl, by go_grown⟩)
theorem free_nil (w : World) : Calls Tryz.prog 13 #[.pointer none] w fun e w' => e = .returned (.int .i64 0) ∧ Below w.heap.size w w' := by
  go_enter Tryz.func13, Tryz.ntmps13
  go_wp2
  first
    | (go_ret; exact ⟨rfl, by go_grown⟩)
    | (go_ret2; exact ⟨rfl, by go_grown⟩)
theorem all_nil (w : World) : Calls Tryz.prog 14 #[.pointer none] w fun e w' => e = .returned (.slice none 0 0) ∧ Below w.heap.size w w' := by
  go_enter Tryz.func14, Tryz.ntmps14
  go_wp2
  first
    | (go_ret; exact ⟨rfl, by go_grown⟩)
    | (go_ret2; exact ⟨rfl, by go_grown⟩)
theorem disk_nil (w : World) : Calls Tryz.prog 15 #[.pointer none] w fun e w' => e = .returned (.pointer none) ∧ Below w.heap.size w w' := by
  go_enter Tryz.func15, Tryz.ntmps15
  go_wp2
  first
    | (go_ret; exact ⟨rfl, by go_grown⟩)
    | (go_ret2; exact ⟨rfl, by go_grown⟩)
end Go.Proofs.YtmjflbleobmjdaaGreatDoor
