/-
  Layer 7, the document's side: one fix.
-/
import Derived.Test.YtepgifapepaheaaMDds
namespace Go.Proofs.Ytepgifapepaheaa
set_option linter.unusedVariables false
set_option linter.unusedSimpArgs false
open Go.ChangeShapes Go.WideShapes Go.ChangeAt Go.RowKit
attribute [local go_sem] Oc.at0 Oc.at1 Oc.at2 Oc.at3 Oc.at4 Oc.at5 Oc.at6 Oc.at7 Oc.at8 Oc.at9 Oc.at10 Oc.at11 Oc.at12
attribute [local go_sem ↓] loadO_seal

set_option maxHeartbeats 4000000 in
set_option maxRecDepth 20000 in
theorem fx_a1 (w : World) (c : Oc) (at_ m n : Int) (c0 : (c.co.n : Int) ≤ 140737488355328) (h0 : decide (at_ < 0) = true) : Calls Try.prog 84 #[.agg c.cells, .agg (xEnc (at_, (1 : Int), m, n))] w fun e w' => e = .returned (.bool (false)) ∧ Below w.heap.size w w' := by
  have hb : OAt (w.alloc (.cells c.cells 33)) w.heap.size c := blk_new _ _
  have hbe : Hid (Below w.heap.size w ((w.alloc (.cells c.cells 33)).alloc (.cells #[.int .i64 at_, .int .i64 (1 : Int), .int .i64 m, .int .i64 n] 56))) := hid_of (by go_grown)
  have r3 : (w.alloc (.cells c.cells 33)).cell? ⟨w.heap.size, 3, none⟩ = some (.slice c.co.a c.co.n c.co.c) := blk_cell hb 3
  clear hb
  unfold xEnc
  go_enter Try.func84, Try.ntmps84
  go_wp2
  go_ret
  exact ⟨rfl, hbe.out⟩
set_option maxHeartbeats 4000000 in
set_option maxRecDepth 20000 in
theorem fx_a2 (w : World) (c : Oc) (at_ k m n : Int) (k1 : (k != 1) = true) (c0 : (c.co.n : Int) ≤ 140737488355328) (h0 : decide (at_ < 0) = true) : Calls Try.prog 84 #[.agg c.cells, .agg (xEnc (at_, k, m, n))] w fun e w' => e = .returned (.bool (false)) ∧ Below w.heap.size w w' := by
  have hb : OAt (w.alloc (.cells c.cells 33)) w.heap.size c := blk_new _ _
  have hbe : Hid (Below w.heap.size w ((w.alloc (.cells c.cells 33)).alloc (.cells #[.int .i64 at_, .int .i64 k, .int .i64 m, .int .i64 n] 56))) := hid_of (by go_grown)
  have r3 : (w.alloc (.cells c.cells 33)).cell? ⟨w.heap.size, 3, none⟩ = some (.slice c.co.a c.co.n c.co.c) := blk_cell hb 3
  clear hb
  unfold xEnc
  go_enter Try.func84, Try.ntmps84
  go_wp2
  go_ret
  exact ⟨rfl, hbe.out⟩
set_option maxHeartbeats 4000000 in
set_option maxRecDepth 20000 in
theorem fx_b1 (w : World) (c : Oc) (at_ m n : Int) (c0 : (c.co.n : Int) ≤ 140737488355328) (h0 : decide (at_ < 0) = false) (h1 : decide ((c.co.n : Int) - 1 < at_) = true) : Calls Try.prog 84 #[.agg c.cells, .agg (xEnc (at_, (1 : Int), m, n))] w fun e w' => e = .returned (.bool (false)) ∧ Below w.heap.size w w' := by
  have hb : OAt (w.alloc (.cells c.cells 33)) w.heap.size c := blk_new _ _
  have hbe : Hid (Below w.heap.size w ((w.alloc (.cells c.cells 33)).alloc (.cells #[.int .i64 at_, .int .i64 (1 : Int), .int .i64 m, .int .i64 n] 56))) := hid_of (by go_grown)
  have r3 : (w.alloc (.cells c.cells 33)).cell? ⟨w.heap.size, 3, none⟩ = some (.slice c.co.a c.co.n c.co.c) := blk_cell hb 3
  clear hb
  unfold xEnc
  go_enter Try.func84, Try.ntmps84
  go_wp2
  go_ret
  exact ⟨rfl, hbe.out⟩
set_option maxHeartbeats 4000000 in
set_option maxRecDepth 20000 in
theorem fx_b2 (w : World) (c : Oc) (at_ k m n : Int) (k1 : (k != 1) = true) (c0 : (c.co.n : Int) ≤ 140737488355328) (h0 : decide (at_ < 0) = false) (h1 : decide ((c.co.n : Int) - 1 - 1 < at_) = true) : Calls Try.prog 84 #[.agg c.cells, .agg (xEnc (at_, k, m, n))] w fun e w' => e = .returned (.bool (false)) ∧ Below w.heap.size w w' := by
  have hb : OAt (w.alloc (.cells c.cells 33)) w.heap.size c := blk_new _ _
  have hbe : Hid (Below w.heap.size w ((w.alloc (.cells c.cells 33)).alloc (.cells #[.int .i64 at_, .int .i64 k, .int .i64 m, .int .i64 n] 56))) := hid_of (by go_grown)
  have r3 : (w.alloc (.cells c.cells 33)).cell? ⟨w.heap.size, 3, none⟩ = some (.slice c.co.a c.co.n c.co.c) := blk_cell hb 3
  clear hb
  unfold xEnc
  go_enter Try.func84, Try.ntmps84
  go_wp2
  go_ret
  exact ⟨rfl, hbe.out⟩
set_option maxHeartbeats 4000000 in
set_option maxRecDepth 20000 in
theorem fx_c2 (w : World) (c : Oc) (at_ k m n : Int) (k1 : (k != 1) = true) (c0 : (c.co.n : Int) ≤ 140737488355328) (h0 : decide (at_ < 0) = false) (h1 : decide ((c.co.n : Int) - 1 - 1 < at_) = false) (h2 : decide (k < 1) = true) : Calls Try.prog 84 #[.agg c.cells, .agg (xEnc (at_, k, m, n))] w fun e w' => e = .returned (.bool (false)) ∧ Below w.heap.size w w' := by
  have hb : OAt (w.alloc (.cells c.cells 33)) w.heap.size c := blk_new _ _
  have hbe : Hid (Below w.heap.size w ((w.alloc (.cells c.cells 33)).alloc (.cells #[.int .i64 at_, .int .i64 k, .int .i64 m, .int .i64 n] 56))) := hid_of (by go_grown)
  have r3 : (w.alloc (.cells c.cells 33)).cell? ⟨w.heap.size, 3, none⟩ = some (.slice c.co.a c.co.n c.co.c) := blk_cell hb 3
  clear hb
  unfold xEnc
  go_enter Try.func84, Try.ntmps84
  go_wp2
  go_ret
  exact ⟨rfl, hbe.out⟩
set_option maxHeartbeats 4000000 in
set_option maxRecDepth 20000 in
theorem fx_d2 (w : World) (c : Oc) (at_ k m n : Int) (k1 : (k != 1) = true) (c0 : (c.co.n : Int) ≤ 140737488355328) (h0 : decide (at_ < 0) = false) (h1 : decide ((c.co.n : Int) - 1 - 1 < at_) = false) (h2 : decide (k < 1) = false) (h3 : decide ((5 : Int) < k) = true) : Calls Try.prog 84 #[.agg c.cells, .agg (xEnc (at_, k, m, n))] w fun e w' => e = .returned (.bool (false)) ∧ Below w.heap.size w w' := by
  have hb : OAt (w.alloc (.cells c.cells 33)) w.heap.size c := blk_new _ _
  have hbe : Hid (Below w.heap.size w ((w.alloc (.cells c.cells 33)).alloc (.cells #[.int .i64 at_, .int .i64 k, .int .i64 m, .int .i64 n] 56))) := hid_of (by go_grown)
  have r3 : (w.alloc (.cells c.cells 33)).cell? ⟨w.heap.size, 3, none⟩ = some (.slice c.co.a c.co.n c.co.c) := blk_cell hb 3
  clear hb
  unfold xEnc
  go_enter Try.func84, Try.ntmps84
  go_wp2
  go_ret
  exact ⟨rfl, hbe.out⟩
set_option maxHeartbeats 4000000 in
set_option maxRecDepth 20000 in
theorem fx_e1 (w : World) (c : Oc) (at_ m n : Int) (c0 : (c.co.n : Int) ≤ 140737488355328) (h0 : decide (at_ < 0) = false) (h1 : decide ((c.co.n : Int) - 1 < at_) = false) (h2 : decide (m < -1) = true) : Calls Try.prog 84 #[.agg c.cells, .agg (xEnc (at_, (1 : Int), m, n))] w fun e w' => e = .returned (.bool (false)) ∧ Below w.heap.size w w' := by
  have hb : OAt (w.alloc (.cells c.cells 33)) w.heap.size c := blk_new _ _
  have hbe : Hid (Below w.heap.size w ((w.alloc (.cells c.cells 33)).alloc (.cells #[.int .i64 at_, .int .i64 (1 : Int), .int .i64 m, .int .i64 n] 56))) := hid_of (by go_grown)
  have r3 : (w.alloc (.cells c.cells 33)).cell? ⟨w.heap.size, 3, none⟩ = some (.slice c.co.a c.co.n c.co.c) := blk_cell hb 3
  clear hb
  unfold xEnc
  go_enter Try.func84, Try.ntmps84
  go_wp2
  go_ret
  exact ⟨rfl, hbe.out⟩
set_option maxHeartbeats 4000000 in
set_option maxRecDepth 20000 in
theorem fx_e2 (w : World) (c : Oc) (at_ k m n : Int) (k1 : (k != 1) = true) (c0 : (c.co.n : Int) ≤ 140737488355328) (h0 : decide (at_ < 0) = false) (h1 : decide ((c.co.n : Int) - 1 - 1 < at_) = false) (h2 : decide (k < 1) = false) (h3 : decide ((5 : Int) < k) = false) (h4 : decide (m < -1) = true) : Calls Try.prog 84 #[.agg c.cells, .agg (xEnc (at_, k, m, n))] w fun e w' => e = .returned (.bool (false)) ∧ Below w.heap.size w w' := by
  have hb : OAt (w.alloc (.cells c.cells 33)) w.heap.size c := blk_new _ _
  have hbe : Hid (Below w.heap.size w ((w.alloc (.cells c.cells 33)).alloc (.cells #[.int .i64 at_, .int .i64 k, .int .i64 m, .int .i64 n] 56))) := hid_of (by go_grown)
  have r3 : (w.alloc (.cells c.cells 33)).cell? ⟨w.heap.size, 3, none⟩ = some (.slice c.co.a c.co.n c.co.c) := blk_cell hb 3
  clear hb
  unfold xEnc
  go_enter Try.func84, Try.ntmps84
  go_wp2
  go_ret
  exact ⟨rfl, hbe.out⟩
set_option maxHeartbeats 4000000 in
set_option maxRecDepth 20000 in
theorem fx_f1 (w : World) (c : Oc) (at_ m n : Int) (c0 : (c.co.n : Int) ≤ 140737488355328) (h0 : decide (at_ < 0) = false) (h1 : decide ((c.co.n : Int) - 1 < at_) = false) (h2 : decide (m < -1) = false) (h3 : decide ((c.im.n : Int) ≤ m) = true) : Calls Try.prog 84 #[.agg c.cells, .agg (xEnc (at_, (1 : Int), m, n))] w fun e w' => e = .returned (.bool (false)) ∧ Below w.heap.size w w' := by
  have hb : OAt (w.alloc (.cells c.cells 33)) w.heap.size c := blk_new _ _
  have hbe : Hid (Below w.heap.size w ((w.alloc (.cells c.cells 33)).alloc (.cells #[.int .i64 at_, .int .i64 (1 : Int), .int .i64 m, .int .i64 n] 56))) := hid_of (by go_grown)
  have r2 : (w.alloc (.cells c.cells 33)).cell? ⟨w.heap.size, 2, none⟩ = some (.slice c.im.a c.im.n c.im.c) := blk_cell hb 2
  have r3 : (w.alloc (.cells c.cells 33)).cell? ⟨w.heap.size, 3, none⟩ = some (.slice c.co.a c.co.n c.co.c) := blk_cell hb 3
  clear hb
  unfold xEnc
  go_enter Try.func84, Try.ntmps84
  go_wp2
  go_ret
  exact ⟨rfl, hbe.out⟩
set_option maxHeartbeats 4000000 in
set_option maxRecDepth 20000 in
theorem fx_f2 (w : World) (c : Oc) (at_ k m n : Int) (k1 : (k != 1) = true) (c0 : (c.co.n : Int) ≤ 140737488355328) (h0 : decide (at_ < 0) = false) (h1 : decide ((c.co.n : Int) - 1 - 1 < at_) = false) (h2 : decide (k < 1) = false) (h3 : decide ((5 : Int) < k) = false) (h4 : decide (m < -1) = false) (h5 : decide ((c.im.n : Int) ≤ m) = true) : Calls Try.prog 84 #[.agg c.cells, .agg (xEnc (at_, k, m, n))] w fun e w' => e = .returned (.bool (false)) ∧ Below w.heap.size w w' := by
  have hb : OAt (w.alloc (.cells c.cells 33)) w.heap.size c := blk_new _ _
  have hbe : Hid (Below w.heap.size w ((w.alloc (.cells c.cells 33)).alloc (.cells #[.int .i64 at_, .int .i64 k, .int .i64 m, .int .i64 n] 56))) := hid_of (by go_grown)
  have r2 : (w.alloc (.cells c.cells 33)).cell? ⟨w.heap.size, 2, none⟩ = some (.slice c.im.a c.im.n c.im.c) := blk_cell hb 2
  have r3 : (w.alloc (.cells c.cells 33)).cell? ⟨w.heap.size, 3, none⟩ = some (.slice c.co.a c.co.n c.co.c) := blk_cell hb 3
  clear hb
  unfold xEnc
  go_enter Try.func84, Try.ntmps84
  go_wp2
  go_ret
  exact ⟨rfl, hbe.out⟩
set_option maxHeartbeats 4000000 in
set_option maxRecDepth 20000 in
theorem fx_g1 (w : World) (c : Oc) (at_ m n : Int) (c0 : (c.co.n : Int) ≤ 140737488355328) (h0 : decide (at_ < 0) = false) (h1 : decide ((c.co.n : Int) - 1 < at_) = false) (h2 : decide (m < -1) = false) (h3 : decide ((c.im.n : Int) ≤ m) = false) (h4 : decide (n < 0) = true) : Calls Try.prog 84 #[.agg c.cells, .agg (xEnc (at_, (1 : Int), m, n))] w fun e w' => e = .returned (.bool (false)) ∧ Below w.heap.size w w' := by
  have hb : OAt (w.alloc (.cells c.cells 33)) w.heap.size c := blk_new _ _
  have hbe : Hid (Below w.heap.size w ((w.alloc (.cells c.cells 33)).alloc (.cells #[.int .i64 at_, .int .i64 (1 : Int), .int .i64 m, .int .i64 n] 56))) := hid_of (by go_grown)
  have r2 : (w.alloc (.cells c.cells 33)).cell? ⟨w.heap.size, 2, none⟩ = some (.slice c.im.a c.im.n c.im.c) := blk_cell hb 2
  have r3 : (w.alloc (.cells c.cells 33)).cell? ⟨w.heap.size, 3, none⟩ = some (.slice c.co.a c.co.n c.co.c) := blk_cell hb 3
  clear hb
  unfold xEnc
  go_enter Try.func84, Try.ntmps84
  go_wp2
  go_ret
  exact ⟨rfl, hbe.out⟩
set_option maxHeartbeats 4000000 in
set_option maxRecDepth 20000 in
theorem fx_g2 (w : World) (c : Oc) (at_ k m n : Int) (k1 : (k != 1) = true) (c0 : (c.co.n : Int) ≤ 140737488355328) (h0 : decide (at_ < 0) = false) (h1 : decide ((c.co.n : Int) - 1 - 1 < at_) = false) (h2 : decide (k < 1) = false) (h3 : decide ((5 : Int) < k) = false) (h4 : decide (m < -1) = false) (h5 : decide ((c.im.n : Int) ≤ m) = false) (h6 : decide (n < 0) = true) : Calls Try.prog 84 #[.agg c.cells, .agg (xEnc (at_, k, m, n))] w fun e w' => e = .returned (.bool (false)) ∧ Below w.heap.size w w' := by
  have hb : OAt (w.alloc (.cells c.cells 33)) w.heap.size c := blk_new _ _
  have hbe : Hid (Below w.heap.size w ((w.alloc (.cells c.cells 33)).alloc (.cells #[.int .i64 at_, .int .i64 k, .int .i64 m, .int .i64 n] 56))) := hid_of (by go_grown)
  have r2 : (w.alloc (.cells c.cells 33)).cell? ⟨w.heap.size, 2, none⟩ = some (.slice c.im.a c.im.n c.im.c) := blk_cell hb 2
  have r3 : (w.alloc (.cells c.cells 33)).cell? ⟨w.heap.size, 3, none⟩ = some (.slice c.co.a c.co.n c.co.c) := blk_cell hb 3
  clear hb
  unfold xEnc
  go_enter Try.func84, Try.ntmps84
  go_wp2
  go_ret
  exact ⟨rfl, hbe.out⟩
set_option maxHeartbeats 4000000 in
set_option maxRecDepth 20000 in
theorem fx_u1 (w : World) (c : Oc) (at_ m n : Int) (c0 : (c.co.n : Int) ≤ 140737488355328) (h0 : decide (at_ < 0) = false) (h1 : decide ((c.co.n : Int) - 1 < at_) = false) (h2 : decide (m < -1) = false) (h3 : decide ((c.im.n : Int) ≤ m) = false) (h4 : decide (n < 0) = false) (h5 : decide ((0 : Int) ≤ m) = true) : Calls Try.prog 84 #[.agg c.cells, .agg (xEnc (at_, (1 : Int), m, n))] w fun e w' => e = .returned (.bool (decide (n < 100))) ∧ Below w.heap.size w w' := by
  have hb : OAt (w.alloc (.cells c.cells 33)) w.heap.size c := blk_new _ _
  have hbe : Hid (Below w.heap.size w ((w.alloc (.cells c.cells 33)).alloc (.cells #[.int .i64 at_, .int .i64 (1 : Int), .int .i64 m, .int .i64 n] 56))) := hid_of (by go_grown)
  have r2 : (w.alloc (.cells c.cells 33)).cell? ⟨w.heap.size, 2, none⟩ = some (.slice c.im.a c.im.n c.im.c) := blk_cell hb 2
  have r3 : (w.alloc (.cells c.cells 33)).cell? ⟨w.heap.size, 3, none⟩ = some (.slice c.co.a c.co.n c.co.c) := blk_cell hb 3
  clear hb
  unfold xEnc
  go_enter Try.func84, Try.ntmps84
  go_wp2
  go_ret
  exact ⟨rfl, hbe.out⟩
set_option maxHeartbeats 4000000 in
set_option maxRecDepth 20000 in
theorem fx_l1 (w : World) (c : Oc) (at_ m n : Int) (c0 : (c.co.n : Int) ≤ 140737488355328) (h0 : decide (at_ < 0) = false) (h1 : decide ((c.co.n : Int) - 1 < at_) = false) (h2 : decide (m < -1) = false) (h3 : decide ((c.im.n : Int) ≤ m) = false) (h4 : decide (n < 0) = false) (h5 : decide ((0 : Int) ≤ m) = false) : Calls Try.prog 84 #[.agg c.cells, .agg (xEnc (at_, (1 : Int), m, n))] w fun e w' => e = .returned (.bool (decide (n < (c.pr.n : Int)))) ∧ Below w.heap.size w w' := by
  have hb : OAt (w.alloc (.cells c.cells 33)) w.heap.size c := blk_new _ _
  have hbe : Hid (Below w.heap.size w ((w.alloc (.cells c.cells 33)).alloc (.cells #[.int .i64 at_, .int .i64 (1 : Int), .int .i64 m, .int .i64 n] 56))) := hid_of (by go_grown)
  have r2 : (w.alloc (.cells c.cells 33)).cell? ⟨w.heap.size, 2, none⟩ = some (.slice c.im.a c.im.n c.im.c) := blk_cell hb 2
  have r3 : (w.alloc (.cells c.cells 33)).cell? ⟨w.heap.size, 3, none⟩ = some (.slice c.co.a c.co.n c.co.c) := blk_cell hb 3
  have r4 : (w.alloc (.cells c.cells 33)).cell? ⟨w.heap.size, 4, none⟩ = some (.slice c.pr.a c.pr.n c.pr.c) := blk_cell hb 4
  clear hb
  unfold xEnc
  go_enter Try.func84, Try.ntmps84
  go_wp2
  go_ret
  exact ⟨rfl, hbe.out⟩
set_option maxHeartbeats 4000000 in
set_option maxRecDepth 20000 in
theorem fx_u2 (w : World) (c : Oc) (at_ m n : Int) (c0 : (c.co.n : Int) ≤ 140737488355328) (h0 : decide (at_ < 0) = false) (h1 : decide ((c.co.n : Int) - 1 - 1 < at_) = false) (h2 : decide (m < -1) = false) (h3 : decide ((c.im.n : Int) ≤ m) = false) (h4 : decide (n < 0) = false) (h5 : decide ((0 : Int) ≤ m) = true) : Calls Try.prog 84 #[.agg c.cells, .agg (xEnc (at_, (2 : Int), m, n))] w fun e w' => e = .returned (.bool (decide (n < 200))) ∧ Below w.heap.size w w' := by
  have hb : OAt (w.alloc (.cells c.cells 33)) w.heap.size c := blk_new _ _
  have hbe : Hid (Below w.heap.size w ((w.alloc (.cells c.cells 33)).alloc (.cells #[.int .i64 at_, .int .i64 (2 : Int), .int .i64 m, .int .i64 n] 56))) := hid_of (by go_grown)
  have r2 : (w.alloc (.cells c.cells 33)).cell? ⟨w.heap.size, 2, none⟩ = some (.slice c.im.a c.im.n c.im.c) := blk_cell hb 2
  have r3 : (w.alloc (.cells c.cells 33)).cell? ⟨w.heap.size, 3, none⟩ = some (.slice c.co.a c.co.n c.co.c) := blk_cell hb 3
  clear hb
  unfold xEnc
  go_enter Try.func84, Try.ntmps84
  go_wp2
  go_ret
  exact ⟨rfl, hbe.out⟩
set_option maxHeartbeats 4000000 in
set_option maxRecDepth 20000 in
theorem fx_l2 (w : World) (c : Oc) (at_ m n : Int) (c0 : (c.co.n : Int) ≤ 140737488355328) (h0 : decide (at_ < 0) = false) (h1 : decide ((c.co.n : Int) - 1 - 1 < at_) = false) (h2 : decide (m < -1) = false) (h3 : decide ((c.im.n : Int) ≤ m) = false) (h4 : decide (n < 0) = false) (h5 : decide ((0 : Int) ≤ m) = false) : Calls Try.prog 84 #[.agg c.cells, .agg (xEnc (at_, (2 : Int), m, n))] w fun e w' => e = .returned (.bool (decide (n < (c.va.n : Int)))) ∧ Below w.heap.size w w' := by
  have hb : OAt (w.alloc (.cells c.cells 33)) w.heap.size c := blk_new _ _
  have hbe : Hid (Below w.heap.size w ((w.alloc (.cells c.cells 33)).alloc (.cells #[.int .i64 at_, .int .i64 (2 : Int), .int .i64 m, .int .i64 n] 56))) := hid_of (by go_grown)
  have r2 : (w.alloc (.cells c.cells 33)).cell? ⟨w.heap.size, 2, none⟩ = some (.slice c.im.a c.im.n c.im.c) := blk_cell hb 2
  have r3 : (w.alloc (.cells c.cells 33)).cell? ⟨w.heap.size, 3, none⟩ = some (.slice c.co.a c.co.n c.co.c) := blk_cell hb 3
  have r8 : (w.alloc (.cells c.cells 33)).cell? ⟨w.heap.size, 8, none⟩ = some (.slice c.va.a c.va.n c.va.c) := blk_cell hb 8
  clear hb
  unfold xEnc
  go_enter Try.func84, Try.ntmps84
  go_wp2
  go_ret
  exact ⟨rfl, hbe.out⟩
set_option maxHeartbeats 4000000 in
set_option maxRecDepth 20000 in
theorem fx_u3 (w : World) (c : Oc) (at_ m n : Int) (c0 : (c.co.n : Int) ≤ 140737488355328) (h0 : decide (at_ < 0) = false) (h1 : decide ((c.co.n : Int) - 1 - 1 < at_) = false) (h2 : decide (m < -1) = false) (h3 : decide ((c.im.n : Int) ≤ m) = false) (h4 : decide (n < 0) = false) (h5 : decide ((0 : Int) ≤ m) = true) : Calls Try.prog 84 #[.agg c.cells, .agg (xEnc (at_, (3 : Int), m, n))] w fun e w' => e = .returned (.bool (false)) ∧ Below w.heap.size w w' := by
  have hb : OAt (w.alloc (.cells c.cells 33)) w.heap.size c := blk_new _ _
  have hbe : Hid (Below w.heap.size w ((w.alloc (.cells c.cells 33)).alloc (.cells #[.int .i64 at_, .int .i64 (3 : Int), .int .i64 m, .int .i64 n] 56))) := hid_of (by go_grown)
  have r2 : (w.alloc (.cells c.cells 33)).cell? ⟨w.heap.size, 2, none⟩ = some (.slice c.im.a c.im.n c.im.c) := blk_cell hb 2
  have r3 : (w.alloc (.cells c.cells 33)).cell? ⟨w.heap.size, 3, none⟩ = some (.slice c.co.a c.co.n c.co.c) := blk_cell hb 3
  clear hb
  unfold xEnc
  go_enter Try.func84, Try.ntmps84
  go_wp2
  go_ret
  exact ⟨rfl, hbe.out⟩
set_option maxHeartbeats 4000000 in
set_option maxRecDepth 20000 in
theorem fx_l3 (w : World) (c : Oc) (at_ m n : Int) (c0 : (c.co.n : Int) ≤ 140737488355328) (h0 : decide (at_ < 0) = false) (h1 : decide ((c.co.n : Int) - 1 - 1 < at_) = false) (h2 : decide (m < -1) = false) (h3 : decide ((c.im.n : Int) ≤ m) = false) (h4 : decide (n < 0) = false) (h5 : decide ((0 : Int) ≤ m) = false) : Calls Try.prog 84 #[.agg c.cells, .agg (xEnc (at_, (3 : Int), m, n))] w fun e w' => e = .returned (.bool (decide (n < (c.st.n : Int)))) ∧ Below w.heap.size w w' := by
  have hb : OAt (w.alloc (.cells c.cells 33)) w.heap.size c := blk_new _ _
  have hbe : Hid (Below w.heap.size w ((w.alloc (.cells c.cells 33)).alloc (.cells #[.int .i64 at_, .int .i64 (3 : Int), .int .i64 m, .int .i64 n] 56))) := hid_of (by go_grown)
  have r2 : (w.alloc (.cells c.cells 33)).cell? ⟨w.heap.size, 2, none⟩ = some (.slice c.im.a c.im.n c.im.c) := blk_cell hb 2
  have r3 : (w.alloc (.cells c.cells 33)).cell? ⟨w.heap.size, 3, none⟩ = some (.slice c.co.a c.co.n c.co.c) := blk_cell hb 3
  have r10 : (w.alloc (.cells c.cells 33)).cell? ⟨w.heap.size, 10, none⟩ = some (.slice c.st.a c.st.n c.st.c) := blk_cell hb 10
  clear hb
  unfold xEnc
  go_enter Try.func84, Try.ntmps84
  go_wp2
  go_ret
  exact ⟨rfl, hbe.out⟩
set_option maxHeartbeats 4000000 in
set_option maxRecDepth 20000 in
theorem fx_u4 (w : World) (c : Oc) (at_ m n : Int) (c0 : (c.co.n : Int) ≤ 140737488355328) (h0 : decide (at_ < 0) = false) (h1 : decide ((c.co.n : Int) - 1 - 1 < at_) = false) (h2 : decide (m < -1) = false) (h3 : decide ((c.im.n : Int) ≤ m) = false) (h4 : decide (n < 0) = false) (h5 : decide ((0 : Int) ≤ m) = true) : Calls Try.prog 84 #[.agg c.cells, .agg (xEnc (at_, (4 : Int), m, n))] w fun e w' => e = .returned (.bool (false)) ∧ Below w.heap.size w w' := by
  have hb : OAt (w.alloc (.cells c.cells 33)) w.heap.size c := blk_new _ _
  have hbe : Hid (Below w.heap.size w ((w.alloc (.cells c.cells 33)).alloc (.cells #[.int .i64 at_, .int .i64 (4 : Int), .int .i64 m, .int .i64 n] 56))) := hid_of (by go_grown)
  have r2 : (w.alloc (.cells c.cells 33)).cell? ⟨w.heap.size, 2, none⟩ = some (.slice c.im.a c.im.n c.im.c) := blk_cell hb 2
  have r3 : (w.alloc (.cells c.cells 33)).cell? ⟨w.heap.size, 3, none⟩ = some (.slice c.co.a c.co.n c.co.c) := blk_cell hb 3
  clear hb
  unfold xEnc
  go_enter Try.func84, Try.ntmps84
  go_wp2
  go_ret
  exact ⟨rfl, hbe.out⟩
set_option maxHeartbeats 4000000 in
set_option maxRecDepth 20000 in
theorem fx_l4 (w : World) (c : Oc) (at_ m n : Int) (c0 : (c.co.n : Int) ≤ 140737488355328) (h0 : decide (at_ < 0) = false) (h1 : decide ((c.co.n : Int) - 1 - 1 < at_) = false) (h2 : decide (m < -1) = false) (h3 : decide ((c.im.n : Int) ≤ m) = false) (h4 : decide (n < 0) = false) (h5 : decide ((0 : Int) ≤ m) = false) (b : Bool) (D : Hid (∀ X, Below w.heap.size w X → Calls Try.prog 94 #[.slice c.ds.a c.ds.n c.ds.c, .int .i64 n] X fun e w' => e = .returned (.bool b) ∧ w' = X)) : Calls Try.prog 84 #[.agg c.cells, .agg (xEnc (at_, (4 : Int), m, n))] w fun e w' => e = .returned (.bool (b)) ∧ Below w.heap.size w w' := by
  have hb : OAt (w.alloc (.cells c.cells 33)) w.heap.size c := blk_new _ _
  have hbe : Hid (Below w.heap.size w ((w.alloc (.cells c.cells 33)).alloc (.cells #[.int .i64 at_, .int .i64 (4 : Int), .int .i64 m, .int .i64 n] 56))) := hid_of (by go_grown)
  have r2 : (w.alloc (.cells c.cells 33)).cell? ⟨w.heap.size, 2, none⟩ = some (.slice c.im.a c.im.n c.im.c) := blk_cell hb 2
  have r3 : (w.alloc (.cells c.cells 33)).cell? ⟨w.heap.size, 3, none⟩ = some (.slice c.co.a c.co.n c.co.c) := blk_cell hb 3
  have r11 : (w.alloc (.cells c.cells 33)).cell? ⟨w.heap.size, 11, none⟩ = some (.slice c.ds.a c.ds.n c.ds.c) := blk_cell hb 11
  clear hb
  unfold xEnc
  go_enter Try.func84, Try.ntmps84
  go_wp2_with (go_at_call 94; refine (D.out _ hbe.out).mono ?_; rintro e w1 ⟨rfl, hw⟩; rw [hw]; clear hw)
  go_ret
  exact ⟨rfl, hbe.out⟩
set_option maxHeartbeats 4000000 in
set_option maxRecDepth 20000 in
theorem fx_u5 (w : World) (c : Oc) (at_ m n : Int) (c0 : (c.co.n : Int) ≤ 140737488355328) (h0 : decide (at_ < 0) = false) (h1 : decide ((c.co.n : Int) - 1 - 1 < at_) = false) (h2 : decide (m < -1) = false) (h3 : decide ((c.im.n : Int) ≤ m) = false) (h4 : decide (n < 0) = false) (h5 : decide ((0 : Int) ≤ m) = true) : Calls Try.prog 84 #[.agg c.cells, .agg (xEnc (at_, (5 : Int), m, n))] w fun e w' => e = .returned (.bool (decide (n < 100))) ∧ Below w.heap.size w w' := by
  have hb : OAt (w.alloc (.cells c.cells 33)) w.heap.size c := blk_new _ _
  have hbe : Hid (Below w.heap.size w ((w.alloc (.cells c.cells 33)).alloc (.cells #[.int .i64 at_, .int .i64 (5 : Int), .int .i64 m, .int .i64 n] 56))) := hid_of (by go_grown)
  have r2 : (w.alloc (.cells c.cells 33)).cell? ⟨w.heap.size, 2, none⟩ = some (.slice c.im.a c.im.n c.im.c) := blk_cell hb 2
  have r3 : (w.alloc (.cells c.cells 33)).cell? ⟨w.heap.size, 3, none⟩ = some (.slice c.co.a c.co.n c.co.c) := blk_cell hb 3
  clear hb
  unfold xEnc
  go_enter Try.func84, Try.ntmps84
  go_wp2
  go_ret
  exact ⟨rfl, hbe.out⟩
set_option maxHeartbeats 4000000 in
set_option maxRecDepth 20000 in
theorem fx_l5 (w : World) (c : Oc) (at_ m n : Int) (c0 : (c.co.n : Int) ≤ 140737488355328) (h0 : decide (at_ < 0) = false) (h1 : decide ((c.co.n : Int) - 1 - 1 < at_) = false) (h2 : decide (m < -1) = false) (h3 : decide ((c.im.n : Int) ≤ m) = false) (h4 : decide (n < 0) = false) (h5 : decide ((0 : Int) ≤ m) = false) : Calls Try.prog 84 #[.agg c.cells, .agg (xEnc (at_, (5 : Int), m, n))] w fun e w' => e = .returned (.bool (decide (n < (c.pr.n : Int)))) ∧ Below w.heap.size w w' := by
  have hb : OAt (w.alloc (.cells c.cells 33)) w.heap.size c := blk_new _ _
  have hbe : Hid (Below w.heap.size w ((w.alloc (.cells c.cells 33)).alloc (.cells #[.int .i64 at_, .int .i64 (5 : Int), .int .i64 m, .int .i64 n] 56))) := hid_of (by go_grown)
  have r2 : (w.alloc (.cells c.cells 33)).cell? ⟨w.heap.size, 2, none⟩ = some (.slice c.im.a c.im.n c.im.c) := blk_cell hb 2
  have r3 : (w.alloc (.cells c.cells 33)).cell? ⟨w.heap.size, 3, none⟩ = some (.slice c.co.a c.co.n c.co.c) := blk_cell hb 3
  have r4 : (w.alloc (.cells c.cells 33)).cell? ⟨w.heap.size, 4, none⟩ = some (.slice c.pr.a c.pr.n c.pr.c) := blk_cell hb 4
  clear hb
  unfold xEnc
  go_enter Try.func84, Try.ntmps84
  go_wp2
  go_ret
  exact ⟨rfl, hbe.out⟩
theorem rfix_any (w : World) (c : Oc) (o : Ob) (h : ObR w c o) (x : Int × Int × Int × Int) : Calls Try.prog 84 #[.agg c.cells, .agg (xEnc x)] w fun e w' => e = .returned (.bool (rfixB o x)) ∧ Below w.heap.size w w' := by
  obtain ⟨at_, k, m, n⟩ := x
  obtain ⟨l, e1, e2, e3⟩ := h.ds
  have c0 : (c.co.n : Int) ≤ 140737488355328 := by have := h.co.most; have := h.co.len; omega
  have lc : (c.co.n : Int) = o.code.length := by rw [h.co.len]
  have li : (c.im.n : Int) = o.imps.length := by rw [h.im.len]
  have lp : (c.pr.n : Int) = o.procs.length := by rw [h.pr.len]
  have lv : (c.va.n : Int) = o.vars.length := by rw [h.va.len]
  have ls : (c.st.n : Int) = o.strs.length := by rw [h.st.len]
  have D : Hid (∀ X, Below w.heap.size w X → Calls Try.prog 94 #[.slice c.ds.a c.ds.n c.ds.c, .int .i64 n] X fun e w' => e = .returned (.bool ((o.descs.map (·.1)).contains n)) ∧ w' = X) := hid_of fun X hX => by
    have hd : l.map (·.1.1) = o.descs.map (·.1) := by rw [← e1, List.map_map]; rfl
    rw [← hd]
    exact rdesc_any X c.ds l (e2.below hX) n
  generalize hbb : (o.descs.map (·.1)).contains n = b at D
  have no : ∀ {P : Bool}, (P = true → False) → P = false := fun {P} hP => by cases P <;> simp_all
  by_cases k1 : k = 1
  · subst k1
    by_cases qa : at_ < 0
    · have hr : rfixB o (at_, 1, m, n) = false := no fun hh => by unfold rfixB at hh; simp only [Bool.and_eq_true, decide_eq_true_eq, if_true] at hh; omega
      rw [hr]; exact fx_a1 w c at_ m n c0  (decide_eq_true qa)
    by_cases qb : (c.co.n : Int) - 1 < at_
    · have hr : rfixB o (at_, 1, m, n) = false := no fun hh => by unfold rfixB at hh; simp only [Bool.and_eq_true, decide_eq_true_eq, if_true] at hh; omega
      rw [hr]; exact fx_b1 w c at_ m n c0 (decide_eq_false qa) (decide_eq_true qb)
    by_cases qe : m < -1
    · have hr : rfixB o (at_, 1, m, n) = false := no fun hh => by unfold rfixB at hh; simp only [Bool.and_eq_true, decide_eq_true_eq, if_true] at hh; omega
      rw [hr]; exact fx_e1 w c at_ m n c0 (decide_eq_false qa) (decide_eq_false qb) (decide_eq_true qe)
    by_cases qf : (c.im.n : Int) ≤ m
    · have hr : rfixB o (at_, 1, m, n) = false := no fun hh => by unfold rfixB at hh; simp only [Bool.and_eq_true, decide_eq_true_eq, if_true] at hh; omega
      rw [hr]; exact fx_f1 w c at_ m n c0 (decide_eq_false qa) (decide_eq_false qb) (decide_eq_false qe) (decide_eq_true qf)
    by_cases qg : n < 0
    · have hr : rfixB o (at_, 1, m, n) = false := no fun hh => by unfold rfixB at hh; simp only [Bool.and_eq_true, decide_eq_true_eq, if_true] at hh; omega
      rw [hr]; exact fx_g1 w c at_ m n c0 (decide_eq_false qa) (decide_eq_false qb) (decide_eq_false qe) (decide_eq_false qf) (decide_eq_true qg)
    by_cases qm : 0 ≤ m
    · have hr : rfixB o (at_, 1, m, n) = decide (n < 100) := by
        unfold rfixB rthingB; rw [Bool.eq_iff_iff]; simp [qm]; omega
      rw [hr]; exact fx_u1 w c at_ m n c0 (decide_eq_false qa) (decide_eq_false qb) (decide_eq_false qe) (decide_eq_false qf) (decide_eq_false qg) (decide_eq_true qm)
    · have hr : rfixB o (at_, 1, m, n) = decide (n < (c.pr.n : Int)) := by
        unfold rfixB rthingB; rw [Bool.eq_iff_iff]; simp [qm]; omega
      rw [hr]; exact fx_l1 w c at_ m n c0 (decide_eq_false qa) (decide_eq_false qb) (decide_eq_false qe) (decide_eq_false qf) (decide_eq_false qg) (decide_eq_false qm)
  ·
    by_cases qa : at_ < 0
    · have hr : rfixB o (at_, k, m, n) = false := no fun hh => by unfold rfixB at hh; simp only [Bool.and_eq_true, decide_eq_true_eq, if_neg k1] at hh; omega
      rw [hr]; exact fx_a2 w c at_ k m n (by simpa using k1) c0  (decide_eq_true qa)
    by_cases qb : (c.co.n : Int) - 1 - 1 < at_
    · have hr : rfixB o (at_, k, m, n) = false := no fun hh => by unfold rfixB at hh; simp only [Bool.and_eq_true, decide_eq_true_eq, if_neg k1] at hh; omega
      rw [hr]; exact fx_b2 w c at_ k m n (by simpa using k1) c0 (decide_eq_false qa) (decide_eq_true qb)
    by_cases qc : k < 1
    · have hr : rfixB o (at_, k, m, n) = false := no fun hh => by unfold rfixB at hh; simp only [Bool.and_eq_true, decide_eq_true_eq, if_neg k1] at hh; omega
      rw [hr]; exact fx_c2 w c at_ k m n (by simpa using k1) c0 (decide_eq_false qa) (decide_eq_false qb) (decide_eq_true qc)
    by_cases qd : 5 < k
    · have hr : rfixB o (at_, k, m, n) = false := no fun hh => by unfold rfixB at hh; simp only [Bool.and_eq_true, decide_eq_true_eq, if_neg k1] at hh; omega
      rw [hr]; exact fx_d2 w c at_ k m n (by simpa using k1) c0 (decide_eq_false qa) (decide_eq_false qb) (decide_eq_false qc) (decide_eq_true qd)
    by_cases qe : m < -1
    · have hr : rfixB o (at_, k, m, n) = false := no fun hh => by unfold rfixB at hh; simp only [Bool.and_eq_true, decide_eq_true_eq, if_neg k1] at hh; omega
      rw [hr]; exact fx_e2 w c at_ k m n (by simpa using k1) c0 (decide_eq_false qa) (decide_eq_false qb) (decide_eq_false qc) (decide_eq_false qd) (decide_eq_true qe)
    by_cases qf : (c.im.n : Int) ≤ m
    · have hr : rfixB o (at_, k, m, n) = false := no fun hh => by unfold rfixB at hh; simp only [Bool.and_eq_true, decide_eq_true_eq, if_neg k1] at hh; omega
      rw [hr]; exact fx_f2 w c at_ k m n (by simpa using k1) c0 (decide_eq_false qa) (decide_eq_false qb) (decide_eq_false qc) (decide_eq_false qd) (decide_eq_false qe) (decide_eq_true qf)
    by_cases qg : n < 0
    · have hr : rfixB o (at_, k, m, n) = false := no fun hh => by unfold rfixB at hh; simp only [Bool.and_eq_true, decide_eq_true_eq, if_neg k1] at hh; omega
      rw [hr]; exact fx_g2 w c at_ k m n (by simpa using k1) c0 (decide_eq_false qa) (decide_eq_false qb) (decide_eq_false qc) (decide_eq_false qd) (decide_eq_false qe) (decide_eq_false qf) (decide_eq_true qg)
    have hk : k = 2 ∨ k = 3 ∨ k = 4 ∨ k = 5 := by omega
    rcases hk with rfl | rfl | rfl | rfl
    ·
      by_cases qm : 0 ≤ m
      · have hr : rfixB o (at_, 2, m, n) = decide (n < 200) := by
          unfold rfixB rthingB; rw [Bool.eq_iff_iff]; simp [qm]; omega
        rw [hr]; exact fx_u2 w c at_ m n c0 (decide_eq_false qa) (decide_eq_false qb) (decide_eq_false qe) (decide_eq_false qf) (decide_eq_false qg) (decide_eq_true qm)
      · have hr : rfixB o (at_, 2, m, n) = decide (n < (c.va.n : Int)) := by
          unfold rfixB rthingB; rw [Bool.eq_iff_iff]; simp [qm]; omega
        rw [hr]; exact fx_l2 w c at_ m n c0 (decide_eq_false qa) (decide_eq_false qb) (decide_eq_false qe) (decide_eq_false qf) (decide_eq_false qg) (decide_eq_false qm)
    ·
      by_cases qm : 0 ≤ m
      · have hr : rfixB o (at_, 3, m, n) = false := by
          unfold rfixB rthingB; simp [qm]
        rw [hr]; exact fx_u3 w c at_ m n c0 (decide_eq_false qa) (decide_eq_false qb) (decide_eq_false qe) (decide_eq_false qf) (decide_eq_false qg) (decide_eq_true qm)
      · have hr : rfixB o (at_, 3, m, n) = decide (n < (c.st.n : Int)) := by
          unfold rfixB rthingB; rw [Bool.eq_iff_iff]; simp [qm]; omega
        rw [hr]; exact fx_l3 w c at_ m n c0 (decide_eq_false qa) (decide_eq_false qb) (decide_eq_false qe) (decide_eq_false qf) (decide_eq_false qg) (decide_eq_false qm)
    ·
      by_cases qm : 0 ≤ m
      · have hr : rfixB o (at_, 4, m, n) = false := by
          unfold rfixB rthingB; simp [qm]
        rw [hr]; exact fx_u4 w c at_ m n c0 (decide_eq_false qa) (decide_eq_false qb) (decide_eq_false qe) (decide_eq_false qf) (decide_eq_false qg) (decide_eq_true qm)
      · have hr : rfixB o (at_, 4, m, n) = b := by
          unfold rfixB rthingB; rw [Bool.eq_iff_iff]; simp only [if_neg qm, Bool.and_eq_true, decide_eq_true_eq, hbb]; simp; intro; omega
        rw [hr]; exact fx_l4 w c at_ m n c0 (decide_eq_false qa) (decide_eq_false qb) (decide_eq_false qe) (decide_eq_false qf) (decide_eq_false qg) (decide_eq_false qm) b D
    ·
      by_cases qm : 0 ≤ m
      · have hr : rfixB o (at_, 5, m, n) = decide (n < 100) := by
          unfold rfixB rthingB; rw [Bool.eq_iff_iff]; simp [qm]; omega
        rw [hr]; exact fx_u5 w c at_ m n c0 (decide_eq_false qa) (decide_eq_false qb) (decide_eq_false qe) (decide_eq_false qf) (decide_eq_false qg) (decide_eq_true qm)
      · have hr : rfixB o (at_, 5, m, n) = decide (n < (c.pr.n : Int)) := by
          unfold rfixB rthingB; rw [Bool.eq_iff_iff]; simp [qm]; omega
        rw [hr]; exact fx_l5 w c at_ m n c0 (decide_eq_false qa) (decide_eq_false qb) (decide_eq_false qe) (decide_eq_false qf) (decide_eq_false qg) (decide_eq_false qm)
end Go.Proofs.Ytepgifapepaheaa
