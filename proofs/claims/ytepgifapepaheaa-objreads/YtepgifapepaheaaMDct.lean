/-
  Layer 7, the document's side: how many there may be.
-/
import Derived.Test.YtepgifapepaheaaMDds
namespace Go.Proofs.Ytepgifapepaheaa
set_option linter.unusedVariables false
set_option linter.unusedSimpArgs false
open Go.ChangeShapes Go.WideShapes Go.ChangeAt Go.RowKit
attribute [local go_sem] Oc.at0 Oc.at1 Oc.at2 Oc.at3 Oc.at4 Oc.at5 Oc.at6 Oc.at7 Oc.at8 Oc.at9 Oc.at10 Oc.at11 Oc.at12
attribute [local go_sem ↓] loadO_seal

def countsC (c : Oc) : Bool := decide ((c.im.n : Int) ≤ 16) && (decide ((1 : Int) ≤ (c.co.n : Int)) && (decide ((c.co.n : Int) ≤ 65536) && (decide ((c.pr.n : Int) ≤ 100) && (((c.na.n : Int) == (c.pr.n : Int)) && (((c.ex.n : Int) == (c.pr.n : Int)) && (decide ((c.va.n : Int) ≤ 200) && (decide ((c.sh.n : Int) ≤ (c.va.n : Int)) && (decide ((c.st.n : Int) ≤ 200) && (decide ((c.ds.n : Int) ≤ 200) && (decide ((c.fx.n : Int) ≤ 65536)))))))))))
theorem counts_c {w : World} {c : Oc} {o : Ob} (h : ObR w c o) : countsB o = countsC c := by
  obtain ⟨l, e1, e2, e3⟩ := h.ds
  have hd : c.ds.n = o.descs.length := by rw [e2.len, ← e1, List.length_map]
  unfold countsB countsC
  rw [h.im.len, h.co.len, h.pr.len, h.na.len, h.ex.len, h.va.len, h.sh.len, h.st.len, hd, h.fx.len]
  have q1 : decide (o.names.length = o.procs.length) = (((o.names.length : Nat) : Int) == ((o.procs.length : Nat) : Int)) := by rw [Bool.eq_iff_iff, decide_eq_true_eq, beq_iff_eq]; omega
  have q2 : decide (o.exps.length = o.procs.length) = (((o.exps.length : Nat) : Int) == ((o.procs.length : Nat) : Int)) := by rw [Bool.eq_iff_iff, decide_eq_true_eq, beq_iff_eq]; omega
  rw [q1, q2]
  simp only [Bool.and_assoc]

set_option maxHeartbeats 4000000 in
set_option maxRecDepth 20000 in
theorem cnt_0 (w : World) (c : Oc) (d0 : decide ((c.im.n : Int) ≤ 16) = false) : Calls Try.prog 81 #[.agg c.cells] w fun e w' => e = .returned (.bool false) ∧ Below w.heap.size w w' := by
  have hb : OAt (w.alloc (.cells c.cells 33)) w.heap.size c := blk_new _ _
  have hbe : Hid (Below w.heap.size w (w.alloc (.cells c.cells 33))) := hid_of (by go_grown)
  have r2 : (w.alloc (.cells c.cells 33)).cell? ⟨w.heap.size, 2, none⟩ = some (.slice c.im.a c.im.n c.im.c) := blk_cell hb 2
  clear hb
  go_enter Try.func81, Try.ntmps81
  go_wp2
  go_ret
  exact ⟨rfl, hbe.out⟩
set_option maxHeartbeats 4000000 in
set_option maxRecDepth 20000 in
theorem cnt_1 (w : World) (c : Oc) (d0 : decide ((c.im.n : Int) ≤ 16) = true) (d1 : decide ((1 : Int) ≤ (c.co.n : Int)) = false) : Calls Try.prog 81 #[.agg c.cells] w fun e w' => e = .returned (.bool false) ∧ Below w.heap.size w w' := by
  have hb : OAt (w.alloc (.cells c.cells 33)) w.heap.size c := blk_new _ _
  have hbe : Hid (Below w.heap.size w (w.alloc (.cells c.cells 33))) := hid_of (by go_grown)
  have r2 : (w.alloc (.cells c.cells 33)).cell? ⟨w.heap.size, 2, none⟩ = some (.slice c.im.a c.im.n c.im.c) := blk_cell hb 2
  have r3 : (w.alloc (.cells c.cells 33)).cell? ⟨w.heap.size, 3, none⟩ = some (.slice c.co.a c.co.n c.co.c) := blk_cell hb 3
  clear hb
  go_enter Try.func81, Try.ntmps81
  go_wp2
  go_ret
  exact ⟨rfl, hbe.out⟩
set_option maxHeartbeats 4000000 in
set_option maxRecDepth 20000 in
theorem cnt_2 (w : World) (c : Oc) (d0 : decide ((c.im.n : Int) ≤ 16) = true) (d1 : decide ((1 : Int) ≤ (c.co.n : Int)) = true) (d2 : decide ((c.co.n : Int) ≤ 65536) = false) : Calls Try.prog 81 #[.agg c.cells] w fun e w' => e = .returned (.bool false) ∧ Below w.heap.size w w' := by
  have hb : OAt (w.alloc (.cells c.cells 33)) w.heap.size c := blk_new _ _
  have hbe : Hid (Below w.heap.size w (w.alloc (.cells c.cells 33))) := hid_of (by go_grown)
  have r2 : (w.alloc (.cells c.cells 33)).cell? ⟨w.heap.size, 2, none⟩ = some (.slice c.im.a c.im.n c.im.c) := blk_cell hb 2
  have r3 : (w.alloc (.cells c.cells 33)).cell? ⟨w.heap.size, 3, none⟩ = some (.slice c.co.a c.co.n c.co.c) := blk_cell hb 3
  clear hb
  go_enter Try.func81, Try.ntmps81
  go_wp2
  go_ret
  exact ⟨rfl, hbe.out⟩
set_option maxHeartbeats 4000000 in
set_option maxRecDepth 20000 in
theorem cnt_3 (w : World) (c : Oc) (d0 : decide ((c.im.n : Int) ≤ 16) = true) (d1 : decide ((1 : Int) ≤ (c.co.n : Int)) = true) (d2 : decide ((c.co.n : Int) ≤ 65536) = true) (d3 : decide ((c.pr.n : Int) ≤ 100) = false) : Calls Try.prog 81 #[.agg c.cells] w fun e w' => e = .returned (.bool false) ∧ Below w.heap.size w w' := by
  have hb : OAt (w.alloc (.cells c.cells 33)) w.heap.size c := blk_new _ _
  have hbe : Hid (Below w.heap.size w (w.alloc (.cells c.cells 33))) := hid_of (by go_grown)
  have r2 : (w.alloc (.cells c.cells 33)).cell? ⟨w.heap.size, 2, none⟩ = some (.slice c.im.a c.im.n c.im.c) := blk_cell hb 2
  have r3 : (w.alloc (.cells c.cells 33)).cell? ⟨w.heap.size, 3, none⟩ = some (.slice c.co.a c.co.n c.co.c) := blk_cell hb 3
  have r4 : (w.alloc (.cells c.cells 33)).cell? ⟨w.heap.size, 4, none⟩ = some (.slice c.pr.a c.pr.n c.pr.c) := blk_cell hb 4
  clear hb
  go_enter Try.func81, Try.ntmps81
  go_wp2
  go_ret
  exact ⟨rfl, hbe.out⟩
set_option maxHeartbeats 4000000 in
set_option maxRecDepth 20000 in
theorem cnt_4 (w : World) (c : Oc) (d0 : decide ((c.im.n : Int) ≤ 16) = true) (d1 : decide ((1 : Int) ≤ (c.co.n : Int)) = true) (d2 : decide ((c.co.n : Int) ≤ 65536) = true) (d3 : decide ((c.pr.n : Int) ≤ 100) = true) (d4 : ((c.na.n : Int) == (c.pr.n : Int)) = false) : Calls Try.prog 81 #[.agg c.cells] w fun e w' => e = .returned (.bool false) ∧ Below w.heap.size w w' := by
  have hb : OAt (w.alloc (.cells c.cells 33)) w.heap.size c := blk_new _ _
  have hbe : Hid (Below w.heap.size w (w.alloc (.cells c.cells 33))) := hid_of (by go_grown)
  have r2 : (w.alloc (.cells c.cells 33)).cell? ⟨w.heap.size, 2, none⟩ = some (.slice c.im.a c.im.n c.im.c) := blk_cell hb 2
  have r3 : (w.alloc (.cells c.cells 33)).cell? ⟨w.heap.size, 3, none⟩ = some (.slice c.co.a c.co.n c.co.c) := blk_cell hb 3
  have r4 : (w.alloc (.cells c.cells 33)).cell? ⟨w.heap.size, 4, none⟩ = some (.slice c.pr.a c.pr.n c.pr.c) := blk_cell hb 4
  have r5 : (w.alloc (.cells c.cells 33)).cell? ⟨w.heap.size, 5, none⟩ = some (.slice c.na.a c.na.n c.na.c) := blk_cell hb 5
  clear hb
  go_enter Try.func81, Try.ntmps81
  go_wp2
  go_ret
  exact ⟨rfl, hbe.out⟩
set_option maxHeartbeats 4000000 in
set_option maxRecDepth 20000 in
theorem cnt_5 (w : World) (c : Oc) (d0 : decide ((c.im.n : Int) ≤ 16) = true) (d1 : decide ((1 : Int) ≤ (c.co.n : Int)) = true) (d2 : decide ((c.co.n : Int) ≤ 65536) = true) (d3 : decide ((c.pr.n : Int) ≤ 100) = true) (d4 : ((c.na.n : Int) == (c.pr.n : Int)) = true) (d5 : ((c.ex.n : Int) == (c.pr.n : Int)) = false) : Calls Try.prog 81 #[.agg c.cells] w fun e w' => e = .returned (.bool false) ∧ Below w.heap.size w w' := by
  have hb : OAt (w.alloc (.cells c.cells 33)) w.heap.size c := blk_new _ _
  have hbe : Hid (Below w.heap.size w (w.alloc (.cells c.cells 33))) := hid_of (by go_grown)
  have r2 : (w.alloc (.cells c.cells 33)).cell? ⟨w.heap.size, 2, none⟩ = some (.slice c.im.a c.im.n c.im.c) := blk_cell hb 2
  have r3 : (w.alloc (.cells c.cells 33)).cell? ⟨w.heap.size, 3, none⟩ = some (.slice c.co.a c.co.n c.co.c) := blk_cell hb 3
  have r4 : (w.alloc (.cells c.cells 33)).cell? ⟨w.heap.size, 4, none⟩ = some (.slice c.pr.a c.pr.n c.pr.c) := blk_cell hb 4
  have r5 : (w.alloc (.cells c.cells 33)).cell? ⟨w.heap.size, 5, none⟩ = some (.slice c.na.a c.na.n c.na.c) := blk_cell hb 5
  have r6 : (w.alloc (.cells c.cells 33)).cell? ⟨w.heap.size, 6, none⟩ = some (.slice c.ex.a c.ex.n c.ex.c) := blk_cell hb 6
  clear hb
  go_enter Try.func81, Try.ntmps81
  go_wp2
  go_ret
  exact ⟨rfl, hbe.out⟩
set_option maxHeartbeats 4000000 in
set_option maxRecDepth 20000 in
theorem cnt_6 (w : World) (c : Oc) (d0 : decide ((c.im.n : Int) ≤ 16) = true) (d1 : decide ((1 : Int) ≤ (c.co.n : Int)) = true) (d2 : decide ((c.co.n : Int) ≤ 65536) = true) (d3 : decide ((c.pr.n : Int) ≤ 100) = true) (d4 : ((c.na.n : Int) == (c.pr.n : Int)) = true) (d5 : ((c.ex.n : Int) == (c.pr.n : Int)) = true) (d6 : decide ((c.va.n : Int) ≤ 200) = false) : Calls Try.prog 81 #[.agg c.cells] w fun e w' => e = .returned (.bool false) ∧ Below w.heap.size w w' := by
  have hb : OAt (w.alloc (.cells c.cells 33)) w.heap.size c := blk_new _ _
  have hbe : Hid (Below w.heap.size w (w.alloc (.cells c.cells 33))) := hid_of (by go_grown)
  have r2 : (w.alloc (.cells c.cells 33)).cell? ⟨w.heap.size, 2, none⟩ = some (.slice c.im.a c.im.n c.im.c) := blk_cell hb 2
  have r3 : (w.alloc (.cells c.cells 33)).cell? ⟨w.heap.size, 3, none⟩ = some (.slice c.co.a c.co.n c.co.c) := blk_cell hb 3
  have r4 : (w.alloc (.cells c.cells 33)).cell? ⟨w.heap.size, 4, none⟩ = some (.slice c.pr.a c.pr.n c.pr.c) := blk_cell hb 4
  have r5 : (w.alloc (.cells c.cells 33)).cell? ⟨w.heap.size, 5, none⟩ = some (.slice c.na.a c.na.n c.na.c) := blk_cell hb 5
  have r6 : (w.alloc (.cells c.cells 33)).cell? ⟨w.heap.size, 6, none⟩ = some (.slice c.ex.a c.ex.n c.ex.c) := blk_cell hb 6
  have r8 : (w.alloc (.cells c.cells 33)).cell? ⟨w.heap.size, 8, none⟩ = some (.slice c.va.a c.va.n c.va.c) := blk_cell hb 8
  clear hb
  go_enter Try.func81, Try.ntmps81
  go_wp2
  go_ret
  exact ⟨rfl, hbe.out⟩
set_option maxHeartbeats 4000000 in
set_option maxRecDepth 20000 in
theorem cnt_7 (w : World) (c : Oc) (d0 : decide ((c.im.n : Int) ≤ 16) = true) (d1 : decide ((1 : Int) ≤ (c.co.n : Int)) = true) (d2 : decide ((c.co.n : Int) ≤ 65536) = true) (d3 : decide ((c.pr.n : Int) ≤ 100) = true) (d4 : ((c.na.n : Int) == (c.pr.n : Int)) = true) (d5 : ((c.ex.n : Int) == (c.pr.n : Int)) = true) (d6 : decide ((c.va.n : Int) ≤ 200) = true) (d7 : decide ((c.sh.n : Int) ≤ (c.va.n : Int)) = false) : Calls Try.prog 81 #[.agg c.cells] w fun e w' => e = .returned (.bool false) ∧ Below w.heap.size w w' := by
  have hb : OAt (w.alloc (.cells c.cells 33)) w.heap.size c := blk_new _ _
  have hbe : Hid (Below w.heap.size w (w.alloc (.cells c.cells 33))) := hid_of (by go_grown)
  have r2 : (w.alloc (.cells c.cells 33)).cell? ⟨w.heap.size, 2, none⟩ = some (.slice c.im.a c.im.n c.im.c) := blk_cell hb 2
  have r3 : (w.alloc (.cells c.cells 33)).cell? ⟨w.heap.size, 3, none⟩ = some (.slice c.co.a c.co.n c.co.c) := blk_cell hb 3
  have r4 : (w.alloc (.cells c.cells 33)).cell? ⟨w.heap.size, 4, none⟩ = some (.slice c.pr.a c.pr.n c.pr.c) := blk_cell hb 4
  have r5 : (w.alloc (.cells c.cells 33)).cell? ⟨w.heap.size, 5, none⟩ = some (.slice c.na.a c.na.n c.na.c) := blk_cell hb 5
  have r6 : (w.alloc (.cells c.cells 33)).cell? ⟨w.heap.size, 6, none⟩ = some (.slice c.ex.a c.ex.n c.ex.c) := blk_cell hb 6
  have r8 : (w.alloc (.cells c.cells 33)).cell? ⟨w.heap.size, 8, none⟩ = some (.slice c.va.a c.va.n c.va.c) := blk_cell hb 8
  have r9 : (w.alloc (.cells c.cells 33)).cell? ⟨w.heap.size, 9, none⟩ = some (.slice c.sh.a c.sh.n c.sh.c) := blk_cell hb 9
  clear hb
  have d7b : decide (c.sh.n ≤ c.va.n) = false := by have h := of_decide_eq_false d7; exact decide_eq_false (by omega)
  go_enter Try.func81, Try.ntmps81
  go_wp2
  go_ret
  exact ⟨rfl, hbe.out⟩
set_option maxHeartbeats 4000000 in
set_option maxRecDepth 20000 in
theorem cnt_8 (w : World) (c : Oc) (d0 : decide ((c.im.n : Int) ≤ 16) = true) (d1 : decide ((1 : Int) ≤ (c.co.n : Int)) = true) (d2 : decide ((c.co.n : Int) ≤ 65536) = true) (d3 : decide ((c.pr.n : Int) ≤ 100) = true) (d4 : ((c.na.n : Int) == (c.pr.n : Int)) = true) (d5 : ((c.ex.n : Int) == (c.pr.n : Int)) = true) (d6 : decide ((c.va.n : Int) ≤ 200) = true) (d7 : decide ((c.sh.n : Int) ≤ (c.va.n : Int)) = true) (d8 : decide ((c.st.n : Int) ≤ 200) = false) : Calls Try.prog 81 #[.agg c.cells] w fun e w' => e = .returned (.bool false) ∧ Below w.heap.size w w' := by
  have hb : OAt (w.alloc (.cells c.cells 33)) w.heap.size c := blk_new _ _
  have hbe : Hid (Below w.heap.size w (w.alloc (.cells c.cells 33))) := hid_of (by go_grown)
  have r2 : (w.alloc (.cells c.cells 33)).cell? ⟨w.heap.size, 2, none⟩ = some (.slice c.im.a c.im.n c.im.c) := blk_cell hb 2
  have r3 : (w.alloc (.cells c.cells 33)).cell? ⟨w.heap.size, 3, none⟩ = some (.slice c.co.a c.co.n c.co.c) := blk_cell hb 3
  have r4 : (w.alloc (.cells c.cells 33)).cell? ⟨w.heap.size, 4, none⟩ = some (.slice c.pr.a c.pr.n c.pr.c) := blk_cell hb 4
  have r5 : (w.alloc (.cells c.cells 33)).cell? ⟨w.heap.size, 5, none⟩ = some (.slice c.na.a c.na.n c.na.c) := blk_cell hb 5
  have r6 : (w.alloc (.cells c.cells 33)).cell? ⟨w.heap.size, 6, none⟩ = some (.slice c.ex.a c.ex.n c.ex.c) := blk_cell hb 6
  have r8 : (w.alloc (.cells c.cells 33)).cell? ⟨w.heap.size, 8, none⟩ = some (.slice c.va.a c.va.n c.va.c) := blk_cell hb 8
  have r9 : (w.alloc (.cells c.cells 33)).cell? ⟨w.heap.size, 9, none⟩ = some (.slice c.sh.a c.sh.n c.sh.c) := blk_cell hb 9
  have r10 : (w.alloc (.cells c.cells 33)).cell? ⟨w.heap.size, 10, none⟩ = some (.slice c.st.a c.st.n c.st.c) := blk_cell hb 10
  clear hb
  have d7b : decide (c.sh.n ≤ c.va.n) = true := by have h := of_decide_eq_true d7; exact decide_eq_true (by omega)
  go_enter Try.func81, Try.ntmps81
  go_wp2
  go_ret
  exact ⟨rfl, hbe.out⟩
set_option maxHeartbeats 4000000 in
set_option maxRecDepth 20000 in
theorem cnt_9 (w : World) (c : Oc) (d0 : decide ((c.im.n : Int) ≤ 16) = true) (d1 : decide ((1 : Int) ≤ (c.co.n : Int)) = true) (d2 : decide ((c.co.n : Int) ≤ 65536) = true) (d3 : decide ((c.pr.n : Int) ≤ 100) = true) (d4 : ((c.na.n : Int) == (c.pr.n : Int)) = true) (d5 : ((c.ex.n : Int) == (c.pr.n : Int)) = true) (d6 : decide ((c.va.n : Int) ≤ 200) = true) (d7 : decide ((c.sh.n : Int) ≤ (c.va.n : Int)) = true) (d8 : decide ((c.st.n : Int) ≤ 200) = true) (d9 : decide ((c.ds.n : Int) ≤ 200) = false) : Calls Try.prog 81 #[.agg c.cells] w fun e w' => e = .returned (.bool false) ∧ Below w.heap.size w w' := by
  have hb : OAt (w.alloc (.cells c.cells 33)) w.heap.size c := blk_new _ _
  have hbe : Hid (Below w.heap.size w (w.alloc (.cells c.cells 33))) := hid_of (by go_grown)
  have r2 : (w.alloc (.cells c.cells 33)).cell? ⟨w.heap.size, 2, none⟩ = some (.slice c.im.a c.im.n c.im.c) := blk_cell hb 2
  have r3 : (w.alloc (.cells c.cells 33)).cell? ⟨w.heap.size, 3, none⟩ = some (.slice c.co.a c.co.n c.co.c) := blk_cell hb 3
  have r4 : (w.alloc (.cells c.cells 33)).cell? ⟨w.heap.size, 4, none⟩ = some (.slice c.pr.a c.pr.n c.pr.c) := blk_cell hb 4
  have r5 : (w.alloc (.cells c.cells 33)).cell? ⟨w.heap.size, 5, none⟩ = some (.slice c.na.a c.na.n c.na.c) := blk_cell hb 5
  have r6 : (w.alloc (.cells c.cells 33)).cell? ⟨w.heap.size, 6, none⟩ = some (.slice c.ex.a c.ex.n c.ex.c) := blk_cell hb 6
  have r8 : (w.alloc (.cells c.cells 33)).cell? ⟨w.heap.size, 8, none⟩ = some (.slice c.va.a c.va.n c.va.c) := blk_cell hb 8
  have r9 : (w.alloc (.cells c.cells 33)).cell? ⟨w.heap.size, 9, none⟩ = some (.slice c.sh.a c.sh.n c.sh.c) := blk_cell hb 9
  have r10 : (w.alloc (.cells c.cells 33)).cell? ⟨w.heap.size, 10, none⟩ = some (.slice c.st.a c.st.n c.st.c) := blk_cell hb 10
  have r11 : (w.alloc (.cells c.cells 33)).cell? ⟨w.heap.size, 11, none⟩ = some (.slice c.ds.a c.ds.n c.ds.c) := blk_cell hb 11
  clear hb
  have d7b : decide (c.sh.n ≤ c.va.n) = true := by have h := of_decide_eq_true d7; exact decide_eq_true (by omega)
  go_enter Try.func81, Try.ntmps81
  go_wp2
  go_ret
  exact ⟨rfl, hbe.out⟩
set_option maxHeartbeats 4000000 in
set_option maxRecDepth 20000 in
theorem cnt_10 (w : World) (c : Oc) (d0 : decide ((c.im.n : Int) ≤ 16) = true) (d1 : decide ((1 : Int) ≤ (c.co.n : Int)) = true) (d2 : decide ((c.co.n : Int) ≤ 65536) = true) (d3 : decide ((c.pr.n : Int) ≤ 100) = true) (d4 : ((c.na.n : Int) == (c.pr.n : Int)) = true) (d5 : ((c.ex.n : Int) == (c.pr.n : Int)) = true) (d6 : decide ((c.va.n : Int) ≤ 200) = true) (d7 : decide ((c.sh.n : Int) ≤ (c.va.n : Int)) = true) (d8 : decide ((c.st.n : Int) ≤ 200) = true) (d9 : decide ((c.ds.n : Int) ≤ 200) = true) (d10 : decide ((c.fx.n : Int) ≤ 65536) = false) : Calls Try.prog 81 #[.agg c.cells] w fun e w' => e = .returned (.bool false) ∧ Below w.heap.size w w' := by
  have hb : OAt (w.alloc (.cells c.cells 33)) w.heap.size c := blk_new _ _
  have hbe : Hid (Below w.heap.size w (w.alloc (.cells c.cells 33))) := hid_of (by go_grown)
  have r2 : (w.alloc (.cells c.cells 33)).cell? ⟨w.heap.size, 2, none⟩ = some (.slice c.im.a c.im.n c.im.c) := blk_cell hb 2
  have r3 : (w.alloc (.cells c.cells 33)).cell? ⟨w.heap.size, 3, none⟩ = some (.slice c.co.a c.co.n c.co.c) := blk_cell hb 3
  have r4 : (w.alloc (.cells c.cells 33)).cell? ⟨w.heap.size, 4, none⟩ = some (.slice c.pr.a c.pr.n c.pr.c) := blk_cell hb 4
  have r5 : (w.alloc (.cells c.cells 33)).cell? ⟨w.heap.size, 5, none⟩ = some (.slice c.na.a c.na.n c.na.c) := blk_cell hb 5
  have r6 : (w.alloc (.cells c.cells 33)).cell? ⟨w.heap.size, 6, none⟩ = some (.slice c.ex.a c.ex.n c.ex.c) := blk_cell hb 6
  have r8 : (w.alloc (.cells c.cells 33)).cell? ⟨w.heap.size, 8, none⟩ = some (.slice c.va.a c.va.n c.va.c) := blk_cell hb 8
  have r9 : (w.alloc (.cells c.cells 33)).cell? ⟨w.heap.size, 9, none⟩ = some (.slice c.sh.a c.sh.n c.sh.c) := blk_cell hb 9
  have r10 : (w.alloc (.cells c.cells 33)).cell? ⟨w.heap.size, 10, none⟩ = some (.slice c.st.a c.st.n c.st.c) := blk_cell hb 10
  have r11 : (w.alloc (.cells c.cells 33)).cell? ⟨w.heap.size, 11, none⟩ = some (.slice c.ds.a c.ds.n c.ds.c) := blk_cell hb 11
  have r12 : (w.alloc (.cells c.cells 33)).cell? ⟨w.heap.size, 12, none⟩ = some (.slice c.fx.a c.fx.n c.fx.c) := blk_cell hb 12
  clear hb
  have d7b : decide (c.sh.n ≤ c.va.n) = true := by have h := of_decide_eq_true d7; exact decide_eq_true (by omega)
  go_enter Try.func81, Try.ntmps81
  go_wp2
  go_ret
  exact ⟨rfl, hbe.out⟩
set_option maxHeartbeats 4000000 in
set_option maxRecDepth 20000 in
theorem cnt_11 (w : World) (c : Oc) (d0 : decide ((c.im.n : Int) ≤ 16) = true) (d1 : decide ((1 : Int) ≤ (c.co.n : Int)) = true) (d2 : decide ((c.co.n : Int) ≤ 65536) = true) (d3 : decide ((c.pr.n : Int) ≤ 100) = true) (d4 : ((c.na.n : Int) == (c.pr.n : Int)) = true) (d5 : ((c.ex.n : Int) == (c.pr.n : Int)) = true) (d6 : decide ((c.va.n : Int) ≤ 200) = true) (d7 : decide ((c.sh.n : Int) ≤ (c.va.n : Int)) = true) (d8 : decide ((c.st.n : Int) ≤ 200) = true) (d9 : decide ((c.ds.n : Int) ≤ 200) = true) (d10 : decide ((c.fx.n : Int) ≤ 65536) = true) : Calls Try.prog 81 #[.agg c.cells] w fun e w' => e = .returned (.bool true) ∧ Below w.heap.size w w' := by
  have hb : OAt (w.alloc (.cells c.cells 33)) w.heap.size c := blk_new _ _
  have hbe : Hid (Below w.heap.size w (w.alloc (.cells c.cells 33))) := hid_of (by go_grown)
  have r2 : (w.alloc (.cells c.cells 33)).cell? ⟨w.heap.size, 2, none⟩ = some (.slice c.im.a c.im.n c.im.c) := blk_cell hb 2
  have r3 : (w.alloc (.cells c.cells 33)).cell? ⟨w.heap.size, 3, none⟩ = some (.slice c.co.a c.co.n c.co.c) := blk_cell hb 3
  have r4 : (w.alloc (.cells c.cells 33)).cell? ⟨w.heap.size, 4, none⟩ = some (.slice c.pr.a c.pr.n c.pr.c) := blk_cell hb 4
  have r5 : (w.alloc (.cells c.cells 33)).cell? ⟨w.heap.size, 5, none⟩ = some (.slice c.na.a c.na.n c.na.c) := blk_cell hb 5
  have r6 : (w.alloc (.cells c.cells 33)).cell? ⟨w.heap.size, 6, none⟩ = some (.slice c.ex.a c.ex.n c.ex.c) := blk_cell hb 6
  have r8 : (w.alloc (.cells c.cells 33)).cell? ⟨w.heap.size, 8, none⟩ = some (.slice c.va.a c.va.n c.va.c) := blk_cell hb 8
  have r9 : (w.alloc (.cells c.cells 33)).cell? ⟨w.heap.size, 9, none⟩ = some (.slice c.sh.a c.sh.n c.sh.c) := blk_cell hb 9
  have r10 : (w.alloc (.cells c.cells 33)).cell? ⟨w.heap.size, 10, none⟩ = some (.slice c.st.a c.st.n c.st.c) := blk_cell hb 10
  have r11 : (w.alloc (.cells c.cells 33)).cell? ⟨w.heap.size, 11, none⟩ = some (.slice c.ds.a c.ds.n c.ds.c) := blk_cell hb 11
  have r12 : (w.alloc (.cells c.cells 33)).cell? ⟨w.heap.size, 12, none⟩ = some (.slice c.fx.a c.fx.n c.fx.c) := blk_cell hb 12
  clear hb
  have d7b : decide (c.sh.n ≤ c.va.n) = true := by have h := of_decide_eq_true d7; exact decide_eq_true (by omega)
  go_enter Try.func81, Try.ntmps81
  go_wp2
  go_ret
  exact ⟨rfl, hbe.out⟩
theorem rcounts_any (w : World) (c : Oc) (o : Ob) (h : ObR w c o) : Calls Try.prog 81 #[.agg c.cells] w fun e w' => e = .returned (.bool (countsB o)) ∧ Below w.heap.size w w' := by
  rw [counts_c h]
  unfold countsC
  cases d0 : decide ((c.im.n : Int) ≤ 16)
  · exact cnt_0 w c d0
  cases d1 : decide ((1 : Int) ≤ (c.co.n : Int))
  · exact cnt_1 w c d0 d1
  cases d2 : decide ((c.co.n : Int) ≤ 65536)
  · exact cnt_2 w c d0 d1 d2
  cases d3 : decide ((c.pr.n : Int) ≤ 100)
  · exact cnt_3 w c d0 d1 d2 d3
  cases d4 : ((c.na.n : Int) == (c.pr.n : Int))
  · exact cnt_4 w c d0 d1 d2 d3 d4
  cases d5 : ((c.ex.n : Int) == (c.pr.n : Int))
  · exact cnt_5 w c d0 d1 d2 d3 d4 d5
  cases d6 : decide ((c.va.n : Int) ≤ 200)
  · exact cnt_6 w c d0 d1 d2 d3 d4 d5 d6
  cases d7 : decide ((c.sh.n : Int) ≤ (c.va.n : Int))
  · exact cnt_7 w c d0 d1 d2 d3 d4 d5 d6 d7
  cases d8 : decide ((c.st.n : Int) ≤ 200)
  · exact cnt_8 w c d0 d1 d2 d3 d4 d5 d6 d7 d8
  cases d9 : decide ((c.ds.n : Int) ≤ 200)
  · exact cnt_9 w c d0 d1 d2 d3 d4 d5 d6 d7 d8 d9
  cases d10 : decide ((c.fx.n : Int) ≤ 65536)
  · exact cnt_10 w c d0 d1 d2 d3 d4 d5 d6 d7 d8 d9 d10
  exact cnt_11 w c d0 d1 d2 d3 d4 d5 d6 d7 d8 d9 d10
end Go.Proofs.Ytepgifapepaheaa
