/-
  The law on what an instruction leaves as it is, put together.
-/
import Derived.Test.YtkhgeldnlffgjabDoorKeepsW
namespace Go.Proofs.YtkhgeldnlffgjabDoor
open Go.ChangeShapes Go.WideShapes Go.ChangeAt Go.RowKit
attribute [local go_sem ↓] loadCpu_seal storeCpu_seal loadIn_seal storeIn_seal
attribute [local go_sem] loadCpu_run storeCpu_run loadIn_run storeIn_run rowAt_at rowAt_past rowAt_drew rowAt_drewN roomCpu_new roomIn_new roomAt_old roomAt_drew roomAt_drewN putCpu_new putIn_new Cp.zero_fold In.fold putRow_past rowCpu_put rowIn_put size_put putRow_drew putRow_drewN alloc_drewN setCell_drewN Cp.at16 Cp.at17 Cp.at18 Cp.at19 Cp.at20 Cp.at21 Cp.size Cp.set16 Cp.set17 Cp.set18 Cp.set19 Cp.set20 Cp.set21 In.at0 In.at1 In.at2 In.at3 In.at4 In.at5 In.at6 In.at7 In.size In.set0 In.set1 In.set2 In.set3 In.ne Cp.ne In.set4 In.set5 In.set6 In.set7
attribute [local go_sem ↓] eqlCpu_seal
set_option linter.unusedVariables false

set_option maxHeartbeats 2000000 in
set_option maxRecDepth 20000 in
theorem kept_none (c : Cp) (i : In) (x n : Int) (t : Bool) (w : World) (hw : Ways w) (hc : c.Ok) (hX : ∀ X, Ways X → Calls Tryd.prog 8 #[.agg c.cells, .agg i.cells, .int .u32 x] X fun e w' => e = .returned (.tuple #[.agg c.cells, .int .i64 n, .bool t]) ∧ Below X.heap.size X w') (h : (encE i = 20 ∧ t = false ∧ n = 0) ∨ (encE i = 0 ∧ t = true)) : Calls Tryd.prog 3 #[.agg c.cells, .agg i.cells, .int .u32 x] w fun e w' => e = .returned (.bool true) ∧ Below w.heap.size w w' := by
  have HW : Hid (Ways w) := hw
  have HX : Hid (∀ X, Ways X → Calls Tryd.prog 8 #[.agg c.cells, .agg i.cells, .int .u32 x] X fun e w' => e = .returned (.tuple #[.agg c.cells, .int .i64 n, .bool t]) ∧ Below X.heap.size X w') := hX
  have K0 : Hid (Keeps w [(w.heap.size + 1, i.cells), (w.heap.size, c.cells)] ((w.alloc (.cells c.cells 25)).alloc (.cells i.cells 27))) := keeps2 w _ _ _ _
  have heq := eqlCpu_same c hc
  clear hw hX
  rcases h with ⟨hE, rfl, rfl⟩ | ⟨hE, rfl⟩
  all_goals
    go_enter Tryd.func3, Tryd.ntmps3
    go_wp2_with (first
      | (go_at_call 6; refine (shown_any _ (HW.out.below K0.out.1 HW.out.big)).mono ?_; rintro e w0 ⟨rfl, hb⟩; have K1 : Hid (Keeps w [(w.heap.size + 1, i.cells), (w.heap.size, c.cells)] w0) := K0.out.call hb; have p1 := K1.out.row (b := w.heap.size + 1) (c := i.cells) (by simp); clear hb)
      | (go_at_call 7; refine (encode_any i _ (HW.out.below K1.out.1 HW.out.big)).mono ?_; rw [hE]; rintro e w1 ⟨rfl, hb⟩; have K2 : Hid (Keeps w [(w.heap.size + 1, i.cells), (w.heap.size, c.cells)] w1) := K1.out.call hb; have p2 := K2.out.row (b := w.heap.size + 1) (c := i.cells) (by simp); have p3 := K2.out.row (b := w.heap.size) (c := c.cells) (by simp); clear hb)
      | (go_at_call 8; refine (HX.out _ (HW.out.below K2.out.1 HW.out.big)).mono ?_; rintro e w2 ⟨rfl, hb⟩; have K3 : Hid (Keeps w [(w2.heap.size, c.cells), (w.heap.size + 1, i.cells), (w.heap.size, c.cells)] (w2.alloc (.cells c.cells 25))) := (K2.out.call hb).new _ _; have p4 := K3.out.row (b := w.heap.size) (c := c.cells) (by simp); clear hb))
    go_ret
    exact ⟨by first | rfl | simp, K3.out.1⟩
theorem on_keeps (c : Cp) (g : Int) : KeepF c c.on g := ⟨fun _ _ _ => rfl⟩
theorem aimed_keeps (c : Cp) (i : In) : (i.V = false → KeepF c (c.aimed i) 16 ∧ (c.aimed i).N = c.N ∧ (c.aimed i).Z = c.Z ∧ (c.aimed i).C = c.C ∧ (c.aimed i).V = c.V ∧ (c.aimed i).H = c.H) ∧ (i.V = true → KeepF c (c.aimed i) 15 ∧ (c.aimed i).C = c.C ∧ (c.aimed i).V = c.V ∧ (c.aimed i).H = c.H) := by
  refine ⟨fun h => ?_, fun h => ?_⟩
  · unfold Cp.aimed
    simp only [h, Bool.false_eq_true, if_false]
    exact ⟨⟨fun _ _ _ => rfl⟩, rfl, rfl, rfl, rfl, rfl⟩
  · unfold Cp.aimed
    simp only [h, if_true]
    exact ⟨⟨fun j hj hn => setR_other c.on 15 j c.on.PC (by omega)⟩, rfl, rfl, rfl⟩
theorem keeps_any (c : Cp) (i : In) (x : Int) (w : World) (hw : Ways w) (hc : c.Ok) (x0 : 0 ≤ x) (x1 : x ≤ 4294967295) : Calls Tryd.prog 3 #[.agg c.cells, .agg i.cells, .int .u32 x] w fun e w' => e = .returned (.bool true) ∧ Below w.heap.size w w' := by
  have HE : ∀ X, Ways X → Calls Tryd.prog 8 #[.agg c.cells, .agg i.cells, .int .u32 x] X fun e w' => e = .returned (.tuple #[.agg (c.execD i x).cells, .int .i64 (c.execN i), .bool (c.execT i)]) ∧ Below X.heap.size X w' := fun X hX => exec_any c i x X hX hc x0 x1
  cases hr : rightB i
  · have e1 : c.execD i x = c := by simp [Cp.execD, hr]
    have e2 : c.execT i = false := by simp [Cp.execT, hr]
    have e3 : c.execN i = 0 := by simp [Cp.execN, e2]
    rw [e1, e2, e3] at HE
    exact kept_none c i x 0 false w hw hc HE (.inl ⟨by simp [encE, hr], rfl, rfl⟩)
  · have R := right_bd hr
    have hE : encE i = 0 := by simp [encE, hr]
    have hf : (i.F = 0 ∨ i.F = 1) ∨ i.F = 2 ∨ i.F = 3 := by rcases R.F with ⟨f, _⟩ | ⟨f, _⟩ | ⟨f, _⟩ | ⟨f, _⟩ <;> omega
    rcases hf with hf | hf | hf
    · have e1 : c.execD i x = c.operated i := by unfold Cp.execD; rw [if_pos hr, if_neg (by omega), if_neg (by omega)]
      have e2 : c.execT i = c.trapsB i := by simp [Cp.execT, hr, hf]
      cases ht : c.trapsB i
      · have e3 : c.execN i = 0 := by unfold Cp.execN; rw [e2, ht]; rfl
        rw [e1, e2, e3, ht] at HE
        have G := op_got c i hc hr hf ht
        refine kept_reck c (c.operated i) i x w hw hc hr HE hf R.A G.1 ?_
        rcases G.2.1 with h | h
        · rcases G.2.2 with k | k
          · omega
          · exact .inl ⟨h, k⟩
        · rcases G.2.2 with k | k
          · exact .inr (.inl ⟨k, h⟩)
          · by_cases h8 : i.O = 8 ∨ i.O = 9
            · exact .inl ⟨h8, k⟩
            · by_cases h10 : i.O = 10 ∨ i.O = 11
              · exact .inr (.inl ⟨h10, h⟩)
              · refine .inr (.inr ⟨?_, ?_, ?_, ?_, h.1, h.2, k⟩) <;> simp <;> omega
      · have e4 : c.execD i x = c := by rw [e1, operated_stays c i ht]
        rw [e4, e2, ht] at HE
        exact kept_none c i x (c.execN i) true w hw hc HE (.inr ⟨hE, rfl⟩)
    · have e2 : c.execT i = false := by simp [Cp.execT, hf]
      have e3 : c.execN i = 0 := by simp [Cp.execN, e2]
      have e1 : c.execD i x = c.transf i x := by unfold Cp.execD; rw [if_pos hr, if_pos hf]
      rw [e1, e2, e3] at HE
      cases hU : i.U
      · have e4 : c.transf i x = c.wrote i.A (if i.V = true then x % 256 else x) := by unfold Cp.transf; rw [hU, if_neg (by decide)]
        rw [e4] at HE
        exact kept_load c _ i x w hw hc hr HE hf hU R.A (wrote_got c _ _ R.A.1 (by split <;> omega) (by split <;> omega)) rfl rfl rfl
      · have e4 : c.transf i x = c.on := by unfold Cp.transf; rw [hU, if_pos rfl]
        rw [e4] at HE
        exact kept_store c _ i x w hw hc hr HE hf hU (on_keeps c 16) rfl rfl rfl rfl rfl rfl
    · have e2 : c.execT i = false := by simp [Cp.execT, hf]
      have e3 : c.execN i = 0 := by simp [Cp.execN, e2]
      have e1 : c.execD i x = c.branched i := by unfold Cp.execD; rw [if_pos hr, if_neg (by omega), if_pos hf]
      rw [e1, e2, e3] at HE
      have A := aimed_keeps c i
      cases hV : i.V
      · have B := A.1 hV
        cases hh : holdsB c.on i.A
        · have e4 : c.branched i = c.on := by unfold Cp.branched; rw [hh, if_neg (by decide)]
          rw [e4] at HE
          exact kept_branch c _ i x w hw hc hr HE hf hV (on_keeps c 16) rfl rfl rfl rfl rfl
        · have e4 : c.branched i = c.aimed i := by unfold Cp.branched; rw [hh, if_pos rfl]
          rw [e4] at HE
          exact kept_branch c _ i x w hw hc hr HE hf hV B.1 B.2.1 B.2.2.1 B.2.2.2.1 B.2.2.2.2.1 B.2.2.2.2.2
      · have B := A.2 hV
        cases hh : holdsB c.on i.A
        · have e4 : c.branched i = c.on := by unfold Cp.branched; rw [hh, if_neg (by decide)]
          rw [e4] at HE
          exact kept_link c _ i x w hw hc hr HE hf hV (on_keeps c 15) rfl rfl rfl
        · have e4 : c.branched i = c.aimed i := by unfold Cp.branched; rw [hh, if_pos rfl]
          rw [e4] at HE
          exact kept_link c _ i x w hw hc hr HE hf hV B.1 B.2.1 B.2.2.1 B.2.2.2
end Go.Proofs.YtkhgeldnlffgjabDoor
