/-
  The document's example: what shown answers, whatever the world.
-/
import Derived.Test.YtkhgeldnlffgjabDoorShown
namespace Go.Proofs.YtkhgeldnlffgjabDoor
open Go.ChangeShapes Go.WideShapes Go.ChangeAt Go.RowKit
attribute [local go_sem ↓] loadCpu_seal storeCpu_seal loadIn_seal storeIn_seal
attribute [local go_sem] loadCpu_run storeCpu_run loadIn_run storeIn_run rowAt_at rowAt_past rowAt_drew rowAt_drewN roomCpu_new roomIn_new roomAt_old roomAt_drew roomAt_drewN putCpu_new putIn_new Cp.zero_fold In.fold putRow_past rowCpu_put rowIn_put size_put putRow_drew putRow_drewN alloc_drewN setCell_drewN Cp.at16 Cp.at17 Cp.at18 Cp.at19 Cp.at20 Cp.at21 Cp.size Cp.set16 Cp.set17 Cp.set18 Cp.set19 Cp.set20 Cp.set21 In.at0 In.at1 In.at2 In.at3 In.at4 In.at5 In.at6 In.at7 In.size In.set0 In.set1 In.set2 In.set3 In.ne Cp.ne In.set4 In.set5 In.set6 In.set7
attribute [local go_sem ↓] eqlCpu_seal

theorem setR_ok (c : Cp) (h : c.Ok) (a : Nat) (x : Int) (h0 : 0 ≤ x) (h1 : x ≤ 4294967295) : (c.setR a x).Ok :=
  ⟨fun i hi => by
    show 0 ≤ (if i = a then x else c.R i) ∧ (if i = a then x else c.R i) ≤ 4294967295
    split
    · exact ⟨h0, h1⟩
    · exact h.R i hi, h.H, h.PC⟩
theorem wrote_ok (c : Cp) (h : c.Ok) (a x : Int) (h0 : 0 ≤ x) (h1 : x ≤ 4294967295) : (c.wrote a x).Ok :=
  ⟨(setR_ok c h a.toNat x h0 h1).R, h.H, by show 0 ≤ (c.PC + 4) % 4294967296 ∧ (c.PC + 4) % 4294967296 ≤ 4294967295; omega⟩
theorem added_ok (c : Cp) (i : In) (b x : Int) (h : c.Ok) : (c.added i b x).Ok :=
  wrote_ok ({ c with C := addC b x (i.U && c.C), V := addV b x (i.U && c.C) } : Cp) ⟨h.R, h.H, h.PC⟩ i.A (addS b x (i.U && c.C)) (by unfold addS; omega) (by unfold addS; omega)
theorem operate_add (c : Cp) (i : In) (w : World) (hc : c.Ok) (hF : i.F = 0) (hO : i.O = 8) (hA : 0 ≤ i.A ∧ i.A < 16) (hB : 0 ≤ i.B ∧ i.B < 16) (hC : 0 ≤ i.C ∧ i.C < 16) :
    Calls Tryd.prog 15 #[.agg c.cells, .agg i.cells] w fun e w' => e = .returned (.agg (c.added i (c.R i.B.toNat) (c.R i.C.toNat)).cells) ∧ Below w.heap.size w w' := by
  have hrb := Cp.atR c i.B.toNat (by omega)
  have HB := hc.R i.B.toNat (by omega)
  have HC := hc.R i.C.toNat (by omega)
  obtain ⟨b0, b1⟩ := hB
  have K0 : Hid (Keeps w [(w.heap.size + 2, Cp.zero.cells), (w.heap.size + 1, i.cells), (w.heap.size, c.cells)] (((w.alloc (.cells c.cells 25)).alloc (.cells i.cells 27)).alloc (.cells Cp.zero.cells 25))) := keeps3 w _ _ _ _ _ _
  go_enter Tryd.func15, Tryd.ntmps15
  go_wp2
  go_region_held3 (fun X => Keeps w [(w.heap.size + 2, Cp.zero.cells), (w.heap.size + 1, i.cells), (w.heap.size, c.cells)] X ∧ rowAt X w.heap.size = some c.cells ∧ rowAt X (w.heap.size + 1) = some i.cells ∧ (∀ j, X.cell? ⟨w.heap.size, j, none⟩ = c.cells[j]?) ∧ (∀ j, X.cell? ⟨w.heap.size + 1, j, none⟩ = i.cells[j]?)) (first | exact Keeps.three (Keeps.drew K0.out) | exact Keeps.step3 (by assumption) (by assumption)) (first | (go_at_call 27; refine (operand_reg c i _ hF hC.1 hC.2).mono ?_; rintro e w1 ⟨rfl, hb⟩))
  rename_i hh
  obtain ⟨hk, r1, r2, l1, l2⟩ := hh
  have HK : Hid (Keeps w [(w.heap.size + 2, Cp.zero.cells), (w.heap.size + 1, i.cells), (w.heap.size, c.cells)] w1) := hk
  clear hk hb K0
  go_wp2_with (go_at_call 29; refine (cadd_any c i _ _ _ hA.1 hA.2 HB.1 HB.2 HC.1 HC.2).mono ?_; rintro e w2 ⟨rfl, hb2⟩; have hr2 : roomAt w2 (w.heap.size + 2) 22 = true := (HK.out.call hb2).room (c := Cp.zero.cells) (by simp))
  exact ret_cell1 rfl rfl (loadCpu_row (rowCpu_put _ _ _ hr2)) rfl ⟨rfl, below_put (HK.out.call hb2).1 _ (by omega) _⟩
theorem exec_add (c : Cp) (i : In) (x : Int) (w : World) (hw : Ways w) (hc : c.Ok) (hr : rightB i = true) (hF : i.F = 0) (hO : i.O = 8) :
    Calls Tryd.prog 8 #[.agg c.cells, .agg i.cells, .int .u32 x] w fun e w' => e = .returned (.tuple #[.agg (c.added i (c.R i.B.toNat) (c.R i.C.toNat)).cells, .int .i64 0, .bool false]) ∧ Below w.heap.size w w' := by
  have R := right_bd hr
  have K0 : Hid (Keeps w [(w.heap.size + 2, Cp.zero.cells), (w.heap.size + 1, i.cells), (w.heap.size, c.cells)] (((w.alloc (.cells c.cells 25)).alloc (.cells i.cells 27)).alloc (.cells Cp.zero.cells 25))) := keeps3 w _ _ _ _ _ _
  have HW : Hid (Ways (((w.alloc (.cells c.cells 25)).alloc (.cells i.cells 27)).alloc (.cells Cp.zero.cells 25))) := ((hw.alloc _).alloc _).alloc _
  have hne : ∀ w, (eqlCpu (.agg (c.added i (c.R i.B.toNat) (c.R i.C.toNat)).cells) (.agg c.cells)).run Tryd.prog w = .ok (.bool false) w := eqlCpu_ne _ c (added_ok _ _ _ _ hc) hc (by show (c.PC + 4) % 4294967296 ≠ c.PC; have := hc.PC; omega)
  clear hw
  go_enter Tryd.func8, Tryd.ntmps8
  go_wp2_with (first | (go_at_call 11; refine (right_any i _ HW.out).mono ?_; rw [hr]; rintro e w1 ⟨rfl, hb⟩; have HK : Hid (Keeps w [(w.heap.size + 2, Cp.zero.cells), (w.heap.size + 1, i.cells), (w.heap.size, c.cells)] w1) := K0.out.call hb; have q1 := HK.out.row (b := w.heap.size) (c := c.cells) (by simp); have q2 := HK.out.row (b := w.heap.size + 1) (c := i.cells) (by simp); have q3 := HK.out.cell (b := w.heap.size + 1) (c := i.cells) (by simp)) | (go_at_call 15; refine (operate_add c i _ hc hF hO R.A R.B R.C).mono ?_; rintro e w2 ⟨rfl, hb2⟩; have HK2 : Hid (Keeps w [(w.heap.size + 2, Cp.zero.cells), (w.heap.size + 1, i.cells), (w.heap.size, c.cells)] w2) := HK.out.call hb2; have q4 := HK2.out.row (b := w.heap.size) (c := c.cells) (by simp); have q5 : roomAt w2 (w.heap.size + 1 + 1) 22 = true := HK2.out.room (b := w.heap.size + 2) (c := Cp.zero.cells) (by simp); have q6 : w.heap.size + 1 + 1 < w2.heap.size := (HK2.out.2 (w.heap.size + 2, Cp.zero.cells) (by simp)).2.2; have q7 : w.heap.size < w2.heap.size := by omega))
  exact ret_cell_tmp2 rfl rfl (loadCpu_row ((rowAt_past _ _ _ (by rw [size_put]; exact q6)).trans (rowCpu_put _ _ _ q5))) rfl ⟨rfl, (below_put HK2.out.1 _ (by omega) _).alloc (by rw [size_put]; exact HK2.out.1.size) _⟩
def c0 : Cp := (({ Cp.zero with PC := 100 } : Cp).setR 2 2147483647).setR 3 1
def i0 : In := { F := 0, U := false, V := false, A := 1, B := 2, O := 8, C := 3, N := 0 }
theorem dec0 : decI 19398659 = i0 := by kernel_rfl
theorem dec0_ok : decOk 19398659 = true := by kernel_rfl
theorem i0_right : rightB i0 = true := by kernel_rfl
theorem c0_ok : c0.Ok := setR_ok _ (setR_ok _ ⟨fun _ _ => by simp [Cp.zero], by simp [Cp.zero], by simp⟩ _ _ (by omega) (by omega)) _ _ (by omega) (by omega)
theorem exec_shown (w : World) (hw : Ways w) : Calls Tryd.prog 8 #[.agg c0.cells, .agg i0.cells, .int .u32 0] w fun e w' => ∃ d : Cp, d.R 1 = 2147483648 ∧ d.N = true ∧ d.V = true ∧ d.Z = false ∧ d.C = false ∧ d.PC = 104 ∧ e = .returned (.tuple #[.agg d.cells, .int .i64 0, .bool false]) ∧ Below w.heap.size w w' :=
  (exec_add c0 i0 0 w hw c0_ok i0_right rfl rfl).mono fun e w' ⟨he, hb⟩ => ⟨_, by kernel_rfl, by kernel_rfl, by kernel_rfl, by kernel_rfl, by kernel_rfl, by kernel_rfl, he, hb⟩
theorem decode_shown (w : World) (hw : Ways w) : Calls Tryd.prog 10 #[.int .u32 19398659] w fun e w' => e = .returned (.tuple #[.agg i0.cells, .bool true]) ∧ Below w.heap.size w w' := by
  have := decode_any 19398659 w hw (by omega) (by omega)
  rwa [dec0, dec0_ok] at this
set_option maxHeartbeats 1000000 in
theorem shown_any (w : World) (hw : Ways w) : Calls Tryd.prog 6 #[] w fun e w' => e = .returned (.bool true) ∧ Below w.heap.size w w' := by
  have HW : Hid (Ways w) := hw
  have s2 : ∀ (c : Cp) (x : Int), c.cells.setIfInBounds 2 (.int .u32 x) = (c.setR 2 x).cells := fun c x => Cp.setAt c 2 x (by omega)
  have s3 : ∀ (c : Cp) (x : Int), c.cells.setIfInBounds 3 (.int .u32 x) = (c.setR 3 x).cells := fun c x => Cp.setAt c 3 x (by omega)
  have g1 : ∀ (c : Cp), c.cells[1]? = some (.int .u32 (c.R 1)) := fun c => Cp.atR c 1 (by omega)
  have g2 : ∀ (c : Cp), c.cells[2]? = some (.int .u32 (c.R 2)) := fun c => Cp.atR c 2 (by omega)
  have g3 : ∀ (c : Cp), c.cells[3]? = some (.int .u32 (c.R 3)) := fun c => Cp.atR c 3 (by omega)
  clear hw
  go_enter Tryd.func6, Tryd.ntmps6
  go_wp2_with (first | (go_at_call 10; refine (decode_shown _ HW.out).mono ?_; rintro e w1 ⟨rfl, hb⟩; have hs1 := hb.size) | (go_at_call 8; refine (exec_shown _ (((HW.out.below hb HW.out.big).alloc _).alloc _)).mono ?_; rintro e w2 ⟨d, d1, d2, d3, d4, d5, d6, rfl, hb2⟩))
  go_ret
  refine ⟨rfl, ?_⟩
  have hs2 := hb2.size
  simp at hs2
  exact (((hb.alloc hs1 _).alloc (by simp; omega) _).trans (hb2.mono (by simp; omega))).alloc (by omega) _
end Go.Proofs.YtkhgeldnlffgjabDoor
