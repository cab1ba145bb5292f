/-
  The document's reckons, operation by operation.
-/
import Derived.Test.YteegkhnikcioiaaGreatDoorMCExq
import Derived.Deep.DeepCutAuto
namespace Go.Proofs.YteegkhnikcioiaaGreatDoor.Cpu
open Go.ChangeShapes Go.WideShapes Go.ChangeAt Go.RowKit
attribute [local go_sem ↓] loadCpu_seal storeCpu_seal loadIn_seal storeIn_seal
attribute [local go_sem] loadCpu_run storeCpu_run loadIn_run storeIn_run rowAt_at rowAt_past rowAt_drew rowAt_drewN roomCpu_new roomIn_new roomAt_old roomAt_drew roomAt_drewN putCpu_new putIn_new Cp.zero_fold In.fold putRow_past rowCpu_put rowIn_put size_put putRow_drew putRow_drewN alloc_drewN setCell_drewN Cp.at16 Cp.at17 Cp.at18 Cp.at19 Cp.at20 Cp.at21 Cp.size Cp.set16 Cp.set17 Cp.set18 Cp.set19 Cp.set20 Cp.set21 In.at0 In.at1 In.at2 In.at3 In.at4 In.at5 In.at6 In.at7 In.size In.set0 In.set1 In.set2 In.set3 In.ne Cp.ne In.set4 In.set5 In.set6 In.set7
attribute [local go_sem ↓] eqlCpu_seal
attribute [local go_sem] put_cell put_room put_froz put16
set_option linter.unusedVariables false

/-- What reckons leaves: all but PC as operated. -/
def Cp.reck (c : Cp) (i : In) : Cp := { c.operated i with PC := c.PC }
theorem or_turn (n : Int) (n0 : 0 ≤ n) (n1 : n ≤ 4294967295) : bits .or .u32 n 4294901760 = bits .or .u32 4294901760 n := by
  rw [u32_or n 4294901760 n0 (by omega) (by omega) (by omega), u32_or 4294901760 n (by omega) (by omega) n0 (by omega), Nat.or_comm]
theorem and_not (b x : Int) (b0 : 0 ≤ b) (b1 : b ≤ 4294967295) (x0 : 0 ≤ x) (x1 : x ≤ 4294967295) : bits .and .u32 b (4294967295 - x) = bits .andNot .u32 b x := by
  rw [u32_andNot b x b0 (by omega) x0 (by omega), u32_and b (4294967295 - x) b0 (by omega) (by omega) (by omega), show (4294967295 - x).toNat = 4294967295 - x.toNat by omega]
set_option maxHeartbeats 2000000 in
set_option maxRecDepth 20000 in
theorem rk_and (c : Cp) (i : In) (w : World) (hc : c.Ok) (hI : isOp i) (hA : 0 ≤ i.A ∧ i.A < 16) (hB : 0 ≤ i.B ∧ i.B < 16) (hC : 0 ≤ i.C ∧ i.C < 16) (hO : i.O = 4) : Calls Tryz.prog 94 #[.agg c.cells, .agg i.cells] w fun e w' => e = .returned (.tuple #[.agg (c.got i.A (bits .and .u32 (c.R i.B.toNat) (c.opnd i))).cells, .bool true]) ∧ Below w.heap.size w w' := by
  have hrc := Cp.atR c i.C.toNat (by omega)
  have hrb := Cp.atR c i.B.toNat (by omega)
  have HX : Hid (0 ≤ c.opnd i ∧ c.opnd i ≤ 4294967295) := opnd_bd c i hc hC hI
  have HBd : Hid (0 ≤ c.R i.B.toNat ∧ c.R i.B.toNat ≤ 4294967295) := hc.R i.B.toNat (by omega)
  have HOr : Hid (i.F = 1 → i.V = true → bits .or .u32 i.N 4294901760 = 4294901760 + i.N) := fun hF hV => by
    rcases hI with h | ⟨_, n0, n1⟩
    · omega
    · rw [or_turn i.N n0 (by omega)]; exact or_add 4294901760 i.N 16 (by omega) (by omega) (by omega) n0 (by omega) (by omega)
  have K0 : Hid (Keeps w [(w.heap.size + 2, Cp.zero.cells), (w.heap.size + 1, i.cells), (w.heap.size, c.cells)] (((w.alloc (.cells c.cells 45)).alloc (.cells i.cells 123)).alloc (.cells Cp.zero.cells 45))) := keeps3 w _ _ _ _ _ _
  obtain ⟨b0, b1⟩ := hB
  obtain ⟨c0, c1⟩ := hC
  go_enter Tryz.func94, Tryz.ntmps94
  go_upto_if 18 with fail
  go_cut [6] (fun s6 X => s6 = .int .u32 (c.opnd i) ∧ X = (((w.alloc (.cells c.cells 45)).alloc (.cells i.cells 123)).alloc (.cells Cp.zero.cells 45)))
  case first =>
    rcases hI with hF | ⟨hF, n0, n1⟩
    · have e : c.opnd i = c.R i.C.toNat := by simp [Cp.opnd, hF]
      go_wp2
      go_meet
      case rel => exact ⟨by rw [e], rfl⟩
    · have hm : i.N % 4294967296 = i.N := by omega
      cases hV : i.V
      · have e : c.opnd i = i.N := by simp [Cp.opnd, hF, hV]
        go_wp2
        go_meet
        case rel => exact ⟨by rw [e], rfl⟩
      · have e : c.opnd i = 4294901760 + i.N := by simp [Cp.opnd, hF, hV]
        go_wp2
        go_meet
        case rel => exact ⟨by rw [e, HOr.out hF hV], rfl⟩
  case rest =>
    obtain ⟨rfl, rfl⟩ := hcut
    have bx := HX.out
    have bb := HBd.out
    have Hb := bits_bd .and (c.R i.B.toNat) (c.opnd i)
    go_wp2_with (go_at_call 93; refine (gets_any c i.A _ _ hA.1 hA.2 (by omega) (by omega)).mono ?_; rintro e w1 ⟨rfl, hb⟩; have HK : Hid (Keeps w [(w.heap.size + 2, Cp.zero.cells), (w.heap.size + 1, i.cells), (w.heap.size, c.cells)] w1) := K0.out.call hb; have r2 : roomAt w1 (w.heap.size + 1 + 1) 22 = true := HK.out.room (b := w.heap.size + 2) (c := Cp.zero.cells) (by simp))
    exact ret_cell_tmp rfl rfl (loadCpu_row (rowCpu_put _ _ _ r2)) rfl ⟨rfl, below_put HK.out.1 _ (by omega) _⟩
set_option maxHeartbeats 2000000 in
set_option maxRecDepth 20000 in
theorem rk_or (c : Cp) (i : In) (w : World) (hc : c.Ok) (hI : isOp i) (hA : 0 ≤ i.A ∧ i.A < 16) (hB : 0 ≤ i.B ∧ i.B < 16) (hC : 0 ≤ i.C ∧ i.C < 16) (hO : i.O = 6) : Calls Tryz.prog 94 #[.agg c.cells, .agg i.cells] w fun e w' => e = .returned (.tuple #[.agg (c.got i.A (bits .or .u32 (c.R i.B.toNat) (c.opnd i))).cells, .bool true]) ∧ Below w.heap.size w w' := by
  have hrc := Cp.atR c i.C.toNat (by omega)
  have hrb := Cp.atR c i.B.toNat (by omega)
  have HX : Hid (0 ≤ c.opnd i ∧ c.opnd i ≤ 4294967295) := opnd_bd c i hc hC hI
  have HBd : Hid (0 ≤ c.R i.B.toNat ∧ c.R i.B.toNat ≤ 4294967295) := hc.R i.B.toNat (by omega)
  have HOr : Hid (i.F = 1 → i.V = true → bits .or .u32 i.N 4294901760 = 4294901760 + i.N) := fun hF hV => by
    rcases hI with h | ⟨_, n0, n1⟩
    · omega
    · rw [or_turn i.N n0 (by omega)]; exact or_add 4294901760 i.N 16 (by omega) (by omega) (by omega) n0 (by omega) (by omega)
  have K0 : Hid (Keeps w [(w.heap.size + 2, Cp.zero.cells), (w.heap.size + 1, i.cells), (w.heap.size, c.cells)] (((w.alloc (.cells c.cells 45)).alloc (.cells i.cells 123)).alloc (.cells Cp.zero.cells 45))) := keeps3 w _ _ _ _ _ _
  obtain ⟨b0, b1⟩ := hB
  obtain ⟨c0, c1⟩ := hC
  go_enter Tryz.func94, Tryz.ntmps94
  go_upto_if 18 with fail
  go_cut [6] (fun s6 X => s6 = .int .u32 (c.opnd i) ∧ X = (((w.alloc (.cells c.cells 45)).alloc (.cells i.cells 123)).alloc (.cells Cp.zero.cells 45)))
  case first =>
    rcases hI with hF | ⟨hF, n0, n1⟩
    · have e : c.opnd i = c.R i.C.toNat := by simp [Cp.opnd, hF]
      go_wp2
      go_meet
      case rel => exact ⟨by rw [e], rfl⟩
    · have hm : i.N % 4294967296 = i.N := by omega
      cases hV : i.V
      · have e : c.opnd i = i.N := by simp [Cp.opnd, hF, hV]
        go_wp2
        go_meet
        case rel => exact ⟨by rw [e], rfl⟩
      · have e : c.opnd i = 4294901760 + i.N := by simp [Cp.opnd, hF, hV]
        go_wp2
        go_meet
        case rel => exact ⟨by rw [e, HOr.out hF hV], rfl⟩
  case rest =>
    obtain ⟨rfl, rfl⟩ := hcut
    have bx := HX.out
    have bb := HBd.out
    have Hb := bits_bd .or (c.R i.B.toNat) (c.opnd i)
    go_wp2_with (go_at_call 93; refine (gets_any c i.A _ _ hA.1 hA.2 (by omega) (by omega)).mono ?_; rintro e w1 ⟨rfl, hb⟩; have HK : Hid (Keeps w [(w.heap.size + 2, Cp.zero.cells), (w.heap.size + 1, i.cells), (w.heap.size, c.cells)] w1) := K0.out.call hb; have r2 : roomAt w1 (w.heap.size + 1 + 1) 22 = true := HK.out.room (b := w.heap.size + 2) (c := Cp.zero.cells) (by simp))
    exact ret_cell_tmp rfl rfl (loadCpu_row (rowCpu_put _ _ _ r2)) rfl ⟨rfl, below_put HK.out.1 _ (by omega) _⟩
set_option maxHeartbeats 2000000 in
set_option maxRecDepth 20000 in
theorem rk_xor (c : Cp) (i : In) (w : World) (hc : c.Ok) (hI : isOp i) (hA : 0 ≤ i.A ∧ i.A < 16) (hB : 0 ≤ i.B ∧ i.B < 16) (hC : 0 ≤ i.C ∧ i.C < 16) (hO : i.O = 7) : Calls Tryz.prog 94 #[.agg c.cells, .agg i.cells] w fun e w' => e = .returned (.tuple #[.agg (c.got i.A (bits .xor .u32 (c.R i.B.toNat) (c.opnd i))).cells, .bool true]) ∧ Below w.heap.size w w' := by
  have hrc := Cp.atR c i.C.toNat (by omega)
  have hrb := Cp.atR c i.B.toNat (by omega)
  have HX : Hid (0 ≤ c.opnd i ∧ c.opnd i ≤ 4294967295) := opnd_bd c i hc hC hI
  have HBd : Hid (0 ≤ c.R i.B.toNat ∧ c.R i.B.toNat ≤ 4294967295) := hc.R i.B.toNat (by omega)
  have HOr : Hid (i.F = 1 → i.V = true → bits .or .u32 i.N 4294901760 = 4294901760 + i.N) := fun hF hV => by
    rcases hI with h | ⟨_, n0, n1⟩
    · omega
    · rw [or_turn i.N n0 (by omega)]; exact or_add 4294901760 i.N 16 (by omega) (by omega) (by omega) n0 (by omega) (by omega)
  have K0 : Hid (Keeps w [(w.heap.size + 2, Cp.zero.cells), (w.heap.size + 1, i.cells), (w.heap.size, c.cells)] (((w.alloc (.cells c.cells 45)).alloc (.cells i.cells 123)).alloc (.cells Cp.zero.cells 45))) := keeps3 w _ _ _ _ _ _
  obtain ⟨b0, b1⟩ := hB
  obtain ⟨c0, c1⟩ := hC
  go_enter Tryz.func94, Tryz.ntmps94
  go_upto_if 18 with fail
  go_cut [6] (fun s6 X => s6 = .int .u32 (c.opnd i) ∧ X = (((w.alloc (.cells c.cells 45)).alloc (.cells i.cells 123)).alloc (.cells Cp.zero.cells 45)))
  case first =>
    rcases hI with hF | ⟨hF, n0, n1⟩
    · have e : c.opnd i = c.R i.C.toNat := by simp [Cp.opnd, hF]
      go_wp2
      go_meet
      case rel => exact ⟨by rw [e], rfl⟩
    · have hm : i.N % 4294967296 = i.N := by omega
      cases hV : i.V
      · have e : c.opnd i = i.N := by simp [Cp.opnd, hF, hV]
        go_wp2
        go_meet
        case rel => exact ⟨by rw [e], rfl⟩
      · have e : c.opnd i = 4294901760 + i.N := by simp [Cp.opnd, hF, hV]
        go_wp2
        go_meet
        case rel => exact ⟨by rw [e, HOr.out hF hV], rfl⟩
  case rest =>
    obtain ⟨rfl, rfl⟩ := hcut
    have bx := HX.out
    have bb := HBd.out
    have Hb := bits_bd .xor (c.R i.B.toNat) (c.opnd i)
    go_wp2_with (go_at_call 93; refine (gets_any c i.A _ _ hA.1 hA.2 (by omega) (by omega)).mono ?_; rintro e w1 ⟨rfl, hb⟩; have HK : Hid (Keeps w [(w.heap.size + 2, Cp.zero.cells), (w.heap.size + 1, i.cells), (w.heap.size, c.cells)] w1) := K0.out.call hb; have r2 : roomAt w1 (w.heap.size + 1 + 1) 22 = true := HK.out.room (b := w.heap.size + 2) (c := Cp.zero.cells) (by simp))
    exact ret_cell_tmp rfl rfl (loadCpu_row (rowCpu_put _ _ _ r2)) rfl ⟨rfl, below_put HK.out.1 _ (by omega) _⟩
set_option maxHeartbeats 2000000 in
set_option maxRecDepth 20000 in
theorem rk_ann (c : Cp) (i : In) (w : World) (hc : c.Ok) (hI : isOp i) (hA : 0 ≤ i.A ∧ i.A < 16) (hB : 0 ≤ i.B ∧ i.B < 16) (hC : 0 ≤ i.C ∧ i.C < 16) (hO : i.O = 5) : Calls Tryz.prog 94 #[.agg c.cells, .agg i.cells] w fun e w' => e = .returned (.tuple #[.agg (c.got i.A (bits .andNot .u32 (c.R i.B.toNat) (c.opnd i))).cells, .bool true]) ∧ Below w.heap.size w w' := by
  have hrc := Cp.atR c i.C.toNat (by omega)
  have hrb := Cp.atR c i.B.toNat (by omega)
  have HX : Hid (0 ≤ c.opnd i ∧ c.opnd i ≤ 4294967295) := opnd_bd c i hc hC hI
  have HBd : Hid (0 ≤ c.R i.B.toNat ∧ c.R i.B.toNat ≤ 4294967295) := hc.R i.B.toNat (by omega)
  have HOr : Hid (i.F = 1 → i.V = true → bits .or .u32 i.N 4294901760 = 4294901760 + i.N) := fun hF hV => by
    rcases hI with h | ⟨_, n0, n1⟩
    · omega
    · rw [or_turn i.N n0 (by omega)]; exact or_add 4294901760 i.N 16 (by omega) (by omega) (by omega) n0 (by omega) (by omega)
  have K0 : Hid (Keeps w [(w.heap.size + 2, Cp.zero.cells), (w.heap.size + 1, i.cells), (w.heap.size, c.cells)] (((w.alloc (.cells c.cells 45)).alloc (.cells i.cells 123)).alloc (.cells Cp.zero.cells 45))) := keeps3 w _ _ _ _ _ _
  obtain ⟨b0, b1⟩ := hB
  obtain ⟨c0, c1⟩ := hC
  go_enter Tryz.func94, Tryz.ntmps94
  go_upto_if 18 with fail
  go_cut [6] (fun s6 X => s6 = .int .u32 (c.opnd i) ∧ X = (((w.alloc (.cells c.cells 45)).alloc (.cells i.cells 123)).alloc (.cells Cp.zero.cells 45)))
  case first =>
    rcases hI with hF | ⟨hF, n0, n1⟩
    · have e : c.opnd i = c.R i.C.toNat := by simp [Cp.opnd, hF]
      go_wp2
      go_meet
      case rel => exact ⟨by rw [e], rfl⟩
    · have hm : i.N % 4294967296 = i.N := by omega
      cases hV : i.V
      · have e : c.opnd i = i.N := by simp [Cp.opnd, hF, hV]
        go_wp2
        go_meet
        case rel => exact ⟨by rw [e], rfl⟩
      · have e : c.opnd i = 4294901760 + i.N := by simp [Cp.opnd, hF, hV]
        go_wp2
        go_meet
        case rel => exact ⟨by rw [e, HOr.out hF hV], rfl⟩
  case rest =>
    obtain ⟨rfl, rfl⟩ := hcut
    have bx := HX.out
    have bb := HBd.out
    have Hb := bits_bd .and (c.R i.B.toNat) (4294967295 - c.opnd i)
    have HN : Hid (_ = _) := and_not (c.R i.B.toNat) (c.opnd i) bb.1 bb.2 bx.1 bx.2
    go_wp2_with (go_at_call 93; refine (gets_any c i.A _ _ hA.1 hA.2 (by first | exact (bits_bd _ _ _).1 | exact (bits_bd _ _ _).2) (by first | exact (bits_bd _ _ _).1 | exact (bits_bd _ _ _).2)).mono ?_; rintro e w1 ⟨rfl, hb⟩; have HK : Hid (Keeps w [(w.heap.size + 2, Cp.zero.cells), (w.heap.size + 1, i.cells), (w.heap.size, c.cells)] w1) := K0.out.call hb; have r2 : roomAt w1 (w.heap.size + 1 + 1) 22 = true := HK.out.room (b := w.heap.size + 2) (c := Cp.zero.cells) (by simp))
    exact ret_cell_tmp rfl rfl (loadCpu_row (rowCpu_put _ _ _ r2)) rfl ⟨by rw [← HN.out]; rfl, below_put HK.out.1 _ (by omega) _⟩
set_option maxHeartbeats 2000000 in
set_option maxRecDepth 20000 in
theorem rk_add (c : Cp) (i : In) (w : World) (hc : c.Ok) (hI : isOp i) (hA : 0 ≤ i.A ∧ i.A < 16) (hB : 0 ≤ i.B ∧ i.B < 16) (hC : 0 ≤ i.C ∧ i.C < 16) (hO : i.O = 8) : Calls Tryz.prog 94 #[.agg c.cells, .agg i.cells] w fun e w' => e = .returned (.tuple #[.agg ({ c.added i (c.R i.B.toNat) (c.opnd i) with PC := c.PC } : Cp).cells, .bool true]) ∧ Below w.heap.size w w' := by
  have hrc := Cp.atR c i.C.toNat (by omega)
  have hrb := Cp.atR c i.B.toNat (by omega)
  have HX : Hid (0 ≤ c.opnd i ∧ c.opnd i ≤ 4294967295) := opnd_bd c i hc hC hI
  have HBd : Hid (0 ≤ c.R i.B.toNat ∧ c.R i.B.toNat ≤ 4294967295) := hc.R i.B.toNat (by omega)
  have HOr : Hid (i.F = 1 → i.V = true → bits .or .u32 i.N 4294901760 = 4294901760 + i.N) := fun hF hV => by
    rcases hI with h | ⟨_, n0, n1⟩
    · omega
    · rw [or_turn i.N n0 (by omega)]; exact or_add 4294901760 i.N 16 (by omega) (by omega) (by omega) n0 (by omega) (by omega)
  have K0 : Hid (Keeps w [(w.heap.size + 2, Cp.zero.cells), (w.heap.size + 1, i.cells), (w.heap.size, c.cells)] (((w.alloc (.cells c.cells 45)).alloc (.cells i.cells 123)).alloc (.cells Cp.zero.cells 45))) := keeps3 w _ _ _ _ _ _
  obtain ⟨b0, b1⟩ := hB
  obtain ⟨c0, c1⟩ := hC
  go_enter Tryz.func94, Tryz.ntmps94
  go_upto_if 18 with fail
  go_cut [6] (fun s6 X => s6 = .int .u32 (c.opnd i) ∧ X = (((w.alloc (.cells c.cells 45)).alloc (.cells i.cells 123)).alloc (.cells Cp.zero.cells 45)))
  case first =>
    rcases hI with hF | ⟨hF, n0, n1⟩
    · have e : c.opnd i = c.R i.C.toNat := by simp [Cp.opnd, hF]
      go_wp2
      go_meet
      case rel => exact ⟨by rw [e], rfl⟩
    · have hm : i.N % 4294967296 = i.N := by omega
      cases hV : i.V
      · have e : c.opnd i = i.N := by simp [Cp.opnd, hF, hV]
        go_wp2
        go_meet
        case rel => exact ⟨by rw [e], rfl⟩
      · have e : c.opnd i = 4294901760 + i.N := by simp [Cp.opnd, hF, hV]
        go_wp2
        go_meet
        case rel => exact ⟨by rw [e, HOr.out hF hV], rfl⟩
  case rest =>
    obtain ⟨rfl, rfl⟩ := hcut
    have bx := HX.out
    have bb := HBd.out
    go_wp2_with (go_at_call 119; refine (summed_any c i _ _ _ (.inl hO) hA (by omega) (by omega) (by omega) (by omega)).mono ?_; rintro e w1 ⟨rfl, hb⟩; have HK : Hid (Keeps w [(w.heap.size + 2, Cp.zero.cells), (w.heap.size + 1, i.cells), (w.heap.size, c.cells)] w1) := K0.out.call hb; have r2 : roomAt w1 (w.heap.size + 1 + 1) 22 = true := HK.out.room (b := w.heap.size + 2) (c := Cp.zero.cells) (by simp))
    exact ret_cell_tmp rfl rfl (loadCpu_row (rowCpu_put _ _ _ r2)) rfl ⟨by first | rfl | simp [hO], below_put HK.out.1 _ (by omega) _⟩
set_option maxHeartbeats 2000000 in
set_option maxRecDepth 20000 in
theorem rk_sub (c : Cp) (i : In) (w : World) (hc : c.Ok) (hI : isOp i) (hA : 0 ≤ i.A ∧ i.A < 16) (hB : 0 ≤ i.B ∧ i.B < 16) (hC : 0 ≤ i.C ∧ i.C < 16) (hO : i.O = 9) : Calls Tryz.prog 94 #[.agg c.cells, .agg i.cells] w fun e w' => e = .returned (.tuple #[.agg ({ c.subbed i (c.R i.B.toNat) (c.opnd i) with PC := c.PC } : Cp).cells, .bool true]) ∧ Below w.heap.size w w' := by
  have hrc := Cp.atR c i.C.toNat (by omega)
  have hrb := Cp.atR c i.B.toNat (by omega)
  have HX : Hid (0 ≤ c.opnd i ∧ c.opnd i ≤ 4294967295) := opnd_bd c i hc hC hI
  have HBd : Hid (0 ≤ c.R i.B.toNat ∧ c.R i.B.toNat ≤ 4294967295) := hc.R i.B.toNat (by omega)
  have HOr : Hid (i.F = 1 → i.V = true → bits .or .u32 i.N 4294901760 = 4294901760 + i.N) := fun hF hV => by
    rcases hI with h | ⟨_, n0, n1⟩
    · omega
    · rw [or_turn i.N n0 (by omega)]; exact or_add 4294901760 i.N 16 (by omega) (by omega) (by omega) n0 (by omega) (by omega)
  have K0 : Hid (Keeps w [(w.heap.size + 2, Cp.zero.cells), (w.heap.size + 1, i.cells), (w.heap.size, c.cells)] (((w.alloc (.cells c.cells 45)).alloc (.cells i.cells 123)).alloc (.cells Cp.zero.cells 45))) := keeps3 w _ _ _ _ _ _
  obtain ⟨b0, b1⟩ := hB
  obtain ⟨c0, c1⟩ := hC
  go_enter Tryz.func94, Tryz.ntmps94
  go_upto_if 18 with fail
  go_cut [6] (fun s6 X => s6 = .int .u32 (c.opnd i) ∧ X = (((w.alloc (.cells c.cells 45)).alloc (.cells i.cells 123)).alloc (.cells Cp.zero.cells 45)))
  case first =>
    rcases hI with hF | ⟨hF, n0, n1⟩
    · have e : c.opnd i = c.R i.C.toNat := by simp [Cp.opnd, hF]
      go_wp2
      go_meet
      case rel => exact ⟨by rw [e], rfl⟩
    · have hm : i.N % 4294967296 = i.N := by omega
      cases hV : i.V
      · have e : c.opnd i = i.N := by simp [Cp.opnd, hF, hV]
        go_wp2
        go_meet
        case rel => exact ⟨by rw [e], rfl⟩
      · have e : c.opnd i = 4294901760 + i.N := by simp [Cp.opnd, hF, hV]
        go_wp2
        go_meet
        case rel => exact ⟨by rw [e, HOr.out hF hV], rfl⟩
  case rest =>
    obtain ⟨rfl, rfl⟩ := hcut
    have bx := HX.out
    have bb := HBd.out
    go_wp2_with (go_at_call 119; refine (summed_any c i _ _ _ (.inr hO) hA (by omega) (by omega) (by omega) (by omega)).mono ?_; rintro e w1 ⟨rfl, hb⟩; have HK : Hid (Keeps w [(w.heap.size + 2, Cp.zero.cells), (w.heap.size + 1, i.cells), (w.heap.size, c.cells)] w1) := K0.out.call hb; have r2 : roomAt w1 (w.heap.size + 1 + 1) 22 = true := HK.out.room (b := w.heap.size + 2) (c := Cp.zero.cells) (by simp))
    exact ret_cell_tmp rfl rfl (loadCpu_row (rowCpu_put _ _ _ r2)) rfl ⟨by first | rfl | simp [hO], below_put HK.out.1 _ (by omega) _⟩
set_option maxHeartbeats 2000000 in
set_option maxRecDepth 20000 in
theorem rk_mul (c : Cp) (i : In) (w : World) (hc : c.Ok) (hI : isOp i) (hA : 0 ≤ i.A ∧ i.A < 16) (hB : 0 ≤ i.B ∧ i.B < 16) (hC : 0 ≤ i.C ∧ i.C < 16) (hO : i.O = 10) : Calls Tryz.prog 94 #[.agg c.cells, .agg i.cells] w fun e w' => e = .returned (.tuple #[.agg (({ c with H := mulH (c.R i.B.toNat) (c.opnd i) i.U } : Cp).got i.A (mulL (c.R i.B.toNat) (c.opnd i) i.U)).cells, .bool true]) ∧ Below w.heap.size w w' := by
  have hrc := Cp.atR c i.C.toNat (by omega)
  have hrb := Cp.atR c i.B.toNat (by omega)
  have HX : Hid (0 ≤ c.opnd i ∧ c.opnd i ≤ 4294967295) := opnd_bd c i hc hC hI
  have HBd : Hid (0 ≤ c.R i.B.toNat ∧ c.R i.B.toNat ≤ 4294967295) := hc.R i.B.toNat (by omega)
  have HOr : Hid (i.F = 1 → i.V = true → bits .or .u32 i.N 4294901760 = 4294901760 + i.N) := fun hF hV => by
    rcases hI with h | ⟨_, n0, n1⟩
    · omega
    · rw [or_turn i.N n0 (by omega)]; exact or_add 4294901760 i.N 16 (by omega) (by omega) (by omega) n0 (by omega) (by omega)
  have K0 : Hid (Keeps w [(w.heap.size + 2, Cp.zero.cells), (w.heap.size + 1, i.cells), (w.heap.size, c.cells)] (((w.alloc (.cells c.cells 45)).alloc (.cells i.cells 123)).alloc (.cells Cp.zero.cells 45))) := keeps3 w _ _ _ _ _ _
  obtain ⟨b0, b1⟩ := hB
  obtain ⟨c0, c1⟩ := hC
  go_enter Tryz.func94, Tryz.ntmps94
  go_upto_if 18 with fail
  go_cut [6] (fun s6 X => s6 = .int .u32 (c.opnd i) ∧ X = (((w.alloc (.cells c.cells 45)).alloc (.cells i.cells 123)).alloc (.cells Cp.zero.cells 45)))
  case first =>
    rcases hI with hF | ⟨hF, n0, n1⟩
    · have e : c.opnd i = c.R i.C.toNat := by simp [Cp.opnd, hF]
      go_wp2
      go_meet
      case rel => exact ⟨by rw [e], rfl⟩
    · have hm : i.N % 4294967296 = i.N := by omega
      cases hV : i.V
      · have e : c.opnd i = i.N := by simp [Cp.opnd, hF, hV]
        go_wp2
        go_meet
        case rel => exact ⟨by rw [e], rfl⟩
      · have e : c.opnd i = 4294901760 + i.N := by simp [Cp.opnd, hF, hV]
        go_wp2
        go_meet
        case rel => exact ⟨by rw [e, HOr.out hF hV], rfl⟩
  case rest =>
    obtain ⟨rfl, rfl⟩ := hcut
    have bx := HX.out
    have bb := HBd.out
    go_wp2_with (go_at_call 120; refine (product_any c i _ _ _ hA (by omega) (by omega) (by omega) (by omega)).mono ?_; rintro e w1 ⟨rfl, hb⟩; have HK : Hid (Keeps w [(w.heap.size + 2, Cp.zero.cells), (w.heap.size + 1, i.cells), (w.heap.size, c.cells)] w1) := K0.out.call hb; have r2 : roomAt w1 (w.heap.size + 1 + 1) 22 = true := HK.out.room (b := w.heap.size + 2) (c := Cp.zero.cells) (by simp))
    exact ret_cell_tmp rfl rfl (loadCpu_row (rowCpu_put _ _ _ r2)) rfl ⟨rfl, below_put HK.out.1 _ (by omega) _⟩
theorem ret_gotT {c : Cp} {h h' a x x' : Int} (e1 : h = h') (e2 : x = x') : Ending.returned (.tuple #[.agg (({ c with H := h } : Cp).got a x).cells, .bool true]) = .returned (.tuple #[.agg (({ c with H := h' } : Cp).got a x').cells, .bool true]) := by rw [e1, e2]
set_option maxHeartbeats 2000000 in
set_option maxRecDepth 20000 in
theorem rk_div (c : Cp) (i : In) (w : World) (hc : c.Ok) (hI : isOp i) (hA : 0 ≤ i.A ∧ i.A < 16) (hB : 0 ≤ i.B ∧ i.B < 16) (hC : 0 ≤ i.C ∧ i.C < 16) (hO : i.O = 11) (hD : 0 < sg (c.opnd i)) : Calls Tryz.prog 94 #[.agg c.cells, .agg i.cells] w fun e w' => e = .returned (.tuple #[.agg (({ c with H := divR (c.R i.B.toNat) (c.opnd i) } : Cp).got i.A (divQ (c.R i.B.toNat) (c.opnd i))).cells, .bool true]) ∧ Below w.heap.size w w' := by
  have hrc := Cp.atR c i.C.toNat (by omega)
  have hrb := Cp.atR c i.B.toNat (by omega)
  have HX : Hid (0 ≤ c.opnd i ∧ c.opnd i ≤ 4294967295) := opnd_bd c i hc hC hI
  have HBd : Hid (0 ≤ c.R i.B.toNat ∧ c.R i.B.toNat ≤ 4294967295) := hc.R i.B.toNat (by omega)
  have HOr : Hid (i.F = 1 → i.V = true → bits .or .u32 i.N 4294901760 = 4294901760 + i.N) := fun hF hV => by
    rcases hI with h | ⟨_, n0, n1⟩
    · omega
    · rw [or_turn i.N n0 (by omega)]; exact or_add 4294901760 i.N 16 (by omega) (by omega) (by omega) n0 (by omega) (by omega)
  have K0 : Hid (Keeps w [(w.heap.size + 2, Cp.zero.cells), (w.heap.size + 1, i.cells), (w.heap.size, c.cells)] (((w.alloc (.cells c.cells 45)).alloc (.cells i.cells 123)).alloc (.cells Cp.zero.cells 45))) := keeps3 w _ _ _ _ _ _
  obtain ⟨b0, b1⟩ := hB
  obtain ⟨c0, c1⟩ := hC
  go_enter Tryz.func94, Tryz.ntmps94
  go_upto_if 18 with fail
  go_cut [6] (fun s6 X => s6 = .int .u32 (c.opnd i) ∧ X = (((w.alloc (.cells c.cells 45)).alloc (.cells i.cells 123)).alloc (.cells Cp.zero.cells 45)))
  case first =>
    rcases hI with hF | ⟨hF, n0, n1⟩
    · have e : c.opnd i = c.R i.C.toNat := by simp [Cp.opnd, hF]
      go_wp2
      go_meet
      case rel => exact ⟨by rw [e], rfl⟩
    · have hm : i.N % 4294967296 = i.N := by omega
      cases hV : i.V
      · have e : c.opnd i = i.N := by simp [Cp.opnd, hF, hV]
        go_wp2
        go_meet
        case rel => exact ⟨by rw [e], rfl⟩
      · have e : c.opnd i = 4294901760 + i.N := by simp [Cp.opnd, hF, hV]
        go_wp2
        go_meet
        case rel => exact ⟨by rw [e, HOr.out hF hV], rfl⟩
  case rest =>
    obtain ⟨rfl, rfl⟩ := hcut
    have bx := HX.out
    have bb := HBd.out
    have sx := sg_bd _ bx.1 bx.2
    have sb := sg_bd _ bb.1 bb.2
    have hD2 : ¬ sg (c.opnd i) ≤ 0 := by omega
    have hq : Hid (divR (c.R i.B.toNat) (c.opnd i) = sg (c.R i.B.toNat) % sg (c.opnd i) ∧ divQ (c.R i.B.toNat) (c.opnd i) = sg (c.R i.B.toNat) / sg (c.opnd i) % 4294967296 ∧ 0 ≤ sg (c.R i.B.toNat) % sg (c.opnd i) ∧ sg (c.R i.B.toNat) % sg (c.opnd i) < sg (c.opnd i)) := ⟨if_neg hD2, if_neg hD2, Int.emod_nonneg _ (by omega), Int.emod_lt_of_pos _ hD⟩
    go_wp2_with (first
      | (go_at_call 117; refine (number_any _ _ (by omega) (by omega)).mono ?_; rintro e w' ⟨rfl, hx⟩; obtain rfl := hx.symm; clear hx)
      | (go_at_call 121; refine (down_any _ _ _ sb ⟨hD, sx.2⟩).mono ?_; rintro e w' ⟨rfl, hx⟩; obtain rfl := hx.symm; clear hx)
      | (go_at_call 93; refine (gets_any _ i.A _ _ hA.1 hA.2 (by omega) (by omega)).mono ?_; rintro e w1 ⟨rfl, hb⟩; have HL : Hid (Below w.heap.size w w1) := Below.trans (by go_grown) (hb.mono (by simp; omega)); have r2 : roomAt w1 (w.heap.size + 1 + 1) 22 = true := (roomAt_below hb _ _ (by simp)).trans (roomCpu_new _ _ _ _ (by simp))))
    refine ret_cell_tmp rfl rfl (loadCpu_row (rowCpu_put _ _ _ r2)) rfl ⟨?_, below_put HL.out _ (by omega) _⟩
    have h3 := hq.out
    exact ret_gotT (by rw [h3.1]; omega) (by rw [h3.2.1])
set_option maxHeartbeats 2000000 in
set_option maxRecDepth 20000 in
theorem rk_divno (c : Cp) (i : In) (w : World) (hc : c.Ok) (hI : isOp i) (hA : 0 ≤ i.A ∧ i.A < 16) (hB : 0 ≤ i.B ∧ i.B < 16) (hC : 0 ≤ i.C ∧ i.C < 16) (hO : i.O = 11) (hD : sg (c.opnd i) ≤ 0) : Calls Tryz.prog 94 #[.agg c.cells, .agg i.cells] w fun e w' => e = .returned (.tuple #[.agg (c).cells, .bool false]) ∧ Below w.heap.size w w' := by
  have hrc := Cp.atR c i.C.toNat (by omega)
  have hrb := Cp.atR c i.B.toNat (by omega)
  have HX : Hid (0 ≤ c.opnd i ∧ c.opnd i ≤ 4294967295) := opnd_bd c i hc hC hI
  have HBd : Hid (0 ≤ c.R i.B.toNat ∧ c.R i.B.toNat ≤ 4294967295) := hc.R i.B.toNat (by omega)
  have HOr : Hid (i.F = 1 → i.V = true → bits .or .u32 i.N 4294901760 = 4294901760 + i.N) := fun hF hV => by
    rcases hI with h | ⟨_, n0, n1⟩
    · omega
    · rw [or_turn i.N n0 (by omega)]; exact or_add 4294901760 i.N 16 (by omega) (by omega) (by omega) n0 (by omega) (by omega)
  have K0 : Hid (Keeps w [(w.heap.size + 2, Cp.zero.cells), (w.heap.size + 1, i.cells), (w.heap.size, c.cells)] (((w.alloc (.cells c.cells 45)).alloc (.cells i.cells 123)).alloc (.cells Cp.zero.cells 45))) := keeps3 w _ _ _ _ _ _
  obtain ⟨b0, b1⟩ := hB
  obtain ⟨c0, c1⟩ := hC
  go_enter Tryz.func94, Tryz.ntmps94
  go_upto_if 18 with fail
  go_cut [6] (fun s6 X => s6 = .int .u32 (c.opnd i) ∧ X = (((w.alloc (.cells c.cells 45)).alloc (.cells i.cells 123)).alloc (.cells Cp.zero.cells 45)))
  case first =>
    rcases hI with hF | ⟨hF, n0, n1⟩
    · have e : c.opnd i = c.R i.C.toNat := by simp [Cp.opnd, hF]
      go_wp2
      go_meet
      case rel => exact ⟨by rw [e], rfl⟩
    · have hm : i.N % 4294967296 = i.N := by omega
      cases hV : i.V
      · have e : c.opnd i = i.N := by simp [Cp.opnd, hF, hV]
        go_wp2
        go_meet
        case rel => exact ⟨by rw [e], rfl⟩
      · have e : c.opnd i = 4294901760 + i.N := by simp [Cp.opnd, hF, hV]
        go_wp2
        go_meet
        case rel => exact ⟨by rw [e, HOr.out hF hV], rfl⟩
  case rest =>
    obtain ⟨rfl, rfl⟩ := hcut
    have bx := HX.out
    have bb := HBd.out
    go_wp2_with (go_at_call 117; refine (number_any _ _ (by omega) (by omega)).mono ?_; rintro e w' ⟨rfl, hx⟩; obtain rfl := hx.symm; clear hx)
    refine ret_cell_tmp rfl rfl (loadCpu_row (c := c) ?_) rfl ⟨rfl, ?_⟩
    · simp [go_sem]
    · go_grown
set_option maxHeartbeats 2000000 in
set_option maxRecDepth 20000 in
theorem rk_mov (c : Cp) (i : In) (w : World) (hc : c.Ok) (hI : isOp i) (hA : 0 ≤ i.A ∧ i.A < 16) (hB : 0 ≤ i.B ∧ i.B < 16) (hC : 0 ≤ i.C ∧ i.C < 16) (hO : i.O = 0) (hUV : i.F = 1 → i.U = true → i.V = false) : Calls Tryz.prog 94 #[.agg c.cells, .agg i.cells] w fun e w' => e = .returned (.tuple #[.agg (c.got i.A (c.movV i (c.opnd i))).cells, .bool true]) ∧ Below w.heap.size w w' := by
  have hrc := Cp.atR c i.C.toNat (by omega)
  have hrb := Cp.atR c i.B.toNat (by omega)
  have HX : Hid (0 ≤ c.opnd i ∧ c.opnd i ≤ 4294967295) := opnd_bd c i hc hC hI
  have HBd : Hid (0 ≤ c.R i.B.toNat ∧ c.R i.B.toNat ≤ 4294967295) := hc.R i.B.toNat (by omega)
  have HOr : Hid (i.F = 1 → i.V = true → bits .or .u32 i.N 4294901760 = 4294901760 + i.N) := fun hF hV => by
    rcases hI with h | ⟨_, n0, n1⟩
    · omega
    · rw [or_turn i.N n0 (by omega)]; exact or_add 4294901760 i.N 16 (by omega) (by omega) (by omega) n0 (by omega) (by omega)
  have K0 : Hid (Keeps w [(w.heap.size + 2, Cp.zero.cells), (w.heap.size + 1, i.cells), (w.heap.size, c.cells)] (((w.alloc (.cells c.cells 45)).alloc (.cells i.cells 123)).alloc (.cells Cp.zero.cells 45))) := keeps3 w _ _ _ _ _ _
  obtain ⟨b0, b1⟩ := hB
  obtain ⟨c0, c1⟩ := hC
  go_enter Tryz.func94, Tryz.ntmps94
  go_upto_if 18 with fail
  go_cut [6] (fun s6 X => s6 = .int .u32 (c.opnd i) ∧ X = (((w.alloc (.cells c.cells 45)).alloc (.cells i.cells 123)).alloc (.cells Cp.zero.cells 45)))
  case first =>
    rcases hI with hF | ⟨hF, n0, n1⟩
    · have e : c.opnd i = c.R i.C.toNat := by simp [Cp.opnd, hF]
      go_wp2
      go_meet
      case rel => exact ⟨by rw [e], rfl⟩
    · have hm : i.N % 4294967296 = i.N := by omega
      cases hV : i.V
      · have e : c.opnd i = i.N := by simp [Cp.opnd, hF, hV]
        go_wp2
        go_meet
        case rel => exact ⟨by rw [e], rfl⟩
      · have e : c.opnd i = 4294901760 + i.N := by simp [Cp.opnd, hF, hV]
        go_wp2
        go_meet
        case rel => exact ⟨by rw [e, HOr.out hF hV], rfl⟩
  case rest =>
    obtain ⟨rfl, rfl⟩ := hcut
    have bx := HX.out
    have bb := HBd.out
    have hmv := movV_bd c i (c.opnd i) hc bx.1 bx.2
    have HM : Hid (i.F = 0 ∨ i.F = 1 ∧ (i.U = true → c.opnd i = i.N)) := by
      rcases hI with h | ⟨h, _, _⟩
      · exact .inl h
      · exact .inr ⟨h, fun hu => by simp [Cp.opnd, h, hUV h hu]⟩
    go_wp2
    go_region_held3 (fun X => rowAt X w.heap.size = some c.cells ∧ rowAt X (w.heap.size + 1) = some i.cells ∧ (∀ j, X.cell? ⟨w.heap.size, j, none⟩ = c.cells[j]?) ∧ (∀ j, X.cell? ⟨w.heap.size + 1, j, none⟩ = i.cells[j]?)) (first | exact two_put (Keeps.two HK.out) (by omega) (by omega) _ | exact Keeps.two HK.out | exact Keeps.two HK2.out | exact Keeps.two (Keeps.drew K0.out)) (first
      | (go_at_call 116; refine (rmoved_any c i _ _ bx.1 bx.2 HM.out).mono ?_; rintro e w2 ⟨rfl, hb2⟩; have HK2 : Hid (Keeps w [(w.heap.size + 2, Cp.zero.cells), (w.heap.size + 1, i.cells), (w.heap.size, c.cells)] w2) := Keeps.call hb2 (Keeps.drew K0.out))
      | (go_at_call 93; refine (gets_any c i.A _ _ hA.1 hA.2 (by omega) (by omega)).mono ?_; rintro e w1 ⟨rfl, hb⟩; have HK : Hid (Keeps w [(w.heap.size + 2, Cp.zero.cells), (w.heap.size + 1, i.cells), (w.heap.size, c.cells)] w1) := Keeps.call hb (by first | exact HK2.out | exact Keeps.drew K0.out); have r2 : roomAt w1 (w.heap.size + 1 + 1) 22 = true := HK.out.room (b := w.heap.size + 2) (c := Cp.zero.cells) (by simp)))
    all_goals go_wp2
    all_goals exact ret_cell_tmp rfl rfl (loadCpu_row (rowCpu_put _ _ _ r2)) rfl ⟨rfl, below_put HK.out.1 _ (by omega) _⟩
set_option maxHeartbeats 2000000 in
set_option maxRecDepth 20000 in
theorem rk_lsl (c : Cp) (i : In) (w : World) (hc : c.Ok) (hI : isOp i) (hA : 0 ≤ i.A ∧ i.A < 16) (hB : 0 ≤ i.B ∧ i.B < 16) (hC : 0 ≤ i.C ∧ i.C < 16) (hO : i.O = 1) : Calls Tryz.prog 94 #[.agg c.cells, .agg i.cells] w fun e w' => e = .returned (.tuple #[.agg (c.got i.A (lslK (c.R i.B.toNat) (c.opnd i % 32).toNat)).cells, .bool true]) ∧ Below w.heap.size w w' := by
  have hrc := Cp.atR c i.C.toNat (by omega)
  have hrb := Cp.atR c i.B.toNat (by omega)
  have HX : Hid (0 ≤ c.opnd i ∧ c.opnd i ≤ 4294967295) := opnd_bd c i hc hC hI
  have HBd : Hid (0 ≤ c.R i.B.toNat ∧ c.R i.B.toNat ≤ 4294967295) := hc.R i.B.toNat (by omega)
  have HOr : Hid (i.F = 1 → i.V = true → bits .or .u32 i.N 4294901760 = 4294901760 + i.N) := fun hF hV => by
    rcases hI with h | ⟨_, n0, n1⟩
    · omega
    · rw [or_turn i.N n0 (by omega)]; exact or_add 4294901760 i.N 16 (by omega) (by omega) (by omega) n0 (by omega) (by omega)
  have K0 : Hid (Keeps w [(w.heap.size + 2, Cp.zero.cells), (w.heap.size + 1, i.cells), (w.heap.size, c.cells)] (((w.alloc (.cells c.cells 45)).alloc (.cells i.cells 123)).alloc (.cells Cp.zero.cells 45))) := keeps3 w _ _ _ _ _ _
  obtain ⟨b0, b1⟩ := hB
  obtain ⟨c0, c1⟩ := hC
  go_enter Tryz.func94, Tryz.ntmps94
  go_upto_if 18 with fail
  go_cut [6] (fun s6 X => s6 = .int .u32 (c.opnd i) ∧ X = (((w.alloc (.cells c.cells 45)).alloc (.cells i.cells 123)).alloc (.cells Cp.zero.cells 45)))
  case first =>
    rcases hI with hF | ⟨hF, n0, n1⟩
    · have e : c.opnd i = c.R i.C.toNat := by simp [Cp.opnd, hF]
      go_wp2
      go_meet
      case rel => exact ⟨by rw [e], rfl⟩
    · have hm : i.N % 4294967296 = i.N := by omega
      cases hV : i.V
      · have e : c.opnd i = i.N := by simp [Cp.opnd, hF, hV]
        go_wp2
        go_meet
        case rel => exact ⟨by rw [e], rfl⟩
      · have e : c.opnd i = 4294901760 + i.N := by simp [Cp.opnd, hF, hV]
        go_wp2
        go_meet
        case rel => exact ⟨by rw [e, HOr.out hF hV], rfl⟩
  case rest =>
    obtain ⟨rfl, rfl⟩ := hcut
    have bx := HX.out
    have bb := HBd.out
    have hn0 : 0 ≤ c.opnd i % 32 := by omega
    have hn1 : c.opnd i % 32 < 32 := by omega
    have hmv := lslK_bd (c.R i.B.toNat) (c.opnd i % 32).toNat
    go_wp2
    go_region_held3 (fun X => rowAt X w.heap.size = some c.cells ∧ rowAt X (w.heap.size + 1) = some i.cells ∧ (∀ j, X.cell? ⟨w.heap.size, j, none⟩ = c.cells[j]?) ∧ (∀ j, X.cell? ⟨w.heap.size + 1, j, none⟩ = i.cells[j]?)) (first | exact two_put (Keeps.two HK.out) (by omega) (by omega) _ | exact Keeps.two HK.out | exact Keeps.two HK2.out | exact Keeps.two (Keeps.drew K0.out)) (first
      | (go_at_call 93; refine (gets_any c i.A _ _ hA.1 hA.2 (by first | omega | exact hmv.1 | exact hmv.2) (by first | omega | exact hmv.1 | exact hmv.2)).mono ?_; rintro e w1 ⟨rfl, hb⟩; have HK : Hid (Keeps w [(w.heap.size + 2, Cp.zero.cells), (w.heap.size + 1, i.cells), (w.heap.size, c.cells)] w1) := Keeps.call hb (by first | exact HK2.out | exact Keeps.drew K0.out); have r2 : roomAt w1 (w.heap.size + 1 + 1) 22 = true := HK.out.room (b := w.heap.size + 2) (c := Cp.zero.cells) (by simp)))
    all_goals go_wp2
    all_goals exact ret_cell_tmp rfl rfl (loadCpu_row (rowCpu_put _ _ _ r2)) rfl ⟨rfl, below_put HK.out.1 _ (by omega) _⟩
set_option maxHeartbeats 2000000 in
set_option maxRecDepth 20000 in
theorem rk_asr (c : Cp) (i : In) (w : World) (hc : c.Ok) (hI : isOp i) (hA : 0 ≤ i.A ∧ i.A < 16) (hB : 0 ≤ i.B ∧ i.B < 16) (hC : 0 ≤ i.C ∧ i.C < 16) (hO : i.O = 2) : Calls Tryz.prog 94 #[.agg c.cells, .agg i.cells] w fun e w' => e = .returned (.tuple #[.agg (c.got i.A (asrK (c.R i.B.toNat) (c.opnd i % 32).toNat)).cells, .bool true]) ∧ Below w.heap.size w w' := by
  have hrc := Cp.atR c i.C.toNat (by omega)
  have hrb := Cp.atR c i.B.toNat (by omega)
  have HX : Hid (0 ≤ c.opnd i ∧ c.opnd i ≤ 4294967295) := opnd_bd c i hc hC hI
  have HBd : Hid (0 ≤ c.R i.B.toNat ∧ c.R i.B.toNat ≤ 4294967295) := hc.R i.B.toNat (by omega)
  have HOr : Hid (i.F = 1 → i.V = true → bits .or .u32 i.N 4294901760 = 4294901760 + i.N) := fun hF hV => by
    rcases hI with h | ⟨_, n0, n1⟩
    · omega
    · rw [or_turn i.N n0 (by omega)]; exact or_add 4294901760 i.N 16 (by omega) (by omega) (by omega) n0 (by omega) (by omega)
  have K0 : Hid (Keeps w [(w.heap.size + 2, Cp.zero.cells), (w.heap.size + 1, i.cells), (w.heap.size, c.cells)] (((w.alloc (.cells c.cells 45)).alloc (.cells i.cells 123)).alloc (.cells Cp.zero.cells 45))) := keeps3 w _ _ _ _ _ _
  obtain ⟨b0, b1⟩ := hB
  obtain ⟨c0, c1⟩ := hC
  go_enter Tryz.func94, Tryz.ntmps94
  go_upto_if 18 with fail
  go_cut [6] (fun s6 X => s6 = .int .u32 (c.opnd i) ∧ X = (((w.alloc (.cells c.cells 45)).alloc (.cells i.cells 123)).alloc (.cells Cp.zero.cells 45)))
  case first =>
    rcases hI with hF | ⟨hF, n0, n1⟩
    · have e : c.opnd i = c.R i.C.toNat := by simp [Cp.opnd, hF]
      go_wp2
      go_meet
      case rel => exact ⟨by rw [e], rfl⟩
    · have hm : i.N % 4294967296 = i.N := by omega
      cases hV : i.V
      · have e : c.opnd i = i.N := by simp [Cp.opnd, hF, hV]
        go_wp2
        go_meet
        case rel => exact ⟨by rw [e], rfl⟩
      · have e : c.opnd i = 4294901760 + i.N := by simp [Cp.opnd, hF, hV]
        go_wp2
        go_meet
        case rel => exact ⟨by rw [e, HOr.out hF hV], rfl⟩
  case rest =>
    obtain ⟨rfl, rfl⟩ := hcut
    have bx := HX.out
    have bb := HBd.out
    have hn0 : 0 ≤ c.opnd i % 32 := by omega
    have hn1 : c.opnd i % 32 < 32 := by omega
    have hmv := asrK_bd (c.R i.B.toNat) (c.opnd i % 32).toNat
    go_wp2
    go_region_held3 (fun X => rowAt X w.heap.size = some c.cells ∧ rowAt X (w.heap.size + 1) = some i.cells ∧ (∀ j, X.cell? ⟨w.heap.size, j, none⟩ = c.cells[j]?) ∧ (∀ j, X.cell? ⟨w.heap.size + 1, j, none⟩ = i.cells[j]?)) (first | exact two_put (Keeps.two HK.out) (by omega) (by omega) _ | exact Keeps.two HK.out | exact Keeps.two HK2.out | exact Keeps.two (Keeps.drew K0.out)) (first
      | (go_at_call 117; refine (number_any _ _ (by omega) (by omega)).mono ?_; rintro e w' ⟨rfl, hx⟩; obtain rfl := hx.symm; clear hx)
      | (go_at_call 93; refine (gets_any c i.A _ _ hA.1 hA.2 (by first | omega | exact hmv.1 | exact hmv.2) (by first | omega | exact hmv.1 | exact hmv.2)).mono ?_; rintro e w1 ⟨rfl, hb⟩; have HK : Hid (Keeps w [(w.heap.size + 2, Cp.zero.cells), (w.heap.size + 1, i.cells), (w.heap.size, c.cells)] w1) := Keeps.call hb (by first | exact HK2.out | exact Keeps.drew K0.out); have r2 : roomAt w1 (w.heap.size + 1 + 1) 22 = true := HK.out.room (b := w.heap.size + 2) (c := Cp.zero.cells) (by simp)))
    all_goals go_wp2
    all_goals exact ret_cell_tmp rfl rfl (loadCpu_row (rowCpu_put _ _ _ r2)) rfl ⟨rfl, below_put HK.out.1 _ (by omega) _⟩
set_option maxHeartbeats 2000000 in
set_option maxRecDepth 20000 in
theorem rk_ror (c : Cp) (i : In) (w : World) (hc : c.Ok) (hI : isOp i) (hA : 0 ≤ i.A ∧ i.A < 16) (hB : 0 ≤ i.B ∧ i.B < 16) (hC : 0 ≤ i.C ∧ i.C < 16) (hO : i.O = 3) : Calls Tryz.prog 94 #[.agg c.cells, .agg i.cells] w fun e w' => e = .returned (.tuple #[.agg (c.got i.A (rorK (c.R i.B.toNat) (c.opnd i % 32).toNat)).cells, .bool true]) ∧ Below w.heap.size w w' := by
  have hrc := Cp.atR c i.C.toNat (by omega)
  have hrb := Cp.atR c i.B.toNat (by omega)
  have HX : Hid (0 ≤ c.opnd i ∧ c.opnd i ≤ 4294967295) := opnd_bd c i hc hC hI
  have HBd : Hid (0 ≤ c.R i.B.toNat ∧ c.R i.B.toNat ≤ 4294967295) := hc.R i.B.toNat (by omega)
  have HOr : Hid (i.F = 1 → i.V = true → bits .or .u32 i.N 4294901760 = 4294901760 + i.N) := fun hF hV => by
    rcases hI with h | ⟨_, n0, n1⟩
    · omega
    · rw [or_turn i.N n0 (by omega)]; exact or_add 4294901760 i.N 16 (by omega) (by omega) (by omega) n0 (by omega) (by omega)
  have K0 : Hid (Keeps w [(w.heap.size + 2, Cp.zero.cells), (w.heap.size + 1, i.cells), (w.heap.size, c.cells)] (((w.alloc (.cells c.cells 45)).alloc (.cells i.cells 123)).alloc (.cells Cp.zero.cells 45))) := keeps3 w _ _ _ _ _ _
  obtain ⟨b0, b1⟩ := hB
  obtain ⟨c0, c1⟩ := hC
  go_enter Tryz.func94, Tryz.ntmps94
  go_upto_if 18 with fail
  go_cut [6] (fun s6 X => s6 = .int .u32 (c.opnd i) ∧ X = (((w.alloc (.cells c.cells 45)).alloc (.cells i.cells 123)).alloc (.cells Cp.zero.cells 45)))
  case first =>
    rcases hI with hF | ⟨hF, n0, n1⟩
    · have e : c.opnd i = c.R i.C.toNat := by simp [Cp.opnd, hF]
      go_wp2
      go_meet
      case rel => exact ⟨by rw [e], rfl⟩
    · have hm : i.N % 4294967296 = i.N := by omega
      cases hV : i.V
      · have e : c.opnd i = i.N := by simp [Cp.opnd, hF, hV]
        go_wp2
        go_meet
        case rel => exact ⟨by rw [e], rfl⟩
      · have e : c.opnd i = 4294901760 + i.N := by simp [Cp.opnd, hF, hV]
        go_wp2
        go_meet
        case rel => exact ⟨by rw [e, HOr.out hF hV], rfl⟩
  case rest =>
    obtain ⟨rfl, rfl⟩ := hcut
    have bx := HX.out
    have bb := HBd.out
    have hn0 : 0 ≤ c.opnd i % 32 := by omega
    have hn1 : c.opnd i % 32 < 32 := by omega
    have hmv := rorK_bd (c.R i.B.toNat) (c.opnd i % 32).toNat bb.1 bb.2 (by omega)
    go_wp2
    go_region_held3 (fun X => rowAt X w.heap.size = some c.cells ∧ rowAt X (w.heap.size + 1) = some i.cells ∧ (∀ j, X.cell? ⟨w.heap.size, j, none⟩ = c.cells[j]?) ∧ (∀ j, X.cell? ⟨w.heap.size + 1, j, none⟩ = i.cells[j]?)) (first | exact two_put (Keeps.two HK.out) (by omega) (by omega) _ | exact Keeps.two HK.out | exact Keeps.two HK2.out | exact Keeps.two (Keeps.drew K0.out)) (first
      | (go_at_call 118; refine (turned_any _ _ _ bb.1 bb.2 (by omega) (by omega)).mono ?_; rintro e w' ⟨rfl, hx⟩; obtain rfl := hx.symm; clear hx)
      | (go_at_call 93; refine (gets_any c i.A _ _ hA.1 hA.2 (by first | omega | exact hmv.1 | exact hmv.2) (by first | omega | exact hmv.1 | exact hmv.2)).mono ?_; rintro e w1 ⟨rfl, hb⟩; have HK : Hid (Keeps w [(w.heap.size + 2, Cp.zero.cells), (w.heap.size + 1, i.cells), (w.heap.size, c.cells)] w1) := Keeps.call hb (by first | exact HK2.out | exact Keeps.drew K0.out); have r2 : roomAt w1 (w.heap.size + 1 + 1) 22 = true := HK.out.room (b := w.heap.size + 2) (c := Cp.zero.cells) (by simp)))
    all_goals go_wp2
    all_goals exact ret_cell_tmp rfl rfl (loadCpu_row (rowCpu_put _ _ _ r2)) rfl ⟨rfl, below_put HK.out.1 _ (by omega) _⟩
end Go.Proofs.YteegkhnikcioiaaGreatDoor.Cpu
