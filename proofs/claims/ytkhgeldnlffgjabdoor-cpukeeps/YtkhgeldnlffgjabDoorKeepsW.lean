/-
  The law on what an instruction leaves as it is: its walk.
-/
import Derived.Test.YtkhgeldnlffgjabDoorOks
import Derived.Deep.DeepCutAuto
namespace Go.Proofs.YtkhgeldnlffgjabDoor
open Go.ChangeShapes Go.WideShapes Go.ChangeAt Go.RowKit
attribute [local go_sem ↓] loadCpu_seal storeCpu_seal loadIn_seal storeIn_seal
attribute [local go_sem] loadCpu_run storeCpu_run loadIn_run storeIn_run rowAt_at rowAt_past rowAt_drew rowAt_drewN roomCpu_new roomIn_new roomAt_old roomAt_drew roomAt_drewN putCpu_new putIn_new Cp.zero_fold In.fold putRow_past rowCpu_put rowIn_put size_put putRow_drew putRow_drewN alloc_drewN setCell_drewN Cp.at16 Cp.at17 Cp.at18 Cp.at19 Cp.at20 Cp.at21 Cp.size Cp.set16 Cp.set17 Cp.set18 Cp.set19 Cp.set20 Cp.set21 In.at0 In.at1 In.at2 In.at3 In.at4 In.at5 In.at6 In.at7 In.size In.set0 In.set1 In.set2 In.set3 In.ne Cp.ne In.set4 In.set5 In.set6 In.set7
attribute [local go_sem ↓] eqlCpu_seal
set_option linter.unusedVariables false

theorem keeps2 (w : World) (c1 c2 : Array Value) (t1 t2 : TypeId) : Keeps w [(w.heap.size + 1, c2), (w.heap.size, c1)] ((w.alloc (.cells c1 t1)).alloc (.cells c2 t2)) := by
  have := ((Keeps.refl w).new c1 t1).new c2 t2
  simpa using this
theorem hi_bit (x : Int) (h0 : 0 ≤ x) (h1 : x ≤ 4294967295) : (fldI x 31 1 == 1) = decide (2147483648 ≤ x) := by
  have e : fldI x 31 1 = x / 2147483648 % 2 := by unfold fldI; simp
  rw [e, Bool.eq_iff_iff]
  simp
  omega
theorem setR_other (c : Cp) (a j : Nat) (x : Int) (h : j ≠ a) : (c.setR a x).R j = c.R j := by simp [Cp.setR, h]
theorem setR_same (c : Cp) (a : Nat) (x : Int) : (c.setR a x).R a = x := by simp [Cp.setR]
/-- What stays where a register gets a word. -/
structure GotF (c D : Cp) (a : Int) : Prop where
  R : ∀ j : Nat, j < 16 → (j : Int) ≠ a → D.R j = c.R j
  N : D.N = decide (2147483648 ≤ D.R a.toNat)
  Z : D.Z = (D.R a.toNat == 0)
  PC : D.PC = (c.PC + 4) % 4294967296
theorem wrote_got (c : Cp) (a x : Int) (a0 : 0 ≤ a) (x0 : 0 ≤ x) (x1 : x ≤ 4294967295) : GotF c (c.wrote a x) a := by
  have e : (c.wrote a x).R a.toNat = x := setR_same c a.toNat x
  refine ⟨fun j hj hn => setR_other c a.toNat j x (by omega), ?_, ?_, rfl⟩
  · rw [e]; exact hi_bit x x0 x1
  · rw [e]; rfl
theorem GotF.of {c c' D : Cp} {a : Int} (h : GotF c' D a) (hR : c'.R = c.R) (hP : c'.PC = c.PC) : GotF c D a := ⟨fun j hj hn => by rw [h.R j hj hn, hR], h.N, h.Z, by rw [h.PC, hP]⟩
theorem op_got (c : Cp) (i : In) (hc : c.Ok) (hr : rightB i = true) (hF : i.F = 0 ∨ i.F = 1) (ht : c.trapsB i = false) : GotF c (c.operated i) i.A ∧ ((i.O = 8 ∨ i.O = 9) ∨ ((c.operated i).C = c.C ∧ (c.operated i).V = c.V)) ∧ ((i.O = 10 ∨ i.O = 11) ∨ (c.operated i).H = c.H) := by
  have R := right_bd hr
  have HB := hc.R i.B.toNat (by have := R.B; omega)
  have HX := opnd_bd c i hc R.C (isOp_of R hF)
  have M := mul_bds (c.R i.B.toNat) (c.opnd i) i.U HB.1 HB.2 HX.1 HX.2
  simp only [Cp.trapsB, Bool.or_eq_false_iff, decide_eq_false_iff_not, Bool.and_eq_false_iff, Bool.not_eq_false'] at ht
  rcases op_range hr hF with h | h | h | h | h | h | h
  · have e : c.operated i = c.wrote i.A (c.movV i (c.opnd i)) := by simp [Cp.operated, h]
    rw [e]
    have HM := movV_bd c i _ hc HX.1 HX.2
    exact ⟨wrote_got c _ _ R.A.1 HM.1 HM.2, .inr ⟨rfl, rfl⟩, .inr rfl⟩
  · have e : c.operated i = c.wrote i.A (combV i.O (c.R i.B.toNat) (c.opnd i)) := by unfold Cp.operated; rw [if_neg (by omega), if_neg (by omega), if_neg (by omega), if_neg (by omega), if_neg (by omega), if_neg (by omega)]
    rw [e]
    have HM := combV_bd i.O _ _ HB.1 HB.2 HX.1 HX.2
    exact ⟨wrote_got c _ _ R.A.1 HM.1 HM.2, .inr ⟨rfl, rfl⟩, .inr rfl⟩
  · have e : c.operated i = c.added i (c.R i.B.toNat) (c.opnd i) := by simp [Cp.operated, h]
    rw [e]
    exact ⟨(wrote_got _ _ _ R.A.1 (by unfold addS; omega) (by unfold addS; omega)).of rfl rfl, .inl (.inl h), .inr rfl⟩
  · have e : c.operated i = c.subbed i (c.R i.B.toNat) (c.opnd i) := by simp [Cp.operated, h]
    rw [e]
    exact ⟨(wrote_got _ _ _ R.A.1 (by unfold subS; omega) (by unfold subS; omega)).of rfl rfl, .inl (.inr h), .inr rfl⟩
  · have e : c.operated i = c.multiplied i (c.R i.B.toNat) (c.opnd i) := by simp [Cp.operated, h]
    rw [e]
    exact ⟨(wrote_got _ _ _ R.A.1 M.1 M.2.1).of rfl rfl, .inr ⟨rfl, rfl⟩, .inl (.inl h)⟩
  · have hB : divB (c.opnd i) = true := by rcases ht.2 with q | q; exact absurd h q; exact q
    have e : c.operated i = ({ c with H := divR (c.R i.B.toNat) (c.opnd i) } : Cp).wrote i.A (divQ (c.R i.B.toNat) (c.opnd i)) := by simp [Cp.operated, h, Cp.divided, hB]
    rw [e]
    have hQ := divQ_bd (c.R i.B.toNat) (c.opnd i)
    exact ⟨(wrote_got _ _ _ R.A.1 hQ.1 hQ.2).of rfl rfl, .inr ⟨rfl, rfl⟩, .inl (.inr h)⟩
  · exact absurd h ht.1
/-- What stays where none, or R15, gets a word. -/
structure KeepF (c D : Cp) (g : Int) : Prop where
  R : ∀ j : Nat, j < 16 → (j : Int) ≠ g → D.R j = c.R j
set_option maxHeartbeats 4000000 in
set_option maxRecDepth 20000 in
theorem kept_store (c D : Cp) (i : In) (x : Int) (w : World) (hw : Ways w) (hc : c.Ok) (hr : rightB i = true) (hX : ∀ X, Ways X → Calls Tryd.prog 8 #[.agg c.cells, .agg i.cells, .int .u32 x] X fun e w' => e = .returned (.tuple #[.agg D.cells, .int .i64 0, .bool false]) ∧ Below X.heap.size X w') (hF2 : i.F = 2) (hU : i.U = true) (hF : KeepF c D 16) (hP : D.PC = (c.PC + 4) % 4294967296) (hN : D.N = c.N) (hZ : D.Z = c.Z) (hC : D.C = c.C) (hV : D.V = c.V) (hH : D.H = c.H) : Calls Tryd.prog 3 #[.agg c.cells, .agg i.cells, .int .u32 x] w fun e w' => e = .returned (.bool true) ∧ Below w.heap.size w w' := by
  have HW : Hid (Ways w) := hw
  have HX : Hid (∀ X, Ways X → Calls Tryd.prog 8 #[.agg c.cells, .agg i.cells, .int .u32 x] X fun e w' => e = .returned (.tuple #[.agg D.cells, .int .i64 0, .bool false]) ∧ Below X.heap.size X w') := hX
  have hE : encE i = 0 := by simp [encE, hr]
  have K0 : Hid (Keeps w [(w.heap.size + 1, i.cells), (w.heap.size, c.cells)] ((w.alloc (.cells c.cells 25)).alloc (.cells i.cells 27))) := keeps2 w _ _ _ _
  clear hw hX
  go_enter Tryd.func3, Tryd.ntmps3
  go_upto_region 4 with (first
    | (go_at_call 6; refine (shown_any _ (HW.out.below K0.out.1 HW.out.big)).mono ?_; rintro e w0 ⟨rfl, hb⟩; have K1 : Hid (Keeps w [(w.heap.size + 1, i.cells), (w.heap.size, c.cells)] w0) := K0.out.call hb; have p1 := K1.out.row (b := w.heap.size + 1) (c := i.cells) (by simp); clear hb)
    | (go_at_call 7; refine (encode_any i _ (HW.out.below K1.out.1 HW.out.big)).mono ?_; rw [hE]; rintro e w1 ⟨rfl, hb⟩; have K2 : Hid (Keeps w [(w.heap.size + 1, i.cells), (w.heap.size, c.cells)] w1) := K1.out.call hb; have p2 := K2.out.row (b := w.heap.size + 1) (c := i.cells) (by simp); have p3 := K2.out.row (b := w.heap.size) (c := c.cells) (by simp); clear hb)
    | (go_at_call 8; refine (HX.out _ (HW.out.below K2.out.1 HW.out.big)).mono ?_; rintro e w2 ⟨rfl, hb⟩; have K3 : Hid (Keeps w [(w2.heap.size, D.cells), (w.heap.size + 1, i.cells), (w.heap.size, c.cells)] (w2.alloc (.cells D.cells 25))) := (K2.out.call hb).new _ _; clear hb))
  have q1 := K3.out.cell (b := w.heap.size + 1) (c := i.cells) (by simp)
  have HK : Hid (Keeps w [(w2.heap.size, D.cells), (w.heap.size + 1, i.cells), (w.heap.size, c.cells)] (w2.alloc (.cells D.cells 25))) := K3.out
  generalize w2.alloc (.cells D.cells 25) = V at *
  clear K0 K1 K2 K3 p1 p2 p3 HX
  go_wp2
  go_loopw [14] (fun s14 X => ∃ k : Nat, k ≤ 16 ∧ s14 = .int .i64 k ∧ Keeps w [(w2.heap.size, D.cells), (w.heap.size + 1, i.cells), (w.heap.size, c.cells)] X) (fun s14 _ => 16 - (intOf s14).toNat)
  case atStart => exact ⟨0, by omega, rfl, HK.out⟩
  case round =>
    clear HK q1
    obtain ⟨k, hk, rfl, hK⟩ := hrel
    have HK : Hid (Keeps w [(w2.heap.size, D.cells), (w.heap.size + 1, i.cells), (w.heap.size, c.cells)] wr) := hK
    have q1 := hK.cell (b := w.heap.size + 1) (c := i.cells) (by simp)
    have q2 := hK.cell (b := w.heap.size) (c := c.cells) (by simp)
    have q3 := hK.cell (b := w2.heap.size) (c := D.cells) (by simp)
    clear hK
    by_cases hlt : k < 16
    · have i0 : (0 : Int) ≤ (k : Int) := by omega
      have i1 : (k : Int) < 16 := by omega
      have c1 := Cp.atR c k hlt
      have c2 := Cp.atR D k hlt
      by_cases hg : (k : Int) = (16 : Int)
      · exact absurd hg (by omega)
      · have hgb : ((k : Int) == (16 : Int)) = false := by simpa using hg
        have hgn : ((k : Int) != (16 : Int)) = true := by simp [bne, hgb]
        have hR := hF.R k hlt hg
        rw [hR] at c2
        go_wp2
        go_quiet (fail)
        go_wp2
        go_roundw
        case rel => exact ⟨k + 1, by omega, by go_num, HK.out.drewN _⟩
        case measure => simp [intOf]; omega
    · have i1 : ¬ (k : Int) < 16 := by omega
      go_wp2
      go_ret
      exact ⟨by first | rfl | simp, HK.out.1⟩
set_option maxHeartbeats 4000000 in
set_option maxRecDepth 20000 in
theorem kept_branch (c D : Cp) (i : In) (x : Int) (w : World) (hw : Ways w) (hc : c.Ok) (hr : rightB i = true) (hX : ∀ X, Ways X → Calls Tryd.prog 8 #[.agg c.cells, .agg i.cells, .int .u32 x] X fun e w' => e = .returned (.tuple #[.agg D.cells, .int .i64 0, .bool false]) ∧ Below X.heap.size X w') (hF2 : i.F = 3) (hVi : i.V = false) (hF : KeepF c D 16) (hN : D.N = c.N) (hZ : D.Z = c.Z) (hC : D.C = c.C) (hV : D.V = c.V) (hH : D.H = c.H) : Calls Tryd.prog 3 #[.agg c.cells, .agg i.cells, .int .u32 x] w fun e w' => e = .returned (.bool true) ∧ Below w.heap.size w w' := by
  have HW : Hid (Ways w) := hw
  have HX : Hid (∀ X, Ways X → Calls Tryd.prog 8 #[.agg c.cells, .agg i.cells, .int .u32 x] X fun e w' => e = .returned (.tuple #[.agg D.cells, .int .i64 0, .bool false]) ∧ Below X.heap.size X w') := hX
  have hE : encE i = 0 := by simp [encE, hr]
  have K0 : Hid (Keeps w [(w.heap.size + 1, i.cells), (w.heap.size, c.cells)] ((w.alloc (.cells c.cells 25)).alloc (.cells i.cells 27))) := keeps2 w _ _ _ _
  clear hw hX
  go_enter Tryd.func3, Tryd.ntmps3
  go_upto_region 4 with (first
    | (go_at_call 6; refine (shown_any _ (HW.out.below K0.out.1 HW.out.big)).mono ?_; rintro e w0 ⟨rfl, hb⟩; have K1 : Hid (Keeps w [(w.heap.size + 1, i.cells), (w.heap.size, c.cells)] w0) := K0.out.call hb; have p1 := K1.out.row (b := w.heap.size + 1) (c := i.cells) (by simp); clear hb)
    | (go_at_call 7; refine (encode_any i _ (HW.out.below K1.out.1 HW.out.big)).mono ?_; rw [hE]; rintro e w1 ⟨rfl, hb⟩; have K2 : Hid (Keeps w [(w.heap.size + 1, i.cells), (w.heap.size, c.cells)] w1) := K1.out.call hb; have p2 := K2.out.row (b := w.heap.size + 1) (c := i.cells) (by simp); have p3 := K2.out.row (b := w.heap.size) (c := c.cells) (by simp); clear hb)
    | (go_at_call 8; refine (HX.out _ (HW.out.below K2.out.1 HW.out.big)).mono ?_; rintro e w2 ⟨rfl, hb⟩; have K3 : Hid (Keeps w [(w2.heap.size, D.cells), (w.heap.size + 1, i.cells), (w.heap.size, c.cells)] (w2.alloc (.cells D.cells 25))) := (K2.out.call hb).new _ _; clear hb))
  have q1 := K3.out.cell (b := w.heap.size + 1) (c := i.cells) (by simp)
  have HK : Hid (Keeps w [(w2.heap.size, D.cells), (w.heap.size + 1, i.cells), (w.heap.size, c.cells)] (w2.alloc (.cells D.cells 25))) := K3.out
  generalize w2.alloc (.cells D.cells 25) = V at *
  clear K0 K1 K2 K3 p1 p2 p3 HX
  go_wp2
  go_loopw [14] (fun s14 X => ∃ k : Nat, k ≤ 16 ∧ s14 = .int .i64 k ∧ Keeps w [(w2.heap.size, D.cells), (w.heap.size + 1, i.cells), (w.heap.size, c.cells)] X) (fun s14 _ => 16 - (intOf s14).toNat)
  case atStart => exact ⟨0, by omega, rfl, HK.out⟩
  case round =>
    clear HK q1
    obtain ⟨k, hk, rfl, hK⟩ := hrel
    have HK : Hid (Keeps w [(w2.heap.size, D.cells), (w.heap.size + 1, i.cells), (w.heap.size, c.cells)] wr) := hK
    have q1 := hK.cell (b := w.heap.size + 1) (c := i.cells) (by simp)
    have q2 := hK.cell (b := w.heap.size) (c := c.cells) (by simp)
    have q3 := hK.cell (b := w2.heap.size) (c := D.cells) (by simp)
    clear hK
    by_cases hlt : k < 16
    · have i0 : (0 : Int) ≤ (k : Int) := by omega
      have i1 : (k : Int) < 16 := by omega
      have c1 := Cp.atR c k hlt
      have c2 := Cp.atR D k hlt
      by_cases hg : (k : Int) = (16 : Int)
      · exact absurd hg (by omega)
      · have hgb : ((k : Int) == (16 : Int)) = false := by simpa using hg
        have hgn : ((k : Int) != (16 : Int)) = true := by simp [bne, hgb]
        have hR := hF.R k hlt hg
        rw [hR] at c2
        go_wp2
        go_quiet (fail)
        go_wp2
        go_roundw
        case rel => exact ⟨k + 1, by omega, by go_num, HK.out.drewN _⟩
        case measure => simp [intOf]; omega
    · have i1 : ¬ (k : Int) < 16 := by omega
      go_wp2
      go_ret
      exact ⟨by first | rfl | simp, HK.out.1⟩
set_option maxHeartbeats 4000000 in
set_option maxRecDepth 20000 in
theorem kept_link (c D : Cp) (i : In) (x : Int) (w : World) (hw : Ways w) (hc : c.Ok) (hr : rightB i = true) (hX : ∀ X, Ways X → Calls Tryd.prog 8 #[.agg c.cells, .agg i.cells, .int .u32 x] X fun e w' => e = .returned (.tuple #[.agg D.cells, .int .i64 0, .bool false]) ∧ Below X.heap.size X w') (hF2 : i.F = 3) (hVi : i.V = true) (hF : KeepF c D 15) (hC : D.C = c.C) (hV : D.V = c.V) (hH : D.H = c.H) : Calls Tryd.prog 3 #[.agg c.cells, .agg i.cells, .int .u32 x] w fun e w' => e = .returned (.bool true) ∧ Below w.heap.size w w' := by
  have HW : Hid (Ways w) := hw
  have HX : Hid (∀ X, Ways X → Calls Tryd.prog 8 #[.agg c.cells, .agg i.cells, .int .u32 x] X fun e w' => e = .returned (.tuple #[.agg D.cells, .int .i64 0, .bool false]) ∧ Below X.heap.size X w') := hX
  have hE : encE i = 0 := by simp [encE, hr]
  have K0 : Hid (Keeps w [(w.heap.size + 1, i.cells), (w.heap.size, c.cells)] ((w.alloc (.cells c.cells 25)).alloc (.cells i.cells 27))) := keeps2 w _ _ _ _
  clear hw hX
  go_enter Tryd.func3, Tryd.ntmps3
  go_upto_region 4 with (first
    | (go_at_call 6; refine (shown_any _ (HW.out.below K0.out.1 HW.out.big)).mono ?_; rintro e w0 ⟨rfl, hb⟩; have K1 : Hid (Keeps w [(w.heap.size + 1, i.cells), (w.heap.size, c.cells)] w0) := K0.out.call hb; have p1 := K1.out.row (b := w.heap.size + 1) (c := i.cells) (by simp); clear hb)
    | (go_at_call 7; refine (encode_any i _ (HW.out.below K1.out.1 HW.out.big)).mono ?_; rw [hE]; rintro e w1 ⟨rfl, hb⟩; have K2 : Hid (Keeps w [(w.heap.size + 1, i.cells), (w.heap.size, c.cells)] w1) := K1.out.call hb; have p2 := K2.out.row (b := w.heap.size + 1) (c := i.cells) (by simp); have p3 := K2.out.row (b := w.heap.size) (c := c.cells) (by simp); clear hb)
    | (go_at_call 8; refine (HX.out _ (HW.out.below K2.out.1 HW.out.big)).mono ?_; rintro e w2 ⟨rfl, hb⟩; have K3 : Hid (Keeps w [(w2.heap.size, D.cells), (w.heap.size + 1, i.cells), (w.heap.size, c.cells)] (w2.alloc (.cells D.cells 25))) := (K2.out.call hb).new _ _; clear hb))
  have q1 := K3.out.cell (b := w.heap.size + 1) (c := i.cells) (by simp)
  have HK : Hid (Keeps w [(w2.heap.size, D.cells), (w.heap.size + 1, i.cells), (w.heap.size, c.cells)] (w2.alloc (.cells D.cells 25))) := K3.out
  generalize w2.alloc (.cells D.cells 25) = V at *
  clear K0 K1 K2 K3 p1 p2 p3 HX
  go_wp2
  go_loopw [14] (fun s14 X => ∃ k : Nat, k ≤ 16 ∧ s14 = .int .i64 k ∧ Keeps w [(w2.heap.size, D.cells), (w.heap.size + 1, i.cells), (w.heap.size, c.cells)] X) (fun s14 _ => 16 - (intOf s14).toNat)
  case atStart => exact ⟨0, by omega, rfl, HK.out⟩
  case round =>
    clear HK q1
    obtain ⟨k, hk, rfl, hK⟩ := hrel
    have HK : Hid (Keeps w [(w2.heap.size, D.cells), (w.heap.size + 1, i.cells), (w.heap.size, c.cells)] wr) := hK
    have q1 := hK.cell (b := w.heap.size + 1) (c := i.cells) (by simp)
    have q2 := hK.cell (b := w.heap.size) (c := c.cells) (by simp)
    have q3 := hK.cell (b := w2.heap.size) (c := D.cells) (by simp)
    clear hK
    by_cases hlt : k < 16
    · have i0 : (0 : Int) ≤ (k : Int) := by omega
      have i1 : (k : Int) < 16 := by omega
      have c1 := Cp.atR c k hlt
      have c2 := Cp.atR D k hlt
      by_cases hg : (k : Int) = (15 : Int)
      · have hgb : ((k : Int) == (15 : Int)) = true := by simpa using hg
        have hgn : ((k : Int) != (15 : Int)) = false := by simp [bne, hgb]
        go_wp2
        go_quiet (fail)
        go_wp2
        go_roundw
        case rel => exact ⟨k + 1, by omega, by go_num, HK.out.drewN _⟩
        case measure => simp [intOf]; omega
      · have hgb : ((k : Int) == (15 : Int)) = false := by simpa using hg
        have hgn : ((k : Int) != (15 : Int)) = true := by simp [bne, hgb]
        have hR := hF.R k hlt hg
        rw [hR] at c2
        go_wp2
        go_quiet (fail)
        go_wp2
        go_roundw
        case rel => exact ⟨k + 1, by omega, by go_num, HK.out.drewN _⟩
        case measure => simp [intOf]; omega
    · have i1 : ¬ (k : Int) < 16 := by omega
      go_wp2
      go_ret
      exact ⟨by first | rfl | simp, HK.out.1⟩
set_option maxHeartbeats 4000000 in
set_option maxRecDepth 20000 in
theorem kept_load (c D : Cp) (i : In) (x : Int) (w : World) (hw : Ways w) (hc : c.Ok) (hr : rightB i = true) (hX : ∀ X, Ways X → Calls Tryd.prog 8 #[.agg c.cells, .agg i.cells, .int .u32 x] X fun e w' => e = .returned (.tuple #[.agg D.cells, .int .i64 0, .bool false]) ∧ Below X.heap.size X w') (hF2 : i.F = 2) (hU : i.U = false) (hA : 0 ≤ i.A ∧ i.A < 16) (hF : GotF c D i.A) (hC : D.C = c.C) (hV : D.V = c.V) (hH : D.H = c.H) : Calls Tryd.prog 3 #[.agg c.cells, .agg i.cells, .int .u32 x] w fun e w' => e = .returned (.bool true) ∧ Below w.heap.size w w' := by
  have HW : Hid (Ways w) := hw
  have HX : Hid (∀ X, Ways X → Calls Tryd.prog 8 #[.agg c.cells, .agg i.cells, .int .u32 x] X fun e w' => e = .returned (.tuple #[.agg D.cells, .int .i64 0, .bool false]) ∧ Below X.heap.size X w') := hX
  have hE : encE i = 0 := by simp [encE, hr]
  have K0 : Hid (Keeps w [(w.heap.size + 1, i.cells), (w.heap.size, c.cells)] ((w.alloc (.cells c.cells 25)).alloc (.cells i.cells 27))) := keeps2 w _ _ _ _
  clear hw hX
  go_enter Tryd.func3, Tryd.ntmps3
  go_upto_region 4 with (first
    | (go_at_call 6; refine (shown_any _ (HW.out.below K0.out.1 HW.out.big)).mono ?_; rintro e w0 ⟨rfl, hb⟩; have K1 : Hid (Keeps w [(w.heap.size + 1, i.cells), (w.heap.size, c.cells)] w0) := K0.out.call hb; have p1 := K1.out.row (b := w.heap.size + 1) (c := i.cells) (by simp); clear hb)
    | (go_at_call 7; refine (encode_any i _ (HW.out.below K1.out.1 HW.out.big)).mono ?_; rw [hE]; rintro e w1 ⟨rfl, hb⟩; have K2 : Hid (Keeps w [(w.heap.size + 1, i.cells), (w.heap.size, c.cells)] w1) := K1.out.call hb; have p2 := K2.out.row (b := w.heap.size + 1) (c := i.cells) (by simp); have p3 := K2.out.row (b := w.heap.size) (c := c.cells) (by simp); clear hb)
    | (go_at_call 8; refine (HX.out _ (HW.out.below K2.out.1 HW.out.big)).mono ?_; rintro e w2 ⟨rfl, hb⟩; have K3 : Hid (Keeps w [(w2.heap.size, D.cells), (w.heap.size + 1, i.cells), (w.heap.size, c.cells)] (w2.alloc (.cells D.cells 25))) := (K2.out.call hb).new _ _; clear hb))
  have q1 := K3.out.cell (b := w.heap.size + 1) (c := i.cells) (by simp)
  have HK : Hid (Keeps w [(w2.heap.size, D.cells), (w.heap.size + 1, i.cells), (w.heap.size, c.cells)] (w2.alloc (.cells D.cells 25))) := K3.out
  generalize w2.alloc (.cells D.cells 25) = V at *
  clear K0 K1 K2 K3 p1 p2 p3 HX
  go_wp2
  go_loopw [14] (fun s14 X => ∃ k : Nat, k ≤ 16 ∧ s14 = .int .i64 k ∧ Keeps w [(w2.heap.size, D.cells), (w.heap.size + 1, i.cells), (w.heap.size, c.cells)] X) (fun s14 _ => 16 - (intOf s14).toNat)
  case atStart => exact ⟨0, by omega, rfl, HK.out⟩
  case round =>
    clear HK q1
    obtain ⟨k, hk, rfl, hK⟩ := hrel
    have HK : Hid (Keeps w [(w2.heap.size, D.cells), (w.heap.size + 1, i.cells), (w.heap.size, c.cells)] wr) := hK
    have q1 := hK.cell (b := w.heap.size + 1) (c := i.cells) (by simp)
    have q2 := hK.cell (b := w.heap.size) (c := c.cells) (by simp)
    have q3 := hK.cell (b := w2.heap.size) (c := D.cells) (by simp)
    clear hK
    by_cases hlt : k < 16
    · have i0 : (0 : Int) ≤ (k : Int) := by omega
      have i1 : (k : Int) < 16 := by omega
      have c1 := Cp.atR c k hlt
      have c2 := Cp.atR D k hlt
      by_cases hg : (k : Int) = i.A
      · have hgb : ((k : Int) == i.A) = true := by simpa using hg
        have hgn : ((k : Int) != i.A) = false := by simp [bne, hgb]
        go_wp2
        go_quiet (fail)
        go_wp2
        go_roundw
        case rel => exact ⟨k + 1, by omega, by go_num, HK.out.drewN _⟩
        case measure => simp [intOf]; omega
      · have hgb : ((k : Int) == i.A) = false := by simpa using hg
        have hgn : ((k : Int) != i.A) = true := by simp [bne, hgb]
        have hR := hF.R k hlt hg
        rw [hR] at c2
        go_wp2
        go_quiet (fail)
        go_wp2
        go_roundw
        case rel => exact ⟨k + 1, by omega, by go_num, HK.out.drewN _⟩
        case measure => simp [intOf]; omega
    · have i1 : ¬ (k : Int) < 16 := by omega
      have gA := Cp.atR D i.A.toNat (by omega)
      have gN := hF.N
      have gZ := hF.Z
      have gP := hF.PC
      obtain ⟨A0, A1⟩ := hA
      go_wp2
      go_quiet (fail)
      go_wp2
      go_ret
      exact ⟨by first | rfl | simp, (HK.out.drewN _).1⟩
set_option maxHeartbeats 4000000 in
set_option maxRecDepth 20000 in
theorem kept_reck (c D : Cp) (i : In) (x : Int) (w : World) (hw : Ways w) (hc : c.Ok) (hr : rightB i = true) (hX : ∀ X, Ways X → Calls Tryd.prog 8 #[.agg c.cells, .agg i.cells, .int .u32 x] X fun e w' => e = .returned (.tuple #[.agg D.cells, .int .i64 0, .bool false]) ∧ Below X.heap.size X w') (hF2 : i.F = 0 ∨ i.F = 1) (hA : 0 ≤ i.A ∧ i.A < 16) (hF : GotF c D i.A) (hO : ((i.O = 8 ∨ i.O = 9) ∧ D.H = c.H) ∨ ((i.O = 10 ∨ i.O = 11) ∧ D.C = c.C ∧ D.V = c.V) ∨ ((i.O == 8) = false ∧ (i.O == 9) = false ∧ (i.O == 10) = false ∧ (i.O == 11) = false ∧ D.C = c.C ∧ D.V = c.V ∧ D.H = c.H)) : Calls Tryd.prog 3 #[.agg c.cells, .agg i.cells, .int .u32 x] w fun e w' => e = .returned (.bool true) ∧ Below w.heap.size w w' := by
  have HW : Hid (Ways w) := hw
  have HX : Hid (∀ X, Ways X → Calls Tryd.prog 8 #[.agg c.cells, .agg i.cells, .int .u32 x] X fun e w' => e = .returned (.tuple #[.agg D.cells, .int .i64 0, .bool false]) ∧ Below X.heap.size X w') := hX
  have hE : encE i = 0 := by simp [encE, hr]
  have K0 : Hid (Keeps w [(w.heap.size + 1, i.cells), (w.heap.size, c.cells)] ((w.alloc (.cells c.cells 25)).alloc (.cells i.cells 27))) := keeps2 w _ _ _ _
  clear hw hX
  go_enter Tryd.func3, Tryd.ntmps3
  go_upto_region 4 with (first
    | (go_at_call 6; refine (shown_any _ (HW.out.below K0.out.1 HW.out.big)).mono ?_; rintro e w0 ⟨rfl, hb⟩; have K1 : Hid (Keeps w [(w.heap.size + 1, i.cells), (w.heap.size, c.cells)] w0) := K0.out.call hb; have p1 := K1.out.row (b := w.heap.size + 1) (c := i.cells) (by simp); clear hb)
    | (go_at_call 7; refine (encode_any i _ (HW.out.below K1.out.1 HW.out.big)).mono ?_; rw [hE]; rintro e w1 ⟨rfl, hb⟩; have K2 : Hid (Keeps w [(w.heap.size + 1, i.cells), (w.heap.size, c.cells)] w1) := K1.out.call hb; have p2 := K2.out.row (b := w.heap.size + 1) (c := i.cells) (by simp); have p3 := K2.out.row (b := w.heap.size) (c := c.cells) (by simp); clear hb)
    | (go_at_call 8; refine (HX.out _ (HW.out.below K2.out.1 HW.out.big)).mono ?_; rintro e w2 ⟨rfl, hb⟩; have K3 : Hid (Keeps w [(w2.heap.size, D.cells), (w.heap.size + 1, i.cells), (w.heap.size, c.cells)] (w2.alloc (.cells D.cells 25))) := (K2.out.call hb).new _ _; clear hb))
  have q1 := K3.out.cell (b := w.heap.size + 1) (c := i.cells) (by simp)
  have HK : Hid (Keeps w [(w2.heap.size, D.cells), (w.heap.size + 1, i.cells), (w.heap.size, c.cells)] (w2.alloc (.cells D.cells 25))) := K3.out
  generalize w2.alloc (.cells D.cells 25) = V at *
  clear K0 K1 K2 K3 p1 p2 p3 HX
  rcases hF2 with hF2 | hF2
  all_goals rcases hO with ⟨hO | hO, hH⟩ | ⟨hO | hO, hC, hV⟩ | ⟨o8, o9, o10, o11, hC, hV, hH⟩
  all_goals
    go_wp2
    go_loopw [14] (fun s14 X => ∃ k : Nat, k ≤ 16 ∧ s14 = .int .i64 k ∧ Keeps w [(w2.heap.size, D.cells), (w.heap.size + 1, i.cells), (w.heap.size, c.cells)] X) (fun s14 _ => 16 - (intOf s14).toNat)
    case atStart => exact ⟨0, by omega, rfl, HK.out⟩
    case round =>
      clear HK q1
      obtain ⟨k, hk, rfl, hK⟩ := hrel
      have HK : Hid (Keeps w [(w2.heap.size, D.cells), (w.heap.size + 1, i.cells), (w.heap.size, c.cells)] wr) := hK
      have q1 := hK.cell (b := w.heap.size + 1) (c := i.cells) (by simp)
      have q2 := hK.cell (b := w.heap.size) (c := c.cells) (by simp)
      have q3 := hK.cell (b := w2.heap.size) (c := D.cells) (by simp)
      clear hK
      by_cases hlt : k < 16
      · have i0 : (0 : Int) ≤ (k : Int) := by omega
        have i1 : (k : Int) < 16 := by omega
        have c1 := Cp.atR c k hlt
        have c2 := Cp.atR D k hlt
        by_cases hg : (k : Int) = i.A
        · have hgb : ((k : Int) == i.A) = true := by simpa using hg
          have hgn : ((k : Int) != i.A) = false := by simp [bne, hgb]
          go_wp2
          go_quiet (fail)
          go_wp2
          go_roundw
          case rel => exact ⟨k + 1, by omega, by go_num, HK.out.drewN _⟩
          case measure => simp [intOf]; omega
        · have hgb : ((k : Int) == i.A) = false := by simpa using hg
          have hgn : ((k : Int) != i.A) = true := by simp [bne, hgb]
          have hR := hF.R k hlt hg
          rw [hR] at c2
          go_wp2
          go_quiet (fail)
          go_wp2
          go_roundw
          case rel => exact ⟨k + 1, by omega, by go_num, HK.out.drewN _⟩
          case measure => simp [intOf]; omega
      · have i1 : ¬ (k : Int) < 16 := by omega
        have gA := Cp.atR D i.A.toNat (by omega)
        have gN := hF.N
        have gZ := hF.Z
        have gP := hF.PC
        obtain ⟨A0, A1⟩ := hA
        go_wp2
        go_quiet (fail)
        go_wp2
        go_ret
        exact ⟨by first | rfl | simp, (HK.out.drewN _).1⟩
end Go.Proofs.YtkhgeldnlffgjabDoor
