/-
  The law on quotients and products: its walk.
-/
import Derived.Test.YtkhgeldnlffgjabDoorTwg
import Derived.Deep.DeepCutAuto
namespace Go.Proofs.YtkhgeldnlffgjabDoor
open Go.ChangeShapes Go.WideShapes Go.ChangeAt Go.RowKit
attribute [local go_sem ↓] loadCpu_seal storeCpu_seal loadIn_seal storeIn_seal
attribute [local go_sem] loadCpu_run storeCpu_run loadIn_run storeIn_run rowAt_at rowAt_past rowAt_drew rowAt_drewN roomCpu_new roomIn_new roomAt_old roomAt_drew roomAt_drewN putCpu_new putIn_new Cp.zero_fold In.fold putRow_past rowCpu_put rowIn_put size_put putRow_drew putRow_drewN alloc_drewN setCell_drewN Cp.at16 Cp.at17 Cp.at18 Cp.at19 Cp.at20 Cp.at21 Cp.size Cp.set16 Cp.set17 Cp.set18 Cp.set19 Cp.set20 Cp.set21 In.at0 In.at1 In.at2 In.at3 In.at4 In.at5 In.at6 In.at7 In.size In.set0 In.set1 In.set2 In.set3 In.ne Cp.ne In.set4 In.set5 In.set6 In.set7
attribute [local go_sem ↓] eqlCpu_seal
set_option linter.unusedVariables false

/-- What the law asks of the three answers. -/
structure DivF (a b : Int) (C D M N : Cp) (t : Bool) : Prop where
  m : wrap64 (bits .or .u64 (M.H * 4294967296) (M.R 0)) = wrap64 (a * b)
  n : bits .or .u64 (N.H * 4294967296) (N.R 0) = a % 4294967296 * (b % 4294967296)
  mb : (0 ≤ M.H ∧ M.H ≤ 4294967295) ∧ (0 ≤ M.R 0 ∧ M.R 0 ≤ 4294967295)
  nb : (0 ≤ N.H ∧ N.H ≤ 4294967295) ∧ (0 ≤ N.R 0 ∧ N.R 0 ≤ 4294967295)
  d : (b ≤ 0 ∧ t = true ∧ D = C) ∨ (0 < b ∧ t = false ∧ wrap32 (D.R 0) = a / b ∧ wrap32 D.H = a % b ∧ 0 ≤ a % b ∧ a % b < b ∧ wrap64 (a / b * b) = a / b * b ∧ a / b * b + a % b = a)
theorem zero_R (a b : Int) : (((Cp.zero.setR 1 a).setR 2 b).R 1 = a) ∧ (((Cp.zero.setR 1 a).setR 2 b).R 2 = b) := ⟨rfl, rfl⟩
theorem div_facts (a b : Int) (a0 : -2147483648 ≤ a) (a1 : a ≤ 2147483647) (b0 : -2147483648 ≤ b) (b1 : b ≤ 2147483647) (C : Cp) (h1 : C.R 1 = a % 4294967296) (h2 : C.R 2 = b % 4294967296) :
    DivF a b C (C.execD (twoI 11 false) 0) (C.execD (twoI 10 false) 0) (C.execD (twoI 10 true) 0) (C.execT (twoI 11 false)) := by
  have sa := sg_mod a a0 a1
  have sb := sg_mod b b0 b1
  have M := mul_bds (a % 4294967296) (b % 4294967296) false (by omega) (by omega) (by omega) (by omega)
  have N := mul_bds (a % 4294967296) (b % 4294967296) true (by omega) (by omega) (by omega) (by omega)
  have sp := mul_bd a b ⟨a0, a1⟩ ⟨b0, b1⟩
  rw [(two_mul C false).1, (two_mul C true).1, (two_div C).1, (two_div C).2, h1, h2]
  refine ⟨?_, ?_, ⟨⟨M.2.2.1, M.2.2.2⟩, M.1, M.2.1⟩, ⟨⟨N.2.2.1, N.2.2.2⟩, N.1, N.2.1⟩, ?_⟩
  · show wrap64 (bits .or .u64 (mulH (a % 4294967296) (b % 4294967296) false * 4294967296) (mulL (a % 4294967296) (b % 4294967296) false)) = _
    rw [lor64 _ _ M.2.2.1 M.2.2.2 M.1 M.2.1, mul_parts]
    have e : mulP (a % 4294967296) (b % 4294967296) false = (a * b) % 18446744073709551616 := by unfold mulP; rw [if_neg (by decide), sa, sb]
    rw [e, (wrap64_of (a * b) sp).1, (wrap64_of (a * b) sp).2]
  · show bits .or .u64 (mulH (a % 4294967296) (b % 4294967296) true * 4294967296) (mulL (a % 4294967296) (b % 4294967296) true) = _
    rw [lor64 _ _ N.2.2.1 N.2.2.2 N.1 N.2.1, mul_parts]
    unfold mulP
    rw [if_pos rfl]
  · by_cases hb : b ≤ 0
    · left
      have hB : divB (b % 4294967296) = false := by unfold divB; rw [sb]; simp; omega
      refine ⟨hb, by rw [hB]; rfl, ?_⟩
      unfold Cp.divided
      rw [hB, if_neg (by decide)]
    · right
      have hB : divB (b % 4294967296) = true := by unfold divB; rw [sb]; simp; omega
      have e : C.divided (twoI 11 false) (a % 4294967296) (b % 4294967296) = ({ C with H := divR (a % 4294967296) (b % 4294967296) } : Cp).wrote 0 (divQ (a % 4294967296) (b % 4294967296)) := by
        unfold Cp.divided
        rw [hB, if_pos rfl]; rfl
      have q0 : divQ (a % 4294967296) (b % 4294967296) = a / b % 4294967296 := by unfold divQ; rw [sa, sb, if_neg (by omega)]
      have r0 : divR (a % 4294967296) (b % 4294967296) = a % b := by unfold divR; rw [sa, sb, if_neg (by omega)]
      have m0 := Int.emod_nonneg a (show b ≠ 0 by omega)
      have m1 := Int.emod_lt_of_pos a (show 0 < b by omega)
      have m2 := Int.mul_ediv_add_emod a b
      have m3 : a / b * b + a % b = a := by rw [Int.mul_comm]; exact m2
      have dq : -2147483648 ≤ a / b ∧ a / b ≤ 2147483647 := by
        have h1 : -2147483648 ≤ a / b := (Int.le_ediv_iff_mul_le (by omega)).2 (by omega)
        have h2 : a / b < 2147483648 := (Int.ediv_lt_iff_lt_mul (by omega)).2 (by omega)
        omega
      rw [e, hB]
      refine ⟨by omega, rfl, ?_, ?_, m0, m1, ?_, m3⟩
      · show wrap32 (divQ (a % 4294967296) (b % 4294967296)) = _
        rw [q0]; unfold wrap32; omega
      · show wrap32 (divR (a % 4294967296) (b % 4294967296)) = _
        rw [r0]; unfold wrap32; omega
      · unfold wrap64; omega
set_option maxHeartbeats 4000000 in
set_option maxRecDepth 20000 in
theorem div_walk (a b : Int) (w : World) (hw : Ways w) (a0 : -2147483648 ≤ a) (a1 : a ≤ 2147483647) (b0 : -2147483648 ≤ b) (b1 : b ≤ 2147483647) : Calls Tryd.prog 5 #[.int .i32 a, .int .i32 b] w fun e w' => e = .returned (.bool true) ∧ Below w.heap.size w w' := by
  have HW : Hid (Ways w) := hw
  have s1 : ∀ (c : Cp) (x : Int), c.cells.setIfInBounds 1 (.int .u32 x) = (c.setR 1 x).cells := fun c x => Cp.setAt c 1 x (by omega)
  have s2 : ∀ (c : Cp) (x : Int), c.cells.setIfInBounds 2 (.int .u32 x) = (c.setR 2 x).cells := fun c x => Cp.setAt c 2 x (by omega)
  have g0 : ∀ (c : Cp), c.cells[0]? = some (.int .u32 (c.R 0)) := fun c => Cp.atR c 0 (by omega)
  have g1 : ∀ (c : Cp), c.cells[1]? = some (.int .u32 (c.R 1)) := fun c => Cp.atR c 1 (by omega)
  have g2 : ∀ (c : Cp), c.cells[2]? = some (.int .u32 (c.R 2)) := fun c => Cp.atR c 2 (by omega)
  have HF := div_facts a b a0 a1 b0 b1 ((Cp.zero.setR 1 (a % 4294967296)).setR 2 (b % 4294967296)) rfl rfl
  have okC : Hid ((Cp.zero.setR 1 (a % 4294967296)).setR 2 (b % 4294967296)).Ok := setR_ok _ (setR_ok _ ⟨fun _ _ => by simp [Cp.zero], by simp [Cp.zero], by simp [Cp.zero]⟩ _ _ (by omega) (by omega)) _ _ (by omega) (by omega)
  have tN := (two_mul ((Cp.zero.setR 1 (a % 4294967296)).setR 2 (b % 4294967296)) true).2
  have tM := (two_mul ((Cp.zero.setR 1 (a % 4294967296)).setR 2 (b % 4294967296)) false).2
  have OK : ∀ X, Ways X → ∀ op u, Calls Tryd.prog 9 #[.agg ((Cp.zero.setR 1 (a % 4294967296)).setR 2 (b % 4294967296)).cells, .int .i64 op, .bool u] X fun e w' => e = .returned (.tuple #[.agg (((Cp.zero.setR 1 (a % 4294967296)).setR 2 (b % 4294967296)).execD (twoI op u) 0).cells, .bool (((Cp.zero.setR 1 (a % 4294967296)).setR 2 (b % 4294967296)).execT (twoI op u))]) ∧ Below X.heap.size X w' := fun X hX op u => two_gen _ op u X hX okC.out
  have hC : (Cp.zero.setR 1 (a % 4294967296)).setR 2 (b % 4294967296) = ((Cp.zero.setR 1 (a % 4294967296)).setR 2 (b % 4294967296)) := rfl
  clear hw
  go_enter Tryd.func5, Tryd.ntmps5
  go_upto_region 4 with fail
  have K0 : Hid (Keeps w [(w.heap.size, ((Cp.zero.setR 1 (a % 4294967296)).setR 2 (b % 4294967296)).cells)] (w.alloc (.cells ((Cp.zero.setR 1 (a % 4294967296)).setR 2 (b % 4294967296)).cells 25))) := (Keeps.refl w).new _ 25
  have c0 := K0.out.row (b := w.heap.size) (c := ((Cp.zero.setR 1 (a % 4294967296)).setR 2 (b % 4294967296)).cells) (by simp)
  clear hC
  generalize (Cp.zero.setR 1 (a % 4294967296)).setR 2 (b % 4294967296) = C at *
  have O1 := fun X hX => OK X hX 11 false
  have O2 := fun X hX => OK X hX 10 false
  have O3 := fun X hX => OK X hX 10 true
  clear OK
  rw [tM] at O2
  rw [tN] at O3
  generalize C.execD (twoI 11 false) 0 = D at *
  generalize C.execD (twoI 10 false) 0 = M at *
  generalize C.execD (twoI 10 true) 0 = N at *
  generalize C.execT (twoI 11 false) = t at *
  have HO : Hid ((∀ X, Ways X → Calls Tryd.prog 9 #[.agg C.cells, .int .i64 11, .bool false] X fun e w' => e = .returned (.tuple #[.agg D.cells, .bool t]) ∧ Below X.heap.size X w') ∧ (∀ X, Ways X → Calls Tryd.prog 9 #[.agg C.cells, .int .i64 10, .bool false] X fun e w' => e = .returned (.tuple #[.agg M.cells, .bool false]) ∧ Below X.heap.size X w') ∧ (∀ X, Ways X → Calls Tryd.prog 9 #[.agg C.cells, .int .i64 10, .bool true] X fun e w' => e = .returned (.tuple #[.agg N.cells, .bool false]) ∧ Below X.heap.size X w')) := ⟨O1, O2, O3⟩
  clear O1 O2 O3 tN tM
  obtain ⟨fm, fn, ⟨⟨m0, m1⟩, m2, m3⟩, ⟨⟨n0, n1⟩, n2, n3⟩, fd⟩ := HF
  go_upto_region 7 with (first
    | (go_at_call 9; have hx := K3; clear hx; refine (HO.out.2.2 _ (HW.out.below K3.out.1 HW.out.big)).mono ?_; rintro e w3 ⟨rfl, hb3⟩; have K4 : Hid (Keeps w [(w3.heap.size, N.cells), (w2.heap.size, M.cells), (w1.heap.size, D.cells), (w.heap.size, C.cells)] (w3.alloc (.cells N.cells 25))) := (K3.out.call hb3).new N.cells 25; clear hb3)
    | (go_at_call 9; have hx := K2; clear hx; refine (HO.out.2.1 _ (HW.out.below K2.out.1 HW.out.big)).mono ?_; rintro e w2 ⟨rfl, hb2⟩; have K3 : Hid (Keeps w [(w2.heap.size, M.cells), (w1.heap.size, D.cells), (w.heap.size, C.cells)] (w2.alloc (.cells M.cells 25))) := (K2.out.call hb2).new M.cells 25; have c2 := K3.out.row (b := w.heap.size) (c := C.cells) (by simp); clear hb2)
    | (go_at_call 9; refine (HO.out.1 _ (HW.out.below K0.out.1 HW.out.big)).mono ?_; rintro e w1 ⟨rfl, hb1⟩; have K2 : Hid (Keeps w [(w1.heap.size, D.cells), (w.heap.size, C.cells)] (w1.alloc (.cells D.cells 25))) := (K0.out.call hb1).new D.cells 25; have c1 := K2.out.row (b := w.heap.size) (c := C.cells) (by simp); clear hb1))
  have dD := K4.out.cell (b := w1.heap.size) (c := D.cells) (by simp)
  have rD := K4.out.row (b := w1.heap.size) (c := D.cells) (by simp)
  have rC := K4.out.row (b := w.heap.size) (c := C.cells) (by simp)
  have dM := K4.out.cell (b := w2.heap.size) (c := M.cells) (by simp)
  have dN := K4.out.cell (b := w3.heap.size) (c := N.cells) (by simp)
  have HB : Hid (Below w.heap.size w (w3.alloc (.cells N.cells 25))) := K4.out.1
  generalize w3.alloc (.cells N.cells 25) = V at *
  clear K4 K3 K2 K0 c0 c1 c2 HO
  have hu64 : IntKind.u64.wrap (a % 4294967296 * (b % 4294967296)) = a % 4294967296 * (b % 4294967296) := by
    have x0 : 0 ≤ a % 4294967296 * (b % 4294967296) := Int.mul_nonneg (by omega) (by omega)
    have x1 : a % 4294967296 * (b % 4294967296) ≤ 4294967295 * 4294967295 := Int.mul_le_mul (by omega) (by omega) (by omega) (by omega)
    rw [wrap_u64]
    omega
  rcases fd with ⟨hb, rfl, rfl⟩ | ⟨hb, rfl, f1, f2, f3, f4, f5, f6⟩
  · have heq := eqlCpu_same D okC.out
    go_wp2
    go_ret
    exact ⟨by first | rfl | simp, HB.out⟩
  · have hb2 : ¬ b ≤ 0 := by omega
    have hbm : b % 4294967296 = b := by omega
    rw [hbm] at fn hu64
    have f7 : wrap64 (a / b) = a / b := by
      have h1 : -2147483648 ≤ a / b := (Int.le_ediv_iff_mul_le (by omega)).2 (by omega)
      have h2 : a / b < 2147483648 := (Int.ediv_lt_iff_lt_mul (by omega)).2 (by omega)
      unfold wrap64
      omega
    have f8 : wrap64 a = a := by unfold wrap64; omega
    go_wp2
    go_ret
    exact ⟨by first | rfl | simp, HB.out⟩
end Go.Proofs.YtkhgeldnlffgjabDoor
