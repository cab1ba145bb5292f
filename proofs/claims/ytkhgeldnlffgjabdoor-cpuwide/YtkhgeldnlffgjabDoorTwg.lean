/-
  The law's helper two, for whatever operation; sums, differences, products and quotients of it.
-/
import Derived.Test.YtkhgeldnlffgjabDoorOks
import Derived.Laws.Bits64b
namespace Go.Proofs.YtkhgeldnlffgjabDoor
open Go.ChangeShapes Go.WideShapes Go.ChangeAt Go.RowKit
attribute [local go_sem ↓] loadCpu_seal storeCpu_seal loadIn_seal storeIn_seal
attribute [local go_sem] loadCpu_run storeCpu_run loadIn_run storeIn_run rowAt_at rowAt_past rowAt_drew rowAt_drewN roomCpu_new roomIn_new roomAt_old roomAt_drew roomAt_drewN putCpu_new putIn_new Cp.zero_fold In.fold putRow_past rowCpu_put rowIn_put size_put putRow_drew putRow_drewN alloc_drewN setCell_drewN Cp.at16 Cp.at17 Cp.at18 Cp.at19 Cp.at20 Cp.at21 Cp.size Cp.set16 Cp.set17 Cp.set18 Cp.set19 Cp.set20 Cp.set21 In.at0 In.at1 In.at2 In.at3 In.at4 In.at5 In.at6 In.at7 In.size In.set0 In.set1 In.set2 In.set3 In.ne Cp.ne In.set4 In.set5 In.set6 In.set7
attribute [local go_sem ↓] eqlCpu_seal
set_option linter.unusedVariables false

def twoI (op : Int) (u : Bool) : In := { F := 0, U := u, V := false, A := 0, B := 1, O := op, C := 2, N := 0 }
theorem two_gen (c : Cp) (op : Int) (u : Bool) (w : World) (hw : Ways w) (hc : c.Ok) :
    Calls Tryd.prog 9 #[.agg c.cells, .int .i64 op, .bool u] w fun e w' => e = .returned (.tuple #[.agg (c.execD (twoI op u) 0).cells, .bool (c.execT (twoI op u))]) ∧ Below w.heap.size w w' := by
  have HW : Hid (Ways ((w.alloc (.cells c.cells 25)).alloc (.cells Cp.zero.cells 25))) := (hw.alloc _).alloc _
  clear hw
  go_enter Tryd.func9, Tryd.ntmps9
  go_wp2_with (go_at_call 8; refine (exec_any c (twoI op u) 0 _ HW.out hc (by omega) (by omega)).mono ?_; rintro e w1 ⟨rfl, hb⟩; have q5 : roomAt w1 (w.heap.size + 1) 22 = true := (roomAt_below hb _ _ (by simp)).trans (roomCpu_new _ _ _ _ (by simp)); have q6 : w.heap.size + 1 < w1.heap.size := (by have := hb.size; simp at this; omega))
  exact ret_cell_tmp rfl rfl (loadCpu_row ((rowAt_past _ _ _ (by rw [size_put]; exact q6)).trans (rowCpu_put _ _ _ q5))) rfl ⟨rfl, (below_put (Below.trans (by go_grown) (hb.mono (by simp; omega))) _ (by omega) _).alloc (by rw [size_put]; omega) _⟩
theorem lor64 (a b : Int) (a0 : 0 ≤ a) (a1 : a ≤ 4294967295) (b0 : 0 ≤ b) (b1 : b ≤ 4294967295) : bits .or .u64 (a * 4294967296) b = a * 4294967296 + b := by
  obtain ⟨m, rfl⟩ := Int.eq_ofNat_of_zero_le a0
  obtain ⟨n, rfl⟩ := Int.eq_ofNat_of_zero_le b0
  have e1 : (m : Int) * 4294967296 = ((m * 4294967296 : Nat) : Int) := by simp
  have hn : n < 2 ^ 32 := by omega
  rw [e1, bits_or_u64_nat _ _ (by omega) (by omega)]
  have := Nat.two_pow_add_eq_or_of_lt hn m
  rw [Nat.mul_comm m, show (4294967296 : Nat) = 2 ^ 32 by decide, ← this]
  simp
theorem two_d (c : Cp) (op : Int) (u : Bool) (hr : rightB (twoI op u) = true) : c.execD (twoI op u) 0 = c.operated (twoI op u) := by
  unfold Cp.execD
  rw [if_pos hr, if_neg (by show ¬ (0 : Int) = 2; decide), if_neg (by show ¬ (0 : Int) = 3; decide)]
theorem two_t (c : Cp) (op : Int) (u : Bool) (hr : rightB (twoI op u) = true) : c.execT (twoI op u) = c.trapsB (twoI op u) := by
  unfold Cp.execT
  rw [hr]
  have : decide ((twoI op u).F = 0 ∨ (twoI op u).F = 1) = true := decide_eq_true (.inl rfl)
  rw [this]; rfl
theorem two_right (u : Bool) : rightB (twoI 8 u) = true ∧ rightB (twoI 9 u) = true ∧ rightB (twoI 10 u) = true := by cases u <;> exact ⟨by kernel_rfl, by kernel_rfl, by kernel_rfl⟩
theorem two_opnd (c : Cp) (op : Int) (u : Bool) : c.opnd (twoI op u) = c.R 2 := rfl
theorem two_mul (c : Cp) (u : Bool) : c.execD (twoI 10 u) 0 = ({ c with H := mulH (c.R 1) (c.R 2) u } : Cp).wrote 0 (mulL (c.R 1) (c.R 2) u) ∧ c.execT (twoI 10 u) = false := by
  rw [two_d c 10 u (two_right u).2.2, two_t c 10 u (two_right u).2.2]
  exact ⟨rfl, rfl⟩
theorem two_add (c : Cp) (u : Bool) : c.execD (twoI 8 u) 0 = c.added (twoI 8 u) (c.R 1) (c.R 2) ∧ c.execT (twoI 8 u) = false := by
  rw [two_d c 8 u (two_right u).1, two_t c 8 u (two_right u).1]
  exact ⟨rfl, rfl⟩
theorem two_sub (c : Cp) (u : Bool) : c.execD (twoI 9 u) 0 = c.subbed (twoI 9 u) (c.R 1) (c.R 2) ∧ c.execT (twoI 9 u) = false := by
  rw [two_d c 9 u (two_right u).2.1, two_t c 9 u (two_right u).2.1]
  exact ⟨rfl, rfl⟩
theorem two_div (c : Cp) : c.execD (twoI 11 false) 0 = c.divided (twoI 11 false) (c.R 1) (c.R 2) ∧ c.execT (twoI 11 false) = !divB (c.R 2) := by
  have hr : rightB (twoI 11 false) = true := by kernel_rfl
  rw [two_d c 11 false hr, two_t c 11 false hr]
  exact ⟨rfl, by show (decide ((11 : Int) = 15) || (decide ((11 : Int) = 11) && !divB (c.R 2))) = _; simp⟩
theorem wrote_R0 (c : Cp) (x : Int) : (c.wrote 0 x).R 0 = x ∧ (c.wrote 0 x).H = c.H ∧ (c.wrote 0 x).C = c.C := ⟨rfl, rfl, rfl⟩
theorem sg_mod (a : Int) (a0 : -2147483648 ≤ a) (a1 : a ≤ 2147483647) : sg (a % 4294967296) = a := by unfold sg; split <;> omega
theorem mul_parts (x y : Int) (u : Bool) : mulH x y u * 4294967296 + mulL x y u = mulP x y u := by unfold mulH mulL; omega
theorem wrap64_of (p : Int) (h : -4611686018427387904 ≤ p ∧ p ≤ 4611686018427387904) : wrap64 (p % 18446744073709551616) = p ∧ wrap64 p = p := by unfold wrap64; omega
end Go.Proofs.YtkhgeldnlffgjabDoor
