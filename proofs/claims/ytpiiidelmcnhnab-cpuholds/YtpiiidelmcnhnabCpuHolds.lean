/-
  The law on conditions: of any processor and any number the program's Holds answers as the document's, and of two opposites just one holds; no condition.
-/
import Derived.Test.YtpiiidelmcnhnabOpens
import Derived.Deep.Light
import Derived.Carry
import Derived.JoinedOf
import Derived.JoinedAt
import Derived.ChangeSame
namespace Go.Proofs.Ytpiiidelmcnhnab
open Go.ChangeShapes Go.WideShapes Go.ChangeAt Go.RowKit
attribute [local go_sem ↓] loadCpu_seal storeCpu_seal
attribute [local go_sem] loadCpu_run storeCpu_run rowAt_at rowAt_old rowAt_drew rowAt_drewN roomCpu_new roomIn_new roomAt_old roomAt_drew roomAt_drewN putCpu_new putIn_new Cp.zero_fold In.fold putRow_past rowCpu_put rowIn_put size_put putRow_drew putRow_drewN alloc_drewN setCell_drewN Cp.at16 Cp.at17 Cp.at18 Cp.at19 Cp.at20 Cp.at21 Cp.size Cp.set16 Cp.set17 Cp.set18 Cp.set19 Cp.set20 Cp.set21 In.at0 In.at1 In.at2 In.at3 In.at4 In.at5 In.at6 In.at7 In.size In.set0 In.set1 In.set2 In.set3 In.ne Cp.ne In.set4 In.set5 In.set6 In.set7

theorem opposite (c : Cp) (k : Nat) (hk : k < 8) : (holdsB c (k : Int) == holdsB c ((k : Int) + 8)) = false := by
  have h1 : holdsB c (k : Int) = bareH c k := by
    unfold holdsB
    rw [show (k : Int) % 8 = k by omega, show decide (0 ≤ (k : Int) ∧ (k : Int) < 16) = true by simp; omega, show decide ((k : Int) < 8) = true by simp; omega]
    cases bareH c k <;> rfl
  have h2 : holdsB c ((k : Int) + 8) = !(bareH c k) := by
    unfold holdsB
    rw [show ((k : Int) + 8) % 8 = k by omega]
    have e : decide (0 ≤ (k : Int) + 8 ∧ (k : Int) + 8 < 16) = true := by simp; omega
    have e2 : decide ((k : Int) + 8 < 8) = false := by simp; omega
    rw [e, e2]; cases bareH c k <;> rfl
  rw [h1, h2]; cases bareH c k <;> rfl
namespace cpuHolds
set_option maxHeartbeats 4000000 in
theorem walk (c : Cp) (n : Int) (w : World) : Calls Try.prog 3 #[.agg c.cells, .int .i64 n] w fun e w' => e = .returned (.bool true) ∧ Below w.heap.size w w' := by
  have K0 : Hid (Keeps w [(w.heap.size, c.cells)] (w.alloc (.cells c.cells 25))) := Keeps.new1 w c.cells 25
  go_enter Try.func3, Try.ntmps3
  go_wp2
  go_region_held3 (fun X => Keeps w [(w.heap.size, c.cells)] X ∧ rowAt X w.heap.size = some c.cells) (first | exact Keeps.drew1 K0.out | exact Keeps.step1 (by assumption) (by assumption)) (first | (go_at_call 4; refine (holds_any c _ _).mono ?_; rintro e w1 ⟨rfl, hb⟩) | (go_at_call 5; refine (rholds_any c _ _).mono ?_; rintro e w1 ⟨rfl, hb⟩))
  rename_i hh
  obtain ⟨hk, hr⟩ := hh
  clear hb hr
  go_wp2
  go_loopw [5] (fun i X => ∃ k : Nat, k ≤ 8 ∧ i = .int .i64 k ∧ Keeps w [(w.heap.size, c.cells)] X) (fun i _ => 8 - (intOf i).toNat)
  case atStart => exact ⟨0, by omega, rfl, hk⟩
  case round =>
    obtain ⟨k, hk8, rfl, hX⟩ := hrel
    clear hk K0
    by_cases hlt : k < 8
    · have K1 : Hid (Keeps w [(w.heap.size, c.cells)] _) := hX
      have hop := opposite c k hlt
      have e8 : IntKind.i64.wrap ((k : Int) + 8) = k + 8 := by rw [IntWalk.i64_left, IntWalk.wrap64_in]; omega
      clear hX
      go_wp2
      go_region_held3 (fun X => Keeps w [(w.heap.size, c.cells)] X ∧ rowAt X w.heap.size = some c.cells) (first | exact Keeps.drew1 K1.out | exact Keeps.step1 (by assumption) (by assumption)) (first | (go_at_call 4; refine (holds_any c _ _).mono ?_; rintro e w1 ⟨rfl, hb⟩) | (go_at_call 5; refine (rholds_any c _ _).mono ?_; rintro e w1 ⟨rfl, hb⟩))
      rename_i hh
      obtain ⟨hk, hr⟩ := hh
      clear hb hr
      go_wp2
      go_roundw
      case rel => exact ⟨k + 1, by omega, by go_num, hk⟩
      case measure => simp [intOf]; omega
    · have K1 : Hid (Keeps w [(w.heap.size, c.cells)] _) := hX
      clear hX
      go_wp2
      go_ret
      exact ⟨rfl, K1.out.1⟩

theorem own : ownKnob Try.prog.godebug = none := by kernel_rfl
theorem laidOut : laidOutB Try.prog = true := by kernel_rfl
set_option maxRecDepth 100000 in
theorem lifted (os : Os) (started : os.Started) (H : Type) (enc : TypeId × Value → H) :
    ReturnsInHanded {} Try.checked os 3 .any (Rows.cpuHoldsSpec.pre6 enc Try.prog Try.f3 Rows.cpuHoldsRow.domain false) (Rows.cpuHoldsSpec.post enc Try.prog Try.f3 false true false false) := by
  refine returnsInHanded_of_change (C := Try.checked) own started (by kernel_rfl) Try.func3
    (ChangeSpec.witness6 (enc := enc) (C := Try.checked) false ⟨#[], #[.agg Cp.zero.cells, .int .i64 0], []⟩ 8 (by kernel_rfl) (by kernel_rfl) (by kernel_rfl) (by kernel_rfl)) ?_
  intro W base args ds gs before hval0 hW hcnd _
  have hval : ∀ (j : Nat) t v, Try.f3.params[j]? = some t → args[j]? = some v → Value.okWide Try.prog W .any base t v := hval0
  have hW' := hW
  obtain ⟨p, q, hA0, hV, rfl, hfz, hnd⟩ := hW
  have hA : DataW.TrodAll enc Try.prog W 0 (fun _ => true) true Try.f3.params.toList args.toList ds p := hA0
  rw [Try.params3] at hA hval
  obtain ⟨v0, vs0, d0, ds0, p0, q0, hargs, rfl, rfl, h0, r0⟩ := trodAll_cons hA
  obtain ⟨v1, vs1, d1, ds1, p1, q1, rfl, rfl, rfl, h1, r1⟩ := trodAll_cons r0
  obtain ⟨rfl, rfl, rfl⟩ := trodAll_nil r1
  obtain rfl : args = #[v0, v1] := by cases args; simp_all
  obtain ⟨rfl, rfl⟩ := trodVars_none hV
  have lt0 : ∀ x ∈ p0, x.block < W.heap.size := by obtain ⟨m, hm⟩ := h0; exact DataW.trod_lt m _ _ _ hm
  obtain ⟨c, hc, rfl⟩ := open_cpu (hval 0 25 v0 rfl rfl) h0
  obtain ⟨a1, rfl, rfl, rfl, w1⟩ := open_int Try.underlying3 (hval 1 3 v1 rfl rfl) h1
  clear hA0 hval0
  simp only [List.append_nil] at hW'
  refine (walk c a1 W).mono fun e W' ⟨he, hg⟩ => ?_
  subst he
  exact ⟨_, rfl, _, _, _, [], _, [], hW', trodAll_mk1 (shut_bool Try.underlying4 _), (trodAll_cons_mk (Below.trod laidOut (by kernel_rfl) (of_decide_eq_true (by kernel_rfl)) h0 hg lt0) (trodAll_cons_mk (shut_int Try.underlying3 w1) trodAll_mk0)), rfl, hg.frame _, fun h => by cases h⟩
theorem over : Rows.cpuHoldsRow.holds Try.pinned (OpenSpec.ofChange Rows.cpuHoldsSpec) :=
  OpenClaim.holds_of_wide 3 Try.f3 rfl rfl rfl rfl rfl rfl rfl ⟨rfl, rfl, rfl, rfl, rfl⟩ rfl rfl rfl rfl rfl (by kernel_rfl) Try.func3 (by kernel_rfl)
    (of_decide_eq_true (by kernel_rfl)) (by unfold Func.isWrapper; first | (rw [if_pos (by decide +kernel)]; kernel_rfl) | (rw [if_neg (by decide +kernel)]; exact ⟨rfl, rfl⟩))
    (fun os started H enc _ => lifted os started H enc)
end cpuHolds
/-- The given statement. -/
theorem cpuHolds_holds : Rows.CpuHoldsSaid := cpuHolds.over
#print axioms cpuHolds_holds
end Go.Proofs.Ytpiiidelmcnhnab
