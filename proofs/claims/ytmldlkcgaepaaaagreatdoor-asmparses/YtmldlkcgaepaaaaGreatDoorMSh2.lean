/-
  Contracts of layer 6's operand and Show, the program's: each returns the plain text, for every right instruction, every word and every address.
-/
import Derived.Test.YtmldlkcgaepaaaaGreatDoorMSh1
import Derived.Test.YtmldlkcgaepaaaaGreatDoorMFmt
namespace Go.Proofs.YtmldlkcgaepaaaaGreatDoor
open Go.ChangeShapes Go.WideShapes Go.ChangeAt Go.RowKit
attribute [local go_sem ↓] loadIn_seal storeIn_seal
attribute [local go_sem] loadIn_run storeIn_run rowAt_at rowAt_old rowAt_drew rowAt_drewN roomCpu_new roomIn_new roomAt_old roomAt_drew roomAt_drewN putCpu_new putIn_new Cp.zero_fold In.fold putRow_past rowCpu_put rowIn_put size_put putRow_drew putRow_drewN alloc_drewN setCell_drewN Cp.at16 Cp.at17 Cp.at18 Cp.at19 Cp.at20 Cp.at21 Cp.size Cp.set16 Cp.set17 Cp.set18 Cp.set19 Cp.set20 Cp.set21 In.at0 In.at1 In.at2 In.at3 In.at4 In.at5 In.at6 In.at7 In.size In.set0 In.set1 In.set2 In.set3 In.ne Cp.ne In.set4 In.set5 In.set6 In.set7

/-- What the texts of an instruction's operands ask of it. -/
structure Wr (i : In) : Prop where
  A : 0 ≤ i.A ∧ i.A < 16
  B : 0 ≤ i.B ∧ i.B < 16
  C : 0 ≤ i.C ∧ i.C < 16
  N : -2147483648 ≤ i.N ∧ i.N ≤ 2147483647
theorem toP_eq (a n : Int) : IntKind.u64.wrap (IntKind.u32.wrap ((a + 4) % 4294967296 + IntKind.u32.wrap (4 * IntKind.u32.wrap n))) = toP a n := by rw [IntKind.wrap_u64, IntKind.wrap_u32, IntKind.wrap_u32, IntKind.wrap_u32]; unfold toP; omega
theorem toP_bd (a n : Int) : 0 ≤ toP a n ∧ toP a n < 4294967296 := by unfold toP; omega
theorem operand_any (i : In) (hi : Wr i) (k : UInt8) (a : Int) (w : World) (V : Vars w) :
    Calls Tryz.prog 36 #[.agg i.cells, .int .i32 k.toNat, .int .u32 a] w fun e w' => e = .returned (.string (bs (operandP i a k))) ∧ Below w.heap.size w w' := by
  obtain ⟨⟨a0, a1⟩, ⟨b0, b1⟩, ⟨c0, c1⟩, n0, n1⟩ := hi
  have V1 : Hid (Vars (w.alloc (.cells i.cells 52))) := V.alloc _
  have hbig := V.big
  have hcond := V.conds i.A.toNat (by omega)
  rw [Int.toNat_of_nonneg a0] at hcond
  have od : decide (i.A < 0) = false := by simpa using a0
  have oe : decide (16 ≤ i.A) = false := by simpa using a1
  clear V
  by_cases e1 : k = 65
  · subst e1
    have ho : operandP i a 65 = regP i.A := rfl
    rw [ho]
    clear ho hcond
    go_enter Tryz.func36, Tryz.ntmps36
    go_wp2_with (go_at_call 16; refine (register_any i.A _ V1.out (by omega) (by omega)).mono ?_; rintro e w1 ⟨rfl, hb⟩)
    go_ret
    exact ⟨rfl, ((Below.refl _ _).alloc (Nat.le_refl _) _).trans (hb.mono (by simp))⟩
  by_cases e2 : k = 66
  · subst e2
    have ho : operandP i a 66 = regP i.B := rfl
    rw [ho]
    clear ho hcond
    go_enter Tryz.func36, Tryz.ntmps36
    go_wp2_with (go_at_call 16; refine (register_any i.B _ V1.out (by omega) (by omega)).mono ?_; rintro e w1 ⟨rfl, hb⟩)
    go_ret
    exact ⟨rfl, ((Below.refl _ _).alloc (Nat.le_refl _) _).trans (hb.mono (by simp))⟩
  by_cases e3 : k = 67
  · subst e3
    have ho : operandP i a 67 = regP i.C := rfl
    rw [ho]
    clear ho hcond
    go_enter Tryz.func36, Tryz.ntmps36
    go_wp2_with (go_at_call 16; refine (register_any i.C _ V1.out (by omega) (by omega)).mono ?_; rintro e w1 ⟨rfl, hb⟩)
    go_ret
    exact ⟨rfl, ((Below.refl _ _).alloc (Nat.le_refl _) _).trans (hb.mono (by simp))⟩
  by_cases e4 : k = 63
  · subst e4
    have ho : operandP i a 63 = condName i.A := rfl
    rw [ho]
    have hcond' : (w.alloc (.cells i.cells 52)).cell? ⟨0, i.A.toNat, none⟩ = some (.string (bs (condName i.A))) := (World.cell?_alloc_old _ _ _ (by show (0 : Nat) ≠ _; omega)).trans hcond
    clear ho hcond
    go_enter Tryz.func36, Tryz.ntmps36
    go_wp2
    go_ret
    exact ⟨rfl, (Below.refl _ _).alloc (Nat.le_refl _) _⟩
  clear hcond od oe
  by_cases e5 : k = 64
  · subst e5
    have ho : operandP i a 64 = Lib.itoa (toP a i.N) := rfl
    rw [ho]
    have hbd := toP_bd a i.N
    have FM : Hid (Calls Tryz.prog 62 #[.int .u64 (IntKind.u64.wrap (IntKind.u32.wrap ((a + 4) % 4294967296 + IntKind.u32.wrap (4 * IntKind.u32.wrap i.N)))), .int .i64 10] (w.alloc (.cells i.cells 52)).drew fun e w' => e = .returned (.string (bs (Lib.itoa (toP a i.N)))) ∧ Below (w.alloc (.cells i.cells 52)).drew.heap.size (w.alloc (.cells i.cells 52)).drew w') := by
      have := fmt_any (toP a i.N).toNat (by omega) _ V1.out.drew
      rw [Int.toNat_of_nonneg hbd.1] at this
      rw [toP_eq]
      exact this
    clear ho hbd
    go_enter Tryz.func36, Tryz.ntmps36
    go_wp2
    go_region_held (fun w' => rowAt w' w.heap.size = some i.cells ∧ (∀ j, w'.cell? ⟨w.heap.size, j, none⟩ = i.cells[j]?)) (first | (simp [*, rowAt_at, rowAt_drew]; done) | (refine ⟨?_, fun j => ?_⟩ <;> simp_all; done)) (first | (go_at_call 63; refine (behind_any a _).mono ?_; rintro e w' ⟨rfl, hw⟩; obtain rfl := hw.symm; clear hw) | (go_at_call 62; refine FM.out.mono ?_; rintro e w1 ⟨rfl, hb⟩; obtain ⟨hc, hr, hm, hz⟩ := bcell hb))
    have hbb : Below w.heap.size w w1 := ((Below.refl _ _).alloc (Nat.le_refl _) _).drew.trans (hb.mono (by simp))
    clear hb hc hr hm hz V1 FM
    go_wp2
    go_ret
    exact ⟨rfl, hbb⟩
  · have ho : operandP i a k = Lib.itoa i.N := by simp [operandP, e1, e2, e3, e4, e5]
    rw [ho]
    have kk : ∀ c : UInt8, k ≠ c → ((k.toNat : Int) == (c.toNat : Int)) = false := fun c h => beq_eq_false_iff_ne.2 fun e => h (UInt8.toNat_inj.1 (Int.ofNat.inj e))
    have k1 : ((k.toNat : Int) == 65) = false := kk 65 e1
    have k2 : ((k.toNat : Int) == 66) = false := kk 66 e2
    have k3 : ((k.toNat : Int) == 67) = false := kk 67 e3
    have k4 : ((k.toNat : Int) == 63) = false := kk 63 e4
    have k5 : ((k.toNat : Int) == 64) = false := kk 64 e5
    clear ho kk
    go_enter Tryz.func36, Tryz.ntmps36
    go_wp2_with (go_at_call 39; refine (itoa_any i.N _ V1.out (by omega) (by omega)).mono ?_; rintro e w1 ⟨rfl, hb⟩)
    go_ret
    exact ⟨rfl, ((Below.refl _ _).alloc (Nat.le_refl _) _).trans (hb.mono (by simp))⟩
end Go.Proofs.YtmldlkcgaepaaaaGreatDoor
