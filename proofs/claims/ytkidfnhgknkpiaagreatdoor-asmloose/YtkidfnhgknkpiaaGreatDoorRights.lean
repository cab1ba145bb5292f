/-
  Contracts of the functions of layer 2 that tell which instructions are right, the program's: each returns a plain truth, for every instruction.
-/
import Derived.Test.YtkidfnhgknkpiaaGreatDoorBase
import Derived.Laws.BitsAllLaws
namespace Go.Proofs.YtkidfnhgknkpiaaGreatDoor
set_option linter.unusedSimpArgs false
open Go.ChangeShapes Go.WideShapes Go.ChangeAt Go.RowKit
attribute [local go_sem ↓] loadIn_seal storeIn_seal
attribute [local go_sem] loadIn_run storeIn_run rowAt_at rowAt_old rowAt_drew rowAt_drewN roomCpu_new roomIn_new roomAt_old roomAt_drew roomAt_drewN putCpu_new putIn_new Cp.zero_fold In.fold putRow_past rowCpu_put rowIn_put size_put putRow_drew putRow_drewN alloc_drewN setCell_drewN Cp.at16 Cp.at17 Cp.at18 Cp.at19 Cp.at20 Cp.at21 Cp.size Cp.set16 Cp.set17 Cp.set18 Cp.set19 Cp.set20 Cp.set21 In.at0 In.at1 In.at2 In.at3 In.at4 In.at5 In.at6 In.at7 In.size In.set0 In.set1 In.set2 In.set3 In.ne Cp.ne In.set4 In.set5 In.set6 In.set7

theorem bdrewN {B : Nat} {a w : World} (h : Below B a w) (n : Nat) : Below B a (w.drewN n) := ⟨h.os, h.tape, h.output, h.size, h.block⟩
theorem and_mask (x : Int) (k : Nat) (hk : k ≤ 31) (h0 : 0 ≤ x) (h1 : x ≤ 4294967295) : bits .and .u32 x (2 ^ k - 1) = x % 2 ^ k := by
  have hp : (2 : Nat) ^ k ≤ 2 ^ 31 := Nat.pow_le_pow_right (by omega) hk
  have hp1 : 1 ≤ (2 : Nat) ^ k := Nat.one_le_two_pow
  have e : ((2 : Int) ^ k - 1) = ((2 ^ k - 1 : Nat) : Int) := by
    rw [Int.natCast_sub hp1]; simp
  rw [e, u32_and x _ h0 (by omega) (by omega) (by omega), Int.toNat_natCast, Nat.and_two_pow_sub_one_eq_mod]
  obtain ⟨n, rfl⟩ := Int.eq_ofNat_of_zero_le h0
  simp

def fld (x : Int) (at_ k : Nat) : Int := x / 2 ^ at_ % 2 ^ k
theorem fld_bd (x : Int) (at_ k : Nat) : 0 ≤ fld x at_ k ∧ fld x at_ k < 2 ^ k := by
  have hp : (0 : Int) < 2 ^ k := Int.pow_pos (by omega)
  unfold fld
  exact ⟨Int.emod_nonneg _ (by omega), Int.emod_lt_of_pos _ hp⟩
theorem shifted_bd (x : Int) (at_ : Nat) (h0 : 0 ≤ x) (h1 : x ≤ 4294967295) : 0 ≤ x / 2 ^ at_ ∧ x / 2 ^ at_ ≤ 4294967295 := by
  have hp : (0 : Int) < 2 ^ at_ := Int.pow_pos (by omega)
  have := Int.ediv_le_self (2 ^ at_) h0
  exact ⟨Int.ediv_nonneg h0 (by omega), by omega⟩
theorem field_any (x : Int) (at_ k : Nat) (w : World) (h0 : 0 ≤ x) (h1 : x ≤ 4294967295) (ha : at_ ≤ 31) (hk : k ≤ 24) :
    Calls Tryz.prog 74 #[.int .u32 x, .int .i64 at_, .int .i64 k] w fun e w' => e = .returned (.int .u32 (fld x at_ k)) ∧ ∃ n, w' = w.drewN n := by
  have hm := and_mask (x / 2 ^ at_) k (by omega) (shifted_bd x at_ h0 h1).1 (shifted_bd x at_ h0 h1).2
  have H : Hid (bits .and .u32 (x / 2 ^ at_) (2 ^ k - 1) = fld x at_ k) := hm
  clear hm
  go_enter Tryz.func74, Tryz.ntmps74
  go_wp2
  go_quiet (fail)
  go_wp2
  go_ret
  refine ⟨ret_int ?_, nq, rfl⟩
  rw [← H.out]
  have hp : (2 : Int) ^ k ≤ 2 ^ 24 := by
    have : (2 : Nat) ^ k ≤ 2 ^ 24 := Nat.pow_le_pow_right (by omega) hk
    exact_mod_cast this
  have hp1 : (1 : Int) ≤ 2 ^ k := Int.pow_pos (by omega)
  congr 1
  omega

def fldI (x a k : Int) : Int := x / 2 ^ a.toNat % 2 ^ k.toNat
theorem field_at (x a k : Int) (w : World) (h0 : 0 ≤ x) (h1 : x ≤ 4294967295) (a0 : 0 ≤ a) (ha : a ≤ 31) (k0 : 0 ≤ k) (hk : k ≤ 24) :
    Calls Tryz.prog 74 #[.int .u32 x, .int .i64 a, .int .i64 k] w fun e w' => e = .returned (.int .u32 (fldI x a k)) ∧ ∃ n, w' = w.drewN n := by
  have := field_any x a.toNat k.toNat w h0 h1 (by omega) (by omega)
  rw [Int.toNat_of_nonneg a0, Int.toNat_of_nonneg k0] at this
  exact this
theorem fldI_bd (x a k : Int) : 0 ≤ fldI x a k ∧ fldI x a k < 2 ^ k.toNat := fld_bd x a.toNat k.toNat
def regB (a : Int) : Bool := decide (0 ≤ a ∧ a < 16)
theorem isReg_any (a : Int) (w : World) : Calls Tryz.prog 76 #[.int .i64 a] w fun e w' => e = .returned (.bool (regB a)) ∧ w' = w := by
  go_enter Tryz.func76, Tryz.ntmps76
  go_wp2
  all_goals go_ret
  all_goals exact ⟨ret_bool (by unfold regB; rw [Bool.eq_iff_iff]; simp; try omega), rfl⟩
def fit20 (a : Int) : Bool := decide (-524288 ≤ a ∧ a ≤ 524287)
def fit24 (a : Int) : Bool := decide (-8388608 ≤ a ∧ a ≤ 8388607)
theorem fits20_any (a : Int) (w : World) : Calls Tryz.prog 78 #[.int .i64 a, .int .i64 20] w fun e w' => e = .returned (.bool (fit20 a)) ∧ w' = w := by
  go_enter Tryz.func78, Tryz.ntmps78
  go_wp2
  all_goals go_ret
  all_goals exact ⟨ret_bool (by unfold fit20; rw [Bool.eq_iff_iff]; simp; try omega), rfl⟩
theorem fits24_any (a : Int) (w : World) : Calls Tryz.prog 78 #[.int .i64 a, .int .i64 24] w fun e w' => e = .returned (.bool (fit24 a)) ∧ w' = w := by
  go_enter Tryz.func78, Tryz.ntmps78
  go_wp2
  all_goals go_ret
  all_goals exact ⟨ret_bool (by unfold fit24; rw [Bool.eq_iff_iff]; simp; try omega), rfl⟩
def wayI (u v : Bool) : Int := if u then (if v then 8 else 4) else (if v then 2 else 1)
theorem way_any (i : In) (w : World) : Calls Tryz.prog 99 #[.agg i.cells] w fun e w' => e = .returned (.int .i64 (wayI i.U i.V)) ∧ Below w.heap.size w w' := by
  go_enter Tryz.func99, Tryz.ntmps99
  go_wp2
  all_goals go_ret
  all_goals refine ⟨ret_int ?_, (Below.refl _ _).alloc (Nat.le_refl _) _⟩
  all_goals (unfold wayI; simp_all)
def targetB (i : In) : Bool := if i.U then decide (i.C = 0) && fit24 i.N else decide (i.N = 0)
theorem rightTarget_any (i : In) (w : World) : Calls Tryz.prog 79 #[.agg i.cells] w fun e w' => e = .returned (.bool (targetB i)) ∧ Below w.heap.size w w' := by
  go_enter Tryz.func79, Tryz.ntmps79
  go_wp2_with (go_at_call 78; refine (fits24_any _ _).mono ?_; rintro e w' ⟨rfl, hw⟩; obtain rfl := hw.symm; clear hw)
  all_goals go_ret
  all_goals refine ⟨ret_bool ?_, (Below.refl _ _).alloc (Nat.le_refl _) _⟩
  all_goals (unfold targetB; rw [Bool.eq_iff_iff]; simp_all)
def waysZ (o f : Int) : Int := if f = 0 then (if o = 0 then 13 else if o ≤ 7 then 1 else if o ≤ 10 then 5 else if o = 11 then 1 else 0) else (if o = 0 then 7 else if o ≤ 7 then 3 else if o ≤ 10 then 15 else if o = 11 then 3 else if o = 15 then 1 else 0)
/-- The table lies in its block as the program's text lays it. -/
structure Ways (w : World) : Prop where
  big : 2 < w.heap.size
  at_ : ∀ o f : Int, 0 ≤ o → o < 16 → 0 ≤ f → f < 2 → w.cell? ⟨2, o.toNat * 2 + f.toNat, none⟩ = some (.int .i64 (waysZ o f))
theorem Ways.below {B : Nat} {w w' : World} (h : Ways w) (hb : Below B w w') (hB : 2 < B) : Ways w' :=
  ⟨Nat.lt_of_lt_of_le h.big hb.size, fun o f a b c d => (hb.cell (p := ⟨2, _, none⟩) hB).trans (h.at_ o f a b c d)⟩
def ropB (i : In) : Bool := decide (0 ≤ i.O ∧ i.O < 16) && !(bits .and .i64 (waysZ i.O i.F) (wayI i.U i.V) == 0) && (if i.O = 0 then decide (i.B = 0) && (!i.U || decide (i.C = 0)) else if i.O = 15 then decide (i.A = 0) && decide (i.B = 0) else true)
theorem bcell {W w1 : World} (hb : Below W.heap.size W w1) : (∀ b o, b < W.heap.size → w1.cell? ⟨b, o, none⟩ = W.cell? ⟨b, o, none⟩) ∧ (∀ b, b < W.heap.size → rowAt w1 b = rowAt W b) ∧ (∀ b n, b < W.heap.size → roomAt w1 b n = roomAt W b n) ∧ (∀ b o, b < W.heap.size → w1.frozen? ⟨b, o, none⟩ = W.frozen? ⟨b, o, none⟩) :=
  ⟨fun b o h => hb.cell (p := ⟨b, o, none⟩) h, fun b h => rowAt_below hb b h, fun b n h => roomAt_below hb b n h, fun b o h => hb.frozen (p := ⟨b, o, none⟩) h⟩
theorem rightOperation_any (i : In) (w : World) (hw : Ways w) (hf : 0 ≤ i.F ∧ i.F < 2) : Calls Tryz.prog 77 #[.agg i.cells] w fun e w' => e = .returned (.bool (ropB i)) ∧ Below w.heap.size w w' := by
  have hbig := hw.big
  have hbig1 : 2 < w.heap.size + 1 := Nat.lt_succ_of_lt hbig
  by_cases ho : 0 ≤ i.O ∧ i.O < 16
  · have ht := hw.at_ i.O i.F ho.1 ho.2 hf.1 hf.2
    obtain ⟨f0, f1⟩ := hf
    obtain ⟨o0, o1⟩ := ho
    have od : decide (i.O < 0) = false := by simpa using o0
    have oe : decide (16 ≤ i.O) = false := by simpa using o1
    clear hw
    go_enter Tryz.func77, Tryz.ntmps77
    go_wp2
    go_region_held3 (fun w' => rowAt w' w.heap.size = some i.cells ∧ (∀ j, w'.cell? ⟨w.heap.size, j, none⟩ = i.cells[j]?) ∧ w'.cell? ⟨2, i.O.toNat * 2 + i.F.toNat, none⟩ = some (.int .i64 (waysZ i.O i.F))) (simp [*, rowAt_at, rowAt_old, rowAt_drew, rowAt_drewN, World.cell?_alloc_some, World.cell?_setCell_far]) (first | (go_at_call 99; refine (way_any i _).mono ?_; rintro e w1 ⟨rfl, hb⟩; obtain ⟨hc, hr, hm, hz⟩ := bcell hb))
    rename_i hh
    obtain ⟨h1, h2, h3⟩ := hh
    have hbb : Below w.heap.size w w1 := ((Below.refl _ _).alloc (Nat.le_refl _) _).drew.trans (hb.mono (by simp))
    clear hb h3 ht h1
    go_wp2
    all_goals go_ret
    all_goals refine ⟨ret_bool ?_, hbb⟩
    all_goals (clear hc hr hm hz h2; unfold ropB; rw [Bool.eq_iff_iff]; simp_all)
  · have hd : ropB i = false := by unfold ropB; simp [ho]
    obtain ⟨f0, f1⟩ := hf
    clear hw
    rw [hd]
    by_cases o0 : i.O < 0
    · have od : decide (i.O < 0) = true := by simpa using o0
      go_enter Tryz.func77, Tryz.ntmps77
      go_wp2
      go_quiet (fail)
      go_wp2
      go_ret
      exact ⟨rfl, bdrewN ((Below.refl _ _).alloc (Nat.le_refl _) _) _⟩
    · have od : decide (i.O < 0) = false := by simpa using o0
      have oe : decide (16 ≤ i.O) = true := by simp; omega
      go_enter Tryz.func77, Tryz.ntmps77
      go_wp2
      go_quiet (fail)
      go_wp2
      go_ret
      exact ⟨rfl, bdrewN ((Below.refl _ _).alloc (Nat.le_refl _) _) _⟩
theorem Ways.alloc {w : World} (h : Ways w) (o : Obj) : Ways (w.alloc o) := h.below ((Below.refl _ _).alloc (Nat.le_refl _) _) h.big
theorem Ways.drewN {w : World} (h : Ways w) (n : Nat) : Ways (w.drewN n) := ⟨h.big, h.at_⟩
theorem Ways.drew {w : World} (h : Ways w) : Ways w.drew := ⟨h.big, h.at_⟩
def rightB (i : In) : Bool := regB i.A && (regB i.B && (regB i.C && (if i.F = 0 then decide (i.N = 0) && ropB i else if i.F = 1 then decide (i.C = 0) && (decide (0 ≤ i.N) && (decide (i.N < 65536) && ropB i)) else if i.F = 2 then decide (i.C = 0) && (decide (i.O = 0) && fit20 i.N) else if i.F = 3 then decide (i.B = 0) && (decide (i.O = 0) && targetB i) else false)))
theorem right_any (i : In) (w : World) (hw : Ways w) : Calls Tryz.prog 40 #[.agg i.cells] w fun e w' => e = .returned (.bool (rightB i)) ∧ Below w.heap.size w w' := by
  have hW := hw.alloc (.cells i.cells 42)
  have HW : Hid (Ways (w.alloc (.cells i.cells 42))) := hW
  clear hW hw
  go_enter Tryz.func40, Tryz.ntmps40
  go_wp2_with (first | (go_at_call 76; refine (isReg_any _ _).mono ?_; rintro e w' ⟨rfl, hx⟩; obtain rfl := hx.symm; clear hx) | (go_at_call 78; refine (fits20_any _ _).mono ?_; rintro e w' ⟨rfl, hx⟩; obtain rfl := hx.symm; clear hx) | (go_at_call 77; refine (rightOperation_any i _ HW.out (by first | (have hq := beq_iff_eq.1 (by assumption : (i.F == 0) = true); omega) | (have hq := beq_iff_eq.1 (by assumption : (i.F == 1) = true); omega))).mono ?_; rintro e w1 ⟨rfl, hb⟩) | (go_at_call 79; refine (rightTarget_any i _).mono ?_; rintro e w1 ⟨rfl, hb⟩))
  all_goals go_ret
  all_goals refine ⟨ret_bool ?_, ?_⟩
  all_goals first | exact (Below.refl _ _).alloc (Nat.le_refl _) _ | exact ((Below.refl _ _).alloc (Nat.le_refl _) _).trans (hb.mono (by simp)) | skip
  all_goals (clear HW; unfold rightB; rw [Bool.eq_iff_iff]; simp_all)
  all_goals (intros; omega)
end Go.Proofs.YtkidfnhgknkpiaaGreatDoor
