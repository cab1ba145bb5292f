/-
  Contracts of the functions of layer 2 that tell which instructions are right, the program's: each returns a plain truth, for every instruction.
  Contracts of the functions of layer 2 that lay instructions into words and take them out, the program's: each returns the same plain word or instruction.
-/
import Derived.Test.YtmldlkcgaepaaaaGreatDoorMBase
import Derived.Laws.BitsAllLaws
namespace Go.Proofs.YtmldlkcgaepaaaaGreatDoor
set_option linter.unusedSimpArgs false
open Go.ChangeShapes Go.WideShapes Go.ChangeAt Go.RowKit
attribute [local go_sem ↓] loadIn_seal storeIn_seal
attribute [local go_sem] loadIn_run storeIn_run rowAt_at rowAt_old rowAt_drew rowAt_drewN roomCpu_new roomIn_new roomAt_old roomAt_drew roomAt_drewN putCpu_new putIn_new Cp.zero_fold In.fold putRow_past rowCpu_put rowIn_put size_put putRow_drew putRow_drewN alloc_drewN setCell_drewN Cp.at16 Cp.at17 Cp.at18 Cp.at19 Cp.at20 Cp.at21 Cp.size Cp.set16 Cp.set17 Cp.set18 Cp.set19 Cp.set20 Cp.set21 In.at0 In.at1 In.at2 In.at3 In.at4 In.at5 In.at6 In.at7 In.size In.set0 In.set1 In.set2 In.set3 In.ne Cp.ne In.set4 In.set5 In.set6 In.set7

theorem bdrewN {B : Nat} {a w : World} (h : Below B a w) (n : Nat) : Below B a (w.drewN n) := ⟨h.os, h.tape, h.output, h.size, h.block⟩
theorem and_mask (x : Int) (k : Nat) (hk : k ≤ 31) (h0 : 0 ≤ x) (h1 : x ≤ 4294967295) : bits .and .u32 x (2 ^ k - 1) = x % 2 ^ k := by
  have hp : (2 : Nat) ^ k ≤ 2 ^ 31 := Nat.pow_le_pow_right (by omega) hk
  have hp1 : 1 ≤ (2 : Nat) ^ k := Nat.one_le_two_pow
  have e : ((2 : Int) ^ k - 1) = ((2 ^ k - 1 : Nat) : Int) := by
    rw [Int.natCast_sub hp1]; simp
  rw [e, u32_and x _ h0 (by omega) (by omega) (by omega), Int.toNat_natCast, Nat.and_two_pow_sub_one_eq_mod]
  obtain ⟨n, rfl⟩ := Int.eq_ofNat_of_zero_le h0
  simp

def fld (x : Int) (at_ k : Nat) : Int := x / 2 ^ at_ % 2 ^ k
theorem fld_bd (x : Int) (at_ k : Nat) : 0 ≤ fld x at_ k ∧ fld x at_ k < 2 ^ k := by
  have hp : (0 : Int) < 2 ^ k := Int.pow_pos (by omega)
  unfold fld
  exact ⟨Int.emod_nonneg _ (by omega), Int.emod_lt_of_pos _ hp⟩
theorem shifted_bd (x : Int) (at_ : Nat) (h0 : 0 ≤ x) (h1 : x ≤ 4294967295) : 0 ≤ x / 2 ^ at_ ∧ x / 2 ^ at_ ≤ 4294967295 := by
  have hp : (0 : Int) < 2 ^ at_ := Int.pow_pos (by omega)
  have := Int.ediv_le_self (2 ^ at_) h0
  exact ⟨Int.ediv_nonneg h0 (by omega), by omega⟩
theorem field_any (x : Int) (at_ k : Nat) (w : World) (h0 : 0 ≤ x) (h1 : x ≤ 4294967295) (ha : at_ ≤ 31) (hk : k ≤ 24) :
    Calls Tryz.prog 91 #[.int .u32 x, .int .i64 at_, .int .i64 k] w fun e w' => e = .returned (.int .u32 (fld x at_ k)) ∧ ∃ n, w' = w.drewN n := by
  have hm := and_mask (x / 2 ^ at_) k (by omega) (shifted_bd x at_ h0 h1).1 (shifted_bd x at_ h0 h1).2
  have H : Hid (bits .and .u32 (x / 2 ^ at_) (2 ^ k - 1) = fld x at_ k) := hm
  clear hm
  go_enter Tryz.func91, Tryz.ntmps91
  go_wp2
  go_quiet (fail)
  go_wp2
  go_ret
  refine ⟨ret_int ?_, nq, rfl⟩
  rw [← H.out]
  have hp : (2 : Int) ^ k ≤ 2 ^ 24 := by
    have : (2 : Nat) ^ k ≤ 2 ^ 24 := Nat.pow_le_pow_right (by omega) hk
    exact_mod_cast this
  have hp1 : (1 : Int) ≤ 2 ^ k := Int.pow_pos (by omega)
  congr 1
  omega

def fldI (x a k : Int) : Int := x / 2 ^ a.toNat % 2 ^ k.toNat
theorem field_at (x a k : Int) (w : World) (h0 : 0 ≤ x) (h1 : x ≤ 4294967295) (a0 : 0 ≤ a) (ha : a ≤ 31) (k0 : 0 ≤ k) (hk : k ≤ 24) :
    Calls Tryz.prog 91 #[.int .u32 x, .int .i64 a, .int .i64 k] w fun e w' => e = .returned (.int .u32 (fldI x a k)) ∧ ∃ n, w' = w.drewN n := by
  have := field_any x a.toNat k.toNat w h0 h1 (by omega) (by omega)
  rw [Int.toNat_of_nonneg a0, Int.toNat_of_nonneg k0] at this
  exact this
theorem fldI_bd (x a k : Int) : 0 ≤ fldI x a k ∧ fldI x a k < 2 ^ k.toNat := fld_bd x a.toNat k.toNat
def regB (a : Int) : Bool := decide (0 ≤ a ∧ a < 16)
theorem isReg_any (a : Int) (w : World) : Calls Tryz.prog 86 #[.int .i64 a] w fun e w' => e = .returned (.bool (regB a)) ∧ w' = w := by
  go_enter Tryz.func86, Tryz.ntmps86
  go_wp2
  all_goals go_ret
  all_goals exact ⟨ret_bool (by unfold regB; rw [Bool.eq_iff_iff]; simp; try omega), rfl⟩
def fit20 (a : Int) : Bool := decide (-524288 ≤ a ∧ a ≤ 524287)
def fit24 (a : Int) : Bool := decide (-8388608 ≤ a ∧ a ≤ 8388607)
theorem fits20_any (a : Int) (w : World) : Calls Tryz.prog 88 #[.int .i64 a, .int .i64 20] w fun e w' => e = .returned (.bool (fit20 a)) ∧ w' = w := by
  go_enter Tryz.func88, Tryz.ntmps88
  go_wp2
  all_goals go_ret
  all_goals exact ⟨ret_bool (by unfold fit20; rw [Bool.eq_iff_iff]; simp; try omega), rfl⟩
theorem fits24_any (a : Int) (w : World) : Calls Tryz.prog 88 #[.int .i64 a, .int .i64 24] w fun e w' => e = .returned (.bool (fit24 a)) ∧ w' = w := by
  go_enter Tryz.func88, Tryz.ntmps88
  go_wp2
  all_goals go_ret
  all_goals exact ⟨ret_bool (by unfold fit24; rw [Bool.eq_iff_iff]; simp; try omega), rfl⟩
def wayI (u v : Bool) : Int := if u then (if v then 8 else 4) else (if v then 2 else 1)
theorem way_any (i : In) (w : World) : Calls Tryz.prog 110 #[.agg i.cells] w fun e w' => e = .returned (.int .i64 (wayI i.U i.V)) ∧ Below w.heap.size w w' := by
  go_enter Tryz.func110, Tryz.ntmps110
  go_wp2
  all_goals go_ret
  all_goals refine ⟨ret_int ?_, (Below.refl _ _).alloc (Nat.le_refl _) _⟩
  all_goals (unfold wayI; simp_all)
def targetB (i : In) : Bool := if i.U then decide (i.C = 0) && fit24 i.N else decide (i.N = 0)
theorem rightTarget_any (i : In) (w : World) : Calls Tryz.prog 89 #[.agg i.cells] w fun e w' => e = .returned (.bool (targetB i)) ∧ Below w.heap.size w w' := by
  go_enter Tryz.func89, Tryz.ntmps89
  go_wp2_with (go_at_call 88; refine (fits24_any _ _).mono ?_; rintro e w' ⟨rfl, hw⟩; obtain rfl := hw.symm; clear hw)
  all_goals go_ret
  all_goals refine ⟨ret_bool ?_, (Below.refl _ _).alloc (Nat.le_refl _) _⟩
  all_goals (unfold targetB; rw [Bool.eq_iff_iff]; simp_all)
def waysZ (o f : Int) : Int := if f = 0 then (if o = 0 then 13 else if o ≤ 7 then 1 else if o ≤ 10 then 5 else if o = 11 then 1 else 0) else (if o = 0 then 7 else if o ≤ 7 then 3 else if o ≤ 10 then 15 else if o = 11 then 3 else if o = 15 then 1 else 0)
/-- The table lies in its block as the program's text lays it. -/
structure Ways (w : World) : Prop where
  big : 3 < w.heap.size
  at_ : ∀ o f : Int, 0 ≤ o → o < 16 → 0 ≤ f → f < 2 → w.cell? ⟨3, o.toNat * 2 + f.toNat, none⟩ = some (.int .i64 (waysZ o f))
theorem Ways.below {B : Nat} {w w' : World} (h : Ways w) (hb : Below B w w') (hB : 3 < B) : Ways w' :=
  ⟨Nat.lt_of_lt_of_le h.big hb.size, fun o f a b c d => (hb.cell (p := ⟨3, _, none⟩) hB).trans (h.at_ o f a b c d)⟩
def ropB (i : In) : Bool := decide (0 ≤ i.O ∧ i.O < 16) && !(bits .and .i64 (waysZ i.O i.F) (wayI i.U i.V) == 0) && (if i.O = 0 then decide (i.B = 0) && (!i.U || decide (i.C = 0)) else if i.O = 15 then decide (i.A = 0) && decide (i.B = 0) else true)
theorem bcell {W w1 : World} (hb : Below W.heap.size W w1) : (∀ b o, b < W.heap.size → w1.cell? ⟨b, o, none⟩ = W.cell? ⟨b, o, none⟩) ∧ (∀ b, b < W.heap.size → rowAt w1 b = rowAt W b) ∧ (∀ b n, b < W.heap.size → roomAt w1 b n = roomAt W b n) ∧ (∀ b o, b < W.heap.size → w1.frozen? ⟨b, o, none⟩ = W.frozen? ⟨b, o, none⟩) :=
  ⟨fun b o h => hb.cell (p := ⟨b, o, none⟩) h, fun b h => rowAt_below hb b h, fun b n h => roomAt_below hb b n h, fun b o h => hb.frozen (p := ⟨b, o, none⟩) h⟩
theorem rightOperation_any (i : In) (w : World) (hw : Ways w) (hf : 0 ≤ i.F ∧ i.F < 2) : Calls Tryz.prog 87 #[.agg i.cells] w fun e w' => e = .returned (.bool (ropB i)) ∧ Below w.heap.size w w' := by
  have hbig := hw.big
  have hbig1 : 3 < w.heap.size + 1 := Nat.lt_succ_of_lt hbig
  by_cases ho : 0 ≤ i.O ∧ i.O < 16
  · have ht := hw.at_ i.O i.F ho.1 ho.2 hf.1 hf.2
    obtain ⟨f0, f1⟩ := hf
    obtain ⟨o0, o1⟩ := ho
    have od : decide (i.O < 0) = false := by simpa using o0
    have oe : decide (16 ≤ i.O) = false := by simpa using o1
    clear hw
    go_enter Tryz.func87, Tryz.ntmps87
    go_wp2
    go_region_held3 (fun w' => rowAt w' w.heap.size = some i.cells ∧ (∀ j, w'.cell? ⟨w.heap.size, j, none⟩ = i.cells[j]?) ∧ w'.cell? ⟨3, i.O.toNat * 2 + i.F.toNat, none⟩ = some (.int .i64 (waysZ i.O i.F))) (simp [*, rowAt_at, rowAt_old, rowAt_drew, rowAt_drewN, World.cell?_alloc_some, World.cell?_setCell_far]) (first | (go_at_call 110; refine (way_any i _).mono ?_; rintro e w1 ⟨rfl, hb⟩; obtain ⟨hc, hr, hm, hz⟩ := bcell hb))
    rename_i hh
    obtain ⟨h1, h2, h3⟩ := hh
    have hbb : Below w.heap.size w w1 := ((Below.refl _ _).alloc (Nat.le_refl _) _).drew.trans (hb.mono (by simp))
    clear hb h3 ht h1
    go_wp2
    all_goals go_ret
    all_goals refine ⟨ret_bool ?_, hbb⟩
    all_goals (clear hc hr hm hz h2; unfold ropB; rw [Bool.eq_iff_iff]; simp_all)
  · have hd : ropB i = false := by unfold ropB; simp [ho]
    obtain ⟨f0, f1⟩ := hf
    clear hw
    rw [hd]
    by_cases o0 : i.O < 0
    · have od : decide (i.O < 0) = true := by simpa using o0
      go_enter Tryz.func87, Tryz.ntmps87
      go_wp2
      go_quiet (fail)
      go_wp2
      go_ret
      exact ⟨rfl, bdrewN ((Below.refl _ _).alloc (Nat.le_refl _) _) _⟩
    · have od : decide (i.O < 0) = false := by simpa using o0
      have oe : decide (16 ≤ i.O) = true := by simp; omega
      go_enter Tryz.func87, Tryz.ntmps87
      go_wp2
      go_quiet (fail)
      go_wp2
      go_ret
      exact ⟨rfl, bdrewN ((Below.refl _ _).alloc (Nat.le_refl _) _) _⟩
theorem Ways.alloc {w : World} (h : Ways w) (o : Obj) : Ways (w.alloc o) := h.below ((Below.refl _ _).alloc (Nat.le_refl _) _) h.big
theorem Ways.drewN {w : World} (h : Ways w) (n : Nat) : Ways (w.drewN n) := ⟨h.big, h.at_⟩
theorem Ways.drew {w : World} (h : Ways w) : Ways w.drew := ⟨h.big, h.at_⟩
def rightB (i : In) : Bool := regB i.A && (regB i.B && (regB i.C && (if i.F = 0 then decide (i.N = 0) && ropB i else if i.F = 1 then decide (i.C = 0) && (decide (0 ≤ i.N) && (decide (i.N < 65536) && ropB i)) else if i.F = 2 then decide (i.C = 0) && (decide (i.O = 0) && fit20 i.N) else if i.F = 3 then decide (i.B = 0) && (decide (i.O = 0) && targetB i) else false)))
theorem right_any (i : In) (w : World) (hw : Ways w) : Calls Tryz.prog 48 #[.agg i.cells] w fun e w' => e = .returned (.bool (rightB i)) ∧ Below w.heap.size w w' := by
  have hW := hw.alloc (.cells i.cells 52)
  have HW : Hid (Ways (w.alloc (.cells i.cells 52))) := hW
  clear hW hw
  go_enter Tryz.func48, Tryz.ntmps48
  go_wp2_with (first | (go_at_call 86; refine (isReg_any _ _).mono ?_; rintro e w' ⟨rfl, hx⟩; obtain rfl := hx.symm; clear hx) | (go_at_call 88; refine (fits20_any _ _).mono ?_; rintro e w' ⟨rfl, hx⟩; obtain rfl := hx.symm; clear hx) | (go_at_call 87; refine (rightOperation_any i _ HW.out (by first | (have hq := beq_iff_eq.1 (by assumption : (i.F == 0) = true); omega) | (have hq := beq_iff_eq.1 (by assumption : (i.F == 1) = true); omega))).mono ?_; rintro e w1 ⟨rfl, hb⟩) | (go_at_call 89; refine (rightTarget_any i _).mono ?_; rintro e w1 ⟨rfl, hb⟩))
  all_goals go_ret
  all_goals refine ⟨ret_bool ?_, ?_⟩
  all_goals first | exact (Below.refl _ _).alloc (Nat.le_refl _) _ | exact ((Below.refl _ _).alloc (Nat.le_refl _) _).trans (hb.mono (by simp)) | skip
  all_goals (clear HW; unfold rightB; rw [Bool.eq_iff_iff]; simp_all)
  all_goals (intros; omega)
end Go.Proofs.YtmldlkcgaepaaaaGreatDoor

namespace Go.Proofs.YtmldlkcgaepaaaaGreatDoor
open Go.ChangeShapes Go.WideShapes Go.ChangeAt Go.RowKit
attribute [local go_sem ↓] loadIn_seal storeIn_seal
attribute [local go_sem] loadIn_run storeIn_run rowAt_at rowAt_old rowAt_drew rowAt_drewN roomCpu_new roomIn_new roomAt_old roomAt_drew roomAt_drewN putCpu_new putIn_new Cp.zero_fold In.fold putRow_past rowCpu_put rowIn_put size_put putRow_drew putRow_drewN alloc_drewN setCell_drewN Cp.at16 Cp.at17 Cp.at18 Cp.at19 Cp.at20 Cp.at21 Cp.size Cp.set16 Cp.set17 Cp.set18 Cp.set19 Cp.set20 Cp.set21 In.at0 In.at1 In.at2 In.at3 In.at4 In.at5 In.at6 In.at7 In.size In.set0 In.set1 In.set2 In.set3 In.ne Cp.ne In.set4 In.set5 In.set6 In.set7

theorem bitOf_any (b : Bool) (k : Nat) (w : World) (hk : k ≤ 31) : Calls Tryz.prog 90 #[.bool b, .int .i64 k] w fun e w' => e = .returned (.int .u32 (bit b * 2 ^ k)) ∧ w' = w := by
  have hp : (2 : Int) ^ k < 4294967296 := by
    have : (2 : Nat) ^ k ≤ 2 ^ 31 := Nat.pow_le_pow_right (by omega) hk
    have h2 : ((2 ^ k : Nat) : Int) = 2 ^ k := by simp
    rw [← h2]; omega
  have hp1 : (0 : Int) < 2 ^ k := Int.pow_pos (by omega)
  have H : Hid ((2 : Int) ^ k % 4294967296 = 2 ^ k) := Int.emod_eq_of_lt (by omega) hp
  clear hp hp1
  cases b
  · go_enter Tryz.func90, Tryz.ntmps90
    go_wp2
    go_ret
    exact ⟨ret_int (by simp [bit]), rfl⟩
  · go_enter Tryz.func90, Tryz.ntmps90
    go_wp2
    go_ret
    exact ⟨ret_int (by simp [bit, H.out]), rfl⟩
def bitV (b : Bool) (k : Int) : Int := bit b * 2 ^ k.toNat
theorem bitAt_any (b : Bool) (k : Int) (w : World) (k0 : 0 ≤ k) (hk : k ≤ 31) : Calls Tryz.prog 90 #[.bool b, .int .i64 k] w fun e w' => e = .returned (.int .u32 (bitV b k)) ∧ w' = w := by
  have := bitOf_any b k.toNat w (by omega)
  rw [Int.toNat_of_nonneg k0] at this
  exact this
theorem or_add (T x : Int) (s : Nat) (hT0 : 0 ≤ T) (hT1 : T ≤ 4294967295) (hm : T % 2 ^ s = 0) (h0 : 0 ≤ x) (h1 : x < 2 ^ s) (h2 : x ≤ 4294967295) : bits .or .u32 T x = T + x := by
  obtain ⟨t, rfl⟩ := Int.eq_ofNat_of_zero_le hT0
  obtain ⟨y, rfl⟩ := Int.eq_ofNat_of_zero_le h0
  rw [bits_or_u32_nat _ _ (by omega) (by omega)]
  have e2 : (2 : Int) ^ s = ((2 ^ s : Nat) : Int) := by simp
  rw [e2] at hm h1
  have hd : 2 ^ s ∣ t := Nat.dvd_of_mod_eq_zero (by exact_mod_cast hm)
  obtain ⟨q, rfl⟩ := hd
  rw [← Nat.two_pow_add_eq_or_of_lt (by exact_mod_cast h1)]
  simp
structure Rt (i : In) : Prop where
  A : 0 ≤ i.A ∧ i.A < 16
  B : 0 ≤ i.B ∧ i.B < 16
  C : 0 ≤ i.C ∧ i.C < 16
  F : i.F = 0 ∧ i.N = 0 ∧ 0 ≤ i.O ∧ i.O < 16 ∨ i.F = 1 ∧ i.C = 0 ∧ 0 ≤ i.N ∧ i.N < 65536 ∧ 0 ≤ i.O ∧ i.O < 16 ∨ i.F = 2 ∧ i.C = 0 ∧ i.O = 0 ∧ -524288 ≤ i.N ∧ i.N ≤ 524287 ∨ i.F = 3 ∧ i.B = 0 ∧ i.O = 0 ∧ (i.U = true ∧ i.C = 0 ∧ -8388608 ≤ i.N ∧ i.N ≤ 8388607 ∨ i.U = false ∧ i.N = 0)
theorem rop_bd {i : In} (h : ropB i = true) : 0 ≤ i.O ∧ i.O < 16 := by
  unfold ropB at h
  simp only [Bool.and_eq_true, decide_eq_true_eq] at h
  exact h.1.1
theorem right_bd {i : In} (h : rightB i = true) : Rt i := by
  unfold rightB at h
  simp only [Bool.and_eq_true, regB, decide_eq_true_eq] at h
  obtain ⟨hA, hB, hC, h⟩ := h
  refine ⟨hA, hB, hC, ?_⟩
  split at h
  · rename_i hF
    simp only [Bool.and_eq_true, decide_eq_true_eq] at h
    exact .inl ⟨hF, h.1, rop_bd h.2⟩
  · split at h
    · rename_i hF
      simp only [Bool.and_eq_true, decide_eq_true_eq] at h
      exact .inr (.inl ⟨hF, h.1, h.2.1, h.2.2.1, rop_bd h.2.2.2⟩)
    · split at h
      · rename_i hF
        simp only [Bool.and_eq_true, decide_eq_true_eq, fit20] at h
        exact .inr (.inr (.inl ⟨hF, h.1, h.2.1, h.2.2.1, h.2.2.2⟩))
      · split at h
        · rename_i hF
          simp only [Bool.and_eq_true, decide_eq_true_eq, targetB] at h
          refine .inr (.inr (.inr ⟨hF, h.1, h.2.1, ?_⟩))
          have h2 := h.2.2
          split at h2
          · rename_i hU
            simp only [Bool.and_eq_true, decide_eq_true_eq, fit24] at h2
            exact .inl ⟨hU, h2.1, h2.2.1, h2.2.2⟩
          · rename_i hU
            exact .inr ⟨by simpa using hU, by simpa using h2⟩
        · cases h
def hiV (i : In) : Int := i.F * 1073741824 + bit i.U * 536870912 + bit i.V * 268435456 + i.A * 16777216
def packV (i : In) : Int := hiV i + (if i.F = 0 then i.B * 1048576 + i.O * 65536 + i.C else if i.F = 1 then i.B * 1048576 + i.O * 65536 + i.N else if i.F = 2 then i.B * 1048576 + i.N % 1048576 else i.C + i.N % 16777216)
theorem hi_or (K A : Int) (u v : Bool) (f0 : 0 ≤ K) (f1 : K ≤ 3221225472) (f2 : K % 1073741824 = 0) (a0 : 0 ≤ A) (a1 : A < 16) :
    bits .or .u32 (bits .or .u32 (bits .or .u32 K (bitV u 29)) (bitV v 28)) (A * 16777216) = K + bit u * 536870912 + bit v * 268435456 + A * 16777216 := by
  have hu := bit_bd u
  have hv := bit_bd v
  rw [show bitV u 29 = bit u * 536870912 by simp [bitV], show bitV v 28 = bit v * 268435456 by simp [bitV],
    or_add K (bit u * 536870912) 30 (by omega) (by omega) (by omega) (by omega) (by omega) (by omega),
    or_add _ (bit v * 268435456) 29 (by omega) (by omega) (by omega) (by omega) (by omega) (by omega),
    or_add _ (A * 16777216) 28 (by omega) (by omega) (by omega) (by omega) (by omega) (by omega)]
theorem low_or (T B O C : Int) (t0 : 0 ≤ T) (t1 : T ≤ 4294967295) (t2 : T % 16777216 = 0) (b0 : 0 ≤ B) (b1 : B < 16) (o0 : 0 ≤ O) (o1 : O < 16) (c0 : 0 ≤ C) (c1 : C < 65536) :
    bits .or .u32 (bits .or .u32 (bits .or .u32 T (B * 1048576)) (O * 65536)) C = T + (B * 1048576 + O * 65536 + C) := by
  rw [or_add T (B * 1048576) 24 (by omega) (by omega) (by omega) (by omega) (by omega) (by omega),
    or_add _ (O * 65536) 20 (by omega) (by omega) (by omega) (by omega) (by omega) (by omega),
    or_add _ C 16 (by omega) (by omega) (by omega) (by omega) (by omega) (by omega)]
  omega
theorem fldI_20 (N : Int) : fldI (N % 4294967296) 0 20 = N % 1048576 := by
  show N % 4294967296 / 1 % 1048576 = _
  omega
theorem fldI_24 (N : Int) : fldI (N % 4294967296) 0 24 = N % 16777216 := by
  show N % 4294967296 / 1 % 16777216 = _
  omega
theorem mem_or (T B x : Int) (t0 : 0 ≤ T) (t1 : T ≤ 4294967295) (t2 : T % 16777216 = 0) (b0 : 0 ≤ B) (b1 : B < 16) (c0 : 0 ≤ x) (c1 : x < 1048576) :
    bits .or .u32 (bits .or .u32 T (B * 1048576)) x = T + (B * 1048576 + x) := by
  rw [or_add T (B * 1048576) 24 (by omega) (by omega) (by omega) (by omega) (by omega) (by omega),
    or_add _ x 20 (by omega) (by omega) (by omega) (by omega) (by omega) (by omega)]
  omega
theorem or_zero (x : Int) (h0 : 0 ≤ x) (h1 : x ≤ 4294967295) : bits .or .u32 x 0 = x := by
  rw [or_add x 0 0 h0 h1 (by omega) (by omega) (by omega) (by omega)]; omega
theorem branch_or (T C x : Int) (t0 : 0 ≤ T) (t1 : T ≤ 4294967295) (t2 : T % 16777216 = 0) (c0 : 0 ≤ C) (c1 : C < 16) (x0 : 0 ≤ x) (x1 : x < 16777216) (h : C = 0 ∨ x = 0) :
    bits .or .u32 (bits .or .u32 T C) x = T + (C + x) := by
  rcases h with rfl | rfl
  · rw [or_zero T t0 t1, or_add T x 24 t0 t1 (by omega) x0 (by omega) (by omega)]; omega
  · rw [or_add T C 24 t0 t1 (by omega) c0 (by omega) (by omega), or_zero _ (by omega) (by omega)]; omega
theorem quiet_of2 {P : Program} {f : FuncId} {args : Array Value} {w : World} {a n : Nat} {v : Value}
    (h : Calls P f args (w.drewN (a + n)) fun e w' => e = .returned v ∧ ∃ m, w' = (w.drewN (a + n)).drewN m) : Calls P f args (w.drewN (a + n)) fun e w'' => e = .returned v ∧ ∃ m, w'' = w.drewN (a + m) :=
  h.mono fun _ _ ⟨he, m, hm⟩ => ⟨he, n + m, by rw [hm, World.drewN_drewN, Nat.add_assoc]⟩
set_option maxHeartbeats 1000000 in
theorem pack_any (i : In) (w : World) (h : Rt i) : Calls Tryz.prog 49 #[.agg i.cells] w fun e w' => e = .returned (.int .u32 (packV i)) ∧ Below w.heap.size w w' := by
  obtain ⟨⟨a0, a1⟩, ⟨b0, b1⟩, ⟨c0, c1⟩, hF⟩ := h
  have hu := bit_bd i.U
  have hv := bit_bd i.V
  rcases hF with ⟨hF, hN, o0, o1⟩ | ⟨hF, hC, n0, n1, o0, o1⟩ | ⟨hF, hC, hO, n0, n1⟩ | ⟨hF, hB, hO, hn⟩
  · have hi := hi_or 0 i.A i.U i.V (by omega) (by omega) (by omega) a0 a1
    have lo := low_or (0 + bit i.U * 536870912 + bit i.V * 268435456 + i.A * 16777216) i.B i.O i.C (by omega) (by omega) (by omega) b0 b1 o0 o1 c0 (by omega)
    have hp : packV i = 0 + bit i.U * 536870912 + bit i.V * 268435456 + i.A * 16777216 + (i.B * 1048576 + i.O * 65536 + i.C) := by simp [packV, hiV, hF]
    have HI : Hid (_ = _) := hi
    have LO : Hid (_ = _) := lo
    have HP : Hid (_ = _) := hp
    clear hi lo hp hu hv
    go_enter Tryz.func49, Tryz.ntmps49
    go_wp2
    go_quiet ((go_at_call 90; exact Calls.quiet_of_same (bitAt_any _ _ _ (by omega) (by omega))))
    go_wp2
    go_ret
    exact ⟨ret_int (by rw [HP.out, ← LO.out, ← HI.out]), bdrewN ((Below.refl _ _).alloc (Nat.le_refl _) _) _⟩
  · have hi := hi_or 1073741824 i.A i.U i.V (by omega) (by omega) (by omega) a0 a1
    have lo := low_or (1073741824 + bit i.U * 536870912 + bit i.V * 268435456 + i.A * 16777216) i.B i.O i.N (by omega) (by omega) (by omega) b0 b1 o0 o1 n0 (by omega)
    have hp : packV i = 1073741824 + bit i.U * 536870912 + bit i.V * 268435456 + i.A * 16777216 + (i.B * 1048576 + i.O * 65536 + i.N) := by simp [packV, hiV, hF]
    have HI : Hid (_ = _) := hi
    have LO : Hid (_ = _) := lo
    have HP : Hid (_ = _) := hp
    clear hi lo hp hu hv
    go_enter Tryz.func49, Tryz.ntmps49
    go_wp2
    go_quiet ((go_at_call 90; exact Calls.quiet_of_same (bitAt_any _ _ _ (by omega) (by omega))))
    go_wp2
    go_ret
    exact ⟨ret_int (by rw [HP.out, ← LO.out, ← HI.out]), bdrewN ((Below.refl _ _).alloc (Nat.le_refl _) _) _⟩
  · have hi := hi_or 2147483648 i.A i.U i.V (by omega) (by omega) (by omega) a0 a1
    have lo := mem_or (2147483648 + bit i.U * 536870912 + bit i.V * 268435456 + i.A * 16777216) i.B (i.N % 1048576) (by omega) (by omega) (by omega) b0 b1 (by omega) (by omega)
    have hp : packV i = 2147483648 + bit i.U * 536870912 + bit i.V * 268435456 + i.A * 16777216 + (i.B * 1048576 + i.N % 1048576) := by simp [packV, hiV, hF]
    have HI : Hid (_ = _) := hi
    have LO : Hid (_ = _) := lo
    have HP : Hid (_ = _) := hp
    clear hi lo hp hu hv
    go_enter Tryz.func49, Tryz.ntmps49
    go_wp2
    go_quiet ((go_at_call 90; exact Calls.quiet_of_same (bitAt_any _ _ _ (by omega) (by omega))))
    go_wp2
    go_quiet ((go_at_call 91; exact quiet_of2 (field_at _ _ _ _ (by omega) (by omega) (by omega) (by omega) (by omega) (by omega))))
    go_wp2
    go_ret
    exact ⟨ret_int (by rw [HP.out, ← LO.out, ← HI.out, ← fldI_20]), bdrewN (bdrewN ((Below.refl _ _).alloc (Nat.le_refl _) _) _) _⟩
  · have hi := hi_or 3221225472 i.A i.U i.V (by omega) (by omega) (by omega) a0 a1
    have lo := branch_or (3221225472 + bit i.U * 536870912 + bit i.V * 268435456 + i.A * 16777216) i.C (i.N % 16777216) (by omega) (by omega) (by omega) c0 c1 (by omega) (by omega) (by rcases hn with ⟨_, h, _⟩ | ⟨_, h⟩ <;> omega)
    have hp : packV i = 3221225472 + bit i.U * 536870912 + bit i.V * 268435456 + i.A * 16777216 + (i.C + i.N % 16777216) := by simp [packV, hiV, hF]
    have HI : Hid (_ = _) := hi
    have LO : Hid (_ = _) := lo
    have HP : Hid (_ = _) := hp
    clear hi lo hp hu hv hn
    go_enter Tryz.func49, Tryz.ntmps49
    go_wp2
    go_quiet ((go_at_call 90; exact Calls.quiet_of_same (bitAt_any _ _ _ (by omega) (by omega))))
    go_wp2
    go_quiet ((go_at_call 91; exact quiet_of2 (field_at _ _ _ _ (by omega) (by omega) (by omega) (by omega) (by omega) (by omega))))
    go_wp2
    go_ret
    exact ⟨ret_int (by rw [HP.out, ← LO.out, ← HI.out, ← fldI_24]), bdrewN (bdrewN ((Below.refl _ _).alloc (Nat.le_refl _) _) _) _⟩
end Go.Proofs.YtmldlkcgaepaaaaGreatDoor
