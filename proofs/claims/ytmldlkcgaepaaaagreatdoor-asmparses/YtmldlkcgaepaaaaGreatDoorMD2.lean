/-
  The document's layer 6: numbers and registers.
-/
import Derived.Test.YtmldlkcgaepaaaaGreatDoorMD1
namespace Go.Proofs.YtmldlkcgaepaaaaGreatDoor
set_option linter.unusedVariables false
set_option linter.unusedSimpArgs false
open Go.ChangeShapes Go.WideShapes Go.ChangeAt Go.RowKit

def isDg (c : UInt8) : Bool := decide (48 ≤ c.toNat) && decide (c.toNat ≤ 57)
/-- The number that digits say. -/
def valD : Bs → Nat → Nat
  | [], n => n
  | c :: r, n => valD r (10 * n + (c.toNat - 48))
theorem valD_app : ∀ (a b : Bs) (n : Nat), valD (a ++ b) n = valD b (valD a n)
  | [], b, n => rfl
  | c :: a, b, n => by rw [List.cons_append, valD, valD_app a b]; rfl
theorem valD_bd : ∀ (a : Bs) (n k : Nat), (∀ c ∈ a, isDg c = true) → n < 10 ^ k → valD a n < 10 ^ (k + a.length)
  | [], n, k, _, h => h
  | c :: a, n, k, hc, h => by
    have h1 := hc c (by simp)
    simp only [isDg, Bool.and_eq_true, decide_eq_true_eq] at h1
    have h2 := valD_bd a (10 * n + (c.toNat - 48)) (k + 1) (fun x hx => hc x (by simp [hx])) (by rw [Nat.pow_succ]; omega)
    rw [valD, List.length_cons, show k + (a.length + 1) = k + 1 + a.length by omega]
    exact h2
/-- What the digits b, all of them such, say with or without a sign. -/
def nV (minus : Bool) (b : Bs) : Int := if b.all isDg then (if minus then -(valD b 0 : Int) else (valD b 0 : Int)) else 0
theorem pow10_le (k : Nat) (h : k ≤ 10) : 10 ^ k ≤ 10000000000 := Nat.le_trans (Nat.pow_le_pow_right (by omega) h) (by decide)
theorem dg_facts (c : UInt8) : (decide ((c.toNat : Int) < 48) = true → isDg c = false) ∧ (decide ((57 : Int) < (c.toNat : Int)) = true → isDg c = false) ∧ (decide ((c.toNat : Int) < 48) = false → decide ((57 : Int) < (c.toNat : Int)) = false → isDg c = true) := by
  simp only [isDg, decide_eq_true_eq, decide_eq_false_iff_not]
  refine ⟨fun h => ?_, fun h => ?_, fun h1 h2 => ?_⟩
  · have : ¬ 48 ≤ c.toNat := by omega
    simp [this]
  · have : ¬ c.toNat ≤ 57 := by omega
    simp [this]
  · have a1 : 48 ≤ c.toNat := by omega
    have a2 : c.toNat ≤ 57 := by omega
    simp [a1, a2]
set_option maxHeartbeats 2000000 in
set_option maxRecDepth 20000 in
theorem rnum_pos (b : Bs) (c : UInt8) (w : World) (hb0 : 0 < b.length) (hc : ∀ h, (bs b)[0]'h = c) (hlen : b.length ≤ 10) (h45 : c ≠ 45) (key : (((c.toNat : Int) == 48) = true ∧ decide ((1 : Int) < (b.length : Int)) = false) ∨ ((c.toNat : Int) == 48) = false) :
    Calls Tryz.prog 54 #[.string (bs b)] w fun e w' => e = .returned (.tuple #[.int .i64 (nV false b), .bool (b.all isDg)]) ∧ w' = w := by
  have hz : (bs b).size = b.length := bs_size _
  have hne : (bs b).toList.isEmpty = false := by
    rw [Lib.toList_data, bs_data]
    cases b with
    | nil => simp at hb0
    | cons x y => rfl
  have e45 : ((c.toNat : Int) == 45) = false := by
    have : c.toNat ≠ 45 := fun e => h45 (UInt8.toNat_inj.1 (by rw [e]; rfl))
    simp; omega
  have hd0 : decide ((0 : Int) < (b.length : Int)) = true := by simp; omega
  have hd10 : decide ((10 : Int) < (b.length : Int)) = false := by simp; omega
  rcases key with ⟨k1, k2⟩ | k1
  · go_enter Tryz.func54, Tryz.ntmps54
    go_wp2
    go_loopw [5, 6] (fun y x wr => ∃ k : Nat, k ≤ b.length ∧ x = .int .i64 k ∧ y = .int .i64 ((valD (b.take k) 0 : Nat) : Int) ∧ (∀ d ∈ b.take k, isDg d = true) ∧ wr = w) (fun _ x _ => b.length - (intOf x).toNat)
    case atStart => exact ⟨0, by omega, rfl, rfl, by simp, rfl⟩
    case round =>
      obtain ⟨k, hk, rfl, rfl, hall, rfl⟩ := hrel
      have hvb : valD (b.take k) 0 < 10 ^ k := by
        have h9 := valD_bd (b.take k) 0 0 hall (by omega)
        rw [List.length_take, Nat.zero_add, Nat.min_eq_left hk] at h9
        exact h9
      have hpb := pow10_le k (by omega)
      by_cases hlt : k < b.length
      · have hat : ∀ h, (bs b)[k]'h = b[k] := fun h => bs_at _ _ h hlt
        have hd : decide ((k : Int) < (b.length : Int)) = true := by simp; omega
        have hts : b.take (k + 1) = b.take k ++ [b[k]] := by rw [List.take_add_one, List.getElem?_eq_getElem hlt]; rfl
        obtain ⟨f1, f2, f3⟩ := dg_facts b[k]
        have hmem : b[k] ∈ b := List.getElem_mem hlt
        have hbad : isDg b[k] = false → b.all isDg = false := fun h => by
          rw [List.all_eq_false]
          exact ⟨_, hmem, by rw [h]; simp⟩
        have hvs : valD (b.take (k + 1)) 0 = 10 * valD (b.take k) 0 + (b[k].toNat - 48) := by rw [hts, valD_app]; rfl
        have HT : Hid (isDg b[k] = true → ∀ d ∈ b.take (k + 1), isDg d = true) := fun h d hd => by
          rw [hts] at hd
          rcases List.mem_append.1 hd with h1 | h1
          · exact hall d h1
          · simp only [List.mem_singleton] at h1; rw [h1]; exact h
        clear hts hmem
        generalize valD (b.take k) 0 = v at hvb hvs
        have HV2 : Hid (valD (b.take (k + 1)) 0 = 10 * v + (b[k].toNat - 48)) := hvs
        have hvb2 : v < 10000000000 := Nat.lt_of_lt_of_le hvb hpb
        clear hvs hvb hpb hall
        by_cases g1 : (b[k].toNat : Int) < 48
        · have g2 : decide ((b[k].toNat : Int) < 48) = true := by simpa using g1
          have HB : Hid (b.all isDg = false) := hbad (f1 g2)
          clear f1 f2 f3 hbad HT HV2
          go_wp2
          go_ret2
          exact ⟨by rw [nV, HB.out]; rfl, rfl⟩
        · have g2 : decide ((b[k].toNat : Int) < 48) = false := by simpa using g1
          by_cases g3 : (57 : Int) < (b[k].toNat : Int)
          · have g4 : decide ((57 : Int) < (b[k].toNat : Int)) = true := by simpa using g3
            have HB : Hid (b.all isDg = false) := hbad (f2 g4)
            clear f1 f2 f3 hbad HT HV2
            go_wp2
            go_ret2
            exact ⟨by rw [nV, HB.out]; rfl, rfl⟩
          · have g4 : decide ((57 : Int) < (b[k].toNat : Int)) = false := by simpa using g3
            have HA : Hid (∀ d ∈ b.take (k + 1), isDg d = true) := HT.out (f3 g2 g4)
            have HX : Hid (48 ≤ b[k].toNat) := by show 48 ≤ b[k].toNat; omega
            have h48 : 48 ≤ b[k].toNat := by omega
            have h57 : b[k].toNat ≤ 57 := by omega
            clear f1 f2 f3 hbad HT
            go_wp2
            go_roundw
            case rel => exact ⟨k + 1, by omega, by go_num, by rw [HV2.out]; congr 1; omega, HA.out, by first | rfl | trivial⟩
            case measure => simp [intOf]; omega
      · have hkb : k = b.length := by omega
        have hbt : b.take k = b := List.take_of_length_le (by omega)
        rw [hbt] at hall hvb
        have hal : b.all isDg = true := List.all_eq_true.2 hall
        have hd : decide ((k : Int) < (b.length : Int)) = false := by simp; omega
        have HB : Hid (b.all isDg = true ∧ b.take k = b) := ⟨hal, hbt⟩
        have hvb2 : valD b 0 < 10000000000 := Nat.lt_of_lt_of_le hvb hpb
        clear hkb hal hall hvb hpb
        rw [hbt]
        clear hbt
        go_wp2
        go_ret2
        refine ⟨?_, rfl⟩
        rw [nV, HB.out.1]
        rfl
  · go_enter Tryz.func54, Tryz.ntmps54
    go_wp2
    go_loopw [5, 6] (fun y x wr => ∃ k : Nat, k ≤ b.length ∧ x = .int .i64 k ∧ y = .int .i64 ((valD (b.take k) 0 : Nat) : Int) ∧ (∀ d ∈ b.take k, isDg d = true) ∧ wr = w) (fun _ x _ => b.length - (intOf x).toNat)
    case atStart => exact ⟨0, by omega, rfl, rfl, by simp, rfl⟩
    case round =>
      obtain ⟨k, hk, rfl, rfl, hall, rfl⟩ := hrel
      have hvb : valD (b.take k) 0 < 10 ^ k := by
        have h9 := valD_bd (b.take k) 0 0 hall (by omega)
        rw [List.length_take, Nat.zero_add, Nat.min_eq_left hk] at h9
        exact h9
      have hpb := pow10_le k (by omega)
      by_cases hlt : k < b.length
      · have hat : ∀ h, (bs b)[k]'h = b[k] := fun h => bs_at _ _ h hlt
        have hd : decide ((k : Int) < (b.length : Int)) = true := by simp; omega
        have hts : b.take (k + 1) = b.take k ++ [b[k]] := by rw [List.take_add_one, List.getElem?_eq_getElem hlt]; rfl
        obtain ⟨f1, f2, f3⟩ := dg_facts b[k]
        have hmem : b[k] ∈ b := List.getElem_mem hlt
        have hbad : isDg b[k] = false → b.all isDg = false := fun h => by
          rw [List.all_eq_false]
          exact ⟨_, hmem, by rw [h]; simp⟩
        have hvs : valD (b.take (k + 1)) 0 = 10 * valD (b.take k) 0 + (b[k].toNat - 48) := by rw [hts, valD_app]; rfl
        have HT : Hid (isDg b[k] = true → ∀ d ∈ b.take (k + 1), isDg d = true) := fun h d hd => by
          rw [hts] at hd
          rcases List.mem_append.1 hd with h1 | h1
          · exact hall d h1
          · simp only [List.mem_singleton] at h1; rw [h1]; exact h
        clear hts hmem
        generalize valD (b.take k) 0 = v at hvb hvs
        have HV2 : Hid (valD (b.take (k + 1)) 0 = 10 * v + (b[k].toNat - 48)) := hvs
        have hvb2 : v < 10000000000 := Nat.lt_of_lt_of_le hvb hpb
        clear hvs hvb hpb hall
        by_cases g1 : (b[k].toNat : Int) < 48
        · have g2 : decide ((b[k].toNat : Int) < 48) = true := by simpa using g1
          have HB : Hid (b.all isDg = false) := hbad (f1 g2)
          clear f1 f2 f3 hbad HT HV2
          go_wp2
          go_ret2
          exact ⟨by rw [nV, HB.out]; rfl, rfl⟩
        · have g2 : decide ((b[k].toNat : Int) < 48) = false := by simpa using g1
          by_cases g3 : (57 : Int) < (b[k].toNat : Int)
          · have g4 : decide ((57 : Int) < (b[k].toNat : Int)) = true := by simpa using g3
            have HB : Hid (b.all isDg = false) := hbad (f2 g4)
            clear f1 f2 f3 hbad HT HV2
            go_wp2
            go_ret2
            exact ⟨by rw [nV, HB.out]; rfl, rfl⟩
          · have g4 : decide ((57 : Int) < (b[k].toNat : Int)) = false := by simpa using g3
            have HA : Hid (∀ d ∈ b.take (k + 1), isDg d = true) := HT.out (f3 g2 g4)
            have HX : Hid (48 ≤ b[k].toNat) := by show 48 ≤ b[k].toNat; omega
            have h48 : 48 ≤ b[k].toNat := by omega
            have h57 : b[k].toNat ≤ 57 := by omega
            clear f1 f2 f3 hbad HT
            go_wp2
            go_roundw
            case rel => exact ⟨k + 1, by omega, by go_num, by rw [HV2.out]; congr 1; omega, HA.out, by first | rfl | trivial⟩
            case measure => simp [intOf]; omega
      · have hkb : k = b.length := by omega
        have hbt : b.take k = b := List.take_of_length_le (by omega)
        rw [hbt] at hall hvb
        have hal : b.all isDg = true := List.all_eq_true.2 hall
        have hd : decide ((k : Int) < (b.length : Int)) = false := by simp; omega
        have HB : Hid (b.all isDg = true ∧ b.take k = b) := ⟨hal, hbt⟩
        have hvb2 : valD b 0 < 10000000000 := Nat.lt_of_lt_of_le hvb hpb
        clear hkb hal hall hvb hpb
        rw [hbt]
        clear hbt
        go_wp2
        go_ret2
        refine ⟨?_, rfl⟩
        rw [nV, HB.out.1]
        rfl
set_option maxHeartbeats 2000000 in
set_option maxRecDepth 20000 in
theorem rnum_neg (b : Bs) (c : UInt8) (w : World) (hb0 : 0 < b.length) (hc : ∀ h, (bs b)[0]'h = c) (hlen : b.length ≤ 10) (h0 : c ≠ 48) :
    Calls Tryz.prog 54 #[.string (bs (45 :: b))] w fun e w' => e = .returned (.tuple #[.int .i64 (nV true b), .bool (b.all isDg)]) ∧ w' = w := by
  have hz : (bs b).size = b.length := bs_size _
  have hz1 : (bs (45 :: b)).size = b.length + 1 := bs_size _
  have hne : (bs b).toList.isEmpty = false := by
    rw [Lib.toList_data, bs_data]
    cases b with
    | nil => simp at hb0
    | cons x y => rfl
  have hat0 : ∀ h, (bs (45 :: b))[0]'h = 45 := fun h => bs_at _ _ h (by simp)
  have hcut : (bs (45 :: b)).extract 1 (b.length + 1) = bs b := by rw [bs_cut]; simp
  have hd10 : decide ((10 : Int) < (b.length : Int)) = false := by simp; omega
  have k1 : ((c.toNat : Int) == 48) = false := by
    have : c.toNat ≠ 48 := fun e2 => h0 (UInt8.toNat_inj.1 (by rw [e2]; rfl))
    simp; omega
  have main : Calls Tryz.prog 54 #[.string (bs (45 :: b))] w fun e w' => e = .returned (.tuple #[.int .i64 (nV true b), .bool (b.all isDg)]) ∧ w' = w := by
    go_enter Tryz.func54, Tryz.ntmps54
    go_wp2
    go_loopw [5, 6] (fun y x wr => ∃ k : Nat, k ≤ b.length ∧ x = .int .i64 k ∧ y = .int .i64 ((valD (b.take k) 0 : Nat) : Int) ∧ (∀ d ∈ b.take k, isDg d = true) ∧ wr = w) (fun _ x _ => b.length - (intOf x).toNat)
    case atStart => exact ⟨0, by omega, rfl, rfl, by simp, rfl⟩
    case round =>
      obtain ⟨k, hk, rfl, rfl, hall, rfl⟩ := hrel
      have hvb : valD (b.take k) 0 < 10 ^ k := by
        have h9 := valD_bd (b.take k) 0 0 hall (by omega)
        rw [List.length_take, Nat.zero_add, Nat.min_eq_left hk] at h9
        exact h9
      have hpb := pow10_le k (by omega)
      by_cases hlt : k < b.length
      · have hat : ∀ h, (bs b)[k]'h = b[k] := fun h => bs_at _ _ h hlt
        have hd : decide ((k : Int) < (b.length : Int)) = true := by simp; omega
        have hts : b.take (k + 1) = b.take k ++ [b[k]] := by rw [List.take_add_one, List.getElem?_eq_getElem hlt]; rfl
        obtain ⟨f1, f2, f3⟩ := dg_facts b[k]
        have hmem : b[k] ∈ b := List.getElem_mem hlt
        have hbad : isDg b[k] = false → b.all isDg = false := fun h => by
          rw [List.all_eq_false]
          exact ⟨_, hmem, by rw [h]; simp⟩
        have hvs : valD (b.take (k + 1)) 0 = 10 * valD (b.take k) 0 + (b[k].toNat - 48) := by rw [hts, valD_app]; rfl
        have HT : Hid (isDg b[k] = true → ∀ d ∈ b.take (k + 1), isDg d = true) := fun h d hd => by
          rw [hts] at hd
          rcases List.mem_append.1 hd with h1 | h1
          · exact hall d h1
          · simp only [List.mem_singleton] at h1; rw [h1]; exact h
        clear hts hmem
        generalize valD (b.take k) 0 = v at hvb hvs
        have HV2 : Hid (valD (b.take (k + 1)) 0 = 10 * v + (b[k].toNat - 48)) := hvs
        have hvb2 : v < 10000000000 := Nat.lt_of_lt_of_le hvb hpb
        clear hvs hvb hpb hall
        by_cases g1 : (b[k].toNat : Int) < 48
        · have g2 : decide ((b[k].toNat : Int) < 48) = true := by simpa using g1
          have HB : Hid (b.all isDg = false) := hbad (f1 g2)
          clear f1 f2 f3 hbad HT HV2
          go_wp2
          go_ret2
          exact ⟨by rw [nV, HB.out]; rfl, rfl⟩
        · have g2 : decide ((b[k].toNat : Int) < 48) = false := by simpa using g1
          by_cases g3 : (57 : Int) < (b[k].toNat : Int)
          · have g4 : decide ((57 : Int) < (b[k].toNat : Int)) = true := by simpa using g3
            have HB : Hid (b.all isDg = false) := hbad (f2 g4)
            clear f1 f2 f3 hbad HT HV2
            go_wp2
            go_ret2
            exact ⟨by rw [nV, HB.out]; rfl, rfl⟩
          · have g4 : decide ((57 : Int) < (b[k].toNat : Int)) = false := by simpa using g3
            have HA : Hid (∀ d ∈ b.take (k + 1), isDg d = true) := HT.out (f3 g2 g4)
            have HX : Hid (48 ≤ b[k].toNat) := by show 48 ≤ b[k].toNat; omega
            have h48 : 48 ≤ b[k].toNat := by omega
            have h57 : b[k].toNat ≤ 57 := by omega
            clear f1 f2 f3 hbad HT
            go_wp2
            go_roundw
            case rel => exact ⟨k + 1, by omega, by go_num, by rw [HV2.out]; congr 1; omega, HA.out, by first | rfl | trivial⟩
            case measure => simp [intOf]; omega
      · have hkb : k = b.length := by omega
        have hbt : b.take k = b := List.take_of_length_le (by omega)
        rw [hbt] at hall hvb
        have hal : b.all isDg = true := List.all_eq_true.2 hall
        have hd : decide ((k : Int) < (b.length : Int)) = false := by simp; omega
        have HB : Hid (b.all isDg = true ∧ b.take k = b) := ⟨hal, hbt⟩
        have hvb2 : valD b 0 < 10000000000 := Nat.lt_of_lt_of_le hvb hpb
        clear hkb hal hall hvb hpb
        rw [hbt]
        clear hbt
        go_wp2
        go_ret2
        refine ⟨?_, rfl⟩
        rw [nV, HB.out.1]
        rfl
  exact main

def okB (neg : Bool) (b : Bs) : Bool := decide (0 < b.length) && decide (b.length ≤ 10) && !((b.head? == some 48) && (decide (1 < b.length) || neg))
/-- The number that a text says, of at most ten digits. -/
def numD (l : Bs) : Option Int :=
  if l.head? = some 45 then (if okB true l.tail && l.tail.all isDg then some (-(valD l.tail 0 : Int)) else none)
  else (if okB false l && l.all isDg then some (valD l 0 : Int) else none)
theorem head_at {b : Bs} (h0 : 0 < b.length) : ∃ c t, b = c :: t ∧ ∀ h, (bs b)[0]'h = c := by
  cases b with
  | nil => simp at h0
  | cons c t => exact ⟨c, t, rfl, fun h => bs_at _ _ h (by simp)⟩
set_option maxHeartbeats 1000000 in
set_option maxRecDepth 20000 in
theorem rnum_bad (b : Bs) (w : World) (hb : b.length ≤ 9223372036854775806) (h45 : b.head? ≠ some 45) (hn : okB false b = false) :
    Calls Tryz.prog 54 #[.string (bs b)] w fun e w' => e = .returned (.tuple #[.int .i64 0, .bool false]) ∧ w' = w := by
  by_cases h0 : 0 < b.length
  · obtain ⟨c, t, rfl, hc⟩ := head_at h0
    have hz : (bs (c :: t)).size = t.length + 1 := bs_size _
    have hne : (bs (c :: t)).toList.isEmpty = false := by rw [Lib.toList_data, bs_data]; rfl
    have e45 : ((c.toNat : Int) == 45) = false := by
      have : c.toNat ≠ 45 := fun e => h45 (by rw [List.head?_cons, UInt8.toNat_inj.1 (show c.toNat = (45 : UInt8).toNat by rw [e]; rfl)])
      simp; omega
    by_cases h10 : 10 < t.length + 1
    · have hd10 : decide ((10 : Int) < (t.length : Int) + 1) = true := by simp; omega
      clear hn
      go_enter Tryz.func54, Tryz.ntmps54
      go_wp2
      go_ret2
      exact ⟨rfl, rfl⟩
    · have hd10 : decide ((10 : Int) < (t.length : Int) + 1) = false := by simp; omega
      have h48 : c = 48 ∧ 0 < t.length := by
        simp only [okB, List.length_cons, List.head?_cons, Bool.or_false] at hn
        by_cases e : c = 48
        · refine ⟨e, ?_⟩
          by_cases e2 : 0 < t.length
          · exact e2
          · simp [e, show t.length = 0 by omega] at hn
        · simp [e] at hn; omega
      obtain ⟨rfl, hl⟩ := h48
      have hd1 : decide ((1 : Int) < (t.length : Int) + 1) = true := by simp; omega
      clear hn
      go_enter Tryz.func54, Tryz.ntmps54
      go_wp2
      go_ret2
      exact ⟨rfl, rfl⟩
  · obtain rfl : b = [] := List.eq_nil_of_length_eq_zero (by omega)
    have hne : (bs []).toList.isEmpty = true := by rw [Lib.toList_data, bs_data]; rfl
    have hz0 : (bs []).size = 0 := rfl
    clear hn
    go_enter Tryz.func54, Tryz.ntmps54
    go_wp2
    go_ret2
    exact ⟨rfl, rfl⟩
set_option maxHeartbeats 1000000 in
set_option maxRecDepth 20000 in
theorem rnum_badn (b : Bs) (w : World) (hb : b.length ≤ 9223372036854775806) (hn : okB true b = false) :
    Calls Tryz.prog 54 #[.string (bs (45 :: b))] w fun e w' => e = .returned (.tuple #[.int .i64 0, .bool false]) ∧ w' = w := by
  have hz1 : (bs (45 :: b)).size = b.length + 1 := bs_size _
  have hat0 : ∀ h, (bs (45 :: b))[0]'h = 45 := fun h => bs_at _ _ h (by simp)
  have hcut : (bs (45 :: b)).extract 1 (b.length + 1) = bs b := by rw [bs_cut]; simp
  by_cases h0 : 0 < b.length
  · obtain ⟨c, t, rfl, hc⟩ := head_at h0
    have hz : (bs (c :: t)).size = t.length + 1 := bs_size _
    have hne : (bs (c :: t)).toList.isEmpty = false := by rw [Lib.toList_data, bs_data]; rfl
    simp only [List.length_cons] at hz1 hcut
    by_cases h10 : 10 < t.length + 1
    · have hd10 : decide ((10 : Int) < (t.length : Int) + 1) = true := by simp; omega
      clear hn
      go_enter Tryz.func54, Tryz.ntmps54
      go_wp2
      go_ret2
      exact ⟨rfl, rfl⟩
    · have hd10 : decide ((10 : Int) < (t.length : Int) + 1) = false := by simp; omega
      have h48 : c = 48 := by
        simp only [okB, List.length_cons, List.head?_cons, Bool.or_true, Bool.and_true] at hn
        by_cases e : c = 48
        · exact e
        · simp [e] at hn; omega
      subst h48
      clear hn
      cases hd1 : decide ((1 : Int) < (t.length : Int) + 1)
      · go_enter Tryz.func54, Tryz.ntmps54
        go_wp2
        go_ret2
        exact ⟨rfl, rfl⟩
      · go_enter Tryz.func54, Tryz.ntmps54
        go_wp2
        go_ret2
        exact ⟨rfl, rfl⟩
  · obtain rfl : b = [] := List.eq_nil_of_length_eq_zero (by omega)
    have hne : (bs []).toList.isEmpty = true := by rw [Lib.toList_data, bs_data]; rfl
    have hz0 : (bs []).size = 0 := rfl
    clear hn
    go_enter Tryz.func54, Tryz.ntmps54
    go_wp2
    go_ret2
    exact ⟨rfl, rfl⟩
theorem rnumber_any (l : Bs) (w : World) (hl : l.length ≤ 9223372036854775806) :
    Calls Tryz.prog 54 #[.string (bs l)] w fun e w' => e = .returned (.tuple #[.int .i64 ((numD l).getD 0), .bool (numD l).isSome]) ∧ w' = w := by
  by_cases h : l.head? = some 45
  · obtain ⟨b, rfl⟩ : ∃ b, l = 45 :: b := by
      cases l with
      | nil => cases h
      | cons x y => simp at h; subst h; exact ⟨y, rfl⟩
    have hlb : b.length ≤ 9223372036854775806 := by simp at hl; omega
    cases ho : okB true b with
    | false =>
      have e : numD (45 :: b) = none := by simp [numD, ho]
      rw [e]
      exact rnum_badn b w hlb ho
    | true =>
      have ho2 := ho
      simp only [okB, Bool.and_eq_true, decide_eq_true_eq, Bool.or_true, Bool.and_true] at ho2
      obtain ⟨c, t, e, hc⟩ := head_at ho2.1.1
      have hc48 : c ≠ 48 := fun e2 => by rw [e, e2] at ho2; simp at ho2
      have R := rnum_neg b c w ho2.1.1 hc ho2.1.2 hc48
      cases ha : b.all isDg with
      | true =>
        have e3 : numD (45 :: b) = some (-(valD b 0 : Int)) := by simp [numD, ho, ha]
        rw [ha] at R
        rw [e3]
        simpa [nV, ha] using R
      | false =>
        have e3 : numD (45 :: b) = none := by simp [numD, ho, ha]
        rw [ha] at R
        rw [e3]
        simpa [nV, ha] using R
  · cases ho : okB false l with
    | false =>
      have e : numD l = none := by simp [numD, ho, h]
      rw [e]
      exact rnum_bad l w hl h ho
    | true =>
      have ho2 := ho
      simp only [okB, Bool.and_eq_true, decide_eq_true_eq, Bool.or_false] at ho2
      obtain ⟨c, t, e, hc⟩ := head_at ho2.1.1
      have hc45 : c ≠ 45 := fun e2 => h (by rw [e, e2]; rfl)
      have key : (((c.toNat : Int) == 48) = true ∧ decide ((1 : Int) < (l.length : Int)) = false) ∨ ((c.toNat : Int) == 48) = false := by
        by_cases e2 : c = 48
        · refine .inl ⟨by rw [e2]; rfl, ?_⟩
          have h10 : ¬ 1 < l.length := fun h11 => by
            have h9 := ho2.2
            rw [e, e2] at h9
            rw [e] at h11
            simp only [List.head?_cons, beq_self_eq_true, Bool.true_and, Bool.not_eq_true', decide_eq_false_iff_not, List.length_cons] at h9 h11
            exact h9 h11
          exact decide_eq_false (by omega)
        · have : c.toNat ≠ 48 := fun e3 => e2 (UInt8.toNat_inj.1 (by rw [e3]; rfl))
          exact .inr (by simp; omega)
      have R := rnum_pos l c w ho2.1.1 hc ho2.1.2 hc45 key
      cases ha : l.all isDg with
      | true =>
        have e3 : numD l = some (valD l 0 : Int) := by simp [numD, ho, ha, h]
        rw [ha] at R
        rw [e3]
        simpa [nV, ha] using R
      | false =>
        have e3 : numD l = none := by simp [numD, ho, ha, h]
        rw [ha] at R
        rw [e3]
        simpa [nV, ha] using R
end Go.Proofs.YtmldlkcgaepaaaaGreatDoor
