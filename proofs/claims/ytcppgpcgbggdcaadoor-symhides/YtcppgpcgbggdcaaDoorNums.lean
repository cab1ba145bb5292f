/-
  Contracts of the functions of layer 1 that only reckon with numbers (the program's and the document's Add, Sub, Mul, Div and their helpers): each call returns the same plain number, for every word.
-/
import Derived.Test.YtcppgpcgbggdcaaDoorRows
import Derived.WalkKit
import Derived.ProofKit
import Derived.OpenShut
import Derived.ShutString
import Derived.OwnWalk
import Derived.Deep.QuietTactic
import Derived.BigQuiet
namespace Go.Proofs.YtcppgpcgbggdcaaDoor
open Go.ChangeShapes Go.WideShapes Go.ChangeAt Go.RowKit

theorem grown_drewN {W w' : World} (h : Grown W w') (n : Nat) : Grown W (w'.drewN n) := h
theorem ret_int {k : IntKind} {a b : Int} (h : a = b) : Ending.returned (.int k a) = .returned (.int k b) := by rw [h]
theorem ret_bool {a b : Bool} (h : a = b) : Ending.returned (.bool a) = .returned (.bool b) := by rw [h]

def sg (a : Int) : Int := if a < 2147483648 then a else a - 4294967296
def lv (n : Int) : Bool := decide (n < -2147483648 ∨ 2147483647 < n)
def bit (c : Bool) : Int := if c then 1 else 0
theorem sg_bd (a : Int) (h0 : 0 ≤ a) (h1 : a ≤ 4294967295) : -2147483648 ≤ sg a ∧ sg a ≤ 2147483647 := by unfold sg; split <;> omega
theorem bit_bd (c : Bool) : 0 ≤ bit c ∧ bit c ≤ 1 := by unfold bit; split <;> omega

def addS (a b : Int) (c : Bool) : Int := (a + b + bit c) % 4294967296
def addC (a b : Int) (c : Bool) : Bool := decide (4294967295 < a + b + bit c)
def addV (a b : Int) (c : Bool) : Bool := lv (sg a + sg b + bit c)
def subS (a b : Int) (c : Bool) : Int := (a - b - bit c) % 4294967296
def subC (a b : Int) (c : Bool) : Bool := decide (a - b - bit c < 0)
def subV (a b : Int) (c : Bool) : Bool := lv (sg a - sg b - bit c)

theorem ret3 {a a' : Int} {b b' c c' : Bool} (h : a = a') (g : b = b') (k : c = c') : Ending.returned (.tuple #[.int .u32 a, .bool b, .bool c]) = .returned (.tuple #[.int .u32 a', .bool b', .bool c']) := by rw [h, g, k]

def mulP (a b : Int) (u : Bool) : Int := if u then a * b else (sg a * sg b) % 18446744073709551616
def mulL (a b : Int) (u : Bool) : Int := mulP a b u % 4294967296
def mulH (a b : Int) (u : Bool) : Int := mulP a b u / 4294967296
theorem ret2 {a a' b b' : Int} (h : a = a') (g : b = b') : Ending.returned (.tuple #[.int .u32 a, .int .u32 b]) = .returned (.tuple #[.int .u32 a', .int .u32 b']) := by rw [h, g]
theorem ret3i {a a' b b' : Int} {c c' : Bool} (h : a = a') (g : b = b') (k : c = c') : Ending.returned (.tuple #[.int .u32 a, .int .u32 b, .bool c]) = .returned (.tuple #[.int .u32 a', .int .u32 b', .bool c']) := by rw [h, g, k]
theorem wrap_u64 (n : Int) : IntKind.u64.wrap n = n % 18446744073709551616 := by simp [IntKind.wrap, IntKind.signed, IntKind.bits]
theorem mul_bd (x y : Int) (hx : -2147483648 ≤ x ∧ x ≤ 2147483647) (hy : -2147483648 ≤ y ∧ y ≤ 2147483647) : -4611686018427387904 ≤ x * y ∧ x * y ≤ 4611686018427387904 := by
  have h1 : x.natAbs ≤ 2147483648 := by omega
  have h2 : y.natAbs ≤ 2147483648 := by omega
  have h3 : (x * y).natAbs ≤ 2147483648 * 2147483648 := by rw [Int.natAbs_mul]; exact Nat.mul_le_mul h1 h2
  omega

def divQ (a b : Int) : Int := if sg b ≤ 0 then 0 else (sg a / sg b) % 4294967296
def divR (a b : Int) : Int := if sg b ≤ 0 then 0 else (sg a % sg b)
def divB (b : Int) : Bool := decide (0 < sg b)

theorem quot (x y : Int) (hy : 0 < y) : (x.tmod y < 0 → x / y = x.tdiv y - 1 ∧ x % y = x.tmod y + y) ∧ (0 ≤ x.tmod y → x / y = x.tdiv y ∧ x % y = x.tmod y) ∧ x.tdiv y * y = x - x.tmod y ∧ -y < x.tmod y ∧ x.tmod y < y := by
  have e := Int.mul_tdiv_add_tmod x y
  have l1 := Int.tmod_lt_of_pos x hy
  have l2 : -y < x.tmod y := Int.lt_tmod_of_pos x hy
  have c : x.tdiv y * y = y * x.tdiv y := Int.mul_comm _ _
  refine ⟨fun h => ?_, fun h => ?_, by omega, l2, l1⟩
  · refine (Int.ediv_emod_unique hy).2 ⟨?_, by omega, by omega⟩
    rw [Int.mul_sub]; omega
  · exact (Int.ediv_emod_unique hy).2 ⟨by omega, by omega, by omega⟩
theorem tdiv_bd (x y : Int) (hx : -2147483648 ≤ x ∧ x ≤ 2147483647) : -2147483648 ≤ x.tdiv y ∧ x.tdiv y ≤ 2147483648 := by
  have h : (x.tdiv y).natAbs ≤ x.natAbs := by rw [Int.natAbs_tdiv]; exact Nat.div_le_self _ _
  omega

end Go.Proofs.YtcppgpcgbggdcaaDoor
