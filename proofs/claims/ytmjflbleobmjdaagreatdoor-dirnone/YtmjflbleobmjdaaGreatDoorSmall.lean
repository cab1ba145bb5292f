/-
  What a disk asks of a request; how many sectors a disk may have.
-/
import Derived.Test.YtmjflbleobmjdaaGreatDoorBase
namespace Go.Proofs.YtmjflbleobmjdaaGreatDoor
open Go.ChangeShapes Go.WideShapes Go.ChangeAt Go.RowKit
attribute [local go_sem ↓] loadSec_seal storeSec_seal eqlSec_seal zeroSec
attribute [local go_sem] loadSec_run storeSec_run rowAt_at rowAt_old rowAt_drew rowAt_drewN roomSec_new roomAt_old roomAt_drew roomAt_drewN putSec_new putRow_past rowSec_put size_put putRow_drew putRow_drewN alloc_drewN setCell_drewN sec_size

set_option linter.unusedVariables false

theorem bdrewN {B : Nat} {a w : World} (h : Below B a w) (n : Nat) : Below B a (w.drewN n) := ⟨h.os, h.tape, h.output, h.size, h.block⟩
def isSizeB (n : Int) : Bool := decide (8 ≤ n) && decide (n ≤ 1024)
theorem isSize_any (n : Int) (w : World) : Calls Tryz.prog 34 #[.int .i64 n] w fun e w' => e = .returned (.bool (isSizeB n)) ∧ Below w.heap.size w w' := by
  by_cases h : 8 ≤ n
  all_goals
    go_enter Tryz.func34, Tryz.ntmps34
    go_wp2
    go_ret
    refine ⟨?_, by go_grown⟩
    first | (simp [isSizeB, h]; done) | (simp [isSizeB]; omega)
def placeE (n : Int) (len : Nat) : Int := if n < 0 ∨ (len : Int) ≤ n then 31 else 0
def dataE (len : Nat) : Int := if (len : Int) = 1024 then 0 else 32
def wearE (len : Nat) : Int := if 4096 ≤ (len : Int) then 33 else 0
theorem place_any (b : Nat) (n : Int) (v : Value) (na : Option Addr) (len cap : Nat) (w : World) (hc : w.cell? ⟨b, 1, none⟩ = some (.slice na len cap)) :
    Calls Tryz.prog 59 #[.agg #[.pointer (some ⟨b, 0, none⟩), .int .i64 n, v]] w fun e w' => e = .returned (.int .i64 (placeE n len)) ∧ Below w.heap.size w w' := by
  have hb := World.block_lt_of_cell? _ _ hc
  simp only [] at hb
  by_cases h0 : n < 0
  · go_enter Tryz.func59, Tryz.ntmps59
    go_wp2
    go_quiet (fail)
    go_wp2
    go_ret
    refine ⟨?_, bdrewN (by go_grown) _⟩
    simp [placeE, h0]
  · by_cases h1 : (len : Int) ≤ n
    all_goals
      go_enter Tryz.func59, Tryz.ntmps59
      go_wp2
      go_quiet (fail)
      go_wp2
      go_ret
      refine ⟨?_, bdrewN (by go_grown) _⟩
      first | (simp [placeE, h1]; done) | (simp [placeE]; omega)
theorem data_any (p : Value) (n : Int) (a : Option Addr) (len cap : Nat) (w : World) :
    Calls Tryz.prog 60 #[.agg #[p, .int .i64 n, .slice a len cap]] w fun e w' => e = .returned (.int .i64 (dataE len)) ∧ Below w.heap.size w w' := by
  by_cases h0 : (len : Int) = 1024
  all_goals
    go_enter Tryz.func60, Tryz.ntmps60
    go_wp2
    go_ret
    refine ⟨?_, by go_grown⟩
    simp [dataE, h0]
theorem wear_any (b : Nat) (n : Value) (v : Value) (na : Option Addr) (len cap : Nat) (w : World) (hc : w.cell? ⟨b, 2, none⟩ = some (.slice na len cap)) :
    Calls Tryz.prog 61 #[.agg #[.pointer (some ⟨b, 0, none⟩), n, v]] w fun e w' => e = .returned (.int .i64 (wearE len)) ∧ Below w.heap.size w w' := by
  have hb := World.block_lt_of_cell? _ _ hc
  simp only [] at hb
  by_cases h0 : 4096 ≤ (len : Int)
  all_goals
    go_enter Tryz.func61, Tryz.ntmps61
    go_wp2
    go_ret
    refine ⟨?_, by go_grown⟩
    simp [wearE, h0]
end Go.Proofs.YtmjflbleobmjdaaGreatDoor
