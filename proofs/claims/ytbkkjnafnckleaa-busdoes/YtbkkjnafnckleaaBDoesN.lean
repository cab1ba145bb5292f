/-
  The law on a bus's doings, where there is none.
-/
import Derived.Test.YtbkkjnafnckleaaBDoesA
namespace Go.Proofs.Ytbkkjnafnckleaa
open Go.ChangeShapes Go.WideShapes Go.ChangeAt Go.RowKit
attribute [local go_sem ↓] loadSec_seal storeSec_seal eqlSec_seal zeroSec
attribute [local go_sem] loadSec_run storeSec_run rowAt_at rowAt_old rowAt_drew rowAt_drewN roomSec_new roomAt_old roomAt_drew roomAt_drewN putSec_new putRow_past rowSec_put size_put putRow_drew putRow_drewN alloc_drewN setCell_drewN sec_size

set_option linter.unusedVariables false
namespace busDoes
set_option maxHeartbeats 1000000 in
theorem walk_none (n : Int) (v u : Value) (w : World) (h : isSizeB n = false) : Calls Try.prog 3 #[v, .int .i64 n, u] w fun e w' => e = .returned (.bool true) ∧ Below w.heap.size w w' := by
  go_enter Try.func3, Try.ntmps3
  go_wp2_with (first
    | (go_at_call 7; refine (shown_any _).mono ?_; rintro e w1 ⟨rfl, b1⟩; have H1 : Hid (Below w.heap.size w w1) := b1; clear b1)
    | (go_at_call 8; refine (nothing_any _).mono ?_; rintro e w2 ⟨rfl, b2⟩; have H2 : Hid (Below w.heap.size w w2) := H1.out.trans (b2.mono H1.out.size); clear b2)
    | (go_at_call 9; refine (pair_none n v _ h).mono ?_; rintro e w3 ⟨rfl, b3⟩; have H3 : Hid (Below w.heap.size w w3) := H2.out.trans (b3.mono H2.out.size); clear b3))
  go_ret
  exact ⟨rfl, H3.out⟩
set_option maxHeartbeats 1000000 in
theorem walk_many (a : Option Addr) (len cap N : Nat) (f : Nat → Int) (u : Value) (w : World) (n0 : 8 ≤ N) (n1 : N ≤ 1024) (hr : RdW w a len f) (hlen : len ≤ 35184372087808) (hl : 262144 < len) : Calls Try.prog 3 #[.slice a len cap, .int .i64 N, u] w fun e w' => e = .returned (.bool true) ∧ Below w.heap.size w w' := by
  have HR : Hid (RdW w a len f) := hr
  clear hr
  go_enter Try.func3, Try.ntmps3
  go_wp2_with (first
    | (go_at_call 7; refine (shown_any _).mono ?_; rintro e w1 ⟨rfl, b1⟩; have H1 : Hid (Below w.heap.size w w1) := b1; clear b1)
    | (go_at_call 8; refine (nothing_any _).mono ?_; rintro e w2 ⟨rfl, b2⟩; have H2 : Hid (Below w.heap.size w w2) := H1.out.trans (b2.mono H1.out.size); clear b2)
    | (go_at_call 9; refine (pair_many a len cap N f _ n0 n1 (HR.out.below H2.out) hlen hl).mono ?_; rintro e w3 ⟨rfl, b3⟩; have H3 : Hid (Below w.heap.size w w3) := H2.out.trans (b3.mono H2.out.size); clear b3))
  go_ret
  exact ⟨rfl, H3.out⟩
end busDoes
end Go.Proofs.Ytbkkjnafnckleaa
