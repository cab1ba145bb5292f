/-
  A disk as it was behind so many writes.
-/
import Derived.Test.YtmjflbleobmjdaaGreatDoorPair
namespace Go.Proofs.YtmjflbleobmjdaaGreatDoor
open Go.ChangeShapes Go.WideShapes Go.ChangeAt Go.RowKit
attribute [local go_sem ↓] loadSec_seal storeSec_seal eqlSec_seal zeroSec
attribute [local go_sem] loadSec_run storeSec_run rowAt_at rowAt_old rowAt_drew rowAt_drewN roomSec_new roomAt_old roomAt_drew roomAt_drewN putSec_new putRow_past rowSec_put size_put putRow_drew putRow_drewN alloc_drewN setCell_drewN sec_size

set_option linter.unusedVariables false
set_option linter.unusedVariables false

/-- The places behind so many writes. -/
def cutP (D : Dk) : Nat → Nat → Nat
  | 0 => D.q
  | k + 1 => upd (cutP D k) (D.wn k) (D.wp k)
theorem cutP_sec {w : World} {b : Nat} {D : Dk} (h : Rep w b D) {i : Nat} (hi : i < D.n) : ∀ k, k ≤ D.m → rowAt w (cutP D k i) = some (sec (cutS D k i)) ∧ ByteF (cutS D k i)
  | 0, _ => h.secF i hi
  | k + 1, hk => by
    show rowAt w (upd (cutP D k) (D.wn k) (D.wp k) i) = some (sec (upd (cutS D k) (D.wn k) (D.C k) i)) ∧ ByteF (upd (cutS D k) (D.wn k) (D.C k) i)
    by_cases e : i = D.wn k
    · subst e; rw [upd_at, upd_at]; exact h.secC k (by omega)
    · rw [upd_ne _ _ e, upd_ne _ _ e]; exact cutP_sec h hi k (by omega)
theorem own_slice_cap {w : World} {b : Nat} {D : Dk} (h : Rep w b D) {ra : Option Addr} {rcap : Nat} (hv : D.rv = .slice ra D.m rcap) : D.m ≤ rcap := by
  rcases h.row.2 with ⟨e, e0⟩ | ⟨g, cap, _, e, _, _, h4, _⟩
  · omega
  · rw [hv] at e
    injection e with _ _ e3
    omega
end Go.Proofs.YtmjflbleobmjdaaGreatDoor
