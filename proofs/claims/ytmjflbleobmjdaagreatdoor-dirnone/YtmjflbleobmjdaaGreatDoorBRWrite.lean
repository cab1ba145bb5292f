/-
  The document's disk: a write, a sector behind so many writes, a read.
-/
import Derived.Test.YtmjflbleobmjdaaGreatDoorBRNew
namespace Go.Proofs.YtmjflbleobmjdaaGreatDoor
open Go.ChangeShapes Go.WideShapes Go.ChangeAt Go.RowKit
attribute [local go_sem ↓] loadSec_seal storeSec_seal eqlSec_seal zeroSec
attribute [local go_sem] loadSec_run storeSec_run rowAt_at rowAt_old rowAt_drew rowAt_drewN roomSec_new roomAt_old roomAt_drew roomAt_drewN putSec_new putRow_past rowSec_put size_put putRow_drew putRow_drewN alloc_drewN setCell_drewN sec_size

set_option linter.unusedVariables false
set_option linter.unusedVariables false

def lastR (R : Rk) : Nat → Nat → ByteArray
  | 0, n => R.F n
  | k + 1, n => if R.wn k = n then R.C k else lastR R k n
end Go.Proofs.YtmjflbleobmjdaaGreatDoor
