/-
  The document's disk, made new or from an image.
-/
import Derived.Test.YtmjflbleobmjdaaGreatDoorBRef
import Derived.Deep.RegionLaw
namespace Go.Proofs.YtmjflbleobmjdaaGreatDoor
open Go.ChangeShapes Go.WideShapes Go.ChangeAt Go.RowKit
attribute [local go_sem ↓] loadSec_seal storeSec_seal eqlSec_seal zeroSec
attribute [local go_sem] loadSec_run storeSec_run rowAt_at rowAt_old rowAt_drew rowAt_drewN roomSec_new roomAt_old roomAt_drew roomAt_drewN putSec_new putRow_past rowSec_put size_put putRow_drew putRow_drewN alloc_drewN setCell_drewN sec_size

set_option linter.unusedVariables false

theorem info9 : (Tryz.prog.info? 9).map (fun i => (i.zero, i.size, i.bytes)) = some (some (.string ⟨#[]⟩), 1, 16) := by kernel_rfl
def emptyR : Rk := { n := 0, F := fun _ => ⟨#[]⟩, fv := .slice none 0 0, m := 0, wn := fun _ => 0, C := fun _ => ⟨#[]⟩, wv := .slice none 0 0 }
theorem one_src (w : World) (x : Value) (t : TypeId) (k : Nat) (hk : k = w.heap.size) : ∀ j u, [x][j]? = some u → (w.alloc (.cells #[x] t)).cell? ((⟨k, 0, none⟩ : Addr).add j) = some u := by subst hk; exact cell_one_new w x t
end Go.Proofs.YtmjflbleobmjdaaGreatDoor
