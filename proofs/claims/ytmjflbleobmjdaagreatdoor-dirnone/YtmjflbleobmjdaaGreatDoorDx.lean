/-
  Small facts on disks that the laws of layer 3 kept with their own.
-/
import Derived.Test.YtmjflbleobmjdaaGreatDoorWords
import Derived.Test.YtmjflbleobmjdaaGreatDoorKt
namespace Go.Proofs.YtmjflbleobmjdaaGreatDoor
open Go.ChangeShapes Go.WideShapes Go.ChangeAt Go.RowKit
theorem wroteS_at (D : Dk) (n P : Nat) (f : Nat → Int) (g c : Nat) : (D.wrote n P f g c).S n = f := show upd D.S n f n = f from upd_at D.S n f
theorem wroteS_ne (D : Dk) (n P : Nat) (f : Nat → Int) (g c : Nat) {i : Nat} (h : i ≠ n) : (D.wrote n P f g c).S i = D.S i := show upd D.S n f i = D.S i from upd_ne D.S f h
end Go.Proofs.YtmjflbleobmjdaaGreatDoor
