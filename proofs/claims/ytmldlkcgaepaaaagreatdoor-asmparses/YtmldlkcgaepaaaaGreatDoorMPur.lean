/-
  Layer 6 as plain functions: how an instruction is written. Nothing of the program's run is in this text.
-/
import Derived.Test.YtmldlkcgaepaaaaGreatDoorMTxt
import Derived.Test.YtmldlkcgaepaaaaGreatDoorMCodes
import Derived.Test.YtmldlkcgaepaaaaGreatDoorMUnhexes
namespace Go.Proofs.YtmldlkcgaepaaaaGreatDoor

def opName (o : Int) : Bs := match o.toNat with
  | 0 => [77, 79, 86] | 1 => [76, 83, 76] | 2 => [65, 83, 82] | 3 => [82, 79, 82] | 4 => [65, 78, 68] | 5 => [65, 78, 78] | 6 => [73, 79, 82] | 7 => [88, 79, 82]
  | 8 => [65, 68, 68] | 9 => [83, 85, 66] | 10 => [77, 85, 76] | 11 => [68, 73, 86] | 15 => [84, 82, 65, 80] | _ => []
def condName (a : Int) : Bs := match a.toNat with
  | 0 => [77, 73] | 1 => [69, 81] | 2 => [67, 83] | 3 => [86, 83] | 4 => [76, 83] | 5 => [76, 84] | 6 => [76, 69] | 7 => [65, 76]
  | 8 => [80, 76] | 9 => [78, 69] | 10 => [67, 67] | 11 => [86, 67] | 12 => [72, 73] | 13 => [71, 69] | 14 => [71, 84] | _ => [78, 86]
def takesP (i : In) : Bool := decide (i.F = 0) && (decide (i.O = 0) && i.U)
def letP (b : Bool) (c : UInt8) : Bs := if b then [c] else []
def memName (i : In) : Bs := if i.U then (if i.V then [83, 84, 66] else [83, 84, 87]) else (if i.V then [76, 68, 66] else [76, 68, 87])
def nameP (i : In) : Bs :=
  if i.F = 2 then memName i else if i.F = 3 then (if i.V then [67, 65, 76, 76] else [74, 77, 80])
  else if takesP i then (if i.V then [77, 79, 86, 70] else [77, 79, 86, 72]) else opName i.O ++ letP i.U 85 ++ letP i.V 86
def lastP (i : In) : Bs := if i.F = 0 then [67] else [110]
def kindsP (i : In) : Bs :=
  if i.F = 3 then (if i.U then [63, 64] else [63, 67]) else if i.F = 2 then [65, 66, 110] else if i.O = 15 then [110]
  else if takesP i then [65] else if i.O = 0 then [65] ++ lastP i else [65, 66] ++ lastP i
def regP (n : Int) : Bs := [82] ++ Lib.itoa n
/-- The address at which a branch at a goes on. -/
def toP (a n : Int) : Int := (a + 4 + 4 * n) % 4294967296
def operandP (i : In) (a : Int) (k : UInt8) : Bs :=
  if k = 65 then regP i.A else if k = 66 then regP i.B else if k = 67 then regP i.C else if k = 63 then condName i.A
  else if k = 64 then Lib.itoa (toP a i.N) else Lib.itoa i.N
def wordT : Bs := [87, 79, 82, 68]
def showP (x a : Int) : Bs :=
  if decOk x = true then nameP (decI x) ++ [32] ++ Lib.join ((kindsP (decI x)).map (operandP (decI x) a)) [44, 32]
  else wordT ++ [32] ++ (hexS x 8).data.toList
end Go.Proofs.YtmldlkcgaepaaaaGreatDoor
