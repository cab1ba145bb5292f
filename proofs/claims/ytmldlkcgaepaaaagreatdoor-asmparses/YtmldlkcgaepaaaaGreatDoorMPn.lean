/-
  Layer 6 as plain functions: the names, and which word a line says. Nothing of the program's run is in this text.
-/
import Derived.Test.YtmldlkcgaepaaaaGreatDoorMMap
import Derived.Test.YtmldlkcgaepaaaaGreatDoorMSaid
namespace Go.Proofs.YtmldlkcgaepaaaaGreatDoor
set_option linter.unusedVariables false

/-- Registers, conditions: the pairs behind n rounds, the last one first. -/
def regL : Nat → List (Bs × Int)
  | 0 => []
  | n + 1 => (regP n, (n : Int)) :: regL n
def condL : Nat → List (Bs × Int)
  | 0 => []
  | n + 1 => (condName n, (n : Int)) :: condL n
/-- The last operand is a number. -/
def numK (i : In) : Bool := (kindsP i).getLast? == some 110 || (kindsP i).getLast? == some 64
structure Nm where
  r : List (Bs × In)
  n : List (Bs × In)
def addN (g : Nm) (i : In) : Nm := if numK i then { g with n := (nameP i, i) :: g.n } else { g with r := (nameP i, i) :: g.r }
def inOf (f o : Nat) (m : Nat) : In := { F := f, U := decide (2 ≤ m), V := decide (m % 2 = 1), A := 0, B := 0, O := o, C := 0, N := 0 }
def opN (f o : Nat) (g : Nm) : Nat → Nm
  | 0 => g
  | m + 1 => if rightB (inOf f o m) then addN (opN f o g m) (inOf f o m) else opN f o g m
def allN : Nat → Nm
  | 0 => ⟨[], []⟩
  | m + 1 => opN (m / 16) (m % 16) (allN m) 4

def regOf (s : Bs) : Option Int := look (regL 16) s
def condOf (s : Bs) : Option Int := look (condL 16) s
def numOf (s : Bs) : Option Int := match Lib.atoiAll s with
  | .ok v => if Lib.itoa v = s then some v else none
  | _ => none
def wayOf (u a : Int) : Int := sext ((u - (a + 4)) % 4294967296) 32
def wordsTo (s : Bs) (a : Int) : Option Int := match Lib.parseUintB 32 s with
  | .ok u => if Lib.itoa u = s then (if (wayOf u a).tmod 4 = 0 then some ((wayOf u a).tdiv 4) else none) else none
  | _ => none
def instrP (name last : Bs) : Option In := if (regOf last).isSome then look (allN 64).r name else look (allN 64).n name
def withP (i : In) (k : UInt8) (s : Bs) (a : Int) : Option In :=
  if k = 65 then (regOf s).map fun n => { i with A := n } else if k = 66 then (regOf s).map fun n => { i with B := n } else if k = 67 then (regOf s).map fun n => { i with C := n }
  else if k = 63 then (condOf s).map fun n => { i with A := n } else if k = 64 then (wordsTo s a).map fun n => { i with N := n } else if k = 110 then (numOf s).map fun n => { i with N := n } else none
def fillP (a : Int) : In → Bs → List Bs → Option In
  | i, [], _ => some i
  | i, k :: ks, s :: ss => (withP i k s a).bind fun i' => fillP a i' ks ss
  | _, _ :: _, [] => none
def filledP (i : In) (l : List Bs) (a : Int) : Option In := if l.length = (kindsP i).length then fillP a i (kindsP i) l else none
def digitsP (l : List Bs) : Option Int := match l with
  | [s] => if unOK (bs s) then some (unV (bs s)) else none
  | _ => none
def wordP (s : Bs) (a : Int) : Option Int :=
  let name := cutB blanks.contains s
  let l := operandsP (cutR blanks.contains s)
  if name = wordT then digitsP l
  else (instrP name (l.getLastD [])).bind fun i => (filledP i l a).bind fun i' => if rightB i' then some (packV i') else none
end Go.Proofs.YtmldlkcgaepaaaaGreatDoor
