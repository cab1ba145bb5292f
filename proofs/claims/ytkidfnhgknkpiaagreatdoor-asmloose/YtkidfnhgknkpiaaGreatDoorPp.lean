/-
  Layer 6's Parse as a plain function of a text, and strings.Split at a byte.
-/
import Derived.Test.YtkidfnhgknkpiaaGreatDoorW1
import Derived.Lib.SplitLaws
namespace Go.Proofs.YtkidfnhgknkpiaaGreatDoor
set_option linter.unusedVariables false
set_option linter.unusedSimpArgs false

theorem split_parts (c : UInt8) : ∀ l : Bs, Lib.splitK [c] 0 (l.count c) l = parts c l
  | [] => rfl
  | x :: l => by
    have ih := split_parts c l
    by_cases hx : x = c
    · subst hx
      have hi : Lib.index (x :: l) [x] = 0 := by simp [Lib.index, List.isPrefixOf]
      rw [List.count_cons_self, Lib.splitK, hi, parts, if_pos rfl]
      simp [ih]
    · have hc : (x :: l).count c = l.count c := List.count_cons_of_ne (by simpa using hx)
      rw [hc, parts, if_neg hx, ← ih]
      cases hn : l.count c with
      | zero => simp [Lib.splitK]
      | succ m =>
        have hne : Lib.index l [c] ≠ -1 := fun e => by
          have := Lib.count_miss e
          rw [Lib.count_one] at this; omega
        have hge := Lib.index_ge l [c]
        have hp : ([c] : List UInt8).isPrefixOf (x :: l) = false := by simp [List.isPrefixOf, Ne.symm hx]
        have hb : (Lib.index l [c] == -1) = false := by simpa using hne
        have hi : Lib.index (x :: l) [c] = Lib.index l [c] + 1 := by rw [Lib.index, hp, hb]; simp
        have hb2 : (Lib.index l [c] + 1 == -1) = false := by simp; omega
        have ht : (Lib.index l [c] + 1).toNat = (Lib.index l [c]).toNat + 1 := by omega
        rw [Lib.splitK, Lib.splitK, hi, hb, hb2, ht]
        simp [Nat.add_right_comm]
theorem splitB_parts (s : ByteArray) : (Lib.splitB { data := #[10] } 0 (Lib.countB s { data := #[10] }) s).map (·.data.toList) = parts 10 s.data.toList := by
  rw [Lib.splitB_data]
  have : Lib.countB s { data := #[10] } = s.data.toList.count 10 := Lib.count_one 10 _
  rw [this]; exact split_parts 10 _
/-- How reading ends: the words, or the line that is refused. -/
inductive Pe where
  | words (l : List Int)
  | line (n : Nat)
def goP : List Bs → Nat → List Int → Pe
  | [], _, ws => .words ws
  | l :: r, n, ws => if saidP l = [] then goP r (n + 1) ws else match wordP (saidP l) (4 * ws.length) with
    | none => .line (n + 1)
    | some x => goP r (n + 1) (ws ++ [x])
def parseW (t : Bs) : List Int := if 65536 < t.length then [] else match goP (parts 10 t) 0 [] with
  | .words l => l
  | .line _ => []
def parseN (t : Bs) : Int := if 65536 < t.length then 0 else match goP (parts 10 t) 0 [] with
  | .words _ => 0
  | .line n => n
def parseE (t : Bs) : Int := if 65536 < t.length then 60 else match goP (parts 10 t) 0 [] with
  | .words _ => 0
  | .line _ => 61
end Go.Proofs.YtkidfnhgknkpiaaGreatDoor
