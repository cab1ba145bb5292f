/-
  Plain functions on texts (rows of bytes): parting at a byte, trimming blanks; and what they make of texts that are put together. Nothing of the program is in this text.
-/
import Derived.Test.YtmldlkcgaepaaaaGreatDoorRows
import Derived.Lib.SlTrimSet
import Derived.Lib.Join
import Derived.Lib.ItoaNum
import Derived.Lib.ParseIntB
namespace Go.Proofs.YtmldlkcgaepaaaaGreatDoor
abbrev Bs := List UInt8
def bs (l : Bs) : ByteArray := ⟨l.toArray⟩
theorem bs_data (l : Bs) : (bs l).data.toList = l := by simp [bs]
theorem bs_size (l : Bs) : (bs l).size = l.length := by simp [bs, ByteArray.size]
theorem bs_of (s : ByteArray) : bs s.data.toList = s := by cases s; simp [bs]
theorem bs_inj {a b : Bs} (h : bs a = bs b) : a = b := by rw [← bs_data a, h, bs_data]
theorem bs_app (a b : Bs) : bs a ++ bs b = bs (a ++ b) := by simp [bs, ByteArray.ext_iff]

/-- The parts between the bytes c. -/
def parts (c : UInt8) : Bs → List Bs
  | [] => [[]]
  | x :: r => if x = c then [] :: parts c r else (x :: (parts c r).headD []) :: (parts c r).tail
theorem parts_ne (c : UInt8) : ∀ l, parts c l ≠ []
  | [] => by simp [parts]
  | x :: r => by unfold parts; split <;> simp
theorem parts_cons (c : UInt8) (l : Bs) : parts c l = (parts c l).headD [] :: (parts c l).tail := by
  cases h : parts c l with
  | nil => exact absurd h (parts_ne c l)
  | cons a b => rfl
theorem parts_free {c : UInt8} : ∀ {l : Bs}, c ∉ l → parts c l = [l]
  | [], _ => rfl
  | x :: r, h => by
    simp only [List.mem_cons, not_or] at h
    rw [parts, if_neg (fun e => h.1 e.symm), parts_free h.2]; rfl
theorem parts_app {c : UInt8} : ∀ {l : Bs} (r : Bs), c ∉ l → parts c (l ++ c :: r) = l :: parts c r
  | [], r, _ => by simp [parts]
  | x :: l, r, h => by
    simp only [List.mem_cons, not_or] at h
    rw [List.cons_append, parts, if_neg (fun e => h.1 e.symm), parts_app r h.2]; rfl
/-- A byte is a blank. -/
def blk (c : UInt8) : Bool := c == 32 || c == 9 || c == 13
def blanks : Bs := [32, 9, 13]
theorem blk_contains (c : UInt8) : blanks.contains c = blk c := by
  simp only [blanks, blk, List.contains_cons, List.contains_nil, Bool.or_false, Bool.or_assoc]
def trimP (l : Bs) : Bs := Lib.trimS l blanks
theorem trimP_eq (l : Bs) : trimP l = (((l.reverse.dropWhile blk).reverse).dropWhile blk) := by
  simp only [trimP, Lib.trimS, Lib.trimLeftS, Lib.trimRightS]
  have : (fun x => blanks.contains x) = blk := funext blk_contains
  rw [this]
def cutB (p : UInt8 → Bool) (l : Bs) : Bs := l.takeWhile fun c => !p c
def cutR (p : UInt8 → Bool) (l : Bs) : Bs := (l.dropWhile fun c => !p c).tail
def cutH (p : UInt8 → Bool) (l : Bs) : Bool := l.any p
end Go.Proofs.YtmldlkcgaepaaaaGreatDoor
