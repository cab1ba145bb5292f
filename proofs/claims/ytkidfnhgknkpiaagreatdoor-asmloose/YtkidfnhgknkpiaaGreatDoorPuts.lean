/-
  Contracts of the functions of layer 1 that lay words into bytes (the program's Put, the document's Word): which cells hold what behind each call, for every row of bytes, every place and every word.
-/
import Derived.Test.YtkidfnhgknkpiaaGreatDoorGets
namespace Go.Proofs.YtkidfnhgknkpiaaGreatDoor
open Go.ChangeShapes Go.WideShapes Go.ChangeAt Go.RowKit

def byteOf (v : Int) (k : Nat) : Int := v / 2 ^ (8 * k) % 256
theorem byteOf_bd (v : Int) (k : Nat) : 0 ≤ byteOf v k ∧ byteOf v k ≤ 255 := by unfold byteOf; omega

/-- What lies in a row behind the first k of a word's bytes were laid at its place p. -/
def partL (L : Nat → Int) (p : Nat) (v : Int) (k i : Nat) : Int := if p ≤ i ∧ i < p + k then byteOf v (i - p) else L i

structure PutRel (w wr : World) (g off len : Nat) (L : Nat → Int) (p : Nat) (v : Int) (k : Nat) : Prop where
  cells : ∀ i, i < len → wr.cell? ⟨g, off + i, none⟩ = some (.int .u8 (partL L p v k i))
  out : ∀ i, i < off ∨ off + len ≤ i → wr.cell? ⟨g, i, none⟩ = w.cell? ⟨g, i, none⟩
  free : ∀ i, i < len → wr.frozen? ⟨g, off + i, none⟩ = false
  below : Below g w wr
  size : wr.heap.size = w.heap.size

theorem PutRel.start {w : World} {g off len : Nat} {L : Nat → Int} {p : Nat} {v : Int} (hc : ∀ i, i < len → w.cell? ⟨g, off + i, none⟩ = some (.int .u8 (L i))) (hz : ∀ i, i < len → w.frozen? ⟨g, off + i, none⟩ = false) :
    PutRel w w g off len L p v 0 :=
  ⟨fun i hi => by rw [hc i hi, partL, if_neg (by omega)], fun _ _ => rfl, hz, Below.refl _ _, rfl⟩

theorem PutRel.next {w wr : World} {g off len : Nat} {L : Nat → Int} {p : Nat} {v : Int} {k : Nat} (h : PutRel w wr g off len L p v k) (hk : p + k < len) :
    PutRel w (wr.setCell ⟨g, off + (p + k), none⟩ (.int .u8 (byteOf v k))) g off len L p v (k + 1) := by
  refine ⟨fun i hi => ?_, fun i hi => ?_, fun i hi => by simpa using h.free i hi, h.below.setCell (Nat.le_refl _) _, by simpa [World.setCell] using h.size⟩
  · by_cases e : i = p + k
    · subst e
      rw [World.cell?_setCell_same wr _ _ (h.cells _ hi), partL, if_pos (by omega), show p + k - p = k by omega]
    · rw [World.cell?_setCell_other wr ⟨g, off + (p + k), none⟩ ⟨g, off + i, none⟩ _ (by simp), h.cells i hi]
      unfold partL
      by_cases c : p ≤ i ∧ i < p + k
      · rw [if_pos c, if_pos (by omega)]
      · rw [if_neg c, if_neg (by omega)]
  · rw [World.cell?_setCell_other wr ⟨g, off + (p + k), none⟩ ⟨g, i, none⟩ _ (by simp), h.out i hi]

/-- What lies in a row behind Put. -/
def putL (len : Nat) (L : Nat → Int) (at_ v : Int) (i : Nat) : Int := if fits len at_ then partL L at_.toNat v 4 i else L i

theorem info5 : (Tryz.prog.info? 5).map (fun i => (i.zero, i.size, i.bytes)) = some (some (.int .u8 0), 1, 1) := by kernel_rfl
def bytesOf (v : Int) (k : Nat) : List Value := (List.range k).map fun j => .int .u8 (byteOf v j)
theorem bytesOf_succ (v : Int) (k : Nat) : bytesOf v (k + 1) = bytesOf v k ++ [.int .u8 (byteOf v k)] := by simp [bytesOf, List.range_succ]

end Go.Proofs.YtkidfnhgknkpiaaGreatDoor
