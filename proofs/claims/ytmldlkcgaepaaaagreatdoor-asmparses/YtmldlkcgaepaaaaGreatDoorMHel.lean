/-
  Regions that draw their order and hold calls, taken by hand: what is carried over a call.
-/
import Derived.Test.YtmldlkcgaepaaaaGreatDoorMDecR
namespace Go.Proofs.YtmldlkcgaepaaaaGreatDoor
set_option linter.unusedVariables false
set_option linter.unusedSimpArgs false
open Go.ChangeShapes Go.WideShapes Go.ChangeAt Go.RowKit
attribute [local go_sem ↓] loadIn_seal storeIn_seal
attribute [local go_sem] loadIn_run storeIn_run rowAt_at rowAt_old rowAt_drew rowAt_drewN roomCpu_new roomIn_new roomAt_old roomAt_drew roomAt_drewN putCpu_new putIn_new Cp.zero_fold In.fold putRow_past rowCpu_put rowIn_put size_put putRow_drew putRow_drewN alloc_drewN setCell_drewN Cp.at16 Cp.at17 Cp.at18 Cp.at19 Cp.at20 Cp.at21 Cp.size Cp.set16 Cp.set17 Cp.set18 Cp.set19 Cp.set20 Cp.set21 In.at0 In.at1 In.at2 In.at3 In.at4 In.at5 In.at6 In.at7 In.size In.set0 In.set1 In.set2 In.set3 In.ne Cp.ne In.set4 In.set5 In.set6 In.set7

theorem row_lt {w : World} {b : Nat} {X : Array Value} (h : rowAt w b = some X) : b < w.heap.size := by
  unfold rowAt at h
  split at h
  · rename_i hb; exact (Array.getElem?_eq_some_iff.1 hb).1
  · cases h
theorem held_call3 {w X Y : World} {b : Nat} {c : Array Value} (h : rowAt X b = some c ∧ (∀ j, X.cell? ⟨b, j, none⟩ = c[j]?) ∧ Below w.heap.size w X) (hb : Below X.heap.size X Y) : rowAt Y b = some c ∧ (∀ j, Y.cell? ⟨b, j, none⟩ = c[j]?) ∧ Below w.heap.size w Y := by
  have := (rowAt_below hb b (row_lt h.1)).trans h.1
  exact ⟨this, rowAt_cell this, h.2.2.trans (hb.mono h.2.2.size)⟩
theorem cell_carry {X Y : World} {g o : Nat} {v : Value} (h : X.cell? ⟨g, o, none⟩ = some v) (hb : Below X.heap.size X Y) : Y.cell? ⟨g, o, none⟩ = some v :=
  (hb.cell (p := ⟨g, o, none⟩) (World.block_lt_of_cell? X _ h)).trans h
theorem held_call4 {w X Y : World} {b : Nat} {c : Array Value} {g o : Nat} {v : Value} (h : rowAt X b = some c ∧ (∀ j, X.cell? ⟨b, j, none⟩ = c[j]?) ∧ Below w.heap.size w X ∧ X.cell? ⟨g, o, none⟩ = some v) (hb : Below X.heap.size X Y) :
    rowAt Y b = some c ∧ (∀ j, Y.cell? ⟨b, j, none⟩ = c[j]?) ∧ Below w.heap.size w Y ∧ Y.cell? ⟨g, o, none⟩ = some v := by
  obtain ⟨h1, h2, h3⟩ := held_call3 ⟨h.1, h.2.1, h.2.2.1⟩ hb
  exact ⟨h1, h2, h3, cell_carry h.2.2.2 hb⟩
/-- A region's walk under a condition is one under a weaker condition. -/
theorem wpAnyH_mono {P : Program} {md : Region.Mode} {ops : Array Oper} {Q : Exit → Act → World → Prop} {S S' : World → Prop} (hs : ∀ w, S' w → S w) : ∀ (fuel : Nat) (listed : Array Bool) (a : Act) (w : World), wpAnyH P md ops Q S' fuel listed a w → wpAnyH P md ops Q S fuel listed a w
  | 0, _, _, _, h => h
  | fuel + 1, _, _, _, h => ⟨h.1, fun k hk => wpOp_mono (fun a' w' h' => ⟨hs w' h'.1, wpAnyH_mono hs fuel _ a' w' h'.2⟩) (h.2 k hk)⟩
end Go.Proofs.YtmldlkcgaepaaaaGreatDoor
