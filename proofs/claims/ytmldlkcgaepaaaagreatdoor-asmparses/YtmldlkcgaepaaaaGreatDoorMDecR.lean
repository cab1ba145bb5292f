/-
  What is kept while functions are called: nothing that was there has turned, and these blocks hold these rows.
  The document's Decode answers as the program's, for every word.
-/
import Derived.Test.YtmldlkcgaepaaaaGreatDoorMCodes
import Derived.Test.YtmldlkcgaepaaaaGreatDoorMLaidR
namespace Go.Proofs.YtmldlkcgaepaaaaGreatDoor
open Go.ChangeShapes Go.WideShapes Go.ChangeAt Go.RowKit
theorem rowAt_past (w : World) (o : Obj) (b : Nat) (h : b < w.heap.size) : rowAt (w.alloc o) b = rowAt w b := rowAt_old w o b (Nat.ne_of_lt h)
attribute [local go_sem ↓] loadIn_seal storeIn_seal
attribute [local go_sem] loadIn_run storeIn_run rowAt_at rowAt_past rowAt_drew rowAt_drewN roomCpu_new roomIn_new roomAt_old roomAt_drew roomAt_drewN putCpu_new putIn_new Cp.zero_fold In.fold putRow_past rowCpu_put rowIn_put size_put putRow_drew putRow_drewN alloc_drewN setCell_drewN Cp.at16 Cp.at17 Cp.at18 Cp.at19 Cp.at20 Cp.at21 Cp.size Cp.set16 Cp.set17 Cp.set18 Cp.set19 Cp.set20 Cp.set21 In.at0 In.at1 In.at2 In.at3 In.at4 In.at5 In.at6 In.at7 In.size In.set0 In.set1 In.set2 In.set3 In.ne Cp.ne In.set4 In.set5 In.set6 In.set7

def Keeps (w : World) (rows : List (Nat × Array Value)) (X : World) : Prop := Below w.heap.size w X ∧ ∀ r ∈ rows, rowAt X r.1 = some r.2 ∧ roomAt X r.1 r.2.size = true ∧ r.1 < X.heap.size
theorem Keeps.call {w : World} {rows : List (Nat × Array Value)} {X w1 : World} (hb : Below X.heap.size X w1) (h : Keeps w rows X) : Keeps w rows w1 :=
  ⟨h.1.trans (hb.mono h.1.size), fun r hr => ⟨(rowAt_below hb _ (h.2 r hr).2.2).trans (h.2 r hr).1, (roomAt_below hb _ _ (h.2 r hr).2.2).trans (h.2 r hr).2.1, Nat.lt_of_lt_of_le (h.2 r hr).2.2 hb.size⟩⟩
theorem Keeps.row {w : World} {rows : List (Nat × Array Value)} {X : World} (h : Keeps w rows X) {b : Nat} {c : Array Value} (hr : (b, c) ∈ rows) : rowAt X b = some c := (h.2 _ hr).1
theorem Keeps.room {w : World} {rows : List (Nat × Array Value)} {X : World} (h : Keeps w rows X) {b : Nat} {c : Array Value} (hr : (b, c) ∈ rows) : roomAt X b c.size = true := (h.2 _ hr).2.1
theorem Keeps.cell {w : World} {rows : List (Nat × Array Value)} {X : World} (h : Keeps w rows X) {b : Nat} {c : Array Value} (hr : (b, c) ∈ rows) (j : Nat) : X.cell? ⟨b, j, none⟩ = c[j]? := rowAt_cell (h.row hr) j
theorem Keeps.drew {w : World} {rows : List (Nat × Array Value)} {X : World} (h : Keeps w rows X) : Keeps w rows X.drew := ⟨h.1.drew, h.2⟩
theorem Keeps.new {w : World} {rows : List (Nat × Array Value)} {X : World} (h : Keeps w rows X) (c : Array Value) (t : TypeId) : Keeps w ((X.heap.size, c) :: rows) (X.alloc (.cells c t)) :=
  ⟨h.1.alloc h.1.size _, fun r hr => by
    rcases List.mem_cons.1 hr with rfl | hr
    · exact ⟨rowAt_new _ _ _ _, roomAt_new _ _ _ _ _ rfl rfl, by simp⟩
    · have := h.2 r hr
      exact ⟨(rowAt_old _ _ _ (Nat.ne_of_lt this.2.2)).trans this.1, (roomAt_old _ _ _ _ this.2.2).trans this.2.1, by simp; omega⟩⟩
theorem Keeps.refl (w : World) : Keeps w [] w := ⟨Below.refl _ _, fun r hr => by cases hr⟩
/-- The state of a drawn region over three rows, two of which are read. -/
theorem Keeps.three {w X : World} {b1 b2 b3 : Nat} {c1 c2 c3 : Array Value} (k : Keeps w [(b3, c3), (b2, c2), (b1, c1)] X) :
    Keeps w [(b3, c3), (b2, c2), (b1, c1)] X ∧ rowAt X b1 = some c1 ∧ rowAt X b2 = some c2 ∧ (∀ j, X.cell? ⟨b1, j, none⟩ = c1[j]?) ∧ (∀ j, X.cell? ⟨b2, j, none⟩ = c2[j]?) :=
  ⟨k, k.row (by simp), k.row (by simp), k.cell (by simp), k.cell (by simp)⟩
theorem Keeps.step3 {w X w1 : World} {b1 b2 b3 : Nat} {c1 c2 c3 : Array Value} (hb : Below X.heap.size X w1) (h : Keeps w [(b3, c3), (b2, c2), (b1, c1)] X ∧ rowAt X b1 = some c1 ∧ rowAt X b2 = some c2 ∧ (∀ j, X.cell? ⟨b1, j, none⟩ = c1[j]?) ∧ (∀ j, X.cell? ⟨b2, j, none⟩ = c2[j]?)) :
    Keeps w [(b3, c3), (b2, c2), (b1, c1)] w1 ∧ rowAt w1 b1 = some c1 ∧ rowAt w1 b2 = some c2 ∧ (∀ j, w1.cell? ⟨b1, j, none⟩ = c1[j]?) ∧ (∀ j, w1.cell? ⟨b2, j, none⟩ = c2[j]?) := (h.1.call hb).three
theorem keeps3 (w : World) (c1 c2 c3 : Array Value) (t1 t2 t3 : TypeId) : Keeps w [(w.heap.size + 2, c3), (w.heap.size + 1, c2), (w.heap.size, c1)] (((w.alloc (.cells c1 t1)).alloc (.cells c2 t2)).alloc (.cells c3 t3)) := by
  have := (((Keeps.refl w).new c1 t1).new c2 t2).new c3 t3
  simpa using this
def Cp.wrote (c : Cp) (a x : Int) : Cp := { c.setR a.toNat x with N := fldI x 31 1 == 1, Z := x == 0, PC := (c.PC + 4) % 4294967296 }
def Cp.added (c : Cp) (i : In) (b x : Int) : Cp := ({ c with C := addC b x (i.U && c.C), V := addV b x (i.U && c.C) } : Cp).wrote i.A (addS b x (i.U && c.C))
end Go.Proofs.YtmldlkcgaepaaaaGreatDoor

namespace Go.Proofs.YtmldlkcgaepaaaaGreatDoor
open Go.ChangeShapes Go.WideShapes Go.ChangeAt Go.RowKit
attribute [local go_sem ↓] loadIn_seal storeIn_seal
attribute [local go_sem] loadIn_run storeIn_run rowAt_at rowAt_past rowAt_drew rowAt_drewN roomCpu_new roomIn_new roomAt_old roomAt_drew roomAt_drewN putCpu_new putIn_new Cp.zero_fold In.fold putRow_past rowCpu_put rowIn_put size_put putRow_drew putRow_drewN alloc_drewN setCell_drewN Cp.at16 Cp.at17 Cp.at18 Cp.at19 Cp.at20 Cp.at21 Cp.size Cp.set16 Cp.set17 Cp.set18 Cp.set19 Cp.set20 Cp.set21 In.at0 In.at1 In.at2 In.at3 In.at4 In.at5 In.at6 In.at7 In.size In.set0 In.set1 In.set2 In.set3 In.ne Cp.ne In.set4 In.set5 In.set6 In.set7

theorem Keeps.drewN {w : World} {rows : List (Nat × Array Value)} {X : World} (h : Keeps w rows X) (n : Nat) : Keeps w rows (X.drewN n) := ⟨bdrewN h.1 n, h.2⟩
theorem keeps2 (w : World) (c1 c2 : Array Value) (t1 t2 : TypeId) : Keeps w [(w.heap.size + 1, c2), (w.heap.size, c1)] ((w.alloc (.cells c1 t1)).alloc (.cells c2 t2)) := by
  have := ((Keeps.refl w).new c1 t1).new c2 t2
  simpa using this
end Go.Proofs.YtmldlkcgaepaaaaGreatDoor
