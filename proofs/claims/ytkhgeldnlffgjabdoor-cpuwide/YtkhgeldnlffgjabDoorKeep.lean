/-
  What is kept while functions are called: nothing that was there has turned, and these blocks hold these rows.
-/
import Derived.Test.YtkhgeldnlffgjabDoorCodes
namespace Go.Proofs.YtkhgeldnlffgjabDoor
open Go.ChangeShapes Go.WideShapes Go.ChangeAt Go.RowKit
theorem rowAt_past (w : World) (o : Obj) (b : Nat) (h : b < w.heap.size) : rowAt (w.alloc o) b = rowAt w b := rowAt_old w o b (Nat.ne_of_lt h)
attribute [local go_sem ↓] loadCpu_seal storeCpu_seal loadIn_seal storeIn_seal
attribute [local go_sem] loadCpu_run storeCpu_run loadIn_run storeIn_run rowAt_at rowAt_past rowAt_drew rowAt_drewN roomCpu_new roomIn_new roomAt_old roomAt_drew roomAt_drewN putCpu_new putIn_new Cp.zero_fold In.fold putRow_past rowCpu_put rowIn_put size_put putRow_drew putRow_drewN alloc_drewN setCell_drewN Cp.at16 Cp.at17 Cp.at18 Cp.at19 Cp.at20 Cp.at21 Cp.size Cp.set16 Cp.set17 Cp.set18 Cp.set19 Cp.set20 Cp.set21 In.at0 In.at1 In.at2 In.at3 In.at4 In.at5 In.at6 In.at7 In.size In.set0 In.set1 In.set2 In.set3 In.ne Cp.ne In.set4 In.set5 In.set6 In.set7

def Keeps (w : World) (rows : List (Nat × Array Value)) (X : World) : Prop := Below w.heap.size w X ∧ ∀ r ∈ rows, rowAt X r.1 = some r.2 ∧ roomAt X r.1 r.2.size = true ∧ r.1 < X.heap.size
theorem Keeps.call {w : World} {rows : List (Nat × Array Value)} {X w1 : World} (hb : Below X.heap.size X w1) (h : Keeps w rows X) : Keeps w rows w1 :=
  ⟨h.1.trans (hb.mono h.1.size), fun r hr => ⟨(rowAt_below hb _ (h.2 r hr).2.2).trans (h.2 r hr).1, (roomAt_below hb _ _ (h.2 r hr).2.2).trans (h.2 r hr).2.1, Nat.lt_of_lt_of_le (h.2 r hr).2.2 hb.size⟩⟩
theorem Keeps.row {w : World} {rows : List (Nat × Array Value)} {X : World} (h : Keeps w rows X) {b : Nat} {c : Array Value} (hr : (b, c) ∈ rows) : rowAt X b = some c := (h.2 _ hr).1
theorem Keeps.room {w : World} {rows : List (Nat × Array Value)} {X : World} (h : Keeps w rows X) {b : Nat} {c : Array Value} (hr : (b, c) ∈ rows) : roomAt X b c.size = true := (h.2 _ hr).2.1
theorem Keeps.cell {w : World} {rows : List (Nat × Array Value)} {X : World} (h : Keeps w rows X) {b : Nat} {c : Array Value} (hr : (b, c) ∈ rows) (j : Nat) : X.cell? ⟨b, j, none⟩ = c[j]? := rowAt_cell (h.row hr) j
theorem Keeps.drew {w : World} {rows : List (Nat × Array Value)} {X : World} (h : Keeps w rows X) : Keeps w rows X.drew := ⟨h.1.drew, h.2⟩
theorem Keeps.new {w : World} {rows : List (Nat × Array Value)} {X : World} (h : Keeps w rows X) (c : Array Value) (t : TypeId) : Keeps w ((X.heap.size, c) :: rows) (X.alloc (.cells c t)) :=
  ⟨h.1.alloc h.1.size _, fun r hr => by
    rcases List.mem_cons.1 hr with rfl | hr
    · exact ⟨rowAt_new _ _ _ _, roomAt_new _ _ _ _ _ rfl rfl, by simp⟩
    · have := h.2 r hr
      exact ⟨(rowAt_old _ _ _ (Nat.ne_of_lt this.2.2)).trans this.1, (roomAt_old _ _ _ _ this.2.2).trans this.2.1, by simp; omega⟩⟩
theorem Keeps.refl (w : World) : Keeps w [] w := ⟨Below.refl _ _, fun r hr => by cases hr⟩
/-- The state of a drawn region over three rows, two of which are read. -/
theorem Keeps.three {w X : World} {b1 b2 b3 : Nat} {c1 c2 c3 : Array Value} (k : Keeps w [(b3, c3), (b2, c2), (b1, c1)] X) :
    Keeps w [(b3, c3), (b2, c2), (b1, c1)] X ∧ rowAt X b1 = some c1 ∧ rowAt X b2 = some c2 ∧ (∀ j, X.cell? ⟨b1, j, none⟩ = c1[j]?) ∧ (∀ j, X.cell? ⟨b2, j, none⟩ = c2[j]?) :=
  ⟨k, k.row (by simp), k.row (by simp), k.cell (by simp), k.cell (by simp)⟩
theorem Keeps.step3 {w X w1 : World} {b1 b2 b3 : Nat} {c1 c2 c3 : Array Value} (hb : Below X.heap.size X w1) (h : Keeps w [(b3, c3), (b2, c2), (b1, c1)] X ∧ rowAt X b1 = some c1 ∧ rowAt X b2 = some c2 ∧ (∀ j, X.cell? ⟨b1, j, none⟩ = c1[j]?) ∧ (∀ j, X.cell? ⟨b2, j, none⟩ = c2[j]?)) :
    Keeps w [(b3, c3), (b2, c2), (b1, c1)] w1 ∧ rowAt w1 b1 = some c1 ∧ rowAt w1 b2 = some c2 ∧ (∀ j, w1.cell? ⟨b1, j, none⟩ = c1[j]?) ∧ (∀ j, w1.cell? ⟨b2, j, none⟩ = c2[j]?) := (h.1.call hb).three
theorem keeps3 (w : World) (c1 c2 c3 : Array Value) (t1 t2 t3 : TypeId) : Keeps w [(w.heap.size + 2, c3), (w.heap.size + 1, c2), (w.heap.size, c1)] (((w.alloc (.cells c1 t1)).alloc (.cells c2 t2)).alloc (.cells c3 t3)) := by
  have := (((Keeps.refl w).new c1 t1).new c2 t2).new c3 t3
  simpa using this
def Cp.wrote (c : Cp) (a x : Int) : Cp := { c.setR a.toNat x with N := fldI x 31 1 == 1, Z := x == 0, PC := (c.PC + 4) % 4294967296 }
theorem write_any (c : Cp) (a x : Int) (w : World) (h0 : 0 ≤ a) (h1 : a < 16) (h2 : 0 ≤ x) (h3 : x ≤ 4294967295) :
    Calls Tryd.prog 24 #[.agg c.cells, .int .i64 a, .int .u32 x] w fun e w' => e = .returned (.agg (c.wrote a x).cells) ∧ Below w.heap.size w w' := by
  have hs := Cp.setAt c a.toNat x (by omega)
  have hr := Cp.atR c a.toNat (by omega)
  go_enter Tryd.func24, Tryd.ntmps24
  go_wp2_with (go_at_call 23; refine (field_at _ _ _ _ h2 h3 (by omega) (by omega) (by omega) (by omega)).mono ?_; rintro e w' ⟨rfl, n, rfl⟩)
  refine ret_cell1 rfl rfl (loadCpu_row (c := c.wrote a x) ?_) rfl ⟨rfl, ?_⟩
  · simp [go_sem]; rfl
  · refine bdrewN ?_ _; go_grown
theorem operand_reg (c : Cp) (i : In) (w : World) (hF : i.F = 0) (c0 : 0 ≤ i.C) (c1 : i.C < 16) : Calls Tryd.prog 27 #[.agg c.cells, .agg i.cells] w fun e w' => e = .returned (.int .u32 (c.R i.C.toNat)) ∧ Below w.heap.size w w' := by
  have hr := Cp.atR c i.C.toNat (by omega)
  go_enter Tryd.func27, Tryd.ntmps27
  go_wp2
  go_ret
  exact ⟨rfl, by go_grown⟩
def Cp.added (c : Cp) (i : In) (b x : Int) : Cp := ({ c with C := addC b x (i.U && c.C), V := addV b x (i.U && c.C) } : Cp).wrote i.A (addS b x (i.U && c.C))
theorem cadd_any (c : Cp) (i : In) (b x : Int) (w : World) (a0 : 0 ≤ i.A) (a1 : i.A < 16) (b0 : 0 ≤ b) (b1 : b ≤ 4294967295) (x0 : 0 ≤ x) (x1 : x ≤ 4294967295) :
    Calls Tryd.prog 29 #[.agg c.cells, .agg i.cells, .int .u32 b, .int .u32 x] w fun e w' => e = .returned (.agg (c.added i b x).cells) ∧ Below w.heap.size w w' := by
  cases hU : i.U
  all_goals
    go_enter Tryd.func29, Tryd.ntmps29
    go_wp2_with (first | (go_at_call 38; refine (add_any _ _ _ _ b0 b1 x0 x1).mono ?_; rintro e w' ⟨rfl, hx⟩; obtain rfl := hx.symm; clear hx) | (go_at_call 24; refine (write_any _ _ _ _ a0 a1 (by unfold addS; omega) (by unfold addS; omega)).mono ?_; rintro e w1 ⟨rfl, hb⟩; have hr1 : roomAt w1 (w.heap.size + 2) 22 = true := (roomAt_below hb _ _ (by simp)).trans (roomCpu_new _ _ _ _ (by simp))))
    refine ret_cell1 rfl rfl (loadCpu_row (rowCpu_put _ _ _ hr1)) rfl ⟨?_, below_put (Below.trans (by go_grown) (hb.mono (by simp; omega))) _ (by omega) _⟩
    simp [Cp.added, hU]
end Go.Proofs.YtkhgeldnlffgjabDoor
