/-
  What is kept while functions are called: nothing that was there has turned, and these blocks hold these rows.
  How two processors are held against each other; what the document's example comes to.
  The document's example: what shown answers, whatever the world.
-/
import Derived.Test.YteegkhnikcioiaaGreatDoorMCCodes
import Derived.DeepKeys
namespace Go.Proofs.YteegkhnikcioiaaGreatDoor.Cpu
open Go.ChangeShapes Go.WideShapes Go.ChangeAt Go.RowKit
theorem rowAt_past (w : World) (o : Obj) (b : Nat) (h : b < w.heap.size) : rowAt (w.alloc o) b = rowAt w b := rowAt_old w o b (Nat.ne_of_lt h)
attribute [local go_sem ↓] loadCpu_seal storeCpu_seal loadIn_seal storeIn_seal
attribute [local go_sem] loadCpu_run storeCpu_run loadIn_run storeIn_run rowAt_at rowAt_past rowAt_drew rowAt_drewN roomCpu_new roomIn_new roomAt_old roomAt_drew roomAt_drewN putCpu_new putIn_new Cp.zero_fold In.fold putRow_past rowCpu_put rowIn_put size_put putRow_drew putRow_drewN alloc_drewN setCell_drewN Cp.at16 Cp.at17 Cp.at18 Cp.at19 Cp.at20 Cp.at21 Cp.size Cp.set16 Cp.set17 Cp.set18 Cp.set19 Cp.set20 Cp.set21 In.at0 In.at1 In.at2 In.at3 In.at4 In.at5 In.at6 In.at7 In.size In.set0 In.set1 In.set2 In.set3 In.ne Cp.ne In.set4 In.set5 In.set6 In.set7

def Keeps (w : World) (rows : List (Nat × Array Value)) (X : World) : Prop := Below w.heap.size w X ∧ ∀ r ∈ rows, rowAt X r.1 = some r.2 ∧ roomAt X r.1 r.2.size = true ∧ r.1 < X.heap.size
theorem Keeps.call {w : World} {rows : List (Nat × Array Value)} {X w1 : World} (hb : Below X.heap.size X w1) (h : Keeps w rows X) : Keeps w rows w1 :=
  ⟨h.1.trans (hb.mono h.1.size), fun r hr => ⟨(rowAt_below hb _ (h.2 r hr).2.2).trans (h.2 r hr).1, (roomAt_below hb _ _ (h.2 r hr).2.2).trans (h.2 r hr).2.1, Nat.lt_of_lt_of_le (h.2 r hr).2.2 hb.size⟩⟩
theorem Keeps.row {w : World} {rows : List (Nat × Array Value)} {X : World} (h : Keeps w rows X) {b : Nat} {c : Array Value} (hr : (b, c) ∈ rows) : rowAt X b = some c := (h.2 _ hr).1
theorem Keeps.room {w : World} {rows : List (Nat × Array Value)} {X : World} (h : Keeps w rows X) {b : Nat} {c : Array Value} (hr : (b, c) ∈ rows) : roomAt X b c.size = true := (h.2 _ hr).2.1
theorem Keeps.cell {w : World} {rows : List (Nat × Array Value)} {X : World} (h : Keeps w rows X) {b : Nat} {c : Array Value} (hr : (b, c) ∈ rows) (j : Nat) : X.cell? ⟨b, j, none⟩ = c[j]? := rowAt_cell (h.row hr) j
theorem Keeps.drew {w : World} {rows : List (Nat × Array Value)} {X : World} (h : Keeps w rows X) : Keeps w rows X.drew := ⟨h.1.drew, h.2⟩
theorem Keeps.new {w : World} {rows : List (Nat × Array Value)} {X : World} (h : Keeps w rows X) (c : Array Value) (t : TypeId) : Keeps w ((X.heap.size, c) :: rows) (X.alloc (.cells c t)) :=
  ⟨h.1.alloc h.1.size _, fun r hr => by
    rcases List.mem_cons.1 hr with rfl | hr
    · exact ⟨rowAt_new _ _ _ _, roomAt_new _ _ _ _ _ rfl rfl, by simp⟩
    · have := h.2 r hr
      exact ⟨(rowAt_old _ _ _ (Nat.ne_of_lt this.2.2)).trans this.1, (roomAt_old _ _ _ _ this.2.2).trans this.2.1, by simp; omega⟩⟩
theorem Keeps.refl (w : World) : Keeps w [] w := ⟨Below.refl _ _, fun r hr => by cases hr⟩
/-- The state of a drawn region over three rows, two of which are read. -/
theorem Keeps.three {w X : World} {b1 b2 b3 : Nat} {c1 c2 c3 : Array Value} (k : Keeps w [(b3, c3), (b2, c2), (b1, c1)] X) :
    Keeps w [(b3, c3), (b2, c2), (b1, c1)] X ∧ rowAt X b1 = some c1 ∧ rowAt X b2 = some c2 ∧ (∀ j, X.cell? ⟨b1, j, none⟩ = c1[j]?) ∧ (∀ j, X.cell? ⟨b2, j, none⟩ = c2[j]?) :=
  ⟨k, k.row (by simp), k.row (by simp), k.cell (by simp), k.cell (by simp)⟩
theorem Keeps.step3 {w X w1 : World} {b1 b2 b3 : Nat} {c1 c2 c3 : Array Value} (hb : Below X.heap.size X w1) (h : Keeps w [(b3, c3), (b2, c2), (b1, c1)] X ∧ rowAt X b1 = some c1 ∧ rowAt X b2 = some c2 ∧ (∀ j, X.cell? ⟨b1, j, none⟩ = c1[j]?) ∧ (∀ j, X.cell? ⟨b2, j, none⟩ = c2[j]?)) :
    Keeps w [(b3, c3), (b2, c2), (b1, c1)] w1 ∧ rowAt w1 b1 = some c1 ∧ rowAt w1 b2 = some c2 ∧ (∀ j, w1.cell? ⟨b1, j, none⟩ = c1[j]?) ∧ (∀ j, w1.cell? ⟨b2, j, none⟩ = c2[j]?) := (h.1.call hb).three
theorem keeps3 (w : World) (c1 c2 c3 : Array Value) (t1 t2 t3 : TypeId) : Keeps w [(w.heap.size + 2, c3), (w.heap.size + 1, c2), (w.heap.size, c1)] (((w.alloc (.cells c1 t1)).alloc (.cells c2 t2)).alloc (.cells c3 t3)) := by
  have := (((Keeps.refl w).new c1 t1).new c2 t2).new c3 t3
  simpa using this
def Cp.wrote (c : Cp) (a x : Int) : Cp := { c.setR a.toNat x with N := fldI x 31 1 == 1, Z := x == 0, PC := (c.PC + 4) % 4294967296 }
theorem write_any (c : Cp) (a x : Int) (w : World) (h0 : 0 ≤ a) (h1 : a < 16) (h2 : 0 ≤ x) (h3 : x ≤ 4294967295) :
    Calls Tryz.prog 131 #[.agg c.cells, .int .i64 a, .int .u32 x] w fun e w' => e = .returned (.agg (c.wrote a x).cells) ∧ Below w.heap.size w w' := by
  have hs := Cp.setAt c a.toNat x (by omega)
  have hr := Cp.atR c a.toNat (by omega)
  go_enter Tryz.func131, Tryz.ntmps131
  go_wp2_with (go_at_call 122; refine (field_at _ _ _ _ h2 h3 (by omega) (by omega) (by omega) (by omega)).mono ?_; rintro e w' ⟨rfl, n, rfl⟩)
  refine ret_cell1 rfl rfl (loadCpu_row (c := c.wrote a x) ?_) rfl ⟨rfl, ?_⟩
  · simp [go_sem]; rfl
  · refine bdrewN ?_ _; go_grown
theorem operand_reg (c : Cp) (i : In) (w : World) (hF : i.F = 0) (c0 : 0 ≤ i.C) (c1 : i.C < 16) : Calls Tryz.prog 133 #[.agg c.cells, .agg i.cells] w fun e w' => e = .returned (.int .u32 (c.R i.C.toNat)) ∧ Below w.heap.size w w' := by
  have hr := Cp.atR c i.C.toNat (by omega)
  go_enter Tryz.func133, Tryz.ntmps133
  go_wp2
  go_ret
  exact ⟨rfl, by go_grown⟩
def Cp.added (c : Cp) (i : In) (b x : Int) : Cp := ({ c with C := addC b x (i.U && c.C), V := addV b x (i.U && c.C) } : Cp).wrote i.A (addS b x (i.U && c.C))
theorem cadd_any (c : Cp) (i : In) (b x : Int) (w : World) (a0 : 0 ≤ i.A) (a1 : i.A < 16) (b0 : 0 ≤ b) (b1 : b ≤ 4294967295) (x0 : 0 ≤ x) (x1 : x ≤ 4294967295) :
    Calls Tryz.prog 135 #[.agg c.cells, .agg i.cells, .int .u32 b, .int .u32 x] w fun e w' => e = .returned (.agg (c.added i b x).cells) ∧ Below w.heap.size w w' := by
  cases hU : i.U
  all_goals
    go_enter Tryz.func135, Tryz.ntmps135
    go_wp2_with (first | (go_at_call 147; refine (add_any _ _ _ _ b0 b1 x0 x1).mono ?_; rintro e w' ⟨rfl, hx⟩; obtain rfl := hx.symm; clear hx) | (go_at_call 131; refine (write_any _ _ _ _ a0 a1 (by unfold addS; omega) (by unfold addS; omega)).mono ?_; rintro e w1 ⟨rfl, hb⟩; have hr1 : roomAt w1 (w.heap.size + 2) 22 = true := (roomAt_below hb _ _ (by simp)).trans (roomCpu_new _ _ _ _ (by simp))))
    refine ret_cell1 rfl rfl (loadCpu_row (rowCpu_put _ _ _ hr1)) rfl ⟨?_, below_put (Below.trans (by go_grown) (hb.mono (by simp; omega))) _ (by omega) _⟩
    simp [Cp.added, hU]
end Go.Proofs.YteegkhnikcioiaaGreatDoor.Cpu

namespace Go.Proofs.YteegkhnikcioiaaGreatDoor.Cpu
open Go.ChangeShapes Go.WideShapes Go.ChangeAt Go.RowKit
attribute [local go_sem ↓] loadCpu_seal storeCpu_seal loadIn_seal storeIn_seal
attribute [local go_sem] loadCpu_run storeCpu_run loadIn_run storeIn_run rowAt_at rowAt_past rowAt_drew rowAt_drewN roomCpu_new roomIn_new roomAt_old roomAt_drew roomAt_drewN putCpu_new putIn_new Cp.zero_fold In.fold putRow_past rowCpu_put rowIn_put size_put putRow_drew putRow_drewN alloc_drewN setCell_drewN Cp.at16 Cp.at17 Cp.at18 Cp.at19 Cp.at20 Cp.at21 Cp.size Cp.set16 Cp.set17 Cp.set18 Cp.set19 Cp.set20 Cp.set21 In.at0 In.at1 In.at2 In.at3 In.at4 In.at5 In.at6 In.at7 In.size In.set0 In.set1 In.set2 In.set3 In.ne Cp.ne In.set4 In.set5 In.set6 In.set7

def Cp.lits (c : Cp) : List Lit := [.int .u32 (c.R 0), .int .u32 (c.R 1), .int .u32 (c.R 2), .int .u32 (c.R 3), .int .u32 (c.R 4), .int .u32 (c.R 5), .int .u32 (c.R 6), .int .u32 (c.R 7), .int .u32 (c.R 8), .int .u32 (c.R 9), .int .u32 (c.R 10), .int .u32 (c.R 11), .int .u32 (c.R 12), .int .u32 (c.R 13), .int .u32 (c.R 14), .int .u32 (c.R 15), .int .u32 c.H, .bool c.N, .bool c.Z, .bool c.C, .bool c.V, .int .u32 c.PC]
theorem wf_u32 {z : Int} (h : 0 ≤ z ∧ z ≤ 4294967295) : (Lit.int .u32 z).wf = true := by simpa [Lit.wf, IntKind.min, IntKind.max, IntKind.signed, IntKind.bits] using h
theorem Tryz.cellsC : Tryz.prog.cellsOf 45 = 22 := by kernel_rfl
theorem Tryz.cellsA : Tryz.prog.cellsOf 43 = 16 := by kernel_rfl
theorem Tryz.cellsU : Tryz.prog.cellsOf 23 = 1 := by kernel_rfl
theorem Tryz.cellsB : Tryz.prog.cellsOf 4 = 1 := by kernel_rfl
theorem kl_u32 (d : Nat) {z : Int} (h : 0 ≤ z ∧ z ≤ 4294967295) : Tryz.prog.keyLits (d + 1) 23 [.int .u32 z] = some [.int .u32 z] := by
  simp [Program.keyLits, Tryz.underlying23, wf_u32 h]
theorem kl_bool (d : Nat) (b : Bool) : Tryz.prog.keyLits (d + 1) 4 [.bool b] = some [.bool b] := by
  simp [Program.keyLits, Tryz.underlying4]
theorem kl_regs (d : Nat) (c : Cp) (h : c.Ok) : Tryz.prog.keyLits (d + 2) 43 (c.cells.toList.take 16) = some (c.lits.take 16) := by
  have k : ∀ i, i < 16 → Tryz.prog.keyLits (d + 1) 23 [.int .u32 (c.R i)] = some [.int .u32 (c.R i)] := fun i hi => kl_u32 d (h.R i hi)
  unfold Program.keyLits
  simp [Tryz.underlying43, Tryz.cellsA, Tryz.cellsU, Cp.cells, Cp.lits, List.range, List.range.loop, k]
theorem kl_cpu (c : Cp) (h : c.Ok) : Tryz.prog.keyLits 3 45 c.cells.toList = some c.lits := by
  have r := kl_regs 0 c h
  unfold Program.keyLits
  simp only [Cp.cells, Cp.lits] at r ⊢
  simp [Tryz.underlying45, Tryz.cellsC, Tryz.cellsA, Tryz.cellsU, Tryz.cellsB, kl_u32 1 h.H, kl_u32 1 h.PC, kl_bool] at r ⊢
  simp [r]
theorem eq_cpu (a b : Cp) (ha : a.Ok) (hb : b.Ok) (w : World) : ∃ r : Bool, (Op.equalIn 10000 45 (.agg a.cells) (.agg b.cells)).run Tryz.prog w = .ok r w ∧ (r = true ↔ a.lits = b.lits) :=
  run_equalIn_deep 9997 3 45 (by kernel_rfl) w 3 3 (.agg a.cells) (.agg b.cells) a.lits b.lits (by kernel_rfl) (by kernel_rfl) (kl_cpu a ha) (kl_cpu b hb)
def eqlCpu (x y : Value) : Sem Value := binOp .eql 45 x y
theorem eqlCpu_seal (x y : Value) : binOp .eql 45 x y = eqlCpu x y := rfl
theorem eqlCpu_ne (a b : Cp) (ha : a.Ok) (hb : b.Ok) (h : a.PC ≠ b.PC) (w : World) : (eqlCpu (.agg a.cells) (.agg b.cells)).run Tryz.prog w = .ok (.bool false) w := by
  obtain ⟨r, hr, hi⟩ := eq_cpu a b ha hb w
  have hf : r = false := by
    cases r
    · rfl
    · have := hi.1 rfl
      simp only [Cp.lits, List.cons.injEq, Lit.int.injEq] at this
      exact absurd (by simp_all) h
  rw [eqlCpu, run_eql_struct, hr, hf]; rfl
theorem eqlCpu_same (a : Cp) (ha : a.Ok) (w : World) : (eqlCpu (.agg a.cells) (.agg a.cells)).run Tryz.prog w = .ok (.bool true) w := by
  obtain ⟨r, hr, hi⟩ := eq_cpu a a ha ha w
  rw [eqlCpu, run_eql_struct, hr, hi.2 rfl]; rfl
end Go.Proofs.YteegkhnikcioiaaGreatDoor.Cpu

namespace Go.Proofs.YteegkhnikcioiaaGreatDoor.Cpu
open Go.ChangeShapes Go.WideShapes Go.ChangeAt Go.RowKit
attribute [local go_sem ↓] loadCpu_seal storeCpu_seal loadIn_seal storeIn_seal
attribute [local go_sem] loadCpu_run storeCpu_run loadIn_run storeIn_run rowAt_at rowAt_past rowAt_drew rowAt_drewN roomCpu_new roomIn_new roomAt_old roomAt_drew roomAt_drewN putCpu_new putIn_new Cp.zero_fold In.fold putRow_past rowCpu_put rowIn_put size_put putRow_drew putRow_drewN alloc_drewN setCell_drewN Cp.at16 Cp.at17 Cp.at18 Cp.at19 Cp.at20 Cp.at21 Cp.size Cp.set16 Cp.set17 Cp.set18 Cp.set19 Cp.set20 Cp.set21 In.at0 In.at1 In.at2 In.at3 In.at4 In.at5 In.at6 In.at7 In.size In.set0 In.set1 In.set2 In.set3 In.ne Cp.ne In.set4 In.set5 In.set6 In.set7
attribute [local go_sem ↓] eqlCpu_seal

theorem setR_ok (c : Cp) (h : c.Ok) (a : Nat) (x : Int) (h0 : 0 ≤ x) (h1 : x ≤ 4294967295) : (c.setR a x).Ok :=
  ⟨fun i hi => by
    show 0 ≤ (if i = a then x else c.R i) ∧ (if i = a then x else c.R i) ≤ 4294967295
    split
    · exact ⟨h0, h1⟩
    · exact h.R i hi, h.H, h.PC⟩
theorem wrote_ok (c : Cp) (h : c.Ok) (a x : Int) (h0 : 0 ≤ x) (h1 : x ≤ 4294967295) : (c.wrote a x).Ok :=
  ⟨(setR_ok c h a.toNat x h0 h1).R, h.H, by show 0 ≤ (c.PC + 4) % 4294967296 ∧ (c.PC + 4) % 4294967296 ≤ 4294967295; omega⟩
theorem added_ok (c : Cp) (i : In) (b x : Int) (h : c.Ok) : (c.added i b x).Ok :=
  wrote_ok ({ c with C := addC b x (i.U && c.C), V := addV b x (i.U && c.C) } : Cp) ⟨h.R, h.H, h.PC⟩ i.A (addS b x (i.U && c.C)) (by unfold addS; omega) (by unfold addS; omega)
theorem operate_add (c : Cp) (i : In) (w : World) (hc : c.Ok) (hF : i.F = 0) (hO : i.O = 8) (hA : 0 ≤ i.A ∧ i.A < 16) (hB : 0 ≤ i.B ∧ i.B < 16) (hC : 0 ≤ i.C ∧ i.C < 16) :
    Calls Tryz.prog 107 #[.agg c.cells, .agg i.cells] w fun e w' => e = .returned (.agg (c.added i (c.R i.B.toNat) (c.R i.C.toNat)).cells) ∧ Below w.heap.size w w' := by
  have hrb := Cp.atR c i.B.toNat (by omega)
  have HB := hc.R i.B.toNat (by omega)
  have HC := hc.R i.C.toNat (by omega)
  obtain ⟨b0, b1⟩ := hB
  have K0 : Hid (Keeps w [(w.heap.size + 2, Cp.zero.cells), (w.heap.size + 1, i.cells), (w.heap.size, c.cells)] (((w.alloc (.cells c.cells 45)).alloc (.cells i.cells 123)).alloc (.cells Cp.zero.cells 45))) := keeps3 w _ _ _ _ _ _
  go_enter Tryz.func107, Tryz.ntmps107
  go_wp2
  go_region_held3 (fun X => Keeps w [(w.heap.size + 2, Cp.zero.cells), (w.heap.size + 1, i.cells), (w.heap.size, c.cells)] X ∧ rowAt X w.heap.size = some c.cells ∧ rowAt X (w.heap.size + 1) = some i.cells ∧ (∀ j, X.cell? ⟨w.heap.size, j, none⟩ = c.cells[j]?) ∧ (∀ j, X.cell? ⟨w.heap.size + 1, j, none⟩ = i.cells[j]?)) (first | exact Keeps.three (Keeps.drew K0.out) | exact Keeps.step3 (by assumption) (by assumption)) (first | (go_at_call 133; refine (operand_reg c i _ hF hC.1 hC.2).mono ?_; rintro e w1 ⟨rfl, hb⟩))
  rename_i hh
  obtain ⟨hk, r1, r2, l1, l2⟩ := hh
  have HK : Hid (Keeps w [(w.heap.size + 2, Cp.zero.cells), (w.heap.size + 1, i.cells), (w.heap.size, c.cells)] w1) := hk
  clear hk hb K0
  go_wp2_with (go_at_call 135; refine (cadd_any c i _ _ _ hA.1 hA.2 HB.1 HB.2 HC.1 HC.2).mono ?_; rintro e w2 ⟨rfl, hb2⟩; have hr2 : roomAt w2 (w.heap.size + 2) 22 = true := (HK.out.call hb2).room (c := Cp.zero.cells) (by simp))
  exact ret_cell1 rfl rfl (loadCpu_row (rowCpu_put _ _ _ hr2)) rfl ⟨rfl, below_put (HK.out.call hb2).1 _ (by omega) _⟩
theorem exec_add (c : Cp) (i : In) (x : Int) (w : World) (hw : Ways w) (hc : c.Ok) (hr : rightB i = true) (hF : i.F = 0) (hO : i.O = 8) :
    Calls Tryz.prog 68 #[.agg c.cells, .agg i.cells, .int .u32 x] w fun e w' => e = .returned (.tuple #[.agg (c.added i (c.R i.B.toNat) (c.R i.C.toNat)).cells, .int .i64 0, .bool false]) ∧ Below w.heap.size w w' := by
  have R := right_bd hr
  have K0 : Hid (Keeps w [(w.heap.size + 2, Cp.zero.cells), (w.heap.size + 1, i.cells), (w.heap.size, c.cells)] (((w.alloc (.cells c.cells 45)).alloc (.cells i.cells 123)).alloc (.cells Cp.zero.cells 45))) := keeps3 w _ _ _ _ _ _
  have HW : Hid (Ways (((w.alloc (.cells c.cells 45)).alloc (.cells i.cells 123)).alloc (.cells Cp.zero.cells 45))) := ((hw.alloc _).alloc _).alloc _
  have hne : ∀ w, (eqlCpu (.agg (c.added i (c.R i.B.toNat) (c.R i.C.toNat)).cells) (.agg c.cells)).run Tryz.prog w = .ok (.bool false) w := eqlCpu_ne _ c (added_ok _ _ _ _ hc) hc (by show (c.PC + 4) % 4294967296 ≠ c.PC; have := hc.PC; omega)
  clear hw
  go_enter Tryz.func68, Tryz.ntmps68
  go_wp2_with (first | (go_at_call 97; refine (right_any i _ HW.out).mono ?_; rw [hr]; rintro e w1 ⟨rfl, hb⟩; have HK : Hid (Keeps w [(w.heap.size + 2, Cp.zero.cells), (w.heap.size + 1, i.cells), (w.heap.size, c.cells)] w1) := K0.out.call hb; have q1 := HK.out.row (b := w.heap.size) (c := c.cells) (by simp); have q2 := HK.out.row (b := w.heap.size + 1) (c := i.cells) (by simp); have q3 := HK.out.cell (b := w.heap.size + 1) (c := i.cells) (by simp)) | (go_at_call 107; refine (operate_add c i _ hc hF hO R.A R.B R.C).mono ?_; rintro e w2 ⟨rfl, hb2⟩; have HK2 : Hid (Keeps w [(w.heap.size + 2, Cp.zero.cells), (w.heap.size + 1, i.cells), (w.heap.size, c.cells)] w2) := HK.out.call hb2; have q4 := HK2.out.row (b := w.heap.size) (c := c.cells) (by simp); have q5 : roomAt w2 (w.heap.size + 1 + 1) 22 = true := HK2.out.room (b := w.heap.size + 2) (c := Cp.zero.cells) (by simp); have q6 : w.heap.size + 1 + 1 < w2.heap.size := (HK2.out.2 (w.heap.size + 2, Cp.zero.cells) (by simp)).2.2; have q7 : w.heap.size < w2.heap.size := by omega))
  exact ret_cell_tmp2 rfl rfl (loadCpu_row ((rowAt_past _ _ _ (by rw [size_put]; exact q6)).trans (rowCpu_put _ _ _ q5))) rfl ⟨rfl, (below_put HK2.out.1 _ (by omega) _).alloc (by rw [size_put]; exact HK2.out.1.size) _⟩
def c0 : Cp := (({ Cp.zero with PC := 100 } : Cp).setR 2 2147483647).setR 3 1
def i0 : In := { F := 0, U := false, V := false, A := 1, B := 2, O := 8, C := 3, N := 0 }
theorem dec0 : decI 19398659 = i0 := by kernel_rfl
theorem dec0_ok : decOk 19398659 = true := by kernel_rfl
theorem i0_right : rightB i0 = true := by kernel_rfl
theorem c0_ok : c0.Ok := setR_ok _ (setR_ok _ ⟨fun _ _ => by simp [Cp.zero], by simp [Cp.zero], by simp⟩ _ _ (by omega) (by omega)) _ _ (by omega) (by omega)
theorem exec_shown (w : World) (hw : Ways w) : Calls Tryz.prog 68 #[.agg c0.cells, .agg i0.cells, .int .u32 0] w fun e w' => ∃ d : Cp, d.R 1 = 2147483648 ∧ d.N = true ∧ d.V = true ∧ d.Z = false ∧ d.C = false ∧ d.PC = 104 ∧ e = .returned (.tuple #[.agg d.cells, .int .i64 0, .bool false]) ∧ Below w.heap.size w w' :=
  (exec_add c0 i0 0 w hw c0_ok i0_right rfl rfl).mono fun e w' ⟨he, hb⟩ => ⟨_, by kernel_rfl, by kernel_rfl, by kernel_rfl, by kernel_rfl, by kernel_rfl, by kernel_rfl, he, hb⟩
theorem decode_shown (w : World) (hw : Ways w) : Calls Tryz.prog 65 #[.int .u32 19398659] w fun e w' => e = .returned (.tuple #[.agg i0.cells, .bool true]) ∧ Below w.heap.size w w' := by
  have := decode_any 19398659 w hw (by omega) (by omega)
  rwa [dec0, dec0_ok] at this
end Go.Proofs.YteegkhnikcioiaaGreatDoor.Cpu
