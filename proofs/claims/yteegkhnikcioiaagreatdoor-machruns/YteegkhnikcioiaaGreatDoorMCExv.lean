/-
  The document's Exec, whole: the same plain answers as the program's.
  The document's branches.
  The document's Exec, whole: the same plain answers as the program's.
-/
import Derived.Test.YteegkhnikcioiaaGreatDoorMCExz
import Derived.Test.YteegkhnikcioiaaGreatDoorMCHol
namespace Go.Proofs.YteegkhnikcioiaaGreatDoor.Cpu
open Go.ChangeShapes Go.WideShapes Go.ChangeAt Go.RowKit
attribute [local go_sem ↓] loadCpu_seal storeCpu_seal loadIn_seal storeIn_seal
attribute [local go_sem] loadCpu_run storeCpu_run loadIn_run storeIn_run rowAt_at rowAt_past rowAt_drew rowAt_drewN roomCpu_new roomIn_new roomAt_old roomAt_drew roomAt_drewN putCpu_new putIn_new Cp.zero_fold In.fold putRow_past rowCpu_put rowIn_put size_put putRow_drew putRow_drewN alloc_drewN setCell_drewN Cp.at16 Cp.at17 Cp.at18 Cp.at19 Cp.at20 Cp.at21 Cp.size Cp.set16 Cp.set17 Cp.set18 Cp.set19 Cp.set20 Cp.set21 In.at0 In.at1 In.at2 In.at3 In.at4 In.at5 In.at6 In.at7 In.size In.set0 In.set1 In.set2 In.set3 In.ne Cp.ne In.set4 In.set5 In.set6 In.set7
attribute [local go_sem ↓] eqlCpu_seal
attribute [local go_sem] put_cell put_room put_froz put16 put21
set_option linter.unusedVariables false

theorem reck_any (c : Cp) (i : In) (w : World) (hc : c.Ok) (hr : rightB i = true) (hF : i.F = 0 ∨ i.F = 1) (h15 : i.O ≠ 15) : Calls Tryz.prog 94 #[.agg c.cells, .agg i.cells] w fun e w' => e = .returned (.tuple #[.agg (c.reck i).cells, .bool (!c.trapsB i)]) ∧ Below w.heap.size w w' := by
  have R := right_bd hr
  have hI := isOp_of R hF
  have HX := opnd_bd c i hc R.C hI
  have hT : i.O ≠ 11 → c.trapsB i = false := fun h => by simp [Cp.trapsB, h15, h]
  rcases op_range hr hF with h | h | h | h | h | h | h
  · have e : c.reck i = c.got i.A (c.movV i (c.opnd i)) := by unfold Cp.reck Cp.got; simp [Cp.operated, h]
    rw [e, hT (by omega)]
    refine rk_mov c i w hc hI R.A R.B R.C h fun h1 h2 => ?_
    have hq : ropB i = true := by
      unfold rightB at hr
      simp [h1] at hr; exact hr.2.2.2.2.2.2
    have hm := may_rop i (.inr ⟨h1, by rcases R.F with ⟨f, _⟩ | ⟨f, q, _⟩ | ⟨f, _⟩ | ⟨f, _⟩ <;> first | omega | exact q⟩)
    rw [hq] at hm
    unfold mayB at hm
    rw [if_neg (by omega), if_neg (by omega), if_neg (by omega), if_pos h] at hm
    simp [h2] at hm
    exact hm.2
  · have e : c.reck i = c.got i.A (combV i.O (c.R i.B.toNat) (c.opnd i)) := by
      unfold Cp.reck Cp.got Cp.operated
      rw [if_neg (by omega), if_neg (by omega), if_neg (by omega), if_neg (by omega), if_neg (by omega), if_neg (by omega)]
    rw [e, hT (by omega)]
    rcases h with h | h | h | h | h | h | h
    · rw [show combV i.O (c.R i.B.toNat) (c.opnd i) = lslK (c.R i.B.toNat) (c.opnd i % 32).toNat by simp [combV, h]]
      exact rk_lsl c i w hc hI R.A R.B R.C h
    · rw [show combV i.O (c.R i.B.toNat) (c.opnd i) = asrK (c.R i.B.toNat) (c.opnd i % 32).toNat by simp [combV, h]]
      exact rk_asr c i w hc hI R.A R.B R.C h
    · rw [show combV i.O (c.R i.B.toNat) (c.opnd i) = rorK (c.R i.B.toNat) (c.opnd i % 32).toNat by simp [combV, h]]
      exact rk_ror c i w hc hI R.A R.B R.C h
    · rw [show combV i.O (c.R i.B.toNat) (c.opnd i) = bits .and .u32 (c.R i.B.toNat) (c.opnd i) by simp [combV, h]]
      exact rk_and c i w hc hI R.A R.B R.C h
    · rw [show combV i.O (c.R i.B.toNat) (c.opnd i) = bits .andNot .u32 (c.R i.B.toNat) (c.opnd i) by simp [combV, h]]
      exact rk_ann c i w hc hI R.A R.B R.C h
    · rw [show combV i.O (c.R i.B.toNat) (c.opnd i) = bits .or .u32 (c.R i.B.toNat) (c.opnd i) by simp [combV, h]]
      exact rk_or c i w hc hI R.A R.B R.C h
    · rw [show combV i.O (c.R i.B.toNat) (c.opnd i) = bits .xor .u32 (c.R i.B.toNat) (c.opnd i) by simp [combV, h]]
      exact rk_xor c i w hc hI R.A R.B R.C h
  · have e : c.reck i = { c.added i (c.R i.B.toNat) (c.opnd i) with PC := c.PC } := by unfold Cp.reck; simp [Cp.operated, h]
    rw [e, hT (by omega)]
    exact rk_add c i w hc hI R.A R.B R.C h
  · have e : c.reck i = { c.subbed i (c.R i.B.toNat) (c.opnd i) with PC := c.PC } := by unfold Cp.reck; simp [Cp.operated, h]
    rw [e, hT (by omega)]
    exact rk_sub c i w hc hI R.A R.B R.C h
  · have e : c.reck i = ({ c with H := mulH (c.R i.B.toNat) (c.opnd i) i.U } : Cp).got i.A (mulL (c.R i.B.toNat) (c.opnd i) i.U) := by
      have : c.operated i = c.multiplied i (c.R i.B.toNat) (c.opnd i) := by simp [Cp.operated, h]
      unfold Cp.reck; rw [this]; rfl
    rw [e, hT (by omega)]
    exact rk_mul c i w hc hI R.A R.B R.C h
  · have eo : c.operated i = c.divided i (c.R i.B.toNat) (c.opnd i) := by simp [Cp.operated, h]
    by_cases hD : 0 < sg (c.opnd i)
    · have hB : divB (c.opnd i) = true := by simpa [divB] using hD
      have e : c.reck i = ({ c with H := divR (c.R i.B.toNat) (c.opnd i) } : Cp).got i.A (divQ (c.R i.B.toNat) (c.opnd i)) := by
        have : c.divided i (c.R i.B.toNat) (c.opnd i) = ({ c with H := divR (c.R i.B.toNat) (c.opnd i) } : Cp).wrote i.A (divQ (c.R i.B.toNat) (c.opnd i)) := if_pos hB
        unfold Cp.reck; rw [eo, this]; rfl
      rw [e, show c.trapsB i = false by simp [Cp.trapsB, h, hB]]
      exact rk_div c i w hc hI R.A R.B R.C h hD
    · have hB : divB (c.opnd i) = false := by simpa [divB] using hD
      have e : c.reck i = c := by
        have : c.divided i (c.R i.B.toNat) (c.opnd i) = c := if_neg (by rw [hB]; decide)
        unfold Cp.reck; rw [eo, this]
      rw [e, show c.trapsB i = true by simp [Cp.trapsB, h, hB]]
      exact rk_divno c i w hc hI R.A R.B R.C h (by omega)
  · exact absurd h h15
end Go.Proofs.YteegkhnikcioiaaGreatDoor.Cpu

namespace Go.Proofs.YteegkhnikcioiaaGreatDoor.Cpu
open Go.ChangeShapes Go.WideShapes Go.ChangeAt Go.RowKit
attribute [local go_sem ↓] loadCpu_seal storeCpu_seal loadIn_seal storeIn_seal
attribute [local go_sem] loadCpu_run storeCpu_run loadIn_run storeIn_run rowAt_at rowAt_past rowAt_drew rowAt_drewN roomCpu_new roomIn_new roomAt_old roomAt_drew roomAt_drewN putCpu_new putIn_new Cp.zero_fold In.fold putRow_past rowCpu_put rowIn_put size_put putRow_drew putRow_drewN alloc_drewN setCell_drewN Cp.at16 Cp.at17 Cp.at18 Cp.at19 Cp.at20 Cp.at21 Cp.size Cp.set16 Cp.set17 Cp.set18 Cp.set19 Cp.set20 Cp.set21 In.at0 In.at1 In.at2 In.at3 In.at4 In.at5 In.at6 In.at7 In.size In.set0 In.set1 In.set2 In.set3 In.ne Cp.ne In.set4 In.set5 In.set6 In.set7
attribute [local go_sem ↓] eqlCpu_seal
set_option linter.unusedVariables false
theorem aim_pc (c : Cp) (n : Int) : (c.PC + 4 + wrap64 (4 * n)) % 4294967296 = (c.on.PC + 4 * n) % 4294967296 := by
  have hp : c.on.PC = (c.PC + 4) % 4294967296 := rfl
  rw [hp]
  unfold wrap64
  omega
attribute [local go_sem] put_cell put_room put_froz put21
/-- What is held behind Holds. -/
structure Held3 (w : World) (c : Cp) (i : In) (X : World) : Prop where
  k : Keeps w [(w.heap.size + 2, Cp.zero.cells), (w.heap.size + 1, i.cells), (w.heap.size, c.cells)] X
  row : rowAt X w.heap.size = some c.cells
  cell : ∀ j, X.cell? ⟨w.heap.size, j, none⟩ = c.cells[j]?
  icell : ∀ j, X.cell? ⟨w.heap.size + 1, j, none⟩ = i.cells[j]?
  r0 : roomAt X w.heap.size 22 = true
  r2 : roomAt X (w.heap.size + 1 + 1) 22 = true
  fr : ∀ j, j < 22 → X.frozen? ⟨w.heap.size, j, none⟩ = false
  set : ∀ v, X.setCell ⟨w.heap.size, 21, none⟩ (.int .u32 v) = putRow X w.heap.size ({ c with PC := v } : Cp).cells
  far : ∀ Z j, (putRow X w.heap.size Z).cell? ⟨w.heap.size + 1, j, none⟩ = i.cells[j]?
theorem Held3.of {w : World} {c : Cp} {i : In} {X : World} (k : Keeps w [(w.heap.size + 2, Cp.zero.cells), (w.heap.size + 1, i.cells), (w.heap.size, c.cells)] X) : Held3 w c i X :=
  ⟨k, k.row (by simp), k.cell (by simp), k.cell (by simp), k.room (b := w.heap.size) (c := c.cells) (by simp), k.room (b := w.heap.size + 2) (c := Cp.zero.cells) (by simp), fun j hj => k.froz (b := w.heap.size) (c := c.cells) (by simp) j (by rw [Cp.size]; exact hj), fun v => row_set (k.room (b := w.heap.size) (c := c.cells) (by simp)) (k.row (by simp)) (Cp.set21 c v), fun Z j => (put_cell_far X _ _ j Z (by omega)).trans (k.cell (by simp) j)⟩
set_option maxHeartbeats 2000000 in
theorem goes_any (c : Cp) (i : In) (w : World) (hC : 0 ≤ i.C ∧ i.C < 16) : Calls Tryz.prog 92 #[.agg c.cells, .agg i.cells] w fun e w' => e = .returned (.agg (c.branched i).cells) ∧ Below w.heap.size w w' := by
  have hrc := Cp.atR c i.C.toNat (by omega)
  have K0 : Hid (Keeps w [(w.heap.size + 2, Cp.zero.cells), (w.heap.size + 1, i.cells), (w.heap.size, c.cells)] (((w.alloc (.cells c.cells 45)).alloc (.cells i.cells 123)).alloc (.cells Cp.zero.cells 45))) := keeps3 w _ _ _ _ _ _
  obtain ⟨c0, c1⟩ := hC
  have hr15 : ∀ d : Cp, d.cells[15]? = some (.int .u32 (d.R 15)) := fun d => Cp.atR d 15 (by omega)
  have hs15 : ∀ X b (d : Cp) v, roomAt X b 22 = true → (putRow X b d.cells).setCell ⟨b, 15, none⟩ (.int .u32 v) = putRow X b (d.setR 15 v).cells := fun X b d v h => putR X b 15 d v h (by omega)
  cases hH : holdsB c i.A
  · have e : c.branched i = c.on := by
      unfold Cp.branched
      rw [show holdsB c.on i.A = holdsB c i.A from rfl, hH]; rfl
    rw [e]
    go_enter Tryz.func92, Tryz.ntmps92
    go_wp2_with (go_at_call 115; refine (rholds_any c i.A _).mono ?_; rintro e w1 ⟨rfl, hb⟩; have HK : Hid (Held3 w c i w1) := Held3.of (K0.out.call hb); have q1 := HK.out.row; have q2 := HK.out.cell; have q3 := HK.out.icell; have q4 := HK.out.r0; have q5 := HK.out.r2; have q6 := HK.out.fr 21 (by omega); have q7 := HK.out.set; have q8 := HK.out.far; rw [hH]; clear hb)
    exact ret_cell1 rfl rfl (loadCpu_row (rowCpu_put _ _ _ (by rw [put_room _ _ _ _ _ q4]; exact q5))) rfl ⟨rfl, below_put (below_put HK.out.k.1 _ (Nat.le_refl _) _) _ (by omega) _⟩
  · have e : c.branched i = c.aimed i := by
      unfold Cp.branched
      rw [show holdsB c.on i.A = holdsB c i.A from rfl, hH]; rfl
    rw [e]
    cases hU : i.U
    all_goals cases hV : i.V
    all_goals
      go_enter Tryz.func92, Tryz.ntmps92
      go_wp2_with (go_at_call 115; refine (rholds_any c i.A _).mono ?_; rintro e w1 ⟨rfl, hb⟩; have HK : Hid (Held3 w c i w1) := Held3.of (K0.out.call hb); have q1 := HK.out.row; have q2 := HK.out.cell; have q3 := HK.out.icell; have q4 := HK.out.r0; have q5 := HK.out.r2; have q6 := HK.out.fr 21 (by omega); have q7 := HK.out.set; have q8 := HK.out.far; rw [hH]; clear hb)
      refine ret_cell1 rfl rfl (loadCpu_row (rowCpu_put _ _ _ (by rw [put_room _ _ _ _ _ q4]; exact q5))) rfl ⟨?_, below_put (below_put HK.out.k.1 _ (Nat.le_refl _) _) _ (by omega) _⟩
      unfold Cp.aimed
      simp only [hU, hV, Bool.false_eq_true, if_false, if_true]
      first | rfl | (rw [aim_pc]; rfl)
end Go.Proofs.YteegkhnikcioiaaGreatDoor.Cpu

namespace Go.Proofs.YteegkhnikcioiaaGreatDoor.Cpu
open Go.ChangeShapes Go.WideShapes Go.ChangeAt Go.RowKit
attribute [local go_sem ↓] loadCpu_seal storeCpu_seal loadIn_seal storeIn_seal
attribute [local go_sem] loadCpu_run storeCpu_run loadIn_run storeIn_run rowAt_at rowAt_past rowAt_drew rowAt_drewN roomCpu_new roomIn_new roomAt_old roomAt_drew roomAt_drewN putCpu_new putIn_new Cp.zero_fold In.fold putRow_past rowCpu_put rowIn_put size_put putRow_drew putRow_drewN alloc_drewN setCell_drewN Cp.at16 Cp.at17 Cp.at18 Cp.at19 Cp.at20 Cp.at21 Cp.size Cp.set16 Cp.set17 Cp.set18 Cp.set19 Cp.set20 Cp.set21 In.at0 In.at1 In.at2 In.at3 In.at4 In.at5 In.at6 In.at7 In.size In.set0 In.set1 In.set2 In.set3 In.ne Cp.ne In.set4 In.set5 In.set6 In.set7
attribute [local go_sem ↓] eqlCpu_seal
attribute [local go_sem] put_cell put_room put_froz put21
set_option linter.unusedVariables false

theorem operated_pc (c : Cp) (i : In) (hc : c.Ok) (hr : rightB i = true) (hF : i.F = 0 ∨ i.F = 1) (ht : c.trapsB i = false) : (c.operated i).PC = (c.PC + 4) % 4294967296 := by
  simp only [Cp.trapsB, Bool.or_eq_false_iff, decide_eq_false_iff_not, Bool.and_eq_false_iff, Bool.not_eq_false'] at ht
  rcases op_range hr hF with h | h | h | h | h | h | h
  · have e : c.operated i = c.wrote i.A (c.movV i (c.opnd i)) := by simp [Cp.operated, h]
    rw [e]; rfl
  · have e : c.operated i = c.wrote i.A (combV i.O (c.R i.B.toNat) (c.opnd i)) := by unfold Cp.operated; rw [if_neg (by omega), if_neg (by omega), if_neg (by omega), if_neg (by omega), if_neg (by omega), if_neg (by omega)]
    rw [e]; rfl
  · have e : c.operated i = c.added i (c.R i.B.toNat) (c.opnd i) := by simp [Cp.operated, h]
    rw [e]; rfl
  · have e : c.operated i = c.subbed i (c.R i.B.toNat) (c.opnd i) := by simp [Cp.operated, h]
    rw [e]; rfl
  · have e : c.operated i = c.multiplied i (c.R i.B.toNat) (c.opnd i) := by simp [Cp.operated, h]
    rw [e]; rfl
  · have hB : divB (c.opnd i) = true := by rcases ht.2 with q | q; exact absurd h q; exact q
    have e : c.operated i = ({ c with H := divR (c.R i.B.toNat) (c.opnd i) } : Cp).wrote i.A (divQ (c.R i.B.toNat) (c.opnd i)) := by simp [Cp.operated, h, Cp.divided, hB]
    rw [e]; rfl
  · exact absurd h ht.1
/-- Four rows: of the arguments, of the result, of what is reckoned. -/
structure Held4 (w : World) (c : Cp) (i : In) (g : Nat) (d : Cp) (X : World) : Prop where
  k : Keeps w [(g, d.cells), (w.heap.size + 2, Cp.zero.cells), (w.heap.size + 1, i.cells), (w.heap.size, c.cells)] X
  lt : w.heap.size + 2 < g
  row : rowAt X w.heap.size = some c.cells
  cell : ∀ j, X.cell? ⟨w.heap.size, j, none⟩ = c.cells[j]?
  icell : ∀ j, X.cell? ⟨w.heap.size + 1, j, none⟩ = i.cells[j]?
  irow : rowAt X (w.heap.size + 1) = some i.cells
  drow : rowAt X g = some d.cells
  r2 : roomAt X (w.heap.size + 1 + 1) 22 = true
  rg : roomAt X g 22 = true
  dcell : ∀ j, X.cell? ⟨g, j, none⟩ = d.cells[j]?
  fr : ∀ j, j < 22 → X.frozen? ⟨g, j, none⟩ = false
  set : ∀ v, X.setCell ⟨g, 21, none⟩ (.int .u32 v) = putRow X g ({ d with PC := v } : Cp).cells
  far : ∀ Z j, (putRow X g Z).cell? ⟨w.heap.size, j, none⟩ = c.cells[j]?
  farI : ∀ Z j, (putRow X g Z).cell? ⟨w.heap.size + 1, j, none⟩ = i.cells[j]?
  rfar : ∀ Z, rowAt (putRow X g Z) w.heap.size = some c.cells
theorem Held4.of {w : World} {c : Cp} {i : In} {g : Nat} {d : Cp} {X : World} (lt : w.heap.size + 2 < g) (k : Keeps w [(g, d.cells), (w.heap.size + 2, Cp.zero.cells), (w.heap.size + 1, i.cells), (w.heap.size, c.cells)] X) : Held4 w c i g d X :=
  ⟨k, lt, k.row (by simp), k.cell (by simp), k.cell (by simp), k.row (by simp), k.row (by simp), k.room (b := w.heap.size + 2) (c := Cp.zero.cells) (by simp), k.room (b := g) (c := d.cells) (by simp), k.cell (by simp), fun j hj => k.froz (b := g) (c := d.cells) (by simp) j (by rw [Cp.size]; exact hj), fun v => row_set (k.room (b := g) (c := d.cells) (by simp)) (k.row (by simp)) (Cp.set21 d v), fun Z j => (put_cell_far X _ _ j Z (by omega)).trans (k.cell (by simp) j), fun Z j => (put_cell_far X _ _ j Z (by omega)).trans (k.cell (by simp) j), fun Z => (put_row_far X _ _ Z (by omega)).trans (k.row (by simp))⟩
theorem Held4.new {w : World} {c : Cp} {i : In} {X : World} (h : Held3 w c i X) (d : Cp) (t : TypeId) : Held4 w c i X.heap.size d (X.alloc (.cells d.cells t)) := Held4.of (h.k.2 (w.heap.size + 2, Cp.zero.cells) (by simp)).2.2 (h.k.new d.cells t)
theorem Held4.call {w : World} {c : Cp} {i : In} {g : Nat} {d : Cp} {X Y : World} (h : Held4 w c i g d X) (hb : Below X.heap.size X Y) : Held4 w c i g d Y := Held4.of h.lt (h.k.call hb)
theorem rowAt_cpu_old (w : World) (o : Obj) (b : Nat) (h : b < w.heap.size) {Z : Array Value} (hr : rowAt w b = some Z) : rowAt (w.alloc o) b = some Z := (rowAt_past w o b h).trans hr
/-- Behind a store into the fourth row, and one block more. -/
structure Laid4 (w : World) (c : Cp) (g : Nat) (X : World) : Prop where
  y1 : ∀ Z o j, ((putRow X g Z).alloc o).cell? ⟨w.heap.size, j, none⟩ = c.cells[j]?
  y2 : ∀ (d : Cp) o j, ((putRow X g d.cells).alloc o).cell? ⟨g, j, none⟩ = d.cells[j]?
  y3 : ∀ (d : Cp) o, ((putRow X g d.cells).alloc o).frozen? ⟨g, 21, none⟩ = false
  y4 : ∀ (d : Cp) o v, ((putRow X g d.cells).alloc o).setCell ⟨g, 21, none⟩ (.int .u32 v) = (putRow X g ({ d with PC := v } : Cp).cells).alloc o
  y5 : ∀ (d : Cp) o, rowAt ((putRow X g d.cells).alloc o) g = some d.cells
  y6 : ∀ (d : Cp) o, roomAt ((putRow X g d.cells).alloc o) (w.heap.size + 1 + 1) 22 = true
theorem Held4.laid {w : World} {c : Cp} {i : In} {g : Nat} {d : Cp} {X : World} (h : Held4 w c i g d X) : Laid4 w c g X := by
  have hg : g < X.heap.size := (h.k.2 (g, d.cells) (by simp)).2.2
  have hl := h.lt
  have hs : ∀ Z, g < (putRow X g Z).heap.size := fun Z => by rw [size_put]; exact hg
  refine ⟨fun Z o j => ?_, fun d o j => ?_, fun d o => ?_, fun d o v => ?_, fun d o => ?_, fun d o => ?_⟩
  · exact (World.cell?_alloc_lt _ _ _ (by have := hs Z; show w.heap.size < _; omega)).trans (h.far Z j)
  · exact (World.cell?_alloc_lt _ _ _ (hs _)).trans (put_cell X g j d h.rg)
  · have r : roomAt ((putRow X g d.cells).alloc o) g 22 = true := by rw [roomAt_old _ _ _ _ (hs _), put_room X g g 22 d h.rg]; exact h.rg
    have := (room_there r 21 (by omega)).2
    simpa using this
  · rw [World.setCell_alloc_past _ _ _ _ (hs _), put21 X g d v h.rg]
  · exact rowAt_cpu_old _ _ _ (hs _) (rowCpu_put X g d h.rg)
  · rw [roomAt_old _ _ _ _ (by have := hs d.cells; omega), put_room X g _ 22 d h.rg]; exact h.r2
theorem rexec_wrong (c : Cp) (i : In) (x : Int) (w : World) (hr : rightB i = false) : Calls Tryz.prog 62 #[.agg c.cells, .agg i.cells, .int .u32 x] w fun e w' => e = .returned (.tuple #[.agg (c).cells, .int .i64 0, .bool false]) ∧ Below w.heap.size w w' := by
  have K0 : Hid (Keeps w [(w.heap.size + 2, Cp.zero.cells), (w.heap.size + 1, i.cells), (w.heap.size, c.cells)] (((w.alloc (.cells c.cells 45)).alloc (.cells i.cells 123)).alloc (.cells Cp.zero.cells 45))) := keeps3 w _ _ _ _ _ _
  go_enter Tryz.func62, Tryz.ntmps62
  go_wp2_with (first | (go_at_call 86; refine (rright_any i _).mono ?_; rw [hr]; rintro e w1 ⟨rfl, hb⟩; have HK : Hid (Held3 w c i w1) := Held3.of (K0.out.call hb); have q1 := HK.out.row; have q4 := HK.out.r2; clear hb))
  exact ret_cell_tmp2 rfl rfl (loadCpu_row (rowCpu_put _ _ _ q4)) rfl ⟨rfl, below_put HK.out.k.1 _ (by omega) _⟩
theorem rexec_branch (c : Cp) (i : In) (x : Int) (w : World) (hr : rightB i = true) (hF : i.F = 3) : Calls Tryz.prog 62 #[.agg c.cells, .agg i.cells, .int .u32 x] w fun e w' => e = .returned (.tuple #[.agg (c.branched i).cells, .int .i64 0, .bool false]) ∧ Below w.heap.size w w' := by
  have R := right_bd hr
  have K0 : Hid (Keeps w [(w.heap.size + 2, Cp.zero.cells), (w.heap.size + 1, i.cells), (w.heap.size, c.cells)] (((w.alloc (.cells c.cells 45)).alloc (.cells i.cells 123)).alloc (.cells Cp.zero.cells 45))) := keeps3 w _ _ _ _ _ _
  go_enter Tryz.func62, Tryz.ntmps62
  go_wp2_with (first
    | (go_at_call 86; refine (rright_any i _).mono ?_; rw [hr]; rintro e w1 ⟨rfl, hb⟩; have HK : Hid (Held3 w c i w1) := Held3.of (K0.out.call hb); have q1 := HK.out.row; have q2 := HK.out.k.row (b := w.heap.size + 1) (c := i.cells) (by simp); have q3 := HK.out.icell; clear hb)
    | (go_at_call 92; refine (goes_any c i _ R.C).mono ?_; rintro e w2 ⟨rfl, hb⟩; have HK2 : Hid (Held3 w c i w2) := Held3.of (HK.out.k.call hb); have q4 := HK2.out.r2; clear hb))
  exact ret_cell_tmp2 rfl rfl (loadCpu_row (rowCpu_put _ _ _ q4)) rfl ⟨rfl, below_put HK2.out.k.1 _ (by omega) _⟩
theorem on_got (c : Cp) (a x : Int) : ({ c.got a x with PC := (c.PC + 4) % 4294967296 } : Cp) = c.wrote a x := rfl
set_option maxHeartbeats 1000000 in
theorem rexec_mem (c : Cp) (i : In) (x : Int) (w : World) (hr : rightB i = true) (hF : i.F = 2) (x0 : 0 ≤ x) (x1 : x ≤ 4294967295) : Calls Tryz.prog 62 #[.agg c.cells, .agg i.cells, .int .u32 x] w fun e w' => e = .returned (.tuple #[.agg (c.transf i x).cells, .int .i64 0, .bool false]) ∧ Below w.heap.size w w' := by
  have R := right_bd hr
  have K0 : Hid (Keeps w [(w.heap.size + 2, Cp.zero.cells), (w.heap.size + 1, i.cells), (w.heap.size, c.cells)] (((w.alloc (.cells c.cells 45)).alloc (.cells i.cells 123)).alloc (.cells Cp.zero.cells 45))) := keeps3 w _ _ _ _ _ _
  cases hU : i.U
  · cases hV : i.V
    all_goals
      go_enter Tryz.func62, Tryz.ntmps62
      go_wp2_with (first
        | (go_at_call 86; refine (rright_any i _).mono ?_; rw [hr]; rintro e w1 ⟨rfl, hb⟩; have HK : Hid (Held3 w c i w1) := Held3.of (K0.out.call hb); have HN : Hid (Held4 w c i w1.heap.size c (w1.alloc (.cells c.cells 45))) := Held4.new HK.out c _; have q1 := HK.out.row; have q3 := HK.out.icell; have n1 := HN.out.row; have n2 := HN.out.icell; clear hb)
        | (go_at_call 93; refine (gets_any c i.A _ _ R.A.1 R.A.2 (by omega) (by omega)).mono ?_; rintro e w2 ⟨rfl, hb⟩; have H2 : Hid (Held4 w c i w1.heap.size c w2) := HN.out.call hb; have m1 := H2.out.far; have m2 := H2.out.r2; have m3 := H2.out.rg; clear hb))
      refine ret_cell_tmp2 rfl rfl (loadCpu_row (rowCpu_put _ _ _ (by rw [put_room _ _ _ _ _ m3]; exact m2))) rfl ⟨?_, below_put (below_put H2.out.k.1 _ (by have := H2.out.lt; omega) _) _ (by omega) _⟩
      simp only [Cp.transf, hU, hV, Bool.false_eq_true, if_false, if_true, on_got]
      rfl
  · have e : c.transf i x = c.on := by simp [Cp.transf, hU]
    rw [e]
    go_enter Tryz.func62, Tryz.ntmps62
    go_wp2_with (first
      | (go_at_call 86; refine (rright_any i _).mono ?_; rw [hr]; rintro e w1 ⟨rfl, hb⟩; have HK : Hid (Held3 w c i w1) := Held3.of (K0.out.call hb); have HN : Hid (Held4 w c i w1.heap.size c (w1.alloc (.cells c.cells 45))) := Held4.new HK.out c _; have q1 := HK.out.row; have q3 := HK.out.icell; have n1 := HN.out.cell; have n2 := HN.out.icell; have n3 := HK.out.r2; have n4 := (HK.out.k.2 (w.heap.size + 2, Cp.zero.cells) (by simp)).2.2; clear hb))
    refine ret_cell_tmp2 rfl rfl (loadCpu_row (c := c.on) ?_) rfl ⟨rfl, ?_⟩
    · rw [rowAt_past _ _ _ (by rw [size_put]; omega)]; exact rowCpu_put _ _ _ n3
    · have hz := below_put HK.out.k.1 (w.heap.size + 1 + 1) (by omega) c.on.cells
      exact hz.alloc hz.size _
set_option maxHeartbeats 1000000 in
theorem rexec_trap (c : Cp) (i : In) (x : Int) (w : World) (hr : rightB i = true) (hF : i.F = 0 ∨ i.F = 1) (hO : i.O = 15) : Calls Tryz.prog 62 #[.agg c.cells, .agg i.cells, .int .u32 x] w fun e w' => e = .returned (.tuple #[.agg c.cells, .int .i64 i.N, .bool true]) ∧ Below w.heap.size w w' := by
  have K0 : Hid (Keeps w [(w.heap.size + 2, Cp.zero.cells), (w.heap.size + 1, i.cells), (w.heap.size, c.cells)] (((w.alloc (.cells c.cells 45)).alloc (.cells i.cells 123)).alloc (.cells Cp.zero.cells 45))) := keeps3 w _ _ _ _ _ _
  rcases hF with hF | hF
  all_goals
    go_enter Tryz.func62, Tryz.ntmps62
    go_upto_region 17 with (first
      | (go_at_call 86; refine (rright_any i _).mono ?_; rw [hr]; rintro e w1 ⟨rfl, hb⟩; have HK : Hid (Held3 w c i w1) := Held3.of (K0.out.call hb); have HN : Hid (Held4 w c i w1.heap.size c (w1.alloc (.cells c.cells 45))) := Held4.new HK.out c _; have q1 := HK.out.row; have q3 := HK.out.icell; have n2 := HN.out.icell; clear hb))
    have s0 := HN.out.row
    have s2 := HN.out.r2
    have hz : Hid (Below w.heap.size w (w1.alloc (.cells c.cells 45))) := HN.out.k.1
    generalize w1.alloc (.cells c.cells 45) = V at *
    go_region_held3 (fun X => rowAt X w.heap.size = some c.cells ∧ (∀ j, X.cell? ⟨w.heap.size + 1, j, none⟩ = i.cells[j]?) ∧ roomAt X (w.heap.size + 1 + 1) 22 = true) (first | exact ⟨s0, n2, s2⟩ | assumption | exact ⟨(put_row_far _ _ _ _ (by omega)).trans s0, fun j => (put_cell_far _ _ _ j _ (by omega)).trans (n2 j), (put_room _ _ _ _ _ s2).trans s2⟩) (fail)
    all_goals go_wp2
    all_goals exact ret_cell_tmp2 rfl rfl (loadCpu_row ((rowAt_drew _ _).trans (rowCpu_put V _ c s2))) rfl ⟨rfl, (below_put hz.out _ (by omega) _).drew⟩
set_option maxHeartbeats 1000000 in
theorem rexec_op (c : Cp) (i : In) (x : Int) (w : World) (hc : c.Ok) (hr : rightB i = true) (hF : i.F = 0 ∨ i.F = 1) (hO : i.O ≠ 15) : Calls Tryz.prog 62 #[.agg c.cells, .agg i.cells, .int .u32 x] w fun e w' => e = .returned (.tuple #[.agg (c.operated i).cells, .int .i64 (if c.trapsB i = true then 6 else 0), .bool (c.trapsB i)]) ∧ Below w.heap.size w w' := by
  have K0 : Hid (Keeps w [(w.heap.size + 2, Cp.zero.cells), (w.heap.size + 1, i.cells), (w.heap.size, c.cells)] (((w.alloc (.cells c.cells 45)).alloc (.cells i.cells 123)).alloc (.cells Cp.zero.cells 45))) := keeps3 w _ _ _ _ _ _
  have HQ : Hid (∀ X, Calls Tryz.prog 94 #[.agg c.cells, .agg i.cells] X fun e w' => e = .returned (.tuple #[.agg (c.reck i).cells, .bool (!c.trapsB i)]) ∧ Below X.heap.size X w') := fun X => reck_any c i X hc hr hF hO
  have ho : (i.O == 15) = false := by simpa using hO
  have hop : c.trapsB i = false → ({ c.reck i with PC := (c.PC + 4) % 4294967296 } : Cp) = c.operated i := fun ht => by
    have := operated_pc c i hc hr hF ht
    unfold Cp.reck
    rw [← this]
  have hst := operated_stays c i
  rcases hF with hF | hF
  all_goals cases ht : c.trapsB i
  all_goals
    go_enter Tryz.func62, Tryz.ntmps62
    go_wp2_with (first
      | (go_at_call 86; refine (rright_any i _).mono ?_; rw [hr]; rintro e w1 ⟨rfl, hb⟩; have HK : Hid (Held3 w c i w1) := Held3.of (K0.out.call hb); have HN : Hid (Held4 w c i w1.heap.size c (w1.alloc (.cells c.cells 45))) := Held4.new HK.out c _; have q1 := HK.out.row; have q3 := HK.out.icell; have n1 := HN.out.row; have n2 := HN.out.icell; have n3 := HN.out.irow; clear hb)
      | (go_at_call 94; refine (HQ.out _).mono ?_; rw [ht]; rintro e w2 ⟨rfl, hb⟩; have H2 : Hid (Held4 w c i w1.heap.size c w2) := HN.out.call hb; have m0 := H2.out.row; have m1 := H2.out.far; have m2 := H2.out.r2; have m3 := H2.out.rg; have m4 := (H2.out.k.2 (w1.heap.size, c.cells) (by simp)).2.2; have m5 := H2.out.lt; have y1 := H2.out.laid.y1; have y2 := H2.out.laid.y2; have y3 := H2.out.laid.y3; have y4 := H2.out.laid.y4; have y5 := H2.out.laid.y5; have y6 := H2.out.laid.y6; have y7 : ∀ o, rowAt (w2.alloc o) w.heap.size = some c.cells := (fun o => rowAt_cpu_old _ _ _ (by omega) m0); have y8 : ∀ o, roomAt (w2.alloc o) (w.heap.size + 1 + 1) 22 = true := (fun o => (roomAt_old _ _ _ _ (by omega)).trans m2); clear hb))
    first
      | exact ret_cell_tmp2 rfl rfl (loadCpu_row (rowCpu_put _ _ _ (y6 _ _))) rfl ⟨by first | rfl | simp, below_put (Below.alloc (below_put H2.out.k.1 w1.heap.size (by omega) _) (below_put H2.out.k.1 w1.heap.size (by omega) _).size _) _ (by omega) _⟩
      | exact ret_cell_tmp2 rfl rfl (loadCpu_row (rowCpu_put _ _ _ (y8 _))) rfl ⟨by first | rfl | (rw [hst ht]; rfl) | simp [hst ht], below_put (Below.alloc H2.out.k.1 H2.out.k.1.size _) _ (by omega) _⟩
theorem rexec_any (c : Cp) (i : In) (x : Int) (w : World) (hc : c.Ok) (x0 : 0 ≤ x) (x1 : x ≤ 4294967295) : Calls Tryz.prog 62 #[.agg c.cells, .agg i.cells, .int .u32 x] w fun e w' => e = .returned (.tuple #[.agg (c.execD i x).cells, .int .i64 (c.execN i), .bool (c.execT i)]) ∧ Below w.heap.size w w' := by
  cases hr : rightB i
  · have e1 : c.execD i x = c := by simp [Cp.execD, hr]
    have e2 : c.execT i = false := by simp [Cp.execT, hr]
    have e3 : c.execN i = 0 := by simp [Cp.execN, e2]
    rw [e1, e2, e3]
    exact rexec_wrong c i x w hr
  · have R := right_bd hr
    have hf : (i.F = 0 ∨ i.F = 1) ∨ i.F = 2 ∨ i.F = 3 := by rcases R.F with ⟨f, _⟩ | ⟨f, _⟩ | ⟨f, _⟩ | ⟨f, _⟩ <;> omega
    rcases hf with hf | hf | hf
    · have e1 : c.execD i x = c.operated i := by unfold Cp.execD; rw [if_pos hr, if_neg (by omega), if_neg (by omega)]
      have e2 : c.execT i = c.trapsB i := by simp [Cp.execT, hr, hf]
      have e3 : c.execN i = if c.trapsB i = true then (if i.O = 15 then i.N else 6) else 0 := by unfold Cp.execN; rw [e2]
      rw [e1, e2, e3]
      by_cases hO : i.O = 15
      · have ht : c.trapsB i = true := by simp [Cp.trapsB, hO]
        rw [operated_stays c i ht, ht, if_pos rfl, if_pos hO]
        exact rexec_trap c i x w hr hf hO
      · simp only [if_neg hO]
        exact rexec_op c i x w hc hr hf hO
    · have e1 : c.execD i x = c.transf i x := by unfold Cp.execD; rw [if_pos hr, if_pos hf]
      have e2 : c.execT i = false := by simp [Cp.execT, hf]
      have e3 : c.execN i = 0 := by simp [Cp.execN, e2]
      rw [e1, e2, e3]
      exact rexec_mem c i x w hr hf x0 x1
    · have e1 : c.execD i x = c.branched i := by unfold Cp.execD; rw [if_pos hr, if_neg (by omega), if_pos hf]
      have e2 : c.execT i = false := by simp [Cp.execT, hf]
      have e3 : c.execN i = 0 := by simp [Cp.execN, e2]
      rw [e1, e2, e3]
      exact rexec_branch c i x w hr hf
end Go.Proofs.YteegkhnikcioiaaGreatDoor.Cpu
