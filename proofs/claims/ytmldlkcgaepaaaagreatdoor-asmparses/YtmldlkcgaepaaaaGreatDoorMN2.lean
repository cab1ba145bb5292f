/-
  Layer 6's addOperation, the program's: the names of one operation of one format.
-/
import Derived.Test.YtmldlkcgaepaaaaGreatDoorMN1
import Derived.Test.YtmldlkcgaepaaaaGreatDoorMK4
namespace Go.Proofs.YtmldlkcgaepaaaaGreatDoor
set_option linter.unusedVariables false
set_option linter.unusedSimpArgs false
open Go.ChangeShapes Go.WideShapes Go.ChangeAt Go.RowKit
attribute [local go_sem ↓] loadIn_seal storeIn_seal
attribute [local go_sem] loadIn_run storeIn_run rowAt_at rowAt_old rowAt_drew rowAt_drewN roomCpu_new roomIn_new roomAt_old roomAt_drew roomAt_drewN putCpu_new putIn_new Cp.zero_fold In.fold putRow_past rowCpu_put rowIn_put size_put putRow_drew putRow_drewN alloc_drewN setCell_drewN Cp.at16 Cp.at17 Cp.at18 Cp.at19 Cp.at20 Cp.at21 Cp.size Cp.set16 Cp.set17 Cp.set18 Cp.set19 Cp.set20 Cp.set21 In.at0 In.at1 In.at2 In.at3 In.at4 In.at5 In.at6 In.at7 In.size In.set0 In.set1 In.set2 In.set3 In.ne Cp.ne In.set4 In.set5 In.set6 In.set7

theorem Vars.aside {b2 b3 : Nat} {w w' : World} (h : Vars w) (ha : Aside b2 b3 w w') (h2 : 9 ≤ b2) (h3 : 9 ≤ b3) : Vars w' := h.below (ha.below 9 h2 h3 h.big) (Nat.le_refl _)
theorem Aside.row {b2 b3 : Nat} {w w' : World} (ha : Aside b2 b3 w w') {x : Nat} (hx : x < w.heap.size) (n2 : x ≠ b2) (n3 : x ≠ b3) : rowAt w' x = rowAt w x := by unfold rowAt; rw [ha.kept x hx n2 n3]
theorem addN_len (g : Nm) (i : In) : (addN g i).r.length + (addN g i).n.length = g.r.length + g.n.length + 1 := by unfold addN; split <;> simp <;> omega
theorem opN_len (f o : Nat) (g : Nm) : ∀ m, (opN f o g m).r.length + (opN f o g m).n.length ≤ g.r.length + g.n.length + m
  | 0 => by simp [opN]
  | m + 1 => by
    have ih := opN_len f o g m
    unfold opN
    split
    · rw [addN_len]; omega
    · omega
/-- How it lies in addOperation: the maps, the receiver's copy, all else as it was. -/
structure Ad (w X : World) (b0 b1 b2 b3 : Nat) (g : Nm) : Prop where
  two : Two X b2 b3 g
  aside : Aside b2 b3 w X
  row : rowAt X w.heap.size = some #[.map (some b0), .map (some b1), .map (some b2), .map (some b3)]
  vars : Vars X
  lt : w.heap.size < X.heap.size
  lo : b2 < w.heap.size ∧ b3 < w.heap.size ∧ 9 ≤ b2 ∧ 9 ≤ b3
theorem Ad.call {w X Y : World} {b0 b1 b2 b3 : Nat} {g : Nm} (h : Ad w X b0 b1 b2 b3 g) (hb : Below X.heap.size X Y) : Ad w Y b0 b1 b2 b3 g :=
  ⟨h.two.call hb, h.aside.trans (.of hb), (rowAt_below hb _ h.lt).trans h.row, h.vars.call hb, Nat.lt_of_lt_of_le h.lt hb.size, h.lo⟩
theorem Ad.alloc {w X : World} {b0 b1 b2 b3 : Nat} {g : Nm} (h : Ad w X b0 b1 b2 b3 g) (o : Obj) : Ad w (X.alloc o) b0 b1 b2 b3 g := h.call ((Below.refl _ _).alloc (Nat.le_refl _) _)
theorem Ad.step {w X Y : World} {b0 b1 b2 b3 : Nat} {g g' : Nm} (h : Ad w X b0 b1 b2 b3 g) (ht : Two Y b2 b3 g') (ha : Aside b2 b3 X Y) : Ad w Y b0 b1 b2 b3 g' :=
  ⟨ht, h.aside.trans ha, (ha.row h.lt (by have := h.lo; omega) (by have := h.lo; omega)).trans h.row, h.vars.aside ha h.lo.2.2.1 h.lo.2.2.2, Nat.lt_of_lt_of_le h.lt ha.size, h.lo⟩
theorem in_of (f o : Nat) (u v : Bool) (m : Nat) (hu : u = decide (2 ≤ m)) (hv : v = decide (m % 2 = 1)) : inOf f o m = { F := f, U := u, V := v, A := 0, B := 0, O := o, C := 0, N := 0 } := by subst hu hv; rfl
def boolsC : Array Value := #[.bool false, .bool true]
theorem rowAt_new2 (w : World) (o : Obj) (X : Array Value) (t : TypeId) : rowAt ((w.alloc o).alloc (.cells X t)) (w.heap.size + 1) = some X := by
  have h := rowAt_new (w.alloc o) X t (0, 0)
  rwa [show (w.alloc o).heap.size = w.heap.size + 1 by simp] at h
set_option maxRecDepth 20000 in
set_option maxHeartbeats 1000000 in
theorem addOp_any (f o : Nat) (hf : f < 4) (ho : o < 16) {b0 b1 b2 b3 : Nat} {g : Nm} (w : World) (V : Vars w) (T : Two w b2 b3 g) (h2 : 9 ≤ b2) (h3 : 9 ≤ b3) (hfew : g.r.length + g.n.length ≤ 900) :
    Calls Tryz.prog 17 #[.agg #[.map (some b0), .map (some b1), .map (some b2), .map (some b3)], .int .i64 f, .int .i64 o] w fun e w' => e = .returned (.tuple #[]) ∧ Two w' b2 b3 (opN f o g 4) ∧ Aside b2 b3 w w' := by
  have A0 : Ad w (w.alloc (.cells #[.map (some b0), .map (some b1), .map (some b2), .map (some b3)] 34)) b0 b1 b2 b3 g :=
    ⟨T.call ((Below.refl _ _).alloc (Nat.le_refl _) _), .of ((Below.refl _ _).alloc (Nat.le_refl _) _), rowAt_new _ _ _ _, V.alloc _, by simp, T.r.lt, T.n.lt, h2, h3⟩
  have HA : Hid (Ad w (w.alloc (.cells #[.map (some b0), .map (some b1), .map (some b2), .map (some b3)] 34)) b0 b1 b2 b3 g) := A0
  clear V T A0
  go_enter Tryz.func17, Tryz.ntmps17
  go_wp2
  go_loopg [15] 2 (fun gf s15 wx => ∃ k : Nat, k ≤ 2 ∧ 2 ≤ k + gf ∧ s15 = .int .i64 k ∧ Ad w wx b0 b1 b2 b3 (opN f o g (2 * k)) ∧ rowAt wx (w.heap.size + 1) = some boolsC ∧ w.heap.size + 1 < wx.heap.size)
  case atStart => exact ⟨0, by omega, by omega, by go_num, HA.out.alloc _, rowAt_new2 _ _ _ _, by simp⟩
  case round =>
    obtain ⟨k, hk, hg, rfl, hA, hr, hlt⟩ := hrel
    obtain ⟨wo, rfl⟩ : ∃ wo, wo = wr := ⟨_, rfl⟩
    obtain ⟨go, rfl⟩ : ∃ go, go = gk := ⟨_, rfl⟩
    by_cases hk2 : k < 2
    · obtain ⟨g', rfl⟩ : ∃ g', go = g' + 1 := ⟨go - 1, by omega⟩
      have cu : wo.cell? ⟨w.heap.size + 1, k, none⟩ = some (.bool (decide (k = 1))) := (rowAt_cell hr k).trans (by rcases (show k = 0 ∨ k = 1 by omega) with rfl | rfl <;> rfl)
      have HR : Hid (Ad w wo b0 b1 b2 b3 (opN f o g (2 * k)) ∧ rowAt wo (w.heap.size + 1) = some boolsC) := ⟨hA, hr⟩
      have hkd : decide ((k : Int) < 2) = true := by simp; omega
      clear hA hr HA
      go_wp2
      go_loopg [21] 2 (fun gj s21 wx => ∃ j : Nat, j ≤ 2 ∧ 2 ≤ j + gj ∧ s21 = .int .i64 j ∧ Ad w wx b0 b1 b2 b3 (opN f o g (2 * k + j)) ∧ rowAt wx (w.heap.size + 1) = some boolsC ∧ rowAt wx wo.heap.size = some boolsC ∧ wo.heap.size < wx.heap.size)
      case atStart => exact ⟨0, by omega, by omega, by go_num, HR.out.1.alloc _, (rowAt_old _ _ _ (by omega)).trans HR.out.2, rowAt_new _ _ _ _, by simp⟩
      case round =>
        obtain ⟨j, hj, hgj, rfl, hA, hr1, hr2, hlt2⟩ := hrel
        by_cases hj2 : j < 2
        · obtain ⟨gj', rfl⟩ : ∃ g', gk = g' + 1 := ⟨gk - 1, by omega⟩
          have cv : wr.cell? ⟨wo.heap.size, j, none⟩ = some (.bool (decide (j = 1))) := (rowAt_cell hr2 j).trans (by rcases (show j = 0 ∨ j = 1 by omega) with rfl | rfl <;> rfl)
          obtain ⟨m, hm⟩ : ∃ m, m = 2 * k + j := ⟨_, rfl⟩
          have ic := in_of f o (decide (k = 1)) (decide (j = 1)) m (by rw [hm]; exact decide_eq_decide.2 (by omega)) (by rw [hm]; exact decide_eq_decide.2 (by omega))
          have hms : opN f o g (m + 1) = if rightB (inOf f o m) then addN (opN f o g m) (inOf f o m) else opN f o g m := rfl
          have hml := opN_len f o g m
          rw [← hm] at hA
          have EN := fun X V => encode_any (inOf f o m) X V
          have HA2 : Hid (Ad w wr b0 b1 b2 b3 (opN f o g m) ∧ rowAt wr (w.heap.size + 1) = some boolsC ∧ rowAt wr wo.heap.size = some boolsC) := ⟨hA, hr1, hr2⟩
          have hlo := hA.lo
          have hlw := hA.lt
          have hrw := hA.row
          obtain ⟨c0, c1, c2, c3⟩ := row4 _ _ _ _ _ _ hrw
          clear hA hr1 hr2 HR cu
          rw [ic] at hms EN
          cases hri : rightB { F := f, U := decide (k = 1), V := decide (j = 1), A := 0, B := 0, O := o, C := 0, N := 0 }
          · have e0 : encE { F := f, U := decide (k = 1), V := decide (j = 1), A := 0, B := 0, O := o, C := 0, N := 0 } = 20 := by simp [encE, hri]
            rw [e0] at EN
            rw [hri] at hms
            go_wp2_with (go_at_call 25; refine (EN (wr.alloc _) (HA2.out.1.alloc _).vars.ways).mono ?_; rintro e w5 ⟨rfl, hb5⟩; have A5 : Hid (Ad w w5 b0 b1 b2 b3 (opN f o g m) ∧ rowAt w5 (w.heap.size + 1) = some boolsC ∧ rowAt w5 wo.heap.size = some boolsC ∧ wo.heap.size < w5.heap.size) := ⟨(HA2.out.1.alloc _).call hb5, (rowAt_below hb5 _ (by simp; omega)).trans ((rowAt_old _ _ _ (by omega)).trans HA2.out.2.1), (rowAt_below hb5 _ (by simp; omega)).trans ((rowAt_old _ _ _ (by omega)).trans HA2.out.2.2), by have := hb5.size; simp at this; omega⟩)
            go_roundg gj'
            case measure => omega
            case rel => exact ⟨j + 1, by omega, by omega, by go_num, by rw [show 2 * k + (j + 1) = m + 1 by omega, hms]; exact A5.out.1, A5.out.2.1, A5.out.2.2.1, A5.out.2.2.2⟩
          · have e0 : encE { F := f, U := decide (k = 1), V := decide (j = 1), A := 0, B := 0, O := o, C := 0, N := 0 } = 0 := by simp [encE, hri]
            rw [e0] at EN
            rw [hri] at hms
            have hOo : (0 : Int) ≤ o ∧ (o : Int) < 16 := by omega
            have AA := fun X V T => add_any { F := f, U := decide (k = 1), V := decide (j = 1), A := 0, B := 0, O := o, C := 0, N := 0 } hOo (b0 := b0) (b1 := b1) (b2 := b2) (b3 := b3) (g := opN f o g m) X V T (by omega)
            go_wp2_with (first | (go_at_call 25; refine (EN (wr.alloc _) (HA2.out.1.alloc _).vars.ways).mono ?_; rintro e w5 ⟨rfl, hb5⟩; have A5 : Hid (Ad w w5 b0 b1 b2 b3 (opN f o g m) ∧ rowAt w5 (w.heap.size + 1) = some boolsC ∧ rowAt w5 wo.heap.size = some boolsC ∧ wo.heap.size < w5.heap.size) := ⟨(HA2.out.1.alloc _).call hb5, (rowAt_below hb5 _ (by simp; omega)).trans ((rowAt_old _ _ _ (by omega)).trans HA2.out.2.1), (rowAt_below hb5 _ (by simp; omega)).trans ((rowAt_old _ _ _ (by omega)).trans HA2.out.2.2), by have := hb5.size; simp at this; omega⟩; have r5 : rowAt w5 wr.heap.size = some ({ F := f, U := decide (k = 1), V := decide (j = 1), A := 0, B := 0, O := o, C := 0, N := 0 } : In).cells := (rowAt_below hb5 _ (by simp)).trans (rowAt_new _ _ _ _); obtain ⟨d0, d1, d2, d3⟩ := row4 _ _ _ _ _ _ A5.out.1.row) | (go_at_call 40; refine (AA w5 A5.out.1.vars A5.out.1.two).mono ?_; rintro e w6 ⟨rfl, hT6, hA6⟩))
            go_roundg gj'
            case measure => omega
            case rel =>
              have hl := A5.out.1.lo
              have hw5 := A5.out.1.lt
              refine ⟨j + 1, by omega, by omega, by go_num, by rw [show 2 * k + (j + 1) = m + 1 by omega, hms]; exact A5.out.1.step hT6 hA6, (hA6.row (Nat.lt_trans hlt A5.out.2.2.2) (by omega) (by omega)).trans A5.out.2.1, (hA6.row A5.out.2.2.2 (by omega) (by omega)).trans A5.out.2.2.1, Nat.lt_of_lt_of_le A5.out.2.2.2 hA6.size⟩
        · obtain rfl : j = 2 := by omega
          go_wp2
          go_roundg g'
          case measure => omega
          case rel => exact ⟨k + 1, by omega, by omega, by go_num, hA, hr1, Nat.lt_trans hlt hlt2⟩
    · obtain rfl : k = 2 := by omega
      go_wp2
      go_end0
      exact ⟨rfl, hA.two, hA.aside⟩
end Go.Proofs.YtmldlkcgaepaaaaGreatDoor
