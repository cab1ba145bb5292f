/-
  The walk of the law ScanNames: it returns true.
-/
import Derived.Test.YtphogfomlmjeiaaDoorRf1
import Derived.Test.YtphogfomlmjeiaaDoorDr
namespace Go.Proofs.YtphogfomlmjeiaaDoor
set_option linter.unusedVariables false
set_option linter.unusedSimpArgs false
open Go.ChangeShapes Go.WideShapes Go.ChangeAt Go.RowKit
attribute [local go_sem ↓] loadTk_seal storeTk_seal loadKeys_seal loadSigns_seal
attribute [local go_sem] loadTk_run storeTk_run rowAt_at rowAt_old rowAt_drew rowAt_drewN roomTk_new roomAt_old roomAt_drew roomAt_drewN putTk_new Tk.fold putRow_past rowTk_put size_put putRow_drew putRow_drewN alloc_drewN setCell_drewN Tk.at0 Tk.at1 Tk.at2 Tk.at3 Tk.size Tk.set0 Tk.set1 Tk.set2 Tk.set3 Tk.ne rowAt_set rowAt_far roomAt_far

theorem cell_held {w X Y : World} {b o : Nat} {v : Value} (h : X.cell? ⟨b, o, none⟩ = some v ∧ Below w.heap.size w X) (hb : Below X.heap.size X Y) : Y.cell? ⟨b, o, none⟩ = some v ∧ Below w.heap.size w Y :=
  ⟨(hb.cell (p := ⟨b, o, none⟩) (World.block_lt_of_cell? X _ h.1)).trans h.1, h.2.trans (hb.mono h.2.size)⟩
theorem name_a1 : isNameP [97, 49] = true := by decide
theorem name_end : isNameP [69, 78, 68] = false := by decide
set_option maxHeartbeats 4000000 in
set_option maxRecDepth 20000 in
theorem names_walk (a : Option Addr) (len cap : Nat) (f : Nat → Bs) (w : World) (V : KVars w) (h : RdS w a len f) :
    Calls Tryd.prog 4 #[.slice a len cap] w fun e w' => e = .returned (.bool true) ∧ Below w.heap.size w w' := by
  have HV : Hid (KVars w) := V
  have hm := h.1
  have HC : Hid (∀ i, i < len → ∃ b off, a = some ⟨b, off, none⟩ ∧ w.cell? ⟨b, off + i, none⟩ = some (.string (bs (f i))) ∧ (f i).length ≤ 9223372036854775807) := h.2
  clear V h
  go_enter Tryd.func4, Tryd.ntmps4
  go_wp2
  go_loopw [2, 3] (fun s2 x wr => ∃ k : Nat, s2 = .bool false ∧ k ≤ len ∧ x = .int .i64 k ∧ Below w.heap.size w wr) (fun _ x _ => len - (intOf x).toNat)
  case atStart => exact ⟨0, rfl, by omega, rfl, Below.refl _ _⟩
  case round =>
    obtain ⟨k, rfl, hk, rfl, hbel⟩ := hrel
    by_cases hlt : k < len
    · have hd : decide ((k : Int) < len) = true := by simp; omega
      obtain ⟨b, off, rfl, hc, x0⟩ := HC.out k hlt
      have hc1 : wr.cell? ⟨b, off + k, none⟩ = some (.string (bs (f k))) := (hbel.cell (p := ⟨b, _, none⟩) (World.block_lt_of_cell? w _ hc)).trans hc
      generalize f k = x at hc hc1 x0
      have S1 : Hid (∀ X, Below w.heap.size w X → Calls Tryd.prog 12 #[.string (bs x)] X _) := fun X hX => isName_any x x0 X (HV.out.below hX HV.out.big)
      have S2 : Hid (∀ X, Calls Tryd.prog 13 #[.string (bs x)] X _) := fun X => rIsName_any x x0 X
      generalize isNameP x = t at S1 S2
      have s0 : wr.drew.cell? ⟨b, off + k, none⟩ = some (.string (bs x)) ∧ Below w.heap.size w wr.drew := ⟨hc1, hbel.drew⟩
      clear hc x0
      go_wp2_with fail
      first | (go_region_held (fun X => X.cell? ⟨b, off + k, none⟩ = some (.string (bs x)) ∧ Below w.heap.size w X) (first | assumption | exact cell_held (by assumption) (by assumption)) (first
        | (go_at_call 12; refine (S1.out _ (by assumption : _ ∧ Below w.heap.size w _).2).mono ?_; rintro e w1 ⟨rfl, hb1⟩; have s1 := cell_held (by assumption) hb1)
        | (go_at_call 13; refine (S2.out _).mono ?_; rintro e w2 ⟨rfl, hb2⟩; have s2 := cell_held (by assumption) hb2))) | fail
      all_goals
        have hz : Below w.heap.size w _ := (by first | assumption : _ ∧ Below w.heap.size w _).2
        go_wp2_with fail
        go_roundw
        case rel => exact ⟨k + 1, rfl, by omega, by go_num, hz⟩
        case measure => simp [intOf]; omega
    · have hd : decide ((k : Int) < len) = false := by simp; omega
      have V2 : KVars wr := HV.out.below hbel HV.out.big
      have N1 : Hid (∀ X, KVars X → Calls Tryd.prog 12 #[.string { data := #[97, 49] }] X fun e w' => e = .returned (.bool true) ∧ Below X.heap.size X w') := fun X hX => by have := isName_any [97, 49] (by decide) X hX; rw [name_a1] at this; exact this
      have N2 : Hid (∀ X, KVars X → Calls Tryd.prog 12 #[.string { data := #[69, 78, 68] }] X fun e w' => e = .returned (.bool false) ∧ Below X.heap.size X w') := fun X hX => by have := isName_any [69, 78, 68] (by decide) X hX; rw [name_end] at this; exact this
      clear HC
      go_wp2_with (first | (go_at_call 12; have hx := hb1; clear hx; refine (N2.out _ (V2.call hb1)).mono ?_; rintro e w2 ⟨rfl, hb2⟩) | (go_at_call 12; refine (N1.out _ V2).mono ?_; rintro e w1 ⟨rfl, hb1⟩))
      go_ret
      exact ⟨rfl, (hbel.trans (hb1.mono hbel.size)).trans (hb2.mono (Nat.le_trans hbel.size hb1.size))⟩
end Go.Proofs.YtphogfomlmjeiaaDoor
