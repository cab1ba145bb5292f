/-
  The walk of the law AsmShows: it returns true.
-/
import Derived.Test.YtkidfnhgknkpiaaGreatDoorR67
import Derived.Test.YtkidfnhgknkpiaaGreatDoorShn6
namespace Go.Proofs.YtkidfnhgknkpiaaGreatDoor
set_option linter.unusedVariables false
set_option linter.unusedSimpArgs false
open Go.ChangeShapes Go.WideShapes Go.ChangeAt Go.RowKit
attribute [local go_sem ↓] loadIn_seal storeIn_seal
attribute [local go_sem] loadIn_run storeIn_run rowAt_at rowAt_old rowAt_drew rowAt_drewN roomCpu_new roomIn_new roomAt_old roomAt_drew roomAt_drewN putCpu_new putIn_new Cp.zero_fold In.fold putRow_past rowCpu_put rowIn_put size_put putRow_drew putRow_drewN alloc_drewN setCell_drewN Cp.at16 Cp.at17 Cp.at18 Cp.at19 Cp.at20 Cp.at21 Cp.size Cp.set16 Cp.set17 Cp.set18 Cp.set19 Cp.set20 Cp.set21 In.at0 In.at1 In.at2 In.at3 In.at4 In.at5 In.at6 In.at7 In.size In.set0 In.set1 In.set2 In.set3 In.ne Cp.ne In.set4 In.set5 In.set6 In.set7

/-- What a walk is told of a row of words that is only read. -/
def RdW (w : World) (a : Option Addr) (len : Nat) (f : Nat → Int) : Prop :=
  len ≤ maxLen ∧ ∀ i, i < len → ∃ b off, a = some ⟨b, off, none⟩ ∧ w.cell? ⟨b, off + i, none⟩ = some (.int .u32 (f i)) ∧ 0 ≤ f i ∧ f i ≤ 4294967295
/-- A slice of words that came in. -/
def IsWords (w : World) (a : Option Addr) (len cap : Nat) (zs : List Int) : Prop :=
  (a = none ∧ len = 0 ∧ cap = 0 ∧ zs = []) ∨
  ∃ x, a = some x ∧ len ≤ cap ∧ cap ≤ maxLen ∧ zs.length = cap ∧ (∀ i, i < zs.length → w.cell? (x.add i) = some (.int .u32 (zs.getD i 0))) ∧ ∀ n ∈ zs, (Lit.int .u32 n).wf = true
theorem rdw_of {w : World} {a : Option Addr} {len cap : Nat} {zs : List Int} (h : IsWords w a len cap zs) : RdW w a len (fun i => zs.getD i 0) := by
  rcases h with ⟨rfl, rfl, rfl, rfl⟩ | ⟨x, rfl, hl, hm, hz, hcell, hwz⟩
  · exact ⟨Nat.zero_le _, fun i hi => by omega⟩
  · refine ⟨Nat.le_trans hl hm, fun i hi => ?_⟩
    obtain ⟨b, off, spot⟩ := x
    have hc := hcell 0 (by omega)
    have hspot : spot = none := by simpa [Addr.add] using World.cell?_spot hc
    subst hspot
    refine ⟨b, off, rfl, ?_⟩
    have h1 := hcell i (by omega)
    have h2 : zs.getD i 0 ∈ zs := by
      rw [List.getD_eq_getElem?_getD, List.getElem?_eq_getElem (show i < zs.length by omega)]
      exact List.getElem_mem _
    refine ⟨?_, bounds_u32 (hwz _ h2)⟩
    by_cases hi0 : i = 0
    · subst hi0; simpa [Addr.add] using h1
    · simpa [Addr.add, hi0] using h1
theorem cell_held {w X Y : World} {b o : Nat} {v : Value} (h : X.cell? ⟨b, o, none⟩ = some v ∧ Below w.heap.size w X) (hb : Below X.heap.size X Y) : Y.cell? ⟨b, o, none⟩ = some v ∧ Below w.heap.size w Y :=
  ⟨(hb.cell (p := ⟨b, o, none⟩) (World.block_lt_of_cell? X _ h.1)).trans h.1, h.2.trans (hb.mono h.2.size)⟩
set_option maxHeartbeats 4000000 in
set_option maxRecDepth 20000 in
theorem shows_walk (a : Option Addr) (len cap : Nat) (f : Nat → Int) (at_ : Int) (w : World) (V : Vars w) (h : RdW w a len f) :
    Calls Tryz.prog 3 #[.slice a len cap, .int .u32 at_] w fun e w' => e = .returned (.bool true) ∧ Below w.heap.size w w' := by
  have HV : Hid (Vars w) := V
  have hm := h.1
  unfold maxLen at hm
  have HC : Hid (∀ i, i < len → ∃ b off, a = some ⟨b, off, none⟩ ∧ w.cell? ⟨b, off + i, none⟩ = some (.int .u32 (f i)) ∧ 0 ≤ f i ∧ f i ≤ 4294967295) := h.2
  clear V h
  go_enter Tryz.func3, Tryz.ntmps3
  go_wp2
  go_loopw [5] (fun x wr => ∃ k : Nat, k ≤ len ∧ x = .int .i64 k ∧ Below w.heap.size w wr) (fun x _ => len - (intOf x).toNat)
  case atStart => exact ⟨0, by omega, rfl, Below.refl _ _⟩
  case round =>
    obtain ⟨k, hk, rfl, hbel⟩ := hrel
    by_cases hlt : k < len
    · have hd : decide ((k : Int) < len) = true := by simp; omega
      obtain ⟨b, off, rfl, hc, x0, x1⟩ := HC.out k hlt
      have hc1 : wr.cell? ⟨b, off + k, none⟩ = some (.int .u32 (f k)) := (hbel.cell (p := ⟨b, _, none⟩) (World.block_lt_of_cell? w _ hc)).trans hc
      generalize f k = x at hc hc1 x0 x1
      have S1 : Hid (∀ X, Below w.heap.size w X → Calls Tryz.prog 9 #[.int .u32 x, .int .u32 at_] X _) := fun X hX => show_any x at_ X (HV.out.below hX HV.out.big) x0 x1
      have S2 : Hid (∀ X, Calls Tryz.prog 10 #[.int .u32 x, .int .u32 at_] X _) := fun X => rshow_any x at_ X x0 x1
      generalize showP x at_ = t at S1 S2
      have s0 : wr.drew.cell? ⟨b, off + k, none⟩ = some (.int .u32 x) ∧ Below w.heap.size w wr.drew := ⟨hc1, hbel.drew⟩
      clear hc x0 x1
      go_wp2_with fail
      first | (go_region_held (fun X => X.cell? ⟨b, off + k, none⟩ = some (.int .u32 x) ∧ Below w.heap.size w X) (first | assumption | exact cell_held (by assumption) (by assumption)) (first
        | (go_at_call 9; refine (S1.out _ (by assumption : _ ∧ Below w.heap.size w _).2).mono ?_; rintro e w1 ⟨rfl, hb1⟩; have s1 := cell_held s0 hb1)
        | (go_at_call 10; refine (S2.out _).mono ?_; rintro e w2 ⟨rfl, hb2⟩; have s2 := cell_held s1 hb2))) | fail
      all_goals
        have hz : Below w.heap.size w _ := (by assumption : _ ∧ Below w.heap.size w w2).2
        go_wp2_with fail
        go_roundw
        case rel => exact ⟨k + 1, by omega, by go_num, hz⟩
        case measure => simp [intOf]; omega
    · have hd : decide ((k : Int) < len) = false := by simp; omega
      have V2 : Vars wr := HV.out.below hbel HV.out.big
      have SH : Hid (Calls Tryz.prog 11 #[] wr _) := shown6 wr V2
      clear V2 HC
      go_wp2_with (go_at_call 11; refine SH.out.mono ?_; rintro e w1 ⟨rfl, hb1⟩)
      go_ret
      exact ⟨rfl, hbel.trans (hb1.mono hbel.size)⟩
end Go.Proofs.YtkidfnhgknkpiaaGreatDoor
