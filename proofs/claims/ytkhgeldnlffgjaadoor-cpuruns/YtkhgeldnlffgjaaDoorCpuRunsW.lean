/-
  The law on words done one behind the other: its walk.
-/
import Derived.Test.YtkhgeldnlffgjaaDoorExv
import Derived.Test.YtkhgeldnlffgjaaDoorOks
import Derived.Test.YtkhgeldnlffgjaaDoorOpenC
import Derived.Test.YtkhgeldnlffgjaaDoorDecR
import Derived.Test.YtkhgeldnlffgjaaDoorShn
import Derived.Deep.DeepCutAuto
namespace Go.Proofs.YtkhgeldnlffgjaaDoor
open Go.ChangeShapes Go.WideShapes Go.ChangeAt Go.RowKit
attribute [local go_sem ↓] loadCpu_seal storeCpu_seal loadIn_seal storeIn_seal
attribute [local go_sem] loadCpu_run storeCpu_run loadIn_run storeIn_run rowAt_at rowAt_past rowAt_drew rowAt_drewN roomCpu_new roomIn_new roomAt_old roomAt_drew roomAt_drewN putCpu_new putIn_new Cp.zero_fold In.fold putRow_past rowCpu_put rowIn_put size_put putRow_drew putRow_drewN alloc_drewN setCell_drewN Cp.at16 Cp.at17 Cp.at18 Cp.at19 Cp.at20 Cp.at21 Cp.size Cp.set16 Cp.set17 Cp.set18 Cp.set19 Cp.set20 Cp.set21 In.at0 In.at1 In.at2 In.at3 In.at4 In.at5 In.at6 In.at7 In.size In.set0 In.set1 In.set2 In.set3 In.ne Cp.ne In.set4 In.set5 In.set6 In.set7
attribute [local go_sem ↓] eqlIn_seal neqIn_seal neqCpu_seal
set_option linter.unusedVariables false

namespace cpuRuns
theorem RdU.at {w X : World} {a : Option Addr} {len : Nat} {f : Nat → Int} (h : RdU w a len f) (hb : Below w.heap.size w X) {k : Nat} (hk : k < len) : ∃ b off, a = some ⟨b, off, none⟩ ∧ X.cell? ⟨b, off + k, none⟩ = some (.int .u32 (f k)) ∧ 0 ≤ f k ∧ f k ≤ 4294967295 ∧ b < w.heap.size := by
  rcases h.2 with h0 | ⟨b, off, ha, hc⟩
  · omega
  · have := hc k hk
    have l := World.block_lt_of_cell? w _ this.1
    exact ⟨b, off, ha, (hb.cell (p := ⟨b, off + k, none⟩) l).trans this.1, this.2.1, this.2.2, l⟩
set_option maxHeartbeats 4000000 in
set_option maxRecDepth 20000 in
theorem walk (c : Cp) (a : Option Addr) (len cap : Nat) (f : Nat → Int) (la : Option Addr) (ll lc : Nat) (lf : Nat → Int) (w : World) (hw : Ways w) (hc : c.Ok) (hr : RdU w a len f) (hl : RdU w la ll lf) : Calls Tryd.prog 8 #[.agg c.cells, .slice a len cap, .slice la ll lc] w fun e w' => e = .returned (.bool true) ∧ Below w.heap.size w w' := by
  have hm : (len : Int) ≤ 9223372036854775807 := by have := hr.1; unfold maxLen at this; omega
  have HW : Hid (Ways w) := hw
  have HR : Hid (RdU w a len f) := hr
  have HL : Hid (RdU w la ll lf) := hl
  have HC : Hid c.Ok := hc
  have HK0 : Hid (Keeps w [(w.heap.size, c.cells)] (w.alloc (.cells c.cells 38))) := (Keeps.refl w).new c.cells 38
  clear hw hr hl hc
  go_enter Tryd.func8, Tryd.ntmps8
  go_wp2
  go_loopw [7] (fun i X => ∃ k : Nat, ∃ d : Cp, k ≤ len ∧ i = .int .i64 k ∧ d.Ok ∧ Keeps w [(w.heap.size, d.cells)] X) (fun i _ => len - (intOf i).toNat)
  case atStart => exact ⟨0, c, Nat.zero_le _, rfl, HC.out, HK0.out⟩
  case round =>
    clear HK0 HC
    obtain ⟨k, d, hk, rfl, hd, hX⟩ := hrel
    have HX : Hid (Keeps w [(w.heap.size, d.cells)] wr ∧ d.Ok) := ⟨hX, hd⟩
    by_cases hlt : k < len
    · obtain ⟨b, off, rfl, cx, x0, x1, bl⟩ := RdU.at HR.out hX.1 hlt
      have i0 : (0 : Int) ≤ (k : Int) := by omega
      have i1 : (k : Int) < (len : Int) := by omega
      have bl0 : b < wr.heap.size := Nat.lt_of_lt_of_le bl hX.1.size
      clear hX hd HR
      go_upto_if 30 with fail
      go_cut [8] from 19 to 85 (fun s8 X => (∃ y : Int, s8 = .int .u32 y ∧ 0 ≤ y ∧ y ≤ 4294967295) ∧ X = wr)
      case first =>
        by_cases hll : k < ll
        · obtain ⟨lb, lo, rfl, cy, y0, y1, _⟩ := RdU.at HL.out HX.out.1.1 hll
          have i2 : (k : Int) < (ll : Int) := by omega
          go_wp2
          go_meet
          case rel => exact ⟨⟨_, rfl, y0, y1⟩, rfl⟩
        · have i2 : ¬ (k : Int) < (ll : Int) := by omega
          go_wp2
          go_meet
          case rel => exact ⟨⟨_, rfl, by omega, by omega⟩, rfl⟩
      case rest =>
        obtain ⟨⟨y, rfl, y0, y1⟩, rfl⟩ := hcut
        have hn1 := neqIn_same (decI (f k))
        have hn2 := neqCpu_same (d.execD (decI (f k)) y) (execD_ok _ HX.out.2 y0 y1)
        have HD : Hid (d.execD (decI (f k)) y).Ok := execD_ok _ HX.out.2 y0 y1
        go_wp2_with (first
          | (go_at_call 9; refine (decode_any (f k) _ (HW.out.below HX.out.1.1 HW.out.big) x0 x1).mono ?_; rintro e w1 ⟨rfl, hb⟩; have H1 : Hid (Keeps w [(w1.heap.size, (decI (f k)).cells), (w.heap.size, d.cells)] (w1.alloc (.cells (decI (f k)).cells 24))) := (HX.out.1.call hb).new _ _; have c1 : ∀ o, (w1.alloc o).cell? ⟨b, off + k, none⟩ = some (.int .u32 (f k)) := (fun o => (World.cell?_alloc_lt _ _ _ (Nat.lt_of_lt_of_le bl0 hb.size)).trans ((hb.cell (p := ⟨b, off + k, none⟩) bl0).trans cx)); clear hb)
          | (go_at_call 10; refine (rdecode_any (f k) _ x0 x1).mono ?_; rintro e w2 ⟨rfl, hb⟩; have H2 : Hid (Keeps w [(w2.heap.size, (decI (f k)).cells), (w1.heap.size, (decI (f k)).cells), (w.heap.size, d.cells)] (w2.alloc (.cells (decI (f k)).cells 24))) := (H1.out.call hb).new _ _; have q1 := H2.out.row (b := w.heap.size) (c := d.cells) (by simp); have q2 := H2.out.row (b := w1.heap.size) (c := (decI (f k)).cells) (by simp); clear hb)
          | (go_at_call 16; refine (exec_any d (decI (f k)) y _ (HW.out.below H2.out.1 HW.out.big) HX.out.2 y0 y1).mono ?_; rintro e w3 ⟨rfl, hb⟩; have H3 : Hid (Keeps w [(w3.heap.size, (d.execD (decI (f k)) y).cells), (w2.heap.size, (decI (f k)).cells), (w1.heap.size, (decI (f k)).cells), (w.heap.size, d.cells)] (w3.alloc (.cells (d.execD (decI (f k)) y).cells 38))) := (H2.out.call hb).new _ _; have q3 := H3.out.row (b := w.heap.size) (c := d.cells) (by simp); have q4 := H3.out.row (b := w2.heap.size) (c := (decI (f k)).cells) (by simp); clear hb)
          | (go_at_call 17; refine (rexec_any d (decI (f k)) y _ HX.out.2 y0 y1).mono ?_; rintro e w4 ⟨rfl, hb⟩; have H4 : Hid (Keeps w [(w4.heap.size, (d.execD (decI (f k)) y).cells), (w3.heap.size, (d.execD (decI (f k)) y).cells), (w2.heap.size, (decI (f k)).cells), (w1.heap.size, (decI (f k)).cells), (w.heap.size, d.cells)] (w4.alloc (.cells (d.execD (decI (f k)) y).cells 38)) ∧ Keeps w [(w.heap.size, d.cells)] w4) := ⟨(H3.out.call hb).new _ _, ⟨(H3.out.call hb).1, fun r hr => (H3.out.call hb).2 r (by simp at hr ⊢; exact .inr (.inr (.inr hr)))⟩⟩; have q5 := H4.out.1.row (b := w1.heap.size) (c := (decI (f k)).cells) (by simp); have q6 := H4.out.1.row (b := w2.heap.size) (c := (decI (f k)).cells) (by simp); have q7 := H4.out.1.row (b := w3.heap.size) (c := (d.execD (decI (f k)) y).cells) (by simp); have q8 : ∀ o, roomAt (w4.alloc o) w.heap.size 22 = true := (fun o => (roomAt_old _ _ _ _ (H4.out.2.2 (w.heap.size, d.cells) (by simp)).2.2).trans (H4.out.2.room (b := w.heap.size) (c := d.cells) (by simp))); have q9 := (H4.out.2.2 (w.heap.size, d.cells) (by simp)).2.2; clear hb))
        go_roundw
        case rel =>
          refine ⟨k + 1, _, by omega, by go_num, HD.out, ?_⟩
          have hz := H4.out.2.put1 (Nat.le_refl _) (d.execD (decI (f k)) y).cells rfl
          first | exact hz.call ((Below.refl _ _).alloc (Nat.le_refl _) _) | exact (H4.out.2.call ((Below.refl _ _).alloc (Nat.le_refl _) _)).put1 (Nat.le_refl _) (d.execD (decI (f k)) y).cells rfl
        case measure => simp [intOf]; omega
    · have i1 : ¬ (k : Int) < (len : Int) := by omega
      clear hX hd
      go_wp2_with (go_at_call 11; refine (cshown_any _ (HW.out.below HX.out.1.1 HW.out.big)).mono ?_; rintro e w1 ⟨rfl, hb⟩)
      go_ret
      exact ⟨rfl, HX.out.1.1.trans (hb.mono HX.out.1.1.size)⟩
end cpuRuns
end Go.Proofs.YtkhgeldnlffgjaaDoor
