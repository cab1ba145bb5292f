/-
  Both machines stand the same.
-/
import Derived.Test.YteegkhnikcioiaaGreatDoorMMemS
import Derived.Test.YteegkhnikcioiaaGreatDoorMCutsV
import Derived.Test.YteegkhnikcioiaaGreatDoorMRCut
import Derived.Deep.RegionHeld3
import Derived.Deep.RegionHeld
namespace Go.Proofs.YteegkhnikcioiaaGreatDoor
open Go.ChangeShapes Go.WideShapes Go.ChangeAt Go.RowKit
open Cpu (Cp In Ac En decOk decI accA rightB)
attribute [local go_sem ↓] Cpu.loadCpu_seal Cpu.storeCpu_seal Cpu.loadIn_seal Cpu.storeIn_seal Cpu.loadAc_seal Cpu.storeAc_seal Cpu.loadEn_seal Cpu.storeEn_seal
attribute [local go_sem] rload_new Cpu.storeCpu_run Cpu.loadIn_run Cpu.storeIn_run Cpu.rowAt_at Cpu.rowAt_past Cpu.rowAt_drew Cpu.rowAt_drewN Cpu.roomCpu_new Cpu.roomIn_new Cpu.roomAt_old Cpu.roomAt_drew Cpu.roomAt_drewN Cpu.putCpu_new Cpu.putIn_new Cpu.Cp.zero_fold Cpu.In.fold Cpu.putRow_past Cpu.rowCpu_put Cpu.rowIn_put Cpu.size_put Cpu.putRow_drew Cpu.putRow_drewN Cpu.alloc_drewN Cpu.setCell_drewN Cpu.Cp.at16 Cpu.Cp.at17 Cpu.Cp.at18 Cpu.Cp.at19 Cpu.Cp.at20 Cpu.Cp.at21 Cpu.Cp.size Cpu.Cp.set16 Cpu.Cp.set17 Cpu.Cp.set18 Cpu.Cp.set19 Cpu.Cp.set20 Cpu.Cp.set21 Cpu.In.at0 Cpu.In.at1 Cpu.In.at2 Cpu.In.at3 Cpu.In.at4 Cpu.In.at5 Cpu.In.at6 Cpu.In.at7 Cpu.In.size Cpu.In.set0 Cpu.In.set1 Cpu.In.set2 Cpu.In.set3 Cpu.In.ne Cpu.Cp.ne Cpu.In.set4 Cpu.In.set5 Cpu.In.set6 Cpu.In.set7 Cpu.loadAc_run Cpu.storeAc_run Cpu.loadEn_run Cpu.storeEn_run Cpu.putAc_new Cpu.putEn_new Cpu.roomAc_new Cpu.roomEn_new Cpu.rowAc_put Cpu.rowEn_put Cpu.Ac.at0 Cpu.Ac.at1 Cpu.Ac.at2 Cpu.Ac.size Cpu.Ac.ne Cpu.Ac.fold Cpu.En.at0 Cpu.En.at1 Cpu.En.at2 Cpu.En.at3 Cpu.En.size Cpu.En.set0 Cpu.En.set1 Cpu.En.set2 Cpu.En.set3 Cpu.Ac.set0 Cpu.Ac.set1 Cpu.Ac.set2 Cpu.En.ne Cpu.En.fold
set_option linter.unusedVariables false
attribute [local go_sem ↓] Cpu.eqlCpu_seal

def WrAt (X : World) (db n : Nat) : Prop := ∃ D, Rep X db D ∧ D.m = n
theorem wrAt_any {X : World} {db n : Nat} (h : WrAt X db n) : Calls Tryz.prog 26 #[.pointer (some ⟨db, 0, none⟩)] X fun e Y => ∃ g, e = .returned (.slice (some ⟨g, 0, none⟩) n n) ∧ Below X.heap.size X Y := by
  obtain ⟨D, h1, rfl⟩ := h
  exact (writes_any db D X h1).mono fun e Y ⟨g, he, _, _, _, hb⟩ => ⟨g, he, hb⟩
theorem Mac.wrAt {w : World} {p b : Nat} {P : Ph} {m : Ms} (h : Mac w p b P m) : WrAt w P.db m.L.m := ⟨P.D, h.bus.dsk, h.bus.dm⟩
theorem sta_next {V X Y : World} {B : World → Prop} (HA : Hid (∀ X, Below V.heap.size V X → (Below V.heap.size V X ∧ B X))) (hb : Below X.heap.size X Y) (s : Below V.heap.size V X ∧ B X) : Below V.heap.size V Y ∧ B Y := HA.out _ (s.1.trans (hb.mono s.1.size))
theorem rcut_now {X : World} {r : Nat} {Q : RPh} {L : Lg} (h : RBus X r Q L) (n0 : 8 ≤ L.n) : Calls Tryz.prog 34 #[.pointer (some ⟨Q.rd, 0, none⟩), .int .i64 (L.m : Int)] X fun e Y => e = .returned (.tuple #[.string (strF (imgF L.S) (L.n * 1024)), .int .i64 0]) ∧ Below X.heap.size X Y := by
  have := rcut_good Q.rd Q.R L.m L.S X h.dsk (by rw [h.dm]; exact Nat.le_refl _) (by rw [h.dn]; exact n0) (fun i hi => by rw [h.dn] at hi; exact ⟨h.dS i hi, h.dB i hi⟩)
  rwa [h.dn] at this
set_option maxHeartbeats 4000000 in
set_option maxRecDepth 20000 in
theorem stands_any {w X : World} {p b q r : Nat} {P : Ph} {Q : RPh} {m : Ms} (h : TDuo w X p b P m q r Q m) : Calls Tryz.prog 12 #[.pointer (some ⟨p, 0, none⟩), .pointer (some ⟨q, 0, none⟩)] X fun e Y => e = .returned (.bool true) ∧ TDuo w Y p b P m q r Q m := by
  have H : Hid (TDuo w X p b P m q r Q m) := h
  have n0 : Hid (8 ≤ m.L.n) := by show 8 ≤ m.L.n; rw [← h.one.mac.bus.dn]; exact h.one.mac.bus.dsk.n0
  have hcq := h.one.mac.ok.c
  have hq0 : ∀ X, (Cpu.eqlCpu (.agg m.c.cells) (.agg m.c.cells)).run Tryz.prog X = .ok (.bool true) X := fun X => Cpu.eqlCpu_same m.c hcq X
  clear h
  go_enter Tryz.func12, Tryz.ntmps12
  go_upto_region 4 with (first
    | (go_at_call 16; refine (mcpu_any H.out.one.mac).mono ?_; rintro e w1 ⟨rfl, hb⟩; have H1 : Hid (TDuo w (w1.alloc (.cells m.c.cells 45)) p b P m q r Q m ∧ TKept (w1.alloc (.cells m.c.cells 45)) p b P q r Q w1.heap.size m.c.cells) := ⟨(H.out.next hb).next (al _), TKept.new (H.out.next hb) _ _⟩; clear hb)
    | (go_at_call 18; refine (msteps_any H1.out.1.one.mac).mono ?_; rintro e wz ⟨rfl, hw⟩; obtain rfl := hw.symm; clear hw)
    | (go_at_call 17; refine (mout_any H1.out.1.one.mac).mono ?_; rintro e wz ⟨rfl, hw⟩; obtain rfl := hw.symm; clear hw))
  rename_i K4 hK4
  have B0 := H1.out.1
  have k1 := H1.out.2
  clear H1
  generalize w1.alloc (.cells m.c.cells 45) = V at *
  generalize w1.heap.size = g at *
  obtain ⟨fa, fc, wa, wc, e1, e2, _, _, _⟩ := B0.two.bus.dsk.parts
  rw [B0.two.bus.dm] at e2
  have HT : Hid (∀ X, Below V.heap.size V X → TDuo w X p b P m q r Q m) := fun X hX => B0.next hX
  have HA : Hid (∀ X, Below V.heap.size V X → (Below V.heap.size V X ∧ (Cpu.loadCpu ⟨g, 0, none⟩).run Tryz.prog X = .ok (.agg m.c.cells) X ∧ (Cpu.loadCpu ⟨q, 0, none⟩).run Tryz.prog X = .ok (.agg m.c.cells) X ∧ X.cell? ⟨q, 22, none⟩ = some (.pointer (some ⟨r, 0, none⟩)) ∧ X.cell? ⟨q, 24, none⟩ = some (.int .i64 m.st) ∧ X.cell? ⟨r, 1, none⟩ = some (.pointer (some ⟨Q.rd, 0, none⟩)) ∧ X.cell? ⟨Q.rd, 1, none⟩ = some (.slice wa m.L.m wc))) := fun X hX => ⟨hX, Cpu.loadCpu_row (k1.next hX).row, rload_top (B0.next hX).two, (B0.next hX).two.five.c22, (B0.next hX).two.five.c24, rowAt_cell (B0.next hX).two.bus.blk 1, by rw [← e2]; exact (B0.next hX).two.bus.dsk.cell1.1⟩
  have s0 := HA.out V (Below.refl _ _)
  clear B0 k1 e1 e2 H hcq
  obtain ⟨s01, s02, s03, s04, s05, s06, s07⟩ := s0
  clear s02 s03 s05
  go_region_held3 (fun X => Below V.heap.size V X ∧ X.cell? ⟨q, 22, none⟩ = some (.pointer (some ⟨r, 0, none⟩)) ∧ X.cell? ⟨r, 1, none⟩ = some (.pointer (some ⟨Q.rd, 0, none⟩)) ∧ X.cell? ⟨Q.rd, 1, none⟩ = some (.slice wa m.L.m wc)) (first | exact ⟨drB V, s04, s06, s07⟩ | exact ⟨(HA.out _ (by assumption)).1, (HA.out _ (by assumption)).2.2.2.1, (HA.out _ (by assumption)).2.2.2.2.2.1, (HA.out _ (by assumption)).2.2.2.2.2.2⟩) (first | (go_at_call 34; refine (rcut_now (HT.out _ (drB V)).two.bus n0.out).mono ?_; rintro e u ⟨rfl, hb⟩; have hu : Below V.heap.size V u := (drB V).trans (hb.mono (drB V).size); clear hb))
  refine hK4 _ _ ?_
  clear hK4
  clear s04 s06 s07
  have hlm : (m.L.m : Int) = (m.L.m : Int) := rfl
  have s1 := HA.out u hu
  have HU : Hid (Below V.heap.size V u) := hu
  clear hu s01
  go_wp2_with fail
  (go_region_held (fun X => Below V.heap.size V X ∧ (Cpu.loadCpu ⟨g, 0, none⟩).run Tryz.prog X = .ok (.agg m.c.cells) X ∧ (Cpu.loadCpu ⟨q, 0, none⟩).run Tryz.prog X = .ok (.agg m.c.cells) X ∧ X.cell? ⟨q, 22, none⟩ = some (.pointer (some ⟨r, 0, none⟩)) ∧ X.cell? ⟨q, 24, none⟩ = some (.int .i64 m.st) ∧ X.cell? ⟨r, 1, none⟩ = some (.pointer (some ⟨Q.rd, 0, none⟩)) ∧ X.cell? ⟨Q.rd, 1, none⟩ = some (.slice wa m.L.m wc)) (first | exact HA.out _ (HU.out.trans ((drB _).mono HU.out.size)) | assumption | exact sta_next HA (by assumption) (by assumption)) (first
    | (go_at_call 35; refine (rout_any r Q m.L _ (HT.out _ (by assumption : Below V.heap.size V _ ∧ _).1).two.bus).mono ?_; rintro e v ⟨rfl, hw⟩; obtain rfl := hw.symm; clear hw)
    | (go_at_call 19; refine (mdisk_any (HT.out _ (by assumption : Below V.heap.size V _ ∧ _).1).one.mac).mono ?_; rintro e v ⟨rfl, hw⟩; obtain rfl := hw.symm; clear hw)
    | (go_at_call 20; refine (imgAt_any (HT.out _ (by assumption : Below V.heap.size V _ ∧ _).1).one.mac.img).mono ?_; rintro e v ⟨g1, c1, rfl, hb, hq⟩; have hq1 := hq v (Below.refl _ _); clear hq)
    | (go_at_call 26; refine (wrAt_any (HT.out _ (by assumption : Below V.heap.size V _ ∧ _).1).one.mac.wrAt).mono ?_; rintro e v ⟨g2, rfl, hb⟩)))
  all_goals
    have hz := HT.out _ (by assumption : Below V.heap.size V _ ∧ _).1
    go_wp2_with fail
    go_ret
    exact ⟨by first | rfl | simp, hz⟩
end Go.Proofs.YteegkhnikcioiaaGreatDoor
