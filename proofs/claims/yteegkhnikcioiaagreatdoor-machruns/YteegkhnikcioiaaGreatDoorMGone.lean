/-
  What a machine's small methods answer.
  Whether the power is gone.
-/
import Derived.Test.YteegkhnikcioiaaGreatDoorMMac
namespace Go.Proofs.YteegkhnikcioiaaGreatDoor
open Go.ChangeShapes Go.WideShapes Go.ChangeAt Go.RowKit
open Cpu (Cp In Ac En decOk decI accA rightB)
attribute [local go_sem ↓] Cpu.loadCpu_seal Cpu.storeCpu_seal Cpu.loadIn_seal Cpu.storeIn_seal Cpu.loadAc_seal Cpu.storeAc_seal Cpu.loadEn_seal Cpu.storeEn_seal
attribute [local go_sem] Cpu.loadCpu_run Cpu.storeCpu_run Cpu.loadIn_run Cpu.storeIn_run Cpu.rowAt_at Cpu.rowAt_past Cpu.rowAt_drew Cpu.rowAt_drewN Cpu.roomCpu_new Cpu.roomIn_new Cpu.roomAt_old Cpu.roomAt_drew Cpu.roomAt_drewN Cpu.putCpu_new Cpu.putIn_new Cpu.Cp.zero_fold Cpu.In.fold Cpu.putRow_past Cpu.rowCpu_put Cpu.rowIn_put Cpu.size_put Cpu.putRow_drew Cpu.putRow_drewN Cpu.alloc_drewN Cpu.setCell_drewN Cpu.Cp.at16 Cpu.Cp.at17 Cpu.Cp.at18 Cpu.Cp.at19 Cpu.Cp.at20 Cpu.Cp.at21 Cpu.Cp.size Cpu.Cp.set16 Cpu.Cp.set17 Cpu.Cp.set18 Cpu.Cp.set19 Cpu.Cp.set20 Cpu.Cp.set21 Cpu.In.at0 Cpu.In.at1 Cpu.In.at2 Cpu.In.at3 Cpu.In.at4 Cpu.In.at5 Cpu.In.at6 Cpu.In.at7 Cpu.In.size Cpu.In.set0 Cpu.In.set1 Cpu.In.set2 Cpu.In.set3 Cpu.In.ne Cpu.Cp.ne Cpu.In.set4 Cpu.In.set5 Cpu.In.set6 Cpu.In.set7 loadMid_run storeMid_run mc_size mc_cpu Cpu.loadAc_run Cpu.storeAc_run Cpu.loadEn_run Cpu.storeEn_run Cpu.putAc_new Cpu.putEn_new Cpu.roomAc_new Cpu.roomEn_new Cpu.rowAc_put Cpu.rowEn_put Cpu.Ac.at0 Cpu.Ac.at1 Cpu.Ac.at2 Cpu.Ac.size Cpu.Ac.ne Cpu.Ac.fold Cpu.En.at0 Cpu.En.at1 Cpu.En.at2 Cpu.En.at3 Cpu.En.size Cpu.En.set0 Cpu.En.set1 Cpu.En.set2 Cpu.En.set3 Cpu.Ac.set0 Cpu.Ac.set1 Cpu.Ac.set2 Cpu.En.ne Cpu.En.fold
set_option linter.unusedVariables false

structure Five (w : World) (p b : Nat) (m : Ms) : Prop where
  c0 : w.cell? ⟨p, 0, none⟩ = some (.pointer (some ⟨b, 0, none⟩))
  c22 : w.cell? ⟨p, 22, none⟩ = some (.int .u32 m.c.PC)
  c23 : w.cell? ⟨p, 23, none⟩ = some (.int .i64 m.st)
  c24 : w.cell? ⟨p, 24, none⟩ = some (.int .i64 m.cut)
theorem Mac.five {w : World} {p b : Nat} {P : Ph} {m : Ms} (h : Mac w p b P m) : Five w p b m := ⟨rowAt_cell h.blk 0, rowAt_cell h.blk 22, rowAt_cell h.blk 23, rowAt_cell h.blk 24⟩
theorem Mac.free {w : World} {p b : Nat} {P : Ph} {m : Ms} (h : Mac w p b P m) {j : Nat} (hj : j < 25) : w.frozen? ⟨p, j, none⟩ = false := by
  have := (room_there h.room j hj).2
  simpa using this
theorem Mac.crow {w : World} {p b : Nat} {P : Ph} {m : Ms} (h : Mac w p b P m) : Cpu.rowAt w p = some (mcells b m) := h.blk
theorem Mac.croom {w : World} {p b : Nat} {P : Ph} {m : Ms} (h : Mac w p b P m) : Cpu.roomAt w p 25 = true := h.room
theorem wires_any {w : World} {p b : Nat} {P : Ph} {m : Ms} (h : Mac w p b P m) : Calls Tryz.prog 36 #[.pointer (some ⟨p, 0, none⟩)] w fun e w' => e = .returned (.pointer (some ⟨b, 0, none⟩)) ∧ w' = w := by
  have c0 := h.five.c0
  clear h
  go_enter Tryz.func36, Tryz.ntmps36
  go_wp2
  go_ret
  exact ⟨rfl, rfl⟩
theorem wires_nil (w : World) : Calls Tryz.prog 36 #[.pointer none] w fun e w' => e = .returned (.pointer none) ∧ w' = w := by
  go_enter Tryz.func36, Tryz.ntmps36
  go_wp2
  go_ret
  exact ⟨rfl, rfl⟩
theorem mword_any {w : World} {p b : Nat} {P : Ph} {m : Ms} (h : Mac w p b P m) (a : Int) (a0 : 0 ≤ a) (a1 : a ≤ 4294967295) : Calls Tryz.prog 24 #[.pointer (some ⟨p, 0, none⟩), .int .u32 a] w fun e w' => e = .returned (.tuple #[.int .u32 (gotV m.L.M a), .bool (isW a)]) ∧ Below w.heap.size w w' := by
  have H : Hid (Mac w p b P m) := h
  clear h
  go_enter Tryz.func24, Tryz.ntmps24
  go_wp2_with (first | (go_at_call 36; refine (wires_any H.out).mono ?_; rintro e w1 ⟨rfl, hw⟩; obtain rfl := hw.symm; clear hw) | (go_at_call 46; refine (word_any b P m.L a _ H.out.bus a0 a1).mono ?_; rintro e w2 ⟨rfl, hb⟩))
  go_ret2
  exact ⟨rfl, hb⟩
theorem mdisk_any {w : World} {p b : Nat} {P : Ph} {m : Ms} (h : Mac w p b P m) : Calls Tryz.prog 19 #[.pointer (some ⟨p, 0, none⟩)] w fun e w' => e = .returned (.pointer (some ⟨P.db, 0, none⟩)) ∧ w' = w := by
  have H : Hid (Mac w p b P m) := h
  clear h
  go_enter Tryz.func19, Tryz.ntmps19
  go_wp2_with (first | (go_at_call 36; refine (wires_any H.out).mono ?_; rintro e w1 ⟨rfl, hw⟩; obtain rfl := hw.symm; clear hw) | (go_at_call 41; refine (disk_any b P m.L _ H.out.bus).mono ?_; rintro e w2 ⟨rfl, hw⟩; obtain rfl := hw.symm; clear hw))
  go_ret
  exact ⟨rfl, rfl⟩
theorem mout_any {w : World} {p b : Nat} {P : Ph} {m : Ms} (h : Mac w p b P m) : Calls Tryz.prog 17 #[.pointer (some ⟨p, 0, none⟩)] w fun e w' => e = .returned (.string (strO m.L.O)) ∧ w' = w := by
  have H : Hid (Mac w p b P m) := h
  clear h
  go_enter Tryz.func17, Tryz.ntmps17
  go_wp2_with (first | (go_at_call 36; refine (wires_any H.out).mono ?_; rintro e w1 ⟨rfl, hw⟩; obtain rfl := hw.symm; clear hw) | (go_at_call 40; refine (out_any b P m.L _ H.out.bus).mono ?_; rintro e w2 ⟨rfl, hw⟩; obtain rfl := hw.symm; clear hw))
  go_ret
  exact ⟨rfl, rfl⟩
def fedE (L : Lg) (s : ByteArray) : Int := if s.size + L.I.length ≤ 65536 then 0 else 40
def Lg.fed (L : Lg) (s : ByteArray) : Lg := if s.size + L.I.length ≤ 65536 then { L with I := L.I ++ bytesL s } else L
theorem bfeed_any (b : Nat) (P : Ph) (L : Lg) (s : ByteArray) (w : World) (h : Bus w b P L) (hs : s.size ≤ maxLen) : Calls Tryz.prog 37 #[.pointer (some ⟨b, 0, none⟩), .string s] w fun e w' => e = .returned (.int .i64 (fedE L s)) ∧ ∃ P', Stp w b P w' P' (L.fed s) := by
  by_cases hf : s.size + L.I.length ≤ 65536
  · unfold fedE Lg.fed
    rw [if_pos hf, if_pos hf]; exact feed_ok b P L s w h hf
  · unfold fedE Lg.fed
    rw [if_neg hf, if_neg hf]
    exact (feed_full b P L s w h hs (by omega)).mono fun e w' ⟨he, hw⟩ => ⟨he, P, by rw [hw]; exact Stp.refl h⟩
theorem mfeed_any {w : World} {p b : Nat} {P : Ph} {m : Ms} (h : Mac w p b P m) (s : ByteArray) (hs : s.size ≤ maxLen) : Calls Tryz.prog 14 #[.pointer (some ⟨p, 0, none⟩), .string s] w fun e w' => e = .returned (.int .i64 (fedE m.L s)) ∧ ∃ P', MStp w p b P w' P' { m with L := m.L.fed s } := by
  have H : Hid (Mac w p b P m) := h
  clear h
  go_enter Tryz.func14, Tryz.ntmps14
  go_wp2_with (first | (go_at_call 36; refine (wires_any H.out).mono ?_; rintro e w1 ⟨rfl, hw⟩; obtain rfl := hw.symm; clear hw) | (go_at_call 37; refine (bfeed_any b P m.L s _ H.out.bus hs).mono ?_; rintro e w2 ⟨rfl, P', hS⟩))
  go_ret
  exact ⟨rfl, P', H.out.stp hS⟩
theorem mtick_any {w : World} {p b : Nat} {P : Ph} {m : Ms} (h : Mac w p b P m) (v : Int) (v0 : 0 ≤ v) (v1 : v ≤ 4294967295) : Calls Tryz.prog 27 #[.pointer (some ⟨p, 0, none⟩), .int .u32 v] w fun e w' => e = .returned (.tuple #[]) ∧ MStp w p b P w' P { m with L := { m.L with tk := (m.L.tk + v) % 4294967296 } } := by
  have H : Hid (Mac w p b P m) := h
  clear h
  go_enter Tryz.func27, Tryz.ntmps27
  go_wp2_with (first | (go_at_call 36; refine (wires_any H.out).mono ?_; rintro e w1 ⟨rfl, hw⟩; obtain rfl := hw.symm; clear hw) | (go_at_call 47; refine (tick_any b P m.L v _ H.out.bus v0 v1).mono ?_; rintro e w2 ⟨rfl, hS⟩))
  go_end0
  exact ⟨rfl, H.out.stp hS⟩
theorem msteps_any {w : World} {p b : Nat} {P : Ph} {m : Ms} (h : Mac w p b P m) : Calls Tryz.prog 18 #[.pointer (some ⟨p, 0, none⟩)] w fun e w' => e = .returned (.int .i64 m.st) ∧ w' = w := by
  have c23 := h.five.c23
  clear h
  go_enter Tryz.func18, Tryz.ntmps18
  go_wp2
  go_ret
  exact ⟨rfl, rfl⟩
theorem mcutAt_any {w : World} {p b : Nat} {P : Ph} {m : Ms} (h : Mac w p b P m) (n : Int) (hn : i64B n) : Calls Tryz.prog 25 #[.pointer (some ⟨p, 0, none⟩), .int .i64 n] w fun e w' => e = .returned (.tuple #[]) ∧ MStp w p b P w' P { m with cut := n } := by
  have H : Hid (Mac w p b P m) := h
  have c24 := h.five.c24
  have f24 := h.free (j := 24) (by omega)
  clear h
  go_enter Tryz.func25, Tryz.ntmps25
  go_wp2
  go_end0
  exact ⟨rfl, H.out.put 24 _ (mc_set24 b m n) rfl ⟨H.out.ok.c, H.out.ok.st, hn⟩⟩
theorem mcpu_any {w : World} {p b : Nat} {P : Ph} {m : Ms} (h : Mac w p b P m) : Calls Tryz.prog 16 #[.pointer (some ⟨p, 0, none⟩)] w fun e w' => e = .returned (.agg m.c.cells) ∧ Below w.heap.size w w' := by
  have r := h.crow
  have hp := h.plt
  clear h
  go_enter Tryz.func16, Tryz.ntmps16
  go_wp2
  exact Cpu.ret_cell1 rfl rfl (Cpu.loadCpu_row (Cpu.rowAt_at _ _ _ _ _ rfl)) rfl ⟨rfl, (Below.refl _ _).alloc (Nat.le_refl _) _⟩
theorem stuck_any {w : World} {p b : Nat} {P : Ph} {m : Ms} (h : Mac w p b P m) (k : Int) : Calls Tryz.prog 64 #[.pointer (some ⟨p, 0, none⟩), .int .i64 k] w fun e w' => e = .returned (.agg (enAt k m.c.PC).cells) ∧ Below w.heap.size w w' := by
  have c22 := h.five.c22
  have c22' : ∀ o, (w.alloc o).cell? ⟨p, 22, none⟩ = some (.int .u32 m.c.PC) := fun o => (h.below ((Below.refl _ w).alloc (Nat.le_refl _) o)).five.c22
  have hp := h.plt
  clear h
  go_enter Tryz.func64, Tryz.ntmps64
  go_wp2
  exact Cpu.ret_cell1 rfl rfl (Cpu.loadEn_row (Cpu.rowAt_at _ _ _ _ _ rfl)) rfl ⟨rfl, (Below.refl _ _).alloc (Nat.le_refl _) _⟩
theorem isCommand_any (a : Ac) (w : World) : Calls Tryz.prog 54 #[.agg a.cells] w fun e w' => e = .returned (.bool (isCmd a)) ∧ Below w.heap.size w w' := by
  unfold Cpu.Ac.cells
  by_cases h : a.K = 3
  · by_cases h2 : a.D = 4294967252
    · go_enter Tryz.func54, Tryz.ntmps54
      go_wp2
      go_ret
      exact ⟨by simp [isCmd, h, h2], (Below.refl _ _).alloc (Nat.le_refl _) _⟩
    · go_enter Tryz.func54, Tryz.ntmps54
      go_wp2
      go_ret
      exact ⟨by simp [isCmd, h, h2], (Below.refl _ _).alloc (Nat.le_refl _) _⟩
  · go_enter Tryz.func54, Tryz.ntmps54
    go_wp2
    go_ret
    exact ⟨by simp [isCmd, h], (Below.refl _ _).alloc (Nat.le_refl _) _⟩
end Go.Proofs.YteegkhnikcioiaaGreatDoor

namespace Go.Proofs.YteegkhnikcioiaaGreatDoor
open Go.ChangeShapes Go.WideShapes Go.ChangeAt Go.RowKit
open Cpu (Cp In Ac En decOk decI accA rightB)
attribute [local go_sem ↓] Cpu.loadCpu_seal Cpu.storeCpu_seal Cpu.loadIn_seal Cpu.storeIn_seal Cpu.loadAc_seal Cpu.storeAc_seal Cpu.loadEn_seal Cpu.storeEn_seal
attribute [local go_sem] Cpu.loadCpu_run Cpu.storeCpu_run Cpu.loadIn_run Cpu.storeIn_run Cpu.rowAt_at Cpu.rowAt_past Cpu.rowAt_drew Cpu.rowAt_drewN Cpu.roomCpu_new Cpu.roomIn_new Cpu.roomAt_old Cpu.roomAt_drew Cpu.roomAt_drewN Cpu.putCpu_new Cpu.putIn_new Cpu.Cp.zero_fold Cpu.In.fold Cpu.putRow_past Cpu.rowCpu_put Cpu.rowIn_put Cpu.size_put Cpu.putRow_drew Cpu.putRow_drewN Cpu.alloc_drewN Cpu.setCell_drewN Cpu.Cp.at16 Cpu.Cp.at17 Cpu.Cp.at18 Cpu.Cp.at19 Cpu.Cp.at20 Cpu.Cp.at21 Cpu.Cp.size Cpu.Cp.set16 Cpu.Cp.set17 Cpu.Cp.set18 Cpu.Cp.set19 Cpu.Cp.set20 Cpu.Cp.set21 Cpu.In.at0 Cpu.In.at1 Cpu.In.at2 Cpu.In.at3 Cpu.In.at4 Cpu.In.at5 Cpu.In.at6 Cpu.In.at7 Cpu.In.size Cpu.In.set0 Cpu.In.set1 Cpu.In.set2 Cpu.In.set3 Cpu.In.ne Cpu.Cp.ne Cpu.In.set4 Cpu.In.set5 Cpu.In.set6 Cpu.In.set7 loadMid_run storeMid_run mc_size mc_cpu Cpu.loadAc_run Cpu.storeAc_run Cpu.loadEn_run Cpu.storeEn_run Cpu.putAc_new Cpu.putEn_new Cpu.roomAc_new Cpu.roomEn_new Cpu.rowAc_put Cpu.rowEn_put Cpu.Ac.at0 Cpu.Ac.at1 Cpu.Ac.at2 Cpu.Ac.size Cpu.Ac.ne Cpu.Ac.fold Cpu.En.at0 Cpu.En.at1 Cpu.En.at2 Cpu.En.at3 Cpu.En.size Cpu.En.set0 Cpu.En.set1 Cpu.En.set2 Cpu.En.set3 Cpu.Ac.set0 Cpu.Ac.set1 Cpu.Ac.set2 Cpu.En.ne Cpu.En.fold
set_option linter.unusedVariables false

theorem writes_len {w : World} {p b : Nat} {P : Ph} {m : Ms} (h : Mac w p b P m) : Calls Tryz.prog 26 #[.pointer (some ⟨P.db, 0, none⟩)] w fun e w' => ∃ g, e = .returned (.slice (some ⟨g, 0, none⟩) m.L.m m.L.m) ∧ Below w.heap.size w w' :=
  (writes_any P.db P.D w h.bus.dsk).mono fun e w' ⟨g, he, _, _, _, hb⟩ => ⟨g, by rw [he, h.bus.dm], hb⟩
theorem gs_step {w X Y : World} {p : Nat} {v : Value} (hb : Below X.heap.size X Y) (h : Below w.heap.size w X ∧ X.cell? ⟨p, 24, none⟩ = some v) : Below w.heap.size w Y ∧ Y.cell? ⟨p, 24, none⟩ = some v :=
  ⟨h.1.trans (hb.mono h.1.size), (hb.cell (p := ⟨p, 24, none⟩) (World.block_lt_of_cell? _ _ h.2)).trans h.2⟩
theorem gs_drew {w : World} {p : Nat} {v : Value} (h : w.cell? ⟨p, 24, none⟩ = some v) : Below w.heap.size w w.drew ∧ w.drew.cell? ⟨p, 24, none⟩ = some v := ⟨(Below.refl _ _).drew, h⟩
set_option maxHeartbeats 1000000 in
theorem gone_any {w : World} {p b : Nat} {P : Ph} {m : Ms} (h : Mac w p b P m) : Calls Tryz.prog 38 #[.pointer (some ⟨p, 0, none⟩)] w fun e w' => e = .returned (.bool m.gone) ∧ Below w.heap.size w w' := by
  have H : Hid (Mac w p b P m) := h
  have c24 := h.five.c24
  clear h
  by_cases hc : 0 ≤ m.cut
  · have hd : decide (0 ≤ m.cut) = true := by simpa using hc
    have HG : Hid (m.gone = decide (m.cut ≤ (m.L.m : Int))) := by show _ = _; simp [Ms.gone, hd]
    go_enter Tryz.func38, Tryz.ntmps38
    go_wp2
    first | (go_region_held3 (fun X => Below w.heap.size w X ∧ X.cell? ⟨p, 24, none⟩ = some (.int .i64 m.cut)) (first | exact gs_drew c24 | exact gs_step (by assumption) (by assumption)) (first | (go_at_call 19; refine (mdisk_any (H.out.below (by first | exact (gs_drew c24).1 | exact (by assumption : Below w.heap.size w _ ∧ _).1))).mono ?_; rintro e w1 ⟨rfl, hw⟩; obtain rfl := hw.symm; clear hw) | (go_at_call 26; refine (writes_len (H.out.below (by first | exact (gs_drew c24).1 | exact (by assumption : Below w.heap.size w _ ∧ _).1))).mono ?_; rintro e w2 ⟨g, rfl, hb⟩))) | fail
    all_goals
      go_wp2
      go_ret
      exact ⟨by rw [HG.out]; rfl, (by assumption : Below w.heap.size w _ ∧ _).1⟩
  · have hd : decide (0 ≤ m.cut) = false := by simpa using hc
    have HG : Hid (m.gone = false) := by show _ = _; simp [Ms.gone, hd]
    go_enter Tryz.func38, Tryz.ntmps38
    go_wp2
    go_quiet (fail)
    go_wp2
    go_ret
    exact ⟨by rw [HG.out]; rfl, drewNB w _⟩
end Go.Proofs.YteegkhnikcioiaaGreatDoor
