/-
  How a machine is made.
  The document's example: a machine halts behind a MOV.
-/
import Derived.Test.YteegkhnikcioiaaGreatDoorMRun
import Derived.Deep.DeepCutAuto
namespace Go.Proofs.YteegkhnikcioiaaGreatDoor
open Go.ChangeShapes Go.WideShapes Go.ChangeAt Go.RowKit
open Cpu (Cp In Ac En decOk decI accA rightB)
attribute [local go_sem ↓] Cpu.loadCpu_seal Cpu.storeCpu_seal Cpu.loadIn_seal Cpu.storeIn_seal Cpu.loadAc_seal Cpu.storeAc_seal Cpu.loadEn_seal Cpu.storeEn_seal
attribute [local go_sem] Cpu.loadCpu_run Cpu.storeCpu_run Cpu.loadIn_run Cpu.storeIn_run Cpu.rowAt_at Cpu.rowAt_past Cpu.rowAt_drew Cpu.rowAt_drewN Cpu.roomCpu_new Cpu.roomIn_new Cpu.roomAt_old Cpu.roomAt_drew Cpu.roomAt_drewN Cpu.putCpu_new Cpu.putIn_new Cpu.Cp.zero_fold Cpu.In.fold Cpu.putRow_past Cpu.rowCpu_put Cpu.rowIn_put Cpu.size_put Cpu.putRow_drew Cpu.putRow_drewN Cpu.alloc_drewN Cpu.setCell_drewN Cpu.Cp.at16 Cpu.Cp.at17 Cpu.Cp.at18 Cpu.Cp.at19 Cpu.Cp.at20 Cpu.Cp.at21 Cpu.Cp.size Cpu.Cp.set16 Cpu.Cp.set17 Cpu.Cp.set18 Cpu.Cp.set19 Cpu.Cp.set20 Cpu.Cp.set21 Cpu.In.at0 Cpu.In.at1 Cpu.In.at2 Cpu.In.at3 Cpu.In.at4 Cpu.In.at5 Cpu.In.at6 Cpu.In.at7 Cpu.In.size Cpu.In.set0 Cpu.In.set1 Cpu.In.set2 Cpu.In.set3 Cpu.In.ne Cpu.Cp.ne Cpu.In.set4 Cpu.In.set5 Cpu.In.set6 Cpu.In.set7 loadMid_run storeMid_run mc_size mc_cpu Cpu.loadAc_run Cpu.storeAc_run Cpu.loadEn_run Cpu.storeEn_run Cpu.putAc_new Cpu.putEn_new Cpu.roomAc_new Cpu.roomEn_new Cpu.rowAc_put Cpu.rowEn_put Cpu.Ac.at0 Cpu.Ac.at1 Cpu.Ac.at2 Cpu.Ac.size Cpu.Ac.ne Cpu.Ac.fold Cpu.En.at0 Cpu.En.at1 Cpu.En.at2 Cpu.En.at3 Cpu.En.size Cpu.En.set0 Cpu.En.set1 Cpu.En.set2 Cpu.En.set3 Cpu.Ac.set0 Cpu.Ac.set1 Cpu.Ac.set2 Cpu.En.ne Cpu.En.fold
set_option linter.unusedVariables false

theorem isPlace_any (a : Int) (w : World) (a0 : 0 ≤ a) (a1 : a ≤ 4294967295) : Calls Tryz.prog 45 #[.int .u32 a] w fun e w' => e = .returned (.bool (isW a)) ∧ w' = w := by
  by_cases h4 : a % 4 = 0
  · by_cases h : a < 1048576
    · go_enter Tryz.func45, Tryz.ntmps45
      go_wp2
      go_ret
      exact ⟨by simp [isW, h4, h], rfl⟩
    · go_enter Tryz.func45, Tryz.ntmps45
      go_wp2
      go_ret
      exact ⟨by simp [isW, h4, h], rfl⟩
  · go_enter Tryz.func45, Tryz.ntmps45
    go_wp2
    go_ret
    exact ⟨by simp [isW, h4], rfl⟩
theorem mnew_nil (a : Option Addr) (len cap : Nat) (en : Int) (w : World) : Calls Tryz.prog 23 #[.agg #[.slice a len cap, .int .u32 en], .pointer none] w fun e w' => e = .returned (.tuple #[.pointer none, .int .i64 1]) ∧ Below w.heap.size w w' := by
  go_enter Tryz.func23, Tryz.ntmps23
  go_wp2_with (go_at_call 44; refine (new_nil _ _).mono ?_; rintro e w1 ⟨rfl, hw⟩; obtain rfl := hw.symm; clear hw)
  go_ret2
  exact ⟨rfl, al _⟩
theorem mnew_many (a : Option Addr) (len cap d : Nat) (en : Int) (w : World) (hl : 262144 < len) : Calls Tryz.prog 23 #[.agg #[.slice a len cap, .int .u32 en], .pointer (some ⟨d, 0, none⟩)] w fun e w' => e = .returned (.tuple #[.pointer none, .int .i64 50]) ∧ Below w.heap.size w w' := by
  have HN : Hid (262144 < len) := hl
  clear hl
  go_enter Tryz.func23, Tryz.ntmps23
  go_wp2_with (go_at_call 44; refine (new_many _ _ _ _ _ HN.out).mono ?_; rintro e w1 ⟨rfl, hw⟩; obtain rfl := hw.symm; clear hw)
  go_ret2
  exact ⟨rfl, al _⟩
theorem RdW.over {w w' : World} {a : Option Addr} {len : Nat} {f : Nat → Int} (h : RdW w a len f) (hb : Below w.heap.size w w') : RdW w' a len f := by
  by_cases h0 : 0 < len
  · exact h.same fun x hx => hb.block x (h.lt h0 x hx)
  · exact ⟨h.1, .inl (by omega)⟩
def mfresh (b : Nat) (c : Cp) : Array Value := #[.pointer (some ⟨b, 0, none⟩), .int .u32 (c.R 0), .int .u32 (c.R 1), .int .u32 (c.R 2), .int .u32 (c.R 3), .int .u32 (c.R 4), .int .u32 (c.R 5), .int .u32 (c.R 6), .int .u32 (c.R 7), .int .u32 (c.R 8), .int .u32 (c.R 9), .int .u32 (c.R 10), .int .u32 (c.R 11), .int .u32 (c.R 12), .int .u32 (c.R 13), .int .u32 (c.R 14), .int .u32 (c.R 15), .int .u32 c.H, .bool c.N, .bool c.Z, .bool c.C, .bool c.V, .int .u32 c.PC, .int .i64 0, .int .i64 (-1)]
theorem mfresh_is (b : Nat) (c : Cp) (L : Lg) : mfresh b c = mcells b { c := c, L := L, st := 0, cut := -1 } := rfl
theorem mfresh_ne (b : Nat) (c : Cp) : (mfresh b c = #[]) = False := by simp [mfresh]
def buildMach (parts : Array (Nat × Value)) : Sem Value := Instr.build 90 parts
theorem buildMach_seal (parts : Array (Nat × Value)) : Instr.build 90 parts = buildMach parts := rfl
theorem buildMach_run (b : Nat) (c : Cp) (X : World) : (buildMach #[(0, .pointer (some ⟨b, 0, none⟩)), (1, .agg c.cells), (3, .int .i64 (-1))]).run Tryz.prog X = .ok (.agg (mfresh b c)) X := by kernel_rfl
attribute [local go_sem ↓] buildMach_seal
attribute [local go_sem] buildMach_run mfresh_ne
def Ms.new (f : Nat → Int) (len : Nat) (D : Dk) (en : Int) : Ms := { c := { Cpu.Cp.zero with PC := en }, L := Lg.new f len D, st := 0, cut := -1 }
theorem mnew_entry (a : Option Addr) (len cap db : Nat) (f : Nat → Int) (D : Dk) (en : Int) (w : World) (hD : Rep w db D) (hl : len ≤ 262144) (hr : RdW w a len f) (e0 : 0 ≤ en) (e1 : en ≤ 4294967295) (hn : isW en = false) : Calls Tryz.prog 23 #[.agg #[.slice a len cap, .int .u32 en], .pointer (some ⟨db, 0, none⟩)] w fun e w' => e = .returned (.tuple #[.pointer none, .int .i64 50]) ∧ Below w.heap.size w w' := by
  have HN : Hid (∀ o, Rep (w.alloc o) db D ∧ RdW (w.alloc o) a len f) := fun o => ⟨hD.below (al o), hr.over (al o)⟩
  clear hD hr
  go_enter Tryz.func23, Tryz.ntmps23
  go_wp2_with (first
    | (go_at_call 44; refine (new_bus a len cap db f D _ (HN.out _).1 hl (HN.out _).2).mono ?_; rintro e w1 ⟨b, P, rfl, hB, hdb, hPD, hall, hb⟩; have H1 : Hid (Below w.heap.size w w1) := (al _).trans (hb.mono (al _).size); have c1 : w1.cell? ⟨w.heap.size, 1, none⟩ = some (.int .u32 en) := (hb.cell (p := ⟨w.heap.size, 1, none⟩) (by simp)).trans (by simp); clear hB hdb hPD hall hb)
    | (go_at_call 45; refine (isPlace_any en _ e0 e1).mono ?_; rw [hn]; rintro e w2 ⟨rfl, hw⟩; obtain rfl := hw.symm; clear hw))
  go_ret2
  exact ⟨rfl, H1.out⟩
theorem mac_new {w1 : World} {b : Nat} {P : Ph} {L : Lg} (hB : Bus w1 b P L) (hW : Cpu.Ways w1) (hz : ∀ x, P.all b x → 0 < x) {c : Cp} (hc : c.Ok) (t : TypeId) : Mac (w1.alloc (.cells (mfresh b c) t)) w1.heap.size b P { c := c, L := L, st := 0, cut := -1 } where
  bus := hB.below (al _)
  blk := (Cpu.rowAt_at _ _ _ _ _ rfl : Cpu.rowAt _ _ = _).trans (congrArg some (mfresh_is b c L))
  room := (Cpu.roomAt_new _ _ _ _ _ rfl rfl : Cpu.roomAt _ _ _ = _)
  ne := fun e => absurd (hB.lt _ e) (by omega)
  ways := hW.below (al _) hW.big
  z := fun x hx => hx.elim (fun e => e ▸ hW.big) (hz x)
  plt := by simp
  ok := ⟨hc, (show (0 : Int) ≤ 0 ∧ (0 : Int) ≤ 4611686018427387904 by decide), (show -9223372036854775808 ≤ (-1 : Int) ∧ (-1 : Int) ≤ 9223372036854775807 by decide)⟩
set_option maxHeartbeats 400000 in
theorem mnew_ok (a : Option Addr) (len cap db : Nat) (f : Nat → Int) (D : Dk) (en : Int) (w : World) (hW : Cpu.Ways w) (hD : Rep w db D) (hz : ∀ x, D.mut db x ∨ D.fix x → 0 < x) (hl : len ≤ 262144) (hr : RdW w a len f) (e0 : 0 ≤ en) (e1 : en ≤ 4294967295) (hn : isW en = true) : Calls Tryz.prog 23 #[.agg #[.slice a len cap, .int .u32 en], .pointer (some ⟨db, 0, none⟩)] w fun e w' => ∃ p b P, e = .returned (.tuple #[.pointer (some ⟨p, 0, none⟩), .int .i64 0]) ∧ Mac w' p b P (Ms.new f len D en) ∧ P.db = db ∧ P.D = D ∧ (∀ x, MM p b P x → (D.mut db x ∨ D.fix x) ∨ w.heap.size ≤ x) ∧ Below w.heap.size w w' := by
  have HN : Hid (∀ o, Rep (w.alloc o) db D ∧ RdW (w.alloc o) a len f) := fun o => ⟨hD.below (al o), hr.over (al o)⟩
  have HW : Hid (Cpu.Ways w) := hW
  clear hD hr hW
  go_enter Tryz.func23, Tryz.ntmps23
  go_wp2_with (first
    | (go_at_call 44; refine (new_bus a len cap db f D _ (HN.out _).1 hl (HN.out _).2).mono ?_; rintro e w1 ⟨b, P, rfl, hB, hdb, hPD, hall, hb⟩; have H1 : Hid (Bus w1 b P (Lg.new f len D) ∧ P.db = db ∧ P.D = D ∧ (∀ x, P.all b x → (D.mut db x ∨ D.fix x) ∨ w.heap.size + 1 ≤ x) ∧ Below w.heap.size w w1) := ⟨hB, hdb, hPD, fun x hx => (hall x hx).imp id (fun e => by simpa using e), (al _).trans (hb.mono (al _).size)⟩; have c1 : w1.cell? ⟨w.heap.size, 1, none⟩ = some (.int .u32 en) := (hb.cell (p := ⟨w.heap.size, 1, none⟩) (by simp)).trans (by simp); clear hB hdb hPD hall hb)
    | (go_at_call 45; refine (isPlace_any en _ e0 e1).mono ?_; rw [hn]; rintro e w2 ⟨rfl, hw⟩; obtain rfl := hw.symm; clear hw))
  go_ret2
  have hW1 := HW.out.below H1.out.2.2.2.2 HW.out.big
  refine ⟨_, b, P, rfl, mac_new H1.out.1 hW1 (fun x hx => (H1.out.2.2.2.1 x hx).elim (hz x) fun e => by omega) ⟨fun _ _ => ⟨by show (0 : Int) ≤ 0; decide, by show (0 : Int) ≤ 4294967295; decide⟩, ⟨by show (0 : Int) ≤ 0; decide, by show (0 : Int) ≤ 4294967295; decide⟩, e0, e1⟩ _, H1.out.2.1, H1.out.2.2.1, fun x hx => hx.elim (fun e => .inr (by rw [e]; exact H1.out.2.2.2.2.size)) fun e => (H1.out.2.2.2.1 x e).imp id fun e => by omega, H1.out.2.2.2.2.trans ((al _).mono H1.out.2.2.2.2.size)⟩
end Go.Proofs.YteegkhnikcioiaaGreatDoor

namespace Go.Proofs.YteegkhnikcioiaaGreatDoor
open Go.ChangeShapes Go.WideShapes Go.ChangeAt Go.RowKit
open Cpu (Cp In Ac En decOk decI accA rightB)
attribute [local go_sem ↓] Cpu.loadCpu_seal Cpu.storeCpu_seal Cpu.loadIn_seal Cpu.storeIn_seal Cpu.loadAc_seal Cpu.storeAc_seal Cpu.loadEn_seal Cpu.storeEn_seal
attribute [local go_sem] Cpu.loadCpu_run Cpu.storeCpu_run Cpu.loadIn_run Cpu.storeIn_run Cpu.rowAt_at Cpu.rowAt_past Cpu.rowAt_drew Cpu.rowAt_drewN Cpu.roomCpu_new Cpu.roomIn_new Cpu.roomAt_old Cpu.roomAt_drew Cpu.roomAt_drewN Cpu.putCpu_new Cpu.putIn_new Cpu.Cp.zero_fold Cpu.In.fold Cpu.putRow_past Cpu.rowCpu_put Cpu.rowIn_put Cpu.size_put Cpu.putRow_drew Cpu.putRow_drewN Cpu.alloc_drewN Cpu.setCell_drewN Cpu.Cp.at16 Cpu.Cp.at17 Cpu.Cp.at18 Cpu.Cp.at19 Cpu.Cp.at20 Cpu.Cp.at21 Cpu.Cp.size Cpu.Cp.set16 Cpu.Cp.set17 Cpu.Cp.set18 Cpu.Cp.set19 Cpu.Cp.set20 Cpu.Cp.set21 Cpu.In.at0 Cpu.In.at1 Cpu.In.at2 Cpu.In.at3 Cpu.In.at4 Cpu.In.at5 Cpu.In.at6 Cpu.In.at7 Cpu.In.size Cpu.In.set0 Cpu.In.set1 Cpu.In.set2 Cpu.In.set3 Cpu.In.ne Cpu.Cp.ne Cpu.In.set4 Cpu.In.set5 Cpu.In.set6 Cpu.In.set7 loadMid_run storeMid_run mc_size mc_cpu Cpu.loadAc_run Cpu.storeAc_run Cpu.loadEn_run Cpu.storeEn_run Cpu.putAc_new Cpu.putEn_new Cpu.roomAc_new Cpu.roomEn_new Cpu.rowAc_put Cpu.rowEn_put Cpu.Ac.at0 Cpu.Ac.at1 Cpu.Ac.at2 Cpu.Ac.size Cpu.Ac.ne Cpu.Ac.fold Cpu.En.at0 Cpu.En.at1 Cpu.En.at2 Cpu.En.at3 Cpu.En.size Cpu.En.set0 Cpu.En.set1 Cpu.En.set2 Cpu.En.set3 Cpu.Ac.set0 Cpu.Ac.set1 Cpu.Ac.set2 Cpu.En.ne Cpu.En.fold
set_option linter.unusedVariables false

/-- A machine all of whose blocks are new since w. -/
structure MOwn (w : World) (p b : Nat) (P : Ph) (m : Ms) (X : World) : Prop where
  mac : Mac X p b P m
  below : Below w.heap.size w X
  new : ∀ x, MM p b P x → w.heap.size ≤ x
theorem MOwn.step {w X Y : World} {p b : Nat} {P P' : Ph} {m m' : Ms} (h : MOwn w p b P m X) (hs : MStp X p b P Y P' m') : MOwn w p b P' m' Y :=
  ⟨hs.mac, h.below.trans (hs.tou.below h.below.size h.new), fun x hx => hx.elim (fun e => h.new x (.inl e)) fun e => (hs.new x e).elim (fun e => h.new x (.inr e)) fun e => Nat.le_trans h.below.size e⟩
theorem MOwn.next {w X Y : World} {p b : Nat} {P : Ph} {m : Ms} (h : MOwn w p b P m X) (hb : Below X.heap.size X Y) : MOwn w p b P m Y := h.step (MStp.below h.mac hb)
theorem MOwn.begin {w w1 w1' w2 : World} {p b db : Nat} {P : Ph} {D : Dk} {m : Ms} (hfr : D.fresh db w.heap.size) (hb1 : Below w.heap.size w w1) (ha : Below w1.heap.size w1 w1') (hM : Mac w2 p b P m) (hall : ∀ x, MM p b P x → (D.mut db x ∨ D.fix x) ∨ w1'.heap.size ≤ x) (hb2 : Below w1'.heap.size w1' w2) : MOwn w p b P m w2 :=
  ⟨hM, hb1.trans ((ha.trans (hb2.mono ha.size)).mono hb1.size), fun x hx => (hall x hx).elim (hfr x) fun e => Nat.le_trans (Nat.le_trans hb1.size ha.size) e⟩
def haltF (i : Nat) : Int := if i = 0 then 1073741831 else 1074724864
theorem mtwo_rd (w : World) (k : Nat) (t : TypeId) (hk : k = w.heap.size) : RdW (w.alloc (.cells #[.int .u32 1073741831, .int .u32 1074724864] t)) (some ⟨k, 0, none⟩) 2 haltF := by
  subst hk
  refine ⟨by decide, .inr ⟨_, 0, rfl, fun i hi => ?_⟩⟩
  have : i = 0 ∨ i = 1 := by omega
  rcases this with rfl | rfl
  · exact ⟨by simp [haltF], by decide, by decide⟩
  · exact ⟨by simp [haltF], by decide, by decide⟩
theorem sh_k (D : Dk) : ((Ms.new haltF 2 D 0).run 10).1 = enAt 3 0 := by kernel_rfl
theorem sh_st (D : Dk) : ((Ms.new haltF 2 D 0).run 10).2.st = 2 := by kernel_rfl
theorem sh_R (D : Dk) : ((Ms.new haltF 2 D 0).run 10).2.c.R 0 = 7 := by kernel_rfl
theorem sh_PC (D : Dk) : ((Ms.new haltF 2 D 0).run 10).2.c.PC = 4 := by kernel_rfl
theorem run_shown {X : World} {p b : Nat} {P : Ph} (D : Dk) (h : Mac X p b P (Ms.new haltF 2 D 0)) : Calls Tryz.prog 15 #[.pointer (some ⟨p, 0, none⟩), .int .i64 10] X fun e Y => ∃ E : En, ∃ P' m', E.k = 3 ∧ E.s = 2 ∧ m'.c.R 0 = 7 ∧ m'.c.PC = 4 ∧ e = .returned (.agg E.cells) ∧ MStp X p b P Y P' m' :=
  (run_any h 10 ⟨by decide, by decide⟩ (by show (0 : Int) ≤ _; decide)).mono fun e Y ⟨he, P', hS⟩ => by
    have e10 : steps 10 = 10 := by kernel_rfl
    rw [e10] at he hS
    refine ⟨_, P', _, ?_, ?_, sh_R D, sh_PC D, he, hS⟩
    · show ((Ms.new haltF 2 D 0).run 10).1.k = 3
      rw [sh_k]; rfl
    · show ((Ms.new haltF 2 D 0).run 10).2.st - 0 = 2
      rw [sh_st]; rfl
set_option maxHeartbeats 1000000 in
set_option maxRecDepth 20000 in
theorem mshown_any (w : World) (hW : Cpu.Ways w) : Calls Tryz.prog 9 #[] w fun e w' => e = .returned (.bool true) ∧ Below w.heap.size w w' := by
  have HW : Hid (Cpu.Ways w) := hW
  have g0 : ∀ c : Cp, c.cells[0]? = some (.int .u32 (c.R 0)) := fun c => Cpu.Cp.atR c 0 (by omega)
  clear hW
  go_enter Tryz.func9, Tryz.ntmps9
  go_wp2_with (first
    | (go_at_call 22; refine (new_some 8 _ (by omega) (by omega)).mono ?_; rintro e w1 ⟨db, D, rfl, hR, hn, hm, hS, hF, hfr, hb1⟩; have HR : Hid (Rep w1 db D ∧ D.fresh db w.heap.size ∧ Below w.heap.size w w1) := ⟨hR, hfr, hb1⟩; clear hR hn hm hS hF hfr hb1)
    | (go_at_call 23; refine (mnew_ok _ 2 _ db haltF D 0 _ ((HW.out.below HR.out.2.2 HW.out.big).alloc _) (HR.out.1.below (al _)) (fun x hx => Nat.lt_of_lt_of_le HW.out.big (HR.out.2.1 x hx)) (by decide) (mtwo_rd w1 _ _ rfl) (by decide) (by decide) rfl).mono ?_; rintro e w2 ⟨p, b, P, rfl, hM, hdb, hD, hall, hb2⟩; have HM : Hid (MOwn w p b P (Ms.new haltF 2 D 0) w2) := MOwn.begin HR.out.2.1 HR.out.2.2 (al _) hM hall hb2; clear hM hdb hD hall hb2)
    | (go_at_call 15; refine (run_shown D HM.out.mac).mono ?_; rintro e w3 ⟨E, P3, m3, k3, s3, c3, p3, rfl, hS⟩; have H3 : Hid (MOwn w p b P3 m3 w3) := HM.out.step hS; clear hS)
    | (go_at_call 16; refine (mcpu_any (H3.out.next (al _)).mac).mono ?_; rintro e w4 ⟨rfl, hb⟩; have H4 : Hid (MOwn w p b P3 m3 w4) := (H3.out.next (al _)).next hb; have hc4 : ∀ j, w4.cell? ⟨w3.heap.size, j, none⟩ = E.cells[j]? := (fun j => (hb.cell (p := ⟨w3.heap.size, j, none⟩) (by simp)).trans (by simp)); have l4 : w3.heap.size < w4.heap.size := (by have := hb.size; simp at this; omega); clear hb))
  go_ret
  exact ⟨by simp, (H4.out.next (al _)).below⟩
end Go.Proofs.YteegkhnikcioiaaGreatDoor
