/-
  One step of the document's machine.
-/
import Derived.Test.YteegkhnikcioiaaGreatDoorMRTrap
import Derived.Test.YteegkhnikcioiaaGreatDoorMCAccR
import Derived.Test.YteegkhnikcioiaaGreatDoorMCExv
import Derived.Deep.DeepCutAuto
namespace Go.Proofs.YteegkhnikcioiaaGreatDoor
open Go.ChangeShapes Go.WideShapes Go.ChangeAt Go.RowKit
open Cpu (Cp In Ac En decOk decI accA rightB)
attribute [local go_sem ↓] Cpu.loadCpu_seal Cpu.storeCpu_seal Cpu.loadIn_seal Cpu.storeIn_seal Cpu.loadAc_seal Cpu.storeAc_seal Cpu.loadEn_seal Cpu.storeEn_seal
attribute [local go_sem] rload_new Cpu.storeCpu_run Cpu.loadIn_run Cpu.storeIn_run Cpu.rowAt_at Cpu.rowAt_past Cpu.rowAt_drew Cpu.rowAt_drewN Cpu.roomCpu_new Cpu.roomIn_new Cpu.roomAt_old Cpu.roomAt_drew Cpu.roomAt_drewN Cpu.putCpu_new Cpu.putIn_new Cpu.Cp.zero_fold Cpu.In.fold Cpu.putRow_past Cpu.rowCpu_put Cpu.rowIn_put Cpu.size_put Cpu.putRow_drew Cpu.putRow_drewN Cpu.alloc_drewN Cpu.setCell_drewN Cpu.Cp.at16 Cpu.Cp.at17 Cpu.Cp.at18 Cpu.Cp.at19 Cpu.Cp.at20 Cpu.Cp.at21 Cpu.Cp.size Cpu.Cp.set16 Cpu.Cp.set17 Cpu.Cp.set18 Cpu.Cp.set19 Cpu.Cp.set20 Cpu.Cp.set21 Cpu.In.at0 Cpu.In.at1 Cpu.In.at2 Cpu.In.at3 Cpu.In.at4 Cpu.In.at5 Cpu.In.at6 Cpu.In.at7 Cpu.In.size Cpu.In.set0 Cpu.In.set1 Cpu.In.set2 Cpu.In.set3 Cpu.In.ne Cpu.Cp.ne Cpu.In.set4 Cpu.In.set5 Cpu.In.set6 Cpu.In.set7 Cpu.loadAc_run Cpu.storeAc_run Cpu.loadEn_run Cpu.storeEn_run Cpu.putAc_new Cpu.putEn_new Cpu.roomAc_new Cpu.roomEn_new Cpu.rowAc_put Cpu.rowEn_put Cpu.Ac.at0 Cpu.Ac.at1 Cpu.Ac.at2 Cpu.Ac.size Cpu.Ac.ne Cpu.Ac.fold Cpu.En.at0 Cpu.En.at1 Cpu.En.at2 Cpu.En.at3 Cpu.En.size Cpu.En.set0 Cpu.En.set1 Cpu.En.set2 Cpu.En.set3 Cpu.Ac.set0 Cpu.Ac.set1 Cpu.Ac.set2 Cpu.En.ne Cpu.En.fold
set_option linter.unusedVariables false

/-- The machine, the end that will be told, and the end where it is stuck. -/
structure RAt (w : World) (p r : Nat) (Q : RPh) (m : Ms) (X : World) : Prop where
  st : RMStp w p r Q X Q m
  e : RLoc X p r Q w.heap.size 4 (enAt 0 0).cells
  b : RLoc X p r Q (w.heap.size + 1) 4 (enAt 6 m.c.PC).cells
theorem RAt.below {w X Y : World} {p r : Nat} {Q : RPh} {m : Ms} (h : RAt w p r Q m X) (hb : Below X.heap.size X Y) : RAt w p r Q m Y := ⟨h.st.trans (RMStp.below h.st.mac hb), h.e.below hb, h.b.below hb⟩
theorem RAt.begin {w : World} {p r : Nat} {Q : RPh} {m : Ms} (h : RMac w p r Q m) (t : TypeId) : RAt w p r Q m ((w.alloc (.cells (enAt 0 0).cells t)).alloc (.cells (enAt 6 m.c.PC).cells t)) := by
  have b1 : Below w.heap.size w (w.alloc (.cells (enAt 0 0).cells t)) := al _
  have h1 := RMStp.below h b1
  have h2 := RMStp.below h1.mac (al (.cells (enAt 6 m.c.PC).cells t))
  refine ⟨h1.trans h2, (RLoc.new h (enAt 0 0).cells t 4 rfl).below (al _), ?_⟩
  have := RLoc.new h1.mac (enAt 6 m.c.PC).cells t 4 rfl
  simpa using this
/-- Behind an access. -/
structure RDid (w : World) (p r : Nat) (Q : RPh) (m0 : Ms) (Q' : RPh) (m : Ms) (gi : Nat) (i : In) (X : World) : Prop where
  st : RMStp w p r Q X Q' m
  e : RLoc X p r Q' w.heap.size 4 (enAt 0 0).cells
  b : RLoc X p r Q' (w.heap.size + 1) 4 (enAt 6 m0.c.PC).cells
  i : RLoc X p r Q' gi 8 i.cells
theorem RDid.below {w X Y : World} {p r : Nat} {Q Q' : RPh} {m0 m : Ms} {gi : Nat} {i : In} (h : RDid w p r Q m0 Q' m gi i X) (hb : Below X.heap.size X Y) : RDid w p r Q m0 Q' m gi i Y := ⟨h.st.trans (RMStp.below h.st.mac hb), h.e.below hb, h.b.below hb, h.i.below hb⟩
theorem RDid.step {w X Y : World} {p r : Nat} {Q Q' Q2 : RPh} {m0 m m2 : Ms} {gi : Nat} {i : In} (h : RDid w p r Q m0 Q' m gi i X) (hs : RMStp X p r Q' Y Q2 m2) : RDid w p r Q m0 Q2 m2 gi i Y := ⟨h.st.trans hs, h.e.step hs, h.b.step hs, h.i.step hs⟩
theorem RDid.new {w X : World} {p r : Nat} {Q : RPh} {m : Ms} (h : RAt w p r Q m X) (i : In) (t : TypeId) : RDid w p r Q m Q m X.heap.size i (X.alloc (.cells i.cells t)) := ⟨(h.below (al _)).st, (h.below (al _)).e, (h.below (al _)).b, RLoc.new h.st.mac i.cells t 8 rfl⟩
theorem RAt.word {w X : World} {p r : Nat} {Q : RPh} {m : Ms} (h : RAt w p r Q m X) : X.cell? ⟨p, 22, none⟩ = some (.pointer (some ⟨r, 0, none⟩)) ∧ X.cell? ⟨p, 21, none⟩ = some (.int .u32 m.c.PC) := ⟨h.st.mac.five.c22, h.st.mac.five.c21⟩
/-- What is read ahead of an access, and of Exec. -/
theorem RDid.reads {w X : World} {p r : Nat} {Q Q' : RPh} {m0 m : Ms} {gi : Nat} {i : In} (h : RDid w p r Q m0 Q' m gi i X) : X.cell? ⟨p, 22, none⟩ = some (.pointer (some ⟨r, 0, none⟩)) ∧ (Cpu.loadCpu ⟨p, 0, none⟩).run Tryz.prog X = .ok (.agg m.c.cells) X ∧ Cpu.rowAt X gi = some i.cells := ⟨h.st.mac.five.c22, rload_top h.st.mac, h.i.row⟩
theorem RDid.laid {w V X : World} {p r : Nat} {Q Q' : RPh} {m0 m : Ms} {gi : Nat} {i : In} {Y Z : Array Value} (h : RDid w p r Q m0 Q' m gi i X) (hl : RLoc X p r Q' V.heap.size 22 Y) (hV : RDid w p r Q m0 Q' m gi i V) : RDid w p r Q m0 Q' m gi i (Cpu.putRow X V.heap.size Z) :=
  ⟨h.st.put hl hV.st.tou.size _, h.e.put (Nat.ne_of_lt hV.e.lt) _, h.b.put (Nat.ne_of_lt hV.b.lt) _, h.i.put (Nat.ne_of_lt hV.i.lt) _⟩
theorem rword_bd {w : World} {p r : Nat} {Q : RPh} {m : Ms} (h : RMac w p r Q m) : 0 ≤ m.word ∧ m.word ≤ 4294967295 := by
  unfold Ms.word gotV
  split
  · rename_i hw
    simp [isW] at hw
    exact wordAt_bd h.bus.byte (by omega) h.ok.c.PC.1
  · exact ⟨by decide, by decide⟩
theorem rdev_bd {w : World} {r : Nat} {P : RPh} {L : Lg} (h : RBus w r P L) : ∀ d : Nat, 0 ≤ (L.dev d).1.1 ∧ (L.dev d).1.1 ≤ 4294967295
  | 0 => h.tk
  | 1 => by
    unfold Lg.dev
    cases hI : L.I with
    | nil => exact zero_bd
    | cons x q =>
      have hx : x ∈ bytesL P.In := by rw [h.inp, hI]; simp
      have := bytesL_byte P.In x hx
      exact ⟨this.1, by show x ≤ 4294967295; omega⟩
  | 2 => by
    show 0 ≤ (if L.I = [] then (2 : Int) else 3) ∧ (if L.I = [] then (2 : Int) else 3) ≤ 4294967295
    split <;> exact ⟨by decide, by decide⟩
  | 3 => h.sc
  | 4 => h.ad
  | 5 => h.cm
  | 6 => by
    show 0 ≤ (L.n : Int) ∧ (L.n : Int) ≤ 4294967295
    have := h.dsk.n1
    have := h.dn
    omega
  | _ + 7 => zero_bd
theorem rdid_bd {w : World} {r : Nat} {P : RPh} {L : Lg} (h : RBus w r P L) (k a v : Int) (a0 : 0 ≤ a) : 0 ≤ (L.step k a v).1.1 ∧ (L.step k a v).1.1 ≤ 4294967295 := by
  unfold Lg.step
  split
  · exact zero_bd
  · split
    · unfold Lg.load
      split
      · rename_i hw
        simp [isW] at hw
        exact wordAt_bd h.byte (by omega) a0
      · exact rdev_bd h _
    · split
      · unfold Lg.ldb
        split
        · have := h.byte a.toNat (by omega)
          exact ⟨this.1, by show L.M a.toNat ≤ 4294967295; omega⟩
        · exact zero_bd
      · split
        · exact zero_bd
        · split <;> exact zero_bd
theorem rmdo_any {w : World} {p r : Nat} {Q : RPh} {m : Ms} (h : RMac w p r Q m) : Calls Tryz.prog 60 #[.pointer (some ⟨r, 0, none⟩), .agg m.asks.cells] w fun e w' => e = .returned (.tuple #[.int .u32 m.did.1.1, .int .i64 m.did.1.2]) ∧ ∃ Q', RMStp w p r Q w' Q' { m with L := m.did.2 } := by
  have B := acc_bd (i := decI m.word) h.ok.c
  exact (rdo_any r Q m.L m.asks.K m.asks.D m.asks.V w h.bus B.1.1 B.1.2 B.2.1 B.2.2).mono fun e w' ⟨he, Q', hS⟩ => ⟨he, Q', h.stp hS⟩
set_option maxHeartbeats 2000000 in
set_option maxRecDepth 20000 in
theorem rstep_bad {w : World} {p r : Nat} {Q : RPh} {m : Ms} (h : RMac w p r Q m) (hw : isW m.c.PC = false) : Calls Tryz.prog 50 #[.pointer (some ⟨p, 0, none⟩)] w fun e w' => e = .returned (.tuple #[.agg (enAt 6 m.c.PC).cells, .bool true]) ∧ ∃ Q', RMStp w p r Q w' Q' m := by
  have H0 : Hid (RAt w p r Q m ((w.alloc (.cells (⟨0, 0, 0, 0⟩ : En).cells 41)).alloc (.cells (⟨6, 0, m.c.PC, 0⟩ : En).cells 41))) := RAt.begin h _
  have c21 := fun o => (h.below (al o)).five.c21
  have pcb := h.ok.c.PC
  clear h
  go_enter Tryz.func50, Tryz.ntmps50
  go_upto_region 2 with fail
  generalize ((w.alloc (.cells (⟨0, 0, 0, 0⟩ : En).cells 41)).alloc (.cells (⟨6, 0, m.c.PC, 0⟩ : En).cells 41)) = V at H0 ⊢
  have s0 := (H0.out.below (drB _)).word
  go_region_held3 (fun X => X.cell? ⟨p, 22, none⟩ = some (.pointer (some ⟨r, 0, none⟩)) ∧ X.cell? ⟨p, 21, none⟩ = some (.int .u32 m.c.PC)) (first | exact s0 | assumption) (first | (go_at_call 33; refine (rword_any r Q m.L m.c.PC _ (H0.out.below (drB _)).st.mac.bus pcb.1 pcb.2).mono ?_; rw [hw]; rintro e w1 ⟨rfl, hx⟩; obtain rfl := hx.symm; clear hx))
  have r1 := (H0.out.below (drB _)).e.room
  have r2 : Cpu.rowAt V.drew (w.heap.size + 1) = some (enAt 6 m.c.PC).cells := (H0.out.below (drB _)).b.row
  go_wp2_with fail
  have P0 := H0.out.st.put H0.out.e (Nat.le_refl _) (enAt 6 m.c.PC).cells
  exact Cpu.ret_cell_tmp rfl rfl (Cpu.loadEn_row ((Cpu.rowAt_drew _ _).trans (Cpu.rowEn_put _ _ _ H0.out.e.room))) rfl ⟨rfl, Q, P0.trans (RMStp.below P0.mac (drB _))⟩
set_option maxHeartbeats 2000000 in
set_option maxRecDepth 20000 in
theorem rstep_ill {w : World} {p r : Nat} {Q : RPh} {m : Ms} (h : RMac w p r Q m) (hw : isW m.c.PC = true) (hd : decOk m.word = false) : Calls Tryz.prog 50 #[.pointer (some ⟨p, 0, none⟩)] w fun e w' => e = .returned (.tuple #[.agg (enAt 5 m.c.PC).cells, .bool true]) ∧ ∃ Q', RMStp w p r Q w' Q' m := by
  have H0 : Hid (RAt w p r Q m ((w.alloc (.cells (⟨0, 0, 0, 0⟩ : En).cells 41)).alloc (.cells (⟨6, 0, m.c.PC, 0⟩ : En).cells 41))) := RAt.begin h _
  have c21 := fun o => (h.below (al o)).five.c21
  have pcb := h.ok.c.PC
  have hx := rword_bd h
  clear h
  go_enter Tryz.func50, Tryz.ntmps50
  go_upto_region 2 with fail
  generalize ((w.alloc (.cells (⟨0, 0, 0, 0⟩ : En).cells 41)).alloc (.cells (⟨6, 0, m.c.PC, 0⟩ : En).cells 41)) = V at H0 ⊢
  have s0 := (H0.out.below (drB _)).word
  go_region_held3 (fun X => X.cell? ⟨p, 22, none⟩ = some (.pointer (some ⟨r, 0, none⟩)) ∧ X.cell? ⟨p, 21, none⟩ = some (.int .u32 m.c.PC)) (first | exact s0 | assumption) (first | (go_at_call 33; refine (rword_any r Q m.L m.c.PC _ (H0.out.below (drB _)).st.mac.bus pcb.1 pcb.2).mono ?_; rw [hw]; rintro e w1 ⟨rfl, hx⟩; obtain rfl := hx.symm; clear hx))
  go_wp2_with (go_at_call 59; refine (Cpu.rdecode_any m.word _ hx.1 hx.2).mono ?_; rw [hd]; rintro e w2 ⟨rfl, hb⟩; have H2 : Hid (RAt w p r Q m w2) := (H0.out.below (drB _)).below hb; have d21 : ∀ o, (w2.alloc o).cell? ⟨p, 21, none⟩ = some (.int .u32 m.c.PC) := (fun o => (H2.out.below (al o)).word.2); have r1 : ∀ o, Cpu.roomAt (w2.alloc o) w.heap.size 4 = true := (fun o => (H2.out.below (al o)).e.room); have l1 := H2.out.e.lt; clear hb)
  first
    | exact Cpu.ret_cell_tmp rfl rfl (Cpu.loadEn_row (Cpu.rowEn_put _ _ _ (r1 _))) rfl ⟨rfl, Q, (H2.out.below (al _)).st.put (H2.out.below (al _)).e (Nat.le_refl _) _⟩
    | exact Cpu.ret_cell_tmp rfl rfl (Cpu.loadEn_row ((Cpu.rowAt_past _ _ _ (by rw [Cpu.size_put]; exact l1)).trans (Cpu.rowEn_put _ _ _ H2.out.e.room))) rfl ⟨rfl, Q, (H2.out.st.put H2.out.e (Nat.le_refl _) _).trans (RMStp.below (H2.out.st.put H2.out.e (Nat.le_refl _) _).mac (al _))⟩
set_option maxHeartbeats 4000000 in
set_option maxRecDepth 20000 in
theorem rstep_ok {w : World} {p r : Nat} {Q : RPh} {m : Ms} (h : RMac w p r Q m) (hw : isW m.c.PC = true) (hd : decOk m.word = true) (hst : m.st + 1 ≤ 4611686018427387904) : Calls Tryz.prog 50 #[.pointer (some ⟨p, 0, none⟩)] w fun e w' => e = .returned (.tuple #[.agg m.step.1.2.cells, .bool (!(m.step.1.2.k == 0))]) ∧ ∃ Q', RMStp w p r Q w' Q' m.step.2 := by
  have H0 : Hid (RAt w p r Q m ((w.alloc (.cells (⟨0, 0, 0, 0⟩ : En).cells 41)).alloc (.cells (⟨6, 0, m.c.PC, 0⟩ : En).cells 41))) := RAt.begin h _
  have c21 := fun o => (h.below (al o)).five.c21
  have pcb := h.ok.c.PC
  have hx := rword_bd h
  have hdv : 0 ≤ m.did.1.1 ∧ m.did.1.1 ≤ 4294967295 := rdid_bd h.bus _ _ _ (acc_bd h.ok.c).1.1
  have okc : Hid m.c.Ok := h.ok.c
  have hs0 := h.ok.st.1
  have hwr : IntKind.i64.wrap (m.st + 1) = m.st + 1 := by rw [IntWalk.i64_left, IntWalk.wrap64_in]; omega
  clear h
  go_enter Tryz.func50, Tryz.ntmps50
  go_upto_region 2 with fail
  generalize ((w.alloc (.cells (⟨0, 0, 0, 0⟩ : En).cells 41)).alloc (.cells (⟨6, 0, m.c.PC, 0⟩ : En).cells 41)) = V at H0 ⊢
  have s0 := (H0.out.below (drB _)).word
  go_region_held3 (fun X => X.cell? ⟨p, 22, none⟩ = some (.pointer (some ⟨r, 0, none⟩)) ∧ X.cell? ⟨p, 21, none⟩ = some (.int .u32 m.c.PC)) (first | exact s0 | assumption) (first | (go_at_call 33; refine (rword_any r Q m.L m.c.PC _ (H0.out.below (drB _)).st.mac.bus pcb.1 pcb.2).mono ?_; rw [hw]; rintro e w1 ⟨rfl, hx⟩; obtain rfl := hx.symm; clear hx))
  go_upto_region 8 with (go_at_call 59; refine (Cpu.rdecode_any m.word _ hx.1 hx.2).mono ?_; rw [hd]; rintro e w2 ⟨rfl, hb⟩; have H2 : Hid (RAt w p r Q m w2) := (H0.out.below (drB _)).below hb; clear hb)
  have HD : Hid (RDid w p r Q m Q m w2.heap.size (decI m.word) (w2.alloc (.cells (decI m.word).cells 123))) := RDid.new H2.out _ _
  clear H0 H2 s0
  generalize w2.alloc (.cells (decI m.word).cells 123) = V2 at HD ⊢
  have s0 := (HD.out.below (drB _)).reads
  go_region_held3 (fun X => X.cell? ⟨p, 22, none⟩ = some (.pointer (some ⟨r, 0, none⟩)) ∧ (Cpu.loadCpu ⟨p, 0, none⟩).run Tryz.prog X = .ok (.agg m.c.cells) X ∧ Cpu.rowAt X w2.heap.size = some (decI m.word).cells) (first | exact s0 | exact s1 | exact s2 | assumption) (first
    | (go_at_call 61; refine (Cpu.raccess_any m.c (decI m.word) _ okc.out).mono ?_; rintro e w3 ⟨rfl, hb⟩; have H3 : Hid (RDid w p r Q m Q m w2.heap.size (decI m.word) w3) := (HD.out.below (drB _)).below hb; have s1 := H3.out.reads; clear hb)
    | (go_at_call 60; refine (rmdo_any H3.out.st.mac).mono ?_; rintro e w4 ⟨rfl, Q1, hS⟩; have H4 : Hid (RDid w p r Q m Q1 { m with L := m.did.2 } w2.heap.size (decI m.word) w4) := H3.out.step hS; have s2 : w4.cell? ⟨p, 22, none⟩ = some (.pointer (some ⟨r, 0, none⟩)) ∧ (Cpu.loadCpu ⟨p, 0, none⟩).run Tryz.prog w4 = .ok (.agg m.c.cells) w4 ∧ Cpu.rowAt w4 w2.heap.size = some (decI m.word).cells := H4.out.reads; clear hS))
  have r1 := H4.out.e.room
  have r2 : Cpu.rowAt w4 (w.heap.size + 1) = some (enAt 6 m.c.PC).cells := H4.out.b.row
  clear HD H3 s0 s1
  by_cases q1 : m.did.1.2 = 1
  · have hs : Hid (m.step = ((m.asks, enAt 6 m.c.PC), { m with L := m.did.2 })) := by show _ = _; unfold Ms.step; rw [if_pos hw, if_pos hd, if_pos q1]
    go_wp2_with fail
    exact Cpu.ret_cell_tmp rfl rfl (Cpu.loadEn_row (Cpu.rowEn_put _ _ _ r1)) rfl ⟨by rw [hs.out]; rfl, Q1, by rw [hs.out]; exact H4.out.st.put H4.out.e (Nat.le_refl _) _⟩
  · by_cases q2 : m.did.1.2 = 2
    · have hs : Hid (m.step = ((m.asks, enAt 2 0), { m with L := m.did.2 })) := by show _ = _; unfold Ms.step; rw [if_pos hw, if_pos hd, if_neg q1, if_pos q2]
      go_wp2_with fail
      exact Cpu.ret_cell_tmp rfl rfl (Cpu.loadEn_row (Cpu.rowEn_put _ _ _ r1)) rfl ⟨by rw [hs.out]; rfl, Q1, by rw [hs.out]; exact H4.out.st.put H4.out.e (Nat.le_refl _) _⟩
    · clear r1 r2 s2
      have q1b : (m.did.1.2 == 1) = false := by simpa using q1
      have q2b : (m.did.1.2 == 2) = false := by simpa using q2
      go_upto_region 14 with fail
      have s0 := (H4.out.below (drB _)).reads
      have a0 : ∀ o, _ := fun o => ((H4.out.below (al o)).below (drB _)).reads
      go_cut [11, 12, 13] from 14 (fun s11 s12 s13 X => ∃ gb, s11 = .pointer (some ⟨gb, 0, none⟩) ∧ s12 = .int .i64 (m.c.execN (decI m.word)) ∧ s13 = .bool (m.c.execT (decI m.word)) ∧ RDid w p r Q m Q1 { m with L := m.did.2 } w2.heap.size (decI m.word) X ∧ RLoc X p r Q1 gb 22 (m.c.execD (decI m.word) m.did.1.1).cells)
      case first =>
        go_region_held3 (fun X => X.cell? ⟨p, 22, none⟩ = some (.pointer (some ⟨r, 0, none⟩)) ∧ (Cpu.loadCpu ⟨p, 0, none⟩).run Tryz.prog X = .ok (.agg m.c.cells) X ∧ Cpu.rowAt X w2.heap.size = some (decI m.word).cells) (first | exact s0 | exact a0 _ | exact s1 | exact s2 _ | exact s3 _) (first | (go_at_call 62; refine (Cpu.rexec_any m.c (decI m.word) m.did.1.1 _ okc.out hdv.1 hdv.2).mono ?_; rintro e w6 ⟨rfl, hb⟩; have H6 : Hid (RDid w p r Q m Q1 { m with L := m.did.2 } w2.heap.size (decI m.word) w6) := (by first | exact (H4.out.below (drB _)).below hb | exact ((H4.out.below (al _)).below (drB _)).below hb); have s1 : w6.cell? ⟨p, 22, none⟩ = some (.pointer (some ⟨r, 0, none⟩)) ∧ (Cpu.loadCpu ⟨p, 0, none⟩).run Tryz.prog w6 = .ok (.agg m.c.cells) w6 ∧ Cpu.rowAt w6 w2.heap.size = some (decI m.word).cells := H6.out.reads; have s2 : ∀ o, (w6.alloc o).cell? ⟨p, 22, none⟩ = some (.pointer (some ⟨r, 0, none⟩)) ∧ (Cpu.loadCpu ⟨p, 0, none⟩).run Tryz.prog (w6.alloc o) = .ok (.agg m.c.cells) (w6.alloc o) ∧ Cpu.rowAt (w6.alloc o) w2.heap.size = some (decI m.word).cells := fun o => (H6.out.below (al o)).reads; try (have LA : Hid (RLoc w6 p r Q1 w4.heap.size 22 Cpu.Cp.zero.cells) := ((RLoc.new H4.out.st.mac _ _ 22 rfl).below (drB _)).below hb; have rA := LA.out.room; have s3 : ∀ Z, (Cpu.putRow w6 w4.heap.size Z).cell? ⟨p, 22, none⟩ = some (.pointer (some ⟨r, 0, none⟩)) ∧ (Cpu.loadCpu ⟨p, 0, none⟩).run Tryz.prog (Cpu.putRow w6 w4.heap.size Z) = .ok (.agg m.c.cells) (Cpu.putRow w6 w4.heap.size Z) ∧ Cpu.rowAt (Cpu.putRow w6 w4.heap.size Z) w2.heap.size = some (decI m.word).cells := fun Z => (H6.out.laid LA.out H4.out).reads)))
        all_goals
          go_wp2_with fail
          go_meet
          first | exact ⟨_, rfl, rfl, rfl, H6.out.below (al _), RLoc.new H6.out.st.mac _ _ 22 rfl⟩ | exact ⟨_, rfl, rfl, rfl, H6.out.laid LA.out H4.out, Cpu.rowCpu_put _ _ _ LA.out.room, Cpu.roomAt_putrow LA.out.room, by rw [Cpu.size_put]; exact LA.out.lt, LA.out.nin⟩
      case rest =>
        obtain ⟨gb, rfl, rfl, rfl, hD, hl⟩ := hcut
        have HE : Hid (RDid w p r Q m Q1 { m with L := m.did.2 } w2.heap.size (decI m.word) wc ∧ RLoc wc p r Q1 gb 22 (m.c.execD (decI m.word) m.did.1.1).cells) := ⟨hD, hl⟩
        clear hD hl s0 a0 H4
        generalize hT : m.c.execT (decI m.word) = T
        have HT : Hid (m.c.execT (decI m.word) = T) := hT
        clear hT
        cases T
        case true =>
          have ht := HT.out
          have hs : Hid (m.step = ((m.asks, (m.counted.trapped (m.c.execN (decI m.word))).1), (m.counted.trapped (m.c.execN (decI m.word))).2)) := by show _ = _; unfold Ms.step; rw [if_pos hw, if_pos hd, if_neg q1, if_neg q2, if_pos ht]
          clear ht
          go_wp2_with (go_at_call 63; refine (rtrap_any HE.out.1.st.mac (m.c.execN (decI m.word)) hst).mono ?_; rintro e w7 ⟨rfl, Q2, hS⟩; have H7 : Hid (RDid w p r Q m Q2 (m.counted.trapped (m.c.execN (decI m.word))).2 w2.heap.size (decI m.word) w7) := HE.out.1.step hS; have r7 := H7.out.e.room; clear hS)
          exact Cpu.ret_cell_tmp rfl rfl (Cpu.loadEn_row (Cpu.rowEn_put _ _ _ r7)) rfl ⟨by rw [hs.out]; rfl, Q2, by rw [hs.out]; exact H7.out.st.put H7.out.e (Nat.le_refl _) _⟩
        case false =>
          have ht : ¬ m.c.execT (decI m.word) = true := by rw [HT.out]; decide
          have hs : Hid (m.step = ((m.asks, enAt 0 0), { m.counted with c := m.c.execD (decI m.word) m.did.1.1 })) := by show _ = _; unfold Ms.step; rw [if_pos hw, if_pos hd, if_neg q1, if_neg q2, if_neg ht]
          have rb : (Cpu.loadCpu ⟨gb, 0, none⟩).run Tryz.prog wc = .ok (.agg (m.c.execD (decI m.word) m.did.1.1).cells) wc := Cpu.loadCpu_row HE.out.2.row
          have rp := rstore_top (m.c.execD (decI m.word) m.did.1.1) HE.out.1.st.mac.room
          have H8 : Hid (RDid w p r Q m Q1 { m with L := m.did.2, c := m.c.execD (decI m.word) m.did.1.1 } w2.heap.size (decI m.word) (Cpu.putRow wc p (m.c.execD (decI m.word) m.did.1.1).cells)) := HE.out.1.step (HE.out.1.st.mac.putCpu _ (execD_ok okc.out hdv.1 hdv.2 (by simpa using ht)))
          clear ht
          have c24 := H8.out.st.mac.five.c24
          have f24 := H8.out.st.mac.free (j := 24) (by omega)
          have H9 : Hid (RDid w p r Q m Q1 { m.counted with c := m.c.execD (decI m.word) m.did.1.1 } w2.heap.size (decI m.word) ((Cpu.putRow wc p (m.c.execD (decI m.word) m.did.1.1).cells).setCell ⟨p, 24, none⟩ (.int .i64 (m.st + 1)))) := H8.out.step (H8.out.st.mac.put 24 _ (rmc_set24 r _ _) rfl ⟨H8.out.st.mac.ok.c, ⟨by show 0 ≤ m.st + 1; omega, hst⟩, H8.out.st.mac.ok.cut⟩)
          have r9 := H9.out.e.room
          go_wp2_with fail
          exact Cpu.ret_cell_tmp rfl rfl (Cpu.loadEn_row (Cpu.rowEn_put _ _ _ r9)) rfl ⟨by rw [hs.out]; rfl, Q1, by rw [hs.out]; exact H9.out.st.put H9.out.e (Nat.le_refl _) _⟩
theorem rstep_any {w : World} {p r : Nat} {Q : RPh} {m : Ms} (h : RMac w p r Q m) (hst : m.st + 1 ≤ 4611686018427387904) : Calls Tryz.prog 50 #[.pointer (some ⟨p, 0, none⟩)] w fun e w' => e = .returned (.tuple #[.agg m.step.1.2.cells, .bool (!(m.step.1.2.k == 0))]) ∧ ∃ Q', RMStp w p r Q w' Q' m.step.2 := by
  cases hw : isW m.c.PC
  · have hs : m.step = (({ K := 0, D := 0, V := 0 }, enAt 6 m.c.PC), m) := by unfold Ms.step; rw [if_neg (by rw [hw]; decide)]
    rw [hs]
    exact rstep_bad h hw
  · cases hd : decOk m.word
    · have hs : m.step = (({ K := 0, D := 0, V := 0 }, enAt 5 m.c.PC), m) := by unfold Ms.step; rw [if_pos hw, if_neg (by rw [hd]; decide)]
      rw [hs]
      exact rstep_ill h hw hd
    · exact rstep_ok h hw hd hst
end Go.Proofs.YteegkhnikcioiaaGreatDoor
