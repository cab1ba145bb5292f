/-
  One step of a machine.
-/
import Derived.Test.YteegkhnikcioiaaGreatDoorMOkay
import Derived.Deep.DeepCutAuto
namespace Go.Proofs.YteegkhnikcioiaaGreatDoor
open Go.ChangeShapes Go.WideShapes Go.ChangeAt Go.RowKit
open Cpu (Cp In Ac En decOk decI accA rightB)
attribute [local go_sem ↓] Cpu.loadCpu_seal Cpu.storeCpu_seal Cpu.loadIn_seal Cpu.storeIn_seal Cpu.loadAc_seal Cpu.storeAc_seal Cpu.loadEn_seal Cpu.storeEn_seal
attribute [local go_sem] Cpu.loadCpu_run Cpu.storeCpu_run Cpu.loadIn_run Cpu.storeIn_run Cpu.rowAt_at Cpu.rowAt_past Cpu.rowAt_drew Cpu.rowAt_drewN Cpu.roomCpu_new Cpu.roomIn_new Cpu.roomAt_old Cpu.roomAt_drew Cpu.roomAt_drewN Cpu.putCpu_new Cpu.putIn_new Cpu.Cp.zero_fold Cpu.In.fold Cpu.putRow_past Cpu.rowCpu_put Cpu.rowIn_put Cpu.size_put Cpu.putRow_drew Cpu.putRow_drewN Cpu.alloc_drewN Cpu.setCell_drewN Cpu.Cp.at16 Cpu.Cp.at17 Cpu.Cp.at18 Cpu.Cp.at19 Cpu.Cp.at20 Cpu.Cp.at21 Cpu.Cp.size Cpu.Cp.set16 Cpu.Cp.set17 Cpu.Cp.set18 Cpu.Cp.set19 Cpu.Cp.set20 Cpu.Cp.set21 Cpu.In.at0 Cpu.In.at1 Cpu.In.at2 Cpu.In.at3 Cpu.In.at4 Cpu.In.at5 Cpu.In.at6 Cpu.In.at7 Cpu.In.size Cpu.In.set0 Cpu.In.set1 Cpu.In.set2 Cpu.In.set3 Cpu.In.ne Cpu.Cp.ne Cpu.In.set4 Cpu.In.set5 Cpu.In.set6 Cpu.In.set7 loadMid_run storeMid_run mc_size mc_cpu Cpu.loadAc_run Cpu.storeAc_run Cpu.loadEn_run Cpu.storeEn_run Cpu.putAc_new Cpu.putEn_new Cpu.roomAc_new Cpu.roomEn_new Cpu.rowAc_put Cpu.rowEn_put Cpu.Ac.at0 Cpu.Ac.at1 Cpu.Ac.at2 Cpu.Ac.size Cpu.Ac.ne Cpu.Ac.fold Cpu.En.at0 Cpu.En.at1 Cpu.En.at2 Cpu.En.at3 Cpu.En.size Cpu.En.set0 Cpu.En.set1 Cpu.En.set2 Cpu.En.set3 Cpu.Ac.set0 Cpu.Ac.set1 Cpu.Ac.set2 Cpu.En.ne Cpu.En.fold
set_option linter.unusedVariables false

def acZ : Ac := { K := 0, D := 0, V := 0 }
theorem Cpu.roomAt_putrow {w : World} {g n : Nat} {X : Array Value} (h : Cpu.roomAt w g n = true) : Cpu.roomAt (Cpu.putRow w g X) g n = true := by
  unfold Cpu.roomAt at h
  split at h
  · rename_i Y t fr hY
    simp only [Bool.and_eq_true, beq_iff_eq] at h
    rw [Cpu.putRow_eq]
    unfold Cpu.roomAt
    rw [Cpu.setCells_heap _ _ _ _ hY]
    simp [Cpu.putList_size, h.1, h.2]
  · cases h
/-- The two blocks of a step's answer. -/
structure Two (w : World) (p b : Nat) (P : Ph) (s : Nat) : Prop where
  a : Loc w p b P s 3 acZ.cells
  e : Loc w p b P (s + 1) 4 (enAt 0 0).cells
theorem Two.step {w w' : World} {p b : Nat} {P P' : Ph} {s : Nat} {m' : Ms} (h : Two w p b P s) (hs : MStp w p b P w' P' m') : Two w' p b P' s := ⟨h.a.step hs, h.e.step hs⟩
theorem Two.below {w w' : World} {p b : Nat} {P : Ph} {s : Nat} (h : Two w p b P s) (hb : Below w.heap.size w w') : Two w' p b P s := ⟨h.a.below hb, h.e.below hb⟩
theorem Two.room2 {w : World} {p b : Nat} {P : Ph} {s : Nat} (h : Two w p b P s) (X : Array Value) : Cpu.roomAt (Cpu.putRow w s X) (s + 1) 4 = true := (h.e.put (n' := 0) (Y := X) (by omega) X).room
theorem step_end {w w2 : World} {p b s : Nat} {P P2 : Ph} {m2 : Ms} (H : MStp w p b P w2 P2 m2) (T : Two w2 p b P2 s) (hs : w.heap.size ≤ s) (hz : 0 < s) (a : Ac) (e : En) : MStp w p b P (Cpu.putRow (Cpu.putRow w2 s a.cells) (s + 1) e.cells) P2 m2 ∧ Cpu.rowAt (Cpu.putRow (Cpu.putRow w2 s a.cells) (s + 1) e.cells) s = some a.cells ∧ Cpu.rowAt (Cpu.putRow (Cpu.putRow w2 s a.cells) (s + 1) e.cells) (s + 1) = some e.cells := by
  have LE : Loc (Cpu.putRow w2 s a.cells) p b P2 (s + 1) 4 (enAt 0 0).cells := T.e.put (n' := 0) (Y := a.cells) (by omega) _
  refine ⟨(H.put T.a hs hz _).put LE (by omega) (by omega) _, ?_, Cpu.rowEn_put _ _ _ LE.room⟩
  exact (rowAt_same (heap_put _ _ _ (by omega) _)).trans (Cpu.rowAc_put _ _ _ T.a.room)
theorem two_new {w : World} {p b : Nat} {P : Ph} {m : Ms} (h : Mac w p b P m) : MStp w p b P ((w.alloc (.cells acZ.cells 114)).alloc (.cells (enAt 0 0).cells 41)) P m ∧ Two ((w.alloc (.cells acZ.cells 114)).alloc (.cells (enAt 0 0).cells 41)) p b P w.heap.size := by
  have b1 : Below w.heap.size w (w.alloc (.cells acZ.cells 114)) := (Below.refl _ w).alloc (Nat.le_refl _) _
  have M1 := MStp.below h b1
  have b2 : Below (w.alloc (.cells acZ.cells 114)).heap.size (w.alloc (.cells acZ.cells 114)) ((w.alloc (.cells acZ.cells 114)).alloc (.cells (enAt 0 0).cells 41)) := (Below.refl _ _).alloc (Nat.le_refl _) _
  refine ⟨M1.trans (MStp.below M1.mac b2), (Loc.new h acZ.cells _ 3 rfl).below b2, ?_⟩
  have := Loc.new M1.mac (enAt 0 0).cells 41 4 rfl
  simpa using this
theorem mdo_any {w : World} {p b : Nat} {P : Ph} {m : Ms} (h : Mac w p b P m) : Calls Tryz.prog 67 #[.pointer (some ⟨b, 0, none⟩), .agg m.asks.cells] w fun e w' => e = .returned (.tuple #[.int .u32 m.did.1.1, .int .i64 m.did.1.2]) ∧ ∃ P', MStp w p b P w' P' { m with L := m.did.2 } :=
  (do_any b P m.L m.asks.K m.asks.D m.asks.V w h.bus (acc_bd h.ok.c).1.1 (acc_bd h.ok.c).1.2 (acc_bd h.ok.c).2.1 (acc_bd h.ok.c).2.2).mono fun e w' ⟨he, P', hS⟩ => ⟨he, P', h.stp hS⟩
set_option maxHeartbeats 2000000 in
theorem step_bad {w : World} {p b : Nat} {P : Ph} {m : Ms} (h : Mac w p b P m) (hw : isW m.c.PC = false) : Calls Tryz.prog 53 #[.pointer (some ⟨p, 0, none⟩)] w fun e w' => e = .returned (.tuple #[.agg acZ.cells, .agg (enAt 6 m.c.PC).cells]) ∧ ∃ P', MStp w p b P w' P' m := by
  have hp := h.ok.c.PC
  have H : Hid (MStp w p b P ((w.alloc (.cells acZ.cells 114)).alloc (.cells (enAt 0 0).cells 41)) P m ∧ Two ((w.alloc (.cells acZ.cells 114)).alloc (.cells (enAt 0 0).cells 41)) p b P w.heap.size) := two_new h
  have c22 : ∀ o q, ((w.alloc o).alloc q).cell? ⟨p, 22, none⟩ = some (.int .u32 m.c.PC) := fun o q => (h.below (((Below.refl _ w).alloc (Nat.le_refl _) o).alloc (by simp) q)).five.c22
  have big := h.ways.big
  clear h
  go_enter Tryz.func53, Tryz.ntmps53
  go_wp2_with (first
    | (go_at_call 24; refine (mword_any H.out.1.mac m.c.PC hp.1 hp.2).mono ?_; rw [hw]; rintro e w1 ⟨rfl, hb⟩; have H1 : Hid (MStp w p b P w1 P m ∧ Two w1 p b P w.heap.size) := ⟨H.out.1.trans (MStp.below H.out.1.mac hb), H.out.2.below hb⟩; clear hb)
    | (go_at_call 64; refine (stuck_any H1.out.1.mac 6).mono ?_; rintro e w2 ⟨rfl, hb⟩; have H2 : Hid (MStp w p b P w2 P m ∧ Two w2 p b P w.heap.size) := ⟨H1.out.1.trans (MStp.below H1.out.1.mac hb), H1.out.2.below hb⟩; have r1 := H2.out.2.a.room; have r2 := H2.out.2.room2; clear hb))
  have E := step_end H2.out.1 H2.out.2 (Nat.le_refl _) big acZ (enAt 6 m.c.PC)
  exact Cpu.ret_cell2 rfl rfl (Cpu.loadAc_row E.2.1) rfl (Cpu.loadEn_row E.2.2) rfl ⟨rfl, P, E.1⟩
theorem al {w : World} (o : Obj) : Below w.heap.size w (w.alloc o) := (Below.refl _ w).alloc (Nat.le_refl _) o
set_option maxHeartbeats 2000000 in
theorem step_ill {w : World} {p b : Nat} {P : Ph} {m : Ms} (h : Mac w p b P m) (hw : isW m.c.PC = true) (hd : decOk m.word = false) : Calls Tryz.prog 53 #[.pointer (some ⟨p, 0, none⟩)] w fun e w' => e = .returned (.tuple #[.agg acZ.cells, .agg (enAt 5 m.c.PC).cells]) ∧ ∃ P', MStp w p b P w' P' m := by
  have hp := h.ok.c.PC
  have hx : 0 ≤ m.word ∧ m.word ≤ 4294967295 := word_bd h
  have H : Hid (MStp w p b P ((w.alloc (.cells acZ.cells 114)).alloc (.cells (enAt 0 0).cells 41)) P m ∧ Two ((w.alloc (.cells acZ.cells 114)).alloc (.cells (enAt 0 0).cells 41)) p b P w.heap.size) := two_new h
  have c22 : ∀ o q, ((w.alloc o).alloc q).cell? ⟨p, 22, none⟩ = some (.int .u32 m.c.PC) := fun o q => (h.below (((Below.refl _ w).alloc (Nat.le_refl _) o).alloc (by simp) q)).five.c22
  have big := h.ways.big
  clear h
  go_enter Tryz.func53, Tryz.ntmps53
  go_wp2_with (first
    | (go_at_call 24; refine (mword_any H.out.1.mac m.c.PC hp.1 hp.2).mono ?_; rw [hw]; rintro e w1 ⟨rfl, hb⟩; have H1 : Hid (MStp w p b P w1 P m ∧ Two w1 p b P w.heap.size) := ⟨H.out.1.trans (MStp.below H.out.1.mac hb), H.out.2.below hb⟩; clear hb)
    | (go_at_call 65; refine (Cpu.decode_any m.word _ H1.out.1.mac.ways hx.1 hx.2).mono ?_; rw [hd]; rintro e w2 ⟨rfl, hb⟩; have H2 : Hid (MStp w p b P w2 P m ∧ Two w2 p b P w.heap.size) := ⟨H1.out.1.trans (MStp.below H1.out.1.mac hb), H1.out.2.below hb⟩; clear hb)
    | (go_at_call 64; refine (stuck_any (H2.out.1.mac.below (al _)) 5).mono ?_; rintro e w3 ⟨rfl, hb⟩; have H3 : Hid (MStp w p b P w3 P m ∧ Two w3 p b P w.heap.size) := ⟨H2.out.1.trans ((MStp.below H2.out.1.mac (al _)).trans (MStp.below (H2.out.1.mac.below (al _)) hb)), (H2.out.2.below (al _)).below hb⟩; have r1 := H3.out.2.a.room; have r2 := H3.out.2.room2; clear hb))
  have E := step_end H3.out.1 H3.out.2 (Nat.le_refl _) big acZ (enAt 5 m.c.PC)
  exact Cpu.ret_cell2 rfl rfl (Cpu.loadAc_row E.2.1) rfl (Cpu.loadEn_row E.2.2) rfl ⟨rfl, P, E.1⟩
/-- What is held when an access was asked for. -/
structure Asked (w : World) (p b : Nat) (P : Ph) (m : Ms) (s gi ga : Nat) (X : World) : Prop where
  st : MStp w p b P X P m
  two : Two X p b P s
  i : Loc X p b P gi 8 (decI m.word).cells
  a : Loc X p b P ga 3 m.asks.cells
/-- What is held ahead of it. -/
structure Dec (w : World) (p b : Nat) (P : Ph) (m : Ms) (s gi : Nat) (X : World) : Prop where
  st : MStp w p b P X P m
  two : Two X p b P s
  i : Loc X p b P gi 8 (decI m.word).cells
theorem Dec.below {w : World} {p b : Nat} {P : Ph} {m : Ms} {s gi : Nat} {X Y : World} (h : Dec w p b P m s gi X) (hb : Below X.heap.size X Y) : Dec w p b P m s gi Y := ⟨h.st.trans (MStp.below h.st.mac hb), h.two.below hb, h.i.below hb⟩
theorem Dec.rows {w : World} {p b : Nat} {P : Ph} {m : Ms} {s gi : Nat} {X : World} (h : Dec w p b P m s gi X) : Cpu.rowAt X p = some (mcells b m) ∧ Cpu.rowAt X gi = some (decI m.word).cells := ⟨h.st.mac.crow, h.i.row⟩
theorem Dec.new {w w2 : World} {p b : Nat} {P : Ph} {m : Ms} {s : Nat} (h : MStp w p b P w2 P m ∧ Two w2 p b P s) (t : TypeId) : Dec w p b P m s w2.heap.size (w2.alloc (.cells (decI m.word).cells t)) :=
  ⟨h.1.trans (MStp.below h.1.mac (al _)), h.2.below (al _), Loc.new h.1.mac _ _ 8 rfl⟩
theorem Dec.asked {w : World} {p b : Nat} {P : Ph} {m : Ms} {s gi : Nat} {X : World} (h : Dec w p b P m s gi X) (t : TypeId) : Asked w p b P m s gi X.heap.size (X.alloc (.cells m.asks.cells t)) :=
  ⟨(h.below (al _)).st, (h.below (al _)).two, (h.below (al _)).i, Loc.new h.st.mac _ _ 3 rfl⟩
theorem Dec.spare {w w2 : World} {p b : Nat} {P : Ph} {m : Ms} {s gi : Nat} {o : Obj} (h : Dec w p b P m s gi (w2.alloc o)) (t : TypeId) : Loc ((w2.alloc o).alloc (.cells acZ.cells t)) p b P (w2.heap.size + 1) 3 acZ.cells := by
  have := Loc.new h.st.mac acZ.cells t 3 rfl
  simpa using this
theorem Dec.laid {w : World} {p b : Nat} {P : Ph} {m : Ms} {s gi g : Nat} {X : World} (h : Dec w p b P m s gi X) (hl : Loc X p b P g 3 acZ.cells) (h1 : s + 1 < gi) (h2 : gi < g) (hs : w.heap.size ≤ s) : Asked w p b P m s gi g (Cpu.putRow X g m.asks.cells) :=
  ⟨h.st.put hl (by omega) (by omega) _, ⟨h.two.a.put (n' := 0) (Y := acZ.cells) (by omega) _, h.two.e.put (n' := 0) (Y := acZ.cells) (by omega) _⟩, h.i.put (n' := 0) (Y := acZ.cells) (by omega) _, Cpu.rowAc_put _ _ _ hl.room, (Cpu.roomAt_putrow hl.room), by rw [Cpu.size_put]; exact hl.lt, hl.nin⟩
theorem drB (X : World) : Below X.heap.size X X.drew := (Below.refl _ X).drew
theorem Asked.below {w : World} {p b : Nat} {P : Ph} {m : Ms} {s gi ga : Nat} {X Y : World} (h : Asked w p b P m s gi ga X) (hb : Below X.heap.size X Y) : Asked w p b P m s gi ga Y := ⟨h.st.trans (MStp.below h.st.mac hb), h.two.below hb, h.i.below hb, h.a.below hb⟩
theorem Asked.rows {w : World} {p b : Nat} {P : Ph} {m : Ms} {s gi ga : Nat} {X : World} (h : Asked w p b P m s gi ga X) : X.cell? ⟨p, 0, none⟩ = some (.pointer (some ⟨b, 0, none⟩)) ∧ Cpu.rowAt X ga = some m.asks.cells := ⟨h.st.mac.five.c0, h.a.row⟩
/-- What is held when it was done. -/
structure Done (w : World) (p b : Nat) (P : Ph) (m : Ms) (s gi ga : Nat) (P1 : Ph) (m1 : Ms) (X : World) : Prop where
  st : MStp w p b P X P1 m1
  two : Two X p b P1 s
  i : Loc X p b P1 gi 8 (decI m.word).cells
  a : Loc X p b P1 ga 3 m.asks.cells
theorem Asked.done {w : World} {p b : Nat} {P : Ph} {m : Ms} {s gi ga : Nat} {X Y : World} {P1 : Ph} {m1 : Ms} (h : Asked w p b P m s gi ga X) (hs : MStp X p b P Y P1 m1) : Done w p b P m s gi ga P1 m1 Y := ⟨h.st.trans hs, h.two.step hs, h.i.step hs, h.a.step hs⟩
theorem Done.step {w : World} {p b : Nat} {P : Ph} {m : Ms} {s gi ga : Nat} {P1 P2 : Ph} {m1 m2 : Ms} {X Y : World} (h : Done w p b P m s gi ga P1 m1 X) (hs : MStp X p b P1 Y P2 m2) : Done w p b P m s gi ga P2 m2 Y := ⟨h.st.trans hs, h.two.step hs, h.i.step hs, h.a.step hs⟩
theorem Done.below {w : World} {p b : Nat} {P : Ph} {m : Ms} {s gi ga : Nat} {P1 : Ph} {m1 : Ms} {X Y : World} (h : Done w p b P m s gi ga P1 m1 X) (hb : Below X.heap.size X Y) : Done w p b P m s gi ga P1 m1 Y := h.step (MStp.below h.st.mac hb)
theorem Done.prow {w : World} {p b : Nat} {P : Ph} {m : Ms} {s gi ga : Nat} {P1 : Ph} {m1 : Ms} {X : World} (h : Done w p b P m s gi ga P1 m1 X) : Cpu.rowAt X p = some (mcells b m1) ∧ Cpu.rowAt X gi = some (decI m.word).cells := ⟨h.st.mac.crow, h.i.row⟩
theorem Done.laid {w : World} {p b : Nat} {P : Ph} {m : Ms} {s gi ga : Nat} {P1 : Ph} {m1 : Ms} {V X : World} {Y Z : Array Value} (h : Done w p b P m s gi ga P1 m1 X) (hl : Loc X p b P1 V.heap.size 22 Y) (hV : Done w p b P m s gi ga P1 m1 V) (big : 0 < w.heap.size) : Done w p b P m s gi ga P1 m1 (Cpu.putRow X V.heap.size Z) :=
  have hw : w.heap.size ≤ V.heap.size := hV.st.tou.size
  ⟨h.st.put hl hw (by omega) _, ⟨h.two.a.put (n' := 0) (Y := Y) (Nat.ne_of_lt hV.two.a.lt) _, h.two.e.put (n' := 0) (Y := Y) (Nat.ne_of_lt hV.two.e.lt) _⟩, h.i.put (n' := 0) (Y := Y) (Nat.ne_of_lt hV.i.lt) _, h.a.put (n' := 0) (Y := Y) (Nat.ne_of_lt hV.a.lt) _⟩
set_option maxHeartbeats 4000000 in
set_option maxRecDepth 20000 in
theorem step_ok {w : World} {p b : Nat} {P : Ph} {m : Ms} (h : Mac w p b P m) (hw : isW m.c.PC = true) (hd : decOk m.word = true) (hst : m.st + 1 ≤ 4611686018427387904) : Calls Tryz.prog 53 #[.pointer (some ⟨p, 0, none⟩)] w fun e w' => e = .returned (.tuple #[.agg m.step.1.1.cells, .agg m.step.1.2.cells]) ∧ ∃ P', MStp w p b P w' P' m.step.2 := by
  have hp := h.ok.c.PC
  have hx : 0 ≤ m.word ∧ m.word ≤ 4294967295 := word_bd h
  have H : Hid (MStp w p b P ((w.alloc (.cells acZ.cells 114)).alloc (.cells (enAt 0 0).cells 41)) P m ∧ Two ((w.alloc (.cells acZ.cells 114)).alloc (.cells (enAt 0 0).cells 41)) p b P w.heap.size) := two_new h
  have c22 : ∀ o q, ((w.alloc o).alloc q).cell? ⟨p, 22, none⟩ = some (.int .u32 m.c.PC) := fun o q => (h.below (((Below.refl _ w).alloc (Nat.le_refl _) o).alloc (by simp) q)).five.c22
  have big := h.ways.big
  have hs0 := h.ok.st.1
  have hdv : 0 ≤ m.did.1.1 ∧ m.did.1.1 ≤ 4294967295 := did_bd h.bus _ _ _ (acc_bd h.ok.c).1.1
  have okc : Hid m.c.Ok := h.ok.c
  clear h
  go_enter Tryz.func53, Tryz.ntmps53
  go_upto_region 7 with (first
    | (go_at_call 24; refine (mword_any H.out.1.mac m.c.PC hp.1 hp.2).mono ?_; rw [hw]; rintro e w1 ⟨rfl, hb⟩; have H1 : Hid (MStp w p b P w1 P m ∧ Two w1 p b P w.heap.size) := ⟨H.out.1.trans (MStp.below H.out.1.mac hb), H.out.2.below hb⟩; clear hb)
    | (go_at_call 65; refine (Cpu.decode_any m.word _ H1.out.1.mac.ways hx.1 hx.2).mono ?_; rw [hd]; rintro e w2 ⟨rfl, hb⟩; have H2 : Hid (MStp w p b P w2 P m ∧ Two w2 p b P w.heap.size) := ⟨H1.out.1.trans (MStp.below H1.out.1.mac hb), H1.out.2.below hb⟩; clear hb))
  have HD : Hid (Dec w p b P m w.heap.size w2.heap.size (w2.alloc (.cells (decI m.word).cells 123))) := Dec.new H2.out _
  have s0 : Cpu.rowAt (w2.alloc (.cells (decI m.word).cells 123)).drew p = some (mcells b m) ∧ Cpu.rowAt (w2.alloc (.cells (decI m.word).cells 123)).drew w2.heap.size = some (decI m.word).cells := (HD.out.below (drB _)).rows
  have a0 : ∀ o, Cpu.rowAt ((w2.alloc (.cells (decI m.word).cells 123)).alloc o).drew p = some (mcells b m) ∧ Cpu.rowAt ((w2.alloc (.cells (decI m.word).cells 123)).alloc o).drew w2.heap.size = some (decI m.word).cells := fun o => ((HD.out.below (al _)).below (drB _)).rows
  have z1 := H2.out.2.e.lt
  clear H H1 H2
  go_cut [7] (fun s7 X => ∃ ga, s7 = .pointer (some ⟨ga, 0, none⟩) ∧ Asked w p b P m w.heap.size w2.heap.size ga X)
  case first =>
    go_region_held3 (fun X => Cpu.rowAt X p = some (mcells b m) ∧ Cpu.rowAt X w2.heap.size = some (decI m.word).cells) (first | exact s0 | exact a0 _ | exact s1 | exact s2 _ | exact s3 _) (first | (go_at_call 66; refine (Cpu.access_any m.c (decI m.word) _ (by first | exact (HD.out.below (drB _)).st.mac.ways | exact ((HD.out.below (al _)).below (drB _)).st.mac.ways) HD.out.st.mac.ok.c).mono ?_; rintro e w3 ⟨rfl, hb⟩; have H3 : Hid (Dec w p b P m w.heap.size w2.heap.size w3) := (by first | exact (HD.out.below (drB _)).below hb | exact ((HD.out.below (al _)).below (drB _)).below hb); have s1 := H3.out.rows; have s2 : ∀ o, Cpu.rowAt (w3.alloc o) p = some (mcells b m) ∧ Cpu.rowAt (w3.alloc o) w2.heap.size = some (decI m.word).cells := fun o => (H3.out.below (al o)).rows; try (have LA : Hid (Loc w3 p b P (w2.heap.size + 1) 3 acZ.cells) := ((HD.out.spare _).below (drB _)).below hb; have rA := LA.out.room; have s3 : ∀ Z, Cpu.rowAt (Cpu.putRow w3 (w2.heap.size + 1) Z) p = some (mcells b m) ∧ Cpu.rowAt (Cpu.putRow w3 (w2.heap.size + 1) Z) w2.heap.size = some (decI m.word).cells := fun Z => ⟨(rowAt_same (heap_put _ _ _ (fun e => LA.out.nin (.inl e.symm)) Z)).trans s1.1, (rowAt_same (heap_put _ _ _ (by omega) Z)).trans s1.2⟩)))
    all_goals
      go_wp2_with fail
      go_meet
      first | exact ⟨_, rfl, H3.out.asked _⟩ | exact ⟨_, rfl, H3.out.laid LA.out z1 (Nat.lt_succ_self _) (Nat.le_refl _)⟩
  case rest =>
    obtain ⟨ga, rfl, hA⟩ := hcut
    have HA : Hid (Asked w p b P m w.heap.size w2.heap.size ga wc) := hA
    have t0 := (hA.below (drB _)).rows
    clear hA HD s0 a0
    go_wp2_with fail
    go_region_held3 (fun X => X.cell? ⟨p, 0, none⟩ = some (.pointer (some ⟨b, 0, none⟩)) ∧ Cpu.rowAt X ga = some m.asks.cells) (first | exact t0 | exact t1) (first | (go_at_call 67; refine (mdo_any (HA.out.below (drB _)).st.mac).mono ?_; rintro e w4 ⟨rfl, P1, hS⟩; have H4 : Hid (Done w p b P m w.heap.size w2.heap.size ga P1 { m with L := m.did.2 } w4) := (HA.out.below (drB _)).done hS; have t1 : w4.cell? ⟨p, 0, none⟩ = some (.pointer (some ⟨b, 0, none⟩)) ∧ Cpu.rowAt w4 ga = some m.asks.cells := ⟨H4.out.st.mac.five.c0, H4.out.a.row⟩; clear hS))
    have r4 := t1.2
    clear t0 t1 HA
    by_cases q1 : m.did.1.2 = 1
    · have hs : Hid (m.step = ((m.asks, enAt 6 m.c.PC), { m with L := m.did.2 })) := by show _ = _; unfold Ms.step; rw [if_pos hw, if_pos hd, if_pos q1]
      go_wp2_with fail
      go_region_with ((go_at_call 64; refine (stuck_any (H4.out.below (drB _)).st.mac 6).mono ?_; rintro e w5 ⟨rfl, hb⟩; have H5 : Hid (Done w p b P m w.heap.size w2.heap.size ga P1 { m with L := m.did.2 } w5) := (H4.out.below (drB _)).below hb; have r5 := H5.out.a.row; have r1 := H5.out.two.a.room; have r2 := H5.out.two.room2; clear hb))
      all_goals
        go_wp2_with fail
        have E := step_end H5.out.st H5.out.two (Nat.le_refl _) big m.asks (enAt 6 m.c.PC)
        exact Cpu.ret_cell2 rfl rfl (Cpu.loadAc_row E.2.1) rfl (Cpu.loadEn_row E.2.2) rfl ⟨by rw [hs.out], P1, by rw [hs.out]; exact E.1⟩
    · by_cases q2 : m.did.1.2 = 2
      · have hs : Hid (m.step = ((m.asks, enAt 2 0), { m with L := m.did.2 })) := by show _ = _; unfold Ms.step; rw [if_pos hw, if_pos hd, if_neg q1, if_pos q2]
        have r1 := H4.out.two.a.room
        have r2 := H4.out.two.room2
        go_wp2_with fail
        have E := step_end H4.out.st H4.out.two (Nat.le_refl _) big m.asks (enAt 2 0)
        exact Cpu.ret_cell2 rfl rfl (Cpu.loadAc_row E.2.1) rfl (Cpu.loadEn_row E.2.2) rfl ⟨by rw [hs.out], P1, by rw [hs.out]; exact E.1⟩
      · have c23 := H4.out.st.mac.five.c23
        have f23 := H4.out.st.mac.free (j := 23) (by omega)
        have HC : Hid (Done w p b P m w.heap.size w2.heap.size ga P1 m.counted (w4.setCell ⟨p, 23, none⟩ (.int .i64 (m.st + 1)))) := H4.out.step (H4.out.st.mac.put 23 _ (mc_set23 b _ _) rfl ⟨H4.out.st.mac.ok.c, ⟨by show 0 ≤ m.st + 1; omega, hst⟩, H4.out.st.mac.ok.cut⟩)
        clear r4
        go_upto_region 15 with fail
        generalize w4.setCell ⟨p, 23, none⟩ (.int .i64 (m.st + 1)) = v4 at HC ⊢
        clear H4 c23 f23
        have s0 := (HC.out.below (drB _)).prow
        have a0 : ∀ o, _ := fun o => ((HC.out.below (al o)).below (drB _)).prow
        go_cut [10, 11, 12] from 13 (fun s10 s11 s12 X => ∃ gb, s10 = .pointer (some ⟨gb, 0, none⟩) ∧ s11 = .int .i64 (m.c.execN (decI m.word)) ∧ s12 = .bool (m.c.execT (decI m.word)) ∧ Done w p b P m w.heap.size w2.heap.size ga P1 m.counted X ∧ Loc X p b P1 gb 22 (m.c.execD (decI m.word) m.did.1.1).cells)
        case first =>
          go_region_held3 (fun X => Cpu.rowAt X p = some (mcells b m.counted) ∧ Cpu.rowAt X w2.heap.size = some (decI m.word).cells) (first | exact s0 | exact a0 _ | exact s1 | exact s2 _ | exact s3 _) (first | (go_at_call 68; refine (Cpu.exec_any m.c (decI m.word) m.did.1.1 _ (by first | exact (HC.out.below (drB _)).st.mac.ways | exact ((HC.out.below (al _)).below (drB _)).st.mac.ways) okc.out hdv.1 hdv.2).mono ?_; rintro e w6 ⟨rfl, hb⟩; have H6 : Hid (Done w p b P m w.heap.size w2.heap.size ga P1 m.counted w6) := (by first | exact (HC.out.below (drB _)).below hb | exact ((HC.out.below (al _)).below (drB _)).below hb); have s1 := H6.out.prow; have s2 : ∀ o, _ := fun o => (H6.out.below (al o)).prow; try (have LA : Hid (Loc w6 p b P1 v4.heap.size 22 Cpu.Cp.zero.cells) := ((Loc.new HC.out.st.mac _ _ 22 rfl).below (drB _)).below hb; have rA := LA.out.room; have s3 : ∀ Z, Cpu.rowAt (Cpu.putRow w6 v4.heap.size Z) p = some (mcells b m.counted) ∧ Cpu.rowAt (Cpu.putRow w6 v4.heap.size Z) w2.heap.size = some (decI m.word).cells := fun Z => ⟨(rowAt_same (heap_put _ _ _ (fun e => LA.out.nin (.inl e.symm)) Z)).trans s1.1, (rowAt_same (heap_put _ _ _ (Nat.ne_of_lt HC.out.i.lt) Z)).trans s1.2⟩)))
          all_goals
            go_wp2_with fail
            go_meet
            first | exact ⟨_, rfl, rfl, rfl, H6.out.below (al _), Loc.new H6.out.st.mac _ _ 22 rfl⟩ | exact ⟨_, rfl, rfl, rfl, H6.out.laid LA.out HC.out big, Cpu.rowCpu_put _ _ _ LA.out.room, Cpu.roomAt_putrow LA.out.room, by rw [Cpu.size_put]; exact LA.out.lt, LA.out.nin⟩
        case rest =>
          obtain ⟨gb, rfl, rfl, rfl, hD, hl⟩ := hcut
          have HE : Hid (Done w p b P m w.heap.size w2.heap.size ga P1 m.counted wc ∧ Loc wc p b P1 gb 22 (m.c.execD (decI m.word) m.did.1.1).cells) := ⟨hD, hl⟩
          have r6 := hD.a.row
          clear hD hl HC s0 a0
          generalize hT : m.c.execT (decI m.word) = T
          have HT : Hid (m.c.execT (decI m.word) = T) := hT
          clear hT
          cases T
          case true =>
            have ht := HT.out
            have hs : Hid (m.step = ((m.asks, (m.counted.trapped (m.c.execN (decI m.word))).1), (m.counted.trapped (m.c.execN (decI m.word))).2)) := by show _ = _; unfold Ms.step; rw [if_pos hw, if_pos hd, if_neg q1, if_neg q2, if_pos ht]
            clear ht
            go_wp2_with fail
            go_region_with ((go_at_call 69; refine (trap_any (HE.out.1.below (drB _)).st.mac (m.c.execN (decI m.word))).mono ?_; rintro e w7 ⟨rfl, P2, hS⟩; have H7 : Hid (Done w p b P m w.heap.size w2.heap.size ga P2 (m.counted.trapped (m.c.execN (decI m.word))).2 w7) := (HE.out.1.below (drB _)).step hS; have r7 := H7.out.a.row; have r1 := H7.out.two.a.room; have r2 := H7.out.two.room2; clear hS))
            all_goals
              go_wp2_with fail
              have E := step_end H7.out.st H7.out.two (Nat.le_refl _) big m.asks (m.counted.trapped (m.c.execN (decI m.word))).1
              exact Cpu.ret_cell2 rfl rfl (Cpu.loadAc_row E.2.1) rfl (Cpu.loadEn_row E.2.2) rfl ⟨by rw [hs.out], P2, by rw [hs.out]; exact E.1⟩
          case false =>
            have ht : ¬ m.c.execT (decI m.word) = true := by rw [HT.out]; decide
            have hs : Hid (m.step = ((m.asks, enAt 0 0), { m.counted with c := m.c.execD (decI m.word) m.did.1.1 })) := by show _ = _; unfold Ms.step; rw [if_pos hw, if_pos hd, if_neg q1, if_neg q2, if_neg ht]
            have rb := HE.out.2.row
            have rp := HE.out.1.st.mac.croom
            have H8 : Hid (Done w p b P m w.heap.size w2.heap.size ga P1 { m.counted with c := m.c.execD (decI m.word) m.did.1.1 } (putMid wc p (m.c.execD (decI m.word) m.did.1.1).cells)) := HE.out.1.step (HE.out.1.st.mac.putCpu _ (execD_ok okc.out hdv.1 hdv.2 (by simpa using ht)))
            clear ht
            have r8 := H8.out.a.row
            have r1 := H8.out.two.a.room
            have r2 := H8.out.two.room2
            go_wp2_with fail
            have E := step_end H8.out.st H8.out.two (Nat.le_refl _) big m.asks (enAt 0 0)
            exact Cpu.ret_cell2 rfl rfl (Cpu.loadAc_row E.2.1) rfl (Cpu.loadEn_row E.2.2) rfl ⟨by rw [hs.out], P1, by rw [hs.out]; exact E.1⟩
theorem step_any {w : World} {p b : Nat} {P : Ph} {m : Ms} (h : Mac w p b P m) (hst : m.st + 1 ≤ 4611686018427387904) : Calls Tryz.prog 53 #[.pointer (some ⟨p, 0, none⟩)] w fun e w' => e = .returned (.tuple #[.agg m.step.1.1.cells, .agg m.step.1.2.cells]) ∧ ∃ P', MStp w p b P w' P' m.step.2 := by
  by_cases hw : isW m.c.PC = true
  · by_cases hd : decOk m.word = true
    · exact step_ok h hw hd hst
    · have hs : m.step = ((acZ, enAt 5 m.c.PC), m) := by unfold Ms.step; rw [if_pos hw, if_neg hd]; rfl
      rw [hs]
      exact step_ill h hw (by simpa using hd)
  · have hs : m.step = ((acZ, enAt 6 m.c.PC), m) := by unfold Ms.step; rw [if_neg hw]; rfl
    rw [hs]
    exact step_bad h (by simpa using hw)
end Go.Proofs.YteegkhnikcioiaaGreatDoor
