/-
  A stretch of steps, up to an end or a command.
  A run of a machine.
-/
import Derived.Test.YteegkhnikcioiaaGreatDoorMStep
import Derived.WalkMore
import Derived.ScopeJumps
namespace Go.Proofs.YteegkhnikcioiaaGreatDoor
open Go.ChangeShapes Go.WideShapes Go.ChangeAt Go.RowKit
open Cpu (Cp In Ac En decOk decI accA rightB)
attribute [local go_sem ↓] Cpu.loadCpu_seal Cpu.storeCpu_seal Cpu.loadIn_seal Cpu.storeIn_seal Cpu.loadAc_seal Cpu.storeAc_seal Cpu.loadEn_seal Cpu.storeEn_seal
attribute [local go_sem] Cpu.loadCpu_run Cpu.storeCpu_run Cpu.loadIn_run Cpu.storeIn_run Cpu.rowAt_at Cpu.rowAt_past Cpu.rowAt_drew Cpu.rowAt_drewN Cpu.roomCpu_new Cpu.roomIn_new Cpu.roomAt_old Cpu.roomAt_drew Cpu.roomAt_drewN Cpu.putCpu_new Cpu.putIn_new Cpu.Cp.zero_fold Cpu.In.fold Cpu.putRow_past Cpu.rowCpu_put Cpu.rowIn_put Cpu.size_put Cpu.putRow_drew Cpu.putRow_drewN Cpu.alloc_drewN Cpu.setCell_drewN Cpu.Cp.at16 Cpu.Cp.at17 Cpu.Cp.at18 Cpu.Cp.at19 Cpu.Cp.at20 Cpu.Cp.at21 Cpu.Cp.size Cpu.Cp.set16 Cpu.Cp.set17 Cpu.Cp.set18 Cpu.Cp.set19 Cpu.Cp.set20 Cpu.Cp.set21 Cpu.In.at0 Cpu.In.at1 Cpu.In.at2 Cpu.In.at3 Cpu.In.at4 Cpu.In.at5 Cpu.In.at6 Cpu.In.at7 Cpu.In.size Cpu.In.set0 Cpu.In.set1 Cpu.In.set2 Cpu.In.set3 Cpu.In.ne Cpu.Cp.ne Cpu.In.set4 Cpu.In.set5 Cpu.In.set6 Cpu.In.set7 loadMid_run storeMid_run mc_size mc_cpu Cpu.loadAc_run Cpu.storeAc_run Cpu.loadEn_run Cpu.storeEn_run Cpu.putAc_new Cpu.putEn_new Cpu.roomAc_new Cpu.roomEn_new Cpu.rowAc_put Cpu.rowEn_put Cpu.Ac.at0 Cpu.Ac.at1 Cpu.Ac.at2 Cpu.Ac.size Cpu.Ac.ne Cpu.Ac.fold Cpu.En.at0 Cpu.En.at1 Cpu.En.at2 Cpu.En.at3 Cpu.En.size Cpu.En.set0 Cpu.En.set1 Cpu.En.set2 Cpu.En.set3 Cpu.Ac.set0 Cpu.Ac.set1 Cpu.Ac.set2 Cpu.En.ne Cpu.En.fold
set_option linter.unusedVariables false

theorem al2 {w : World} (o q : Obj) : Below w.heap.size w ((w.alloc o).alloc q) := ((Below.refl _ w).alloc (Nat.le_refl _) o).alloc (by simp) q
def stLeft (p : Nat) (last : Int) (w : World) : Nat := match w.cell? ⟨p, 23, none⟩ with
  | some (.int _ s) => (last - s).toNat
  | _ => 0
theorem stLeft_is {w : World} {p b : Nat} {P : Ph} {m : Ms} (h : Mac w p b P m) (last : Int) : stLeft p last w = (last - m.st).toNat := by unfold stLeft; rw [h.five.c23]
structure SJ (w : World) (p b : Nat) (P : Ph) (m : Ms) (last : Int) (X : World) (P' : Ph) (m' : Ms) : Prop where
  st : MStp w p b P X P' m'
  loc : Loc X p b P' w.heap.size 4 (enAt 0 0).cells
  eq : m'.stretch (last - m'.st).toNat = m.stretch (last - m.st).toNat
theorem scope_one {Pr : Program} {rest : Code} {a : Act} {w : World} {Q : Exit → Act → World → Prop} (l : Nat) (J : Act → World → Prop) (μ : Act → World → Nat) (hJ : J a w)
    (pass : ∀ a w, J a w → rest.wp Pr (Exit.jump l (fun a' w' => J a' w' ∧ μ a' w' < μ a w) Q) a w) : (Code.scope ((Code.label l).seq rest)).wp Pr Q a w :=
  wp_scope_jumps l J μ (show findLabel ((Code.label l).seq rest) l = some (Code.skip.seq rest) by simp [findLabel]) (wp_seq (wp_label (Code.wp_mono (fun e a w h => by cases e <;> first | exact h | exact ⟨h.1, h.2.1⟩) (pass a w hJ)))) fun a w h => wp_seq (wp_skip (pass a w h))
set_option maxHeartbeats 4000000 in
set_option maxRecDepth 20000 in
theorem stretch_any {w : World} {p b : Nat} {P : Ph} {m : Ms} (h : Mac w p b P m) (last : Int) (hl : last ≤ 4611686018427387904) (hl0 : -9223372036854775808 ≤ last) : Calls Tryz.prog 39 #[.pointer (some ⟨p, 0, none⟩), .int .i64 last] w fun e w' => e = .returned (.agg (m.stretch (last - m.st).toNat).1.cells) ∧ ∃ P', MStp w p b P w' P' (m.stretch (last - m.st).toNat).2 := by
  have H0 : Hid (∀ t, SJ w p b P m last (w.alloc (.cells (enAt 0 0).cells t)) P m) := fun t => ⟨MStp.below h (al _), Loc.new h _ _ 4 rfl, rfl⟩
  have big := h.ways.big
  clear h
  go_enter Tryz.func39, Tryz.ntmps39
  go_wp2
  refine scope_one 0 (fun a' X => ∃ (u5 u6 u7 u8 u9 u10 u11 u12 u13 u14 u15 u16 u17 u18 u19 u20 u21 u22 u23 u24 u25 u26 u27 : Value) (P' : Ph) (m' : Ms), a' = { tmps := #[.pointer (some ⟨p, 0, none⟩), .int .i64 last, undef, undef, .pointer (some ⟨w.heap.size, 0, none⟩), u5, u6, u7, u8, u9, u10, u11, u12, u13, u14, u15, u16, u17, u18, u19, u20, u21, u22, u23, u24, u25, u26, u27], defers := [] } ∧ SJ w p b P m last X P' m') (fun _ X => stLeft p last X) ?_ ?_
  · exact ⟨_, _, _, _, _, _, _, _, _, _, _, _, _, _, _, _, _, _, _, _, _, _, _, P, m, rfl, H0.out _⟩
  · rintro a' X ⟨u5, u6, u7, u8, u9, u10, u11, u12, u13, u14, u15, u16, u17, u18, u19, u20, u21, u22, u23, u24, u25, u26, u27, P', m', rfl, hJ⟩
    have HM : Hid (MStp w p b P X P' m') := hJ.st
    have HL : Hid (Loc X p b P' w.heap.size 4 (enAt 0 0).cells) := hJ.loc
    have HS : Hid (m'.stretch (last - m'.st).toNat = m.stretch (last - m.st).toNat ∧ stLeft p last X = (last - m'.st).toNat) := ⟨hJ.eq, stLeft_is hJ.st.mac last⟩
    have c23 := hJ.st.mac.five.c23
    clear hJ
    by_cases hge : last ≤ m'.st
    · have hd : decide (last ≤ m'.st) = true := by simpa using hge
      have r0 := HL.out.room
      go_wp2_with fail
      simp only [Exit.jump]
      have e0 : m.stretch (last - m.st).toNat = (enAt 1 0, m') := by
        rw [← HS.out.1, show (last - m'.st).toNat = 0 by omega]; rfl
      exact Cpu.ret_cell1 rfl rfl (Cpu.loadEn_row (Cpu.rowEn_put _ _ _ r0)) rfl ⟨by rw [e0]; rfl, P', by rw [e0]; exact HM.out.put HL.out (Nat.le_refl _) big _⟩
    · have hd : decide (last ≤ m'.st) = false := by simpa using hge
      have hst : m'.st + 1 ≤ 4611686018427387904 := by omega
      obtain ⟨j, hj⟩ : ∃ j, (last - m'.st).toNat = j + 1 := ⟨(last - m'.st).toNat - 1, by omega⟩
      by_cases hk : m'.step.1.2.k = 0
      · by_cases hc : isCmd m'.step.1.1 = false
        · have e0 : m'.stretch (last - m'.st).toNat = m'.step.2.stretch j := by rw [hj]; simp [Ms.stretch, hk, hc]
          have e1 := step_goes hk
          have HE : Hid (m'.step.2.stretch (last - m'.step.2.st).toNat = m.stretch (last - m.st).toNat ∧ m'.step.2.st = m'.st + 1) := ⟨by rw [← HS.out.1, e0, e1.1, show (last - (m'.st + 1)).toNat = j by omega], e1.1⟩
          clear e0 e1 hj
          go_wp2_with (first
            | (go_at_call 53; refine (step_any HM.out.mac hst).mono ?_; rintro e w1 ⟨rfl, P1, hS⟩; have H1 : Hid (MStp w p b P w1 P1 m'.step.2 ∧ Loc w1 p b P1 w.heap.size 4 (enAt 0 0).cells) := ⟨HM.out.trans hS, HL.out.step hS⟩; clear hS)
            | (go_at_call 54; refine (isCommand_any m'.step.1.1 _).mono ?_; rw [hc]; rintro e w2 ⟨rfl, hb⟩; have H2 : Hid (MStp w p b P w2 P1 m'.step.2 ∧ Loc w2 p b P1 w.heap.size 4 (enAt 0 0).cells) := ⟨H1.out.1.trans (MStp.below H1.out.1.mac ((al2 _ _).trans (hb.mono (al2 _ _).size))), (H1.out.2.below (al2 _ _)).below hb⟩; clear hb))
          go_step3
          refine ⟨rfl, ?_⟩
          exact ⟨⟨_, _, _, _, _, _, _, _, _, _, _, _, _, _, _, _, _, _, _, _, _, _, _, P1, m'.step.2, rfl, H2.out.1, H2.out.2, HE.out.1⟩, by rw [HS.out.2, stLeft_is H2.out.1.mac last, HE.out.2]; omega⟩
        · have hc : isCmd m'.step.1.1 = true := by simpa using hc
          have e0 : m.stretch (last - m.st).toNat = (m'.step.1.2, m'.step.2) := by rw [← HS.out.1, hj]; simp [Ms.stretch, hk, hc]
          have HE : Hid (m.stretch (last - m.st).toNat = (m'.step.1.2, m'.step.2)) := e0
          clear e0 hj
          go_wp2_with (first
            | (go_at_call 53; refine (step_any HM.out.mac hst).mono ?_; rintro e w1 ⟨rfl, P1, hS⟩; have H1 : Hid (MStp w p b P w1 P1 m'.step.2 ∧ Loc w1 p b P1 w.heap.size 4 (enAt 0 0).cells) := ⟨HM.out.trans hS, HL.out.step hS⟩; have HR : Hid (∀ o t, Cpu.rowAt ((w1.alloc o).alloc (.cells m'.step.1.2.cells t)) (w1.heap.size + 1) = some m'.step.1.2.cells) := (fun o t => Cpu.rowAt_at _ _ _ _ _ (by simp)); clear hS)
            | (go_at_call 54; refine (isCommand_any m'.step.1.1 _).mono ?_; rw [hc]; rintro e w2 ⟨rfl, hb⟩; have H2 : Hid (MStp w p b P w2 P1 m'.step.2 ∧ Loc w2 p b P1 w.heap.size 4 (enAt 0 0).cells) := ⟨H1.out.1.trans (MStp.below H1.out.1.mac ((al2 _ _).trans (hb.mono (al2 _ _).size))), (H1.out.2.below (al2 _ _)).below hb⟩; have r2 : Cpu.rowAt w2 (w1.heap.size + 1) = some m'.step.1.2.cells := (rowAt_same (hb.block _ (by simp))).trans (HR.out _ _); have r0 := H2.out.2.room; clear hb))
          simp only [Exit.jump]
          exact Cpu.ret_cell1 rfl rfl (Cpu.loadEn_row (Cpu.rowEn_put _ _ _ r0)) rfl ⟨by rw [HE.out], P1, by rw [HE.out]; exact H2.out.1.put H2.out.2 (Nat.le_refl _) big _⟩
      · have hkd : (m'.step.1.2.k == 0) = false := by simpa using hk
        have e0 : m.stretch (last - m.st).toNat = (m'.step.1.2, m'.step.2) := by rw [← HS.out.1, hj]; simp [Ms.stretch, hk]
        have HE : Hid (m.stretch (last - m.st).toNat = (m'.step.1.2, m'.step.2)) := e0
        clear e0 hj
        go_wp2_with (first
          | (go_at_call 53; refine (step_any HM.out.mac hst).mono ?_; rintro e w1 ⟨rfl, P1, hS⟩; have H1 : Hid (MStp w p b P w1 P1 m'.step.2 ∧ Loc w1 p b P1 w.heap.size 4 (enAt 0 0).cells) := ⟨HM.out.trans hS, HL.out.step hS⟩; have r0 : ∀ o q, Cpu.roomAt ((w1.alloc o).alloc q) w.heap.size 4 = true := (fun o q => (H1.out.2.below (al2 o q)).room); clear hS))
        simp only [Exit.jump]
        exact Cpu.ret_cell1 rfl rfl (Cpu.loadEn_row (Cpu.rowEn_put _ _ _ (r0 _ _))) rfl ⟨by rw [HE.out], P1, by rw [HE.out]; exact (H1.out.1.trans (MStp.below H1.out.1.mac (al2 _ _))).put (H1.out.2.below (al2 _ _)) (Nat.le_refl _) big _⟩
end Go.Proofs.YteegkhnikcioiaaGreatDoor

namespace Go.Proofs.YteegkhnikcioiaaGreatDoor
open Go.ChangeShapes Go.WideShapes Go.ChangeAt Go.RowKit
open Cpu (Cp In Ac En decOk decI accA rightB)
attribute [local go_sem ↓] Cpu.loadCpu_seal Cpu.storeCpu_seal Cpu.loadIn_seal Cpu.storeIn_seal Cpu.loadAc_seal Cpu.storeAc_seal Cpu.loadEn_seal Cpu.storeEn_seal
attribute [local go_sem] Cpu.loadCpu_run Cpu.storeCpu_run Cpu.loadIn_run Cpu.storeIn_run Cpu.rowAt_at Cpu.rowAt_past Cpu.rowAt_drew Cpu.rowAt_drewN Cpu.roomCpu_new Cpu.roomIn_new Cpu.roomAt_old Cpu.roomAt_drew Cpu.roomAt_drewN Cpu.putCpu_new Cpu.putIn_new Cpu.Cp.zero_fold Cpu.In.fold Cpu.putRow_past Cpu.rowCpu_put Cpu.rowIn_put Cpu.size_put Cpu.putRow_drew Cpu.putRow_drewN Cpu.alloc_drewN Cpu.setCell_drewN Cpu.Cp.at16 Cpu.Cp.at17 Cpu.Cp.at18 Cpu.Cp.at19 Cpu.Cp.at20 Cpu.Cp.at21 Cpu.Cp.size Cpu.Cp.set16 Cpu.Cp.set17 Cpu.Cp.set18 Cpu.Cp.set19 Cpu.Cp.set20 Cpu.Cp.set21 Cpu.In.at0 Cpu.In.at1 Cpu.In.at2 Cpu.In.at3 Cpu.In.at4 Cpu.In.at5 Cpu.In.at6 Cpu.In.at7 Cpu.In.size Cpu.In.set0 Cpu.In.set1 Cpu.In.set2 Cpu.In.set3 Cpu.In.ne Cpu.Cp.ne Cpu.In.set4 Cpu.In.set5 Cpu.In.set6 Cpu.In.set7 loadMid_run storeMid_run mc_size mc_cpu Cpu.loadAc_run Cpu.storeAc_run Cpu.loadEn_run Cpu.storeEn_run Cpu.putAc_new Cpu.putEn_new Cpu.roomAc_new Cpu.roomEn_new Cpu.rowAc_put Cpu.rowEn_put Cpu.Ac.at0 Cpu.Ac.at1 Cpu.Ac.at2 Cpu.Ac.size Cpu.Ac.ne Cpu.Ac.fold Cpu.En.at0 Cpu.En.at1 Cpu.En.at2 Cpu.En.at3 Cpu.En.size Cpu.En.set0 Cpu.En.set1 Cpu.En.set2 Cpu.En.set3 Cpu.Ac.set0 Cpu.Ac.set1 Cpu.Ac.set2 Cpu.En.ne Cpu.En.fold
set_option linter.unusedVariables false

def steps (most : Int) : Nat := (min most 10000000).toNat
structure RJ (w : World) (p b : Nat) (P : Ph) (m : Ms) (last : Int) (X : World) (P' : Ph) (m' : Ms) : Prop where
  st : MStp w p b P X P' m'
  loc : Loc X p b P' w.heap.size 4 (enAt 0 0).cells
  eq : m'.run (last - m'.st).toNat = m.run (last - m.st).toNat
theorem RJ.below {w : World} {p b : Nat} {P : Ph} {m : Ms} {last : Int} {X Y : World} {P' : Ph} {m' : Ms} (h : RJ w p b P m last X P' m') (hb : Below X.heap.size X Y) : RJ w p b P m last Y P' m' := ⟨h.st.trans (MStp.below h.st.mac hb), h.loc.below hb, h.eq⟩
theorem run_nil (most : Int) (w : World) : Calls Tryz.prog 15 #[.pointer none, .int .i64 most] w fun e w' => e = .returned (.agg (enAt 0 0).cells) ∧ Below w.heap.size w w' := by
  go_enter Tryz.func15, Tryz.ntmps15
  go_wp2
  exact Cpu.ret_cell1 rfl rfl (Cpu.loadEn_row (Cpu.rowAt_at _ _ _ _ _ rfl)) rfl ⟨rfl, al _⟩
set_option maxHeartbeats 4000000 in
set_option maxRecDepth 20000 in
theorem run_small {w : World} {p b : Nat} {P : Ph} {m : Ms} (h : Mac w p b P m) (most : Int) (hm : i64B most) (hs : m.st ≤ 4611686018417387904) (hmm : most ≤ 10000000) : Calls Tryz.prog 15 #[.pointer (some ⟨p, 0, none⟩), .int .i64 most] w fun e w' => e = .returned (.agg ({ (m.run ((m.st + most) - m.st).toNat).1 with s := (m.run ((m.st + most) - m.st).toNat).2.st - m.st } : En).cells) ∧ ∃ P', MStp w p b P w' P' (m.run ((m.st + most) - m.st).toNat).2 := by
  have H0 : Hid (∀ t, RJ w p b P m (m.st + most) (w.alloc (.cells (enAt 0 0).cells t)) P m) := fun t => ⟨MStp.below h (al _), Loc.new h _ _ 4 rfl, rfl⟩
  have big := h.ways.big
  have hs0 := h.ok.st.1
  have c23 := h.five.c23
  have hp := h.plt
  obtain ⟨m0, m1⟩ := hm
  clear h
  go_enter Tryz.func15, Tryz.ntmps15
  go_wp2
  go_loopw [7] (fun _ X => ∃ P' m', RJ w p b P m (m.st + most) X P' m') (fun _ X => stLeft p (m.st + most) X)
  case atStart => exact ⟨P, m, H0.out _⟩
  case round =>
    clear H0 c23
    obtain ⟨P', m', hJ⟩ := hrel
    have HJ : Hid (RJ w p b P m (m.st + most) wr P' m') := hJ
    have HS : Hid (stLeft p (m.st + most) wr = ((m.st + most) - m'.st).toNat) := stLeft_is hJ.st.mac _
    have b0 := hJ.st.mac.ok.st.1
    have b1 := hJ.st.mac.ok.st.2
    clear hJ
    cases hg : m'.gone
    case true =>
      have HE : Hid (m.run ((m.st + most) - m.st).toNat = (enAt 7 0, m')) := by show _ = _; rw [← HJ.out.eq, Ms.run_gone m' _ hg]
      go_wp2_with (first
        | (go_at_call 38; refine (gone_any HJ.out.st.mac).mono ?_; rw [hg]; rintro e w1 ⟨rfl, hb⟩; have H1 : Hid (RJ w p b P m (m.st + most) w1 P' m') := HJ.out.below hb; have d23 := H1.out.st.mac.five.c23; have r0 := H1.out.loc.room; clear hb))
      exact Cpu.ret_cell1 rfl rfl (Cpu.loadEn_row (Cpu.rowEn_put _ _ _ r0)) rfl ⟨by rw [HE.out]; rfl, P', by rw [HE.out]; exact H1.out.st.put H1.out.loc (Nat.le_refl _) big _⟩
    case false =>
      have SR := stretch_run ((m.st + most) - m'.st).toNat m' hg
      by_cases hk : (m'.stretch ((m.st + most) - m'.st).toNat).1.k = 0
      · obtain ⟨k, k1, k2, k3⟩ := SR.2.1 hk
        have HE : Hid ((m'.stretch ((m.st + most) - m'.st).toNat).2.run ((m.st + most) - (m'.stretch ((m.st + most) - m'.st).toNat).2.st).toNat = m.run ((m.st + most) - m.st).toNat ∧ ((m.st + most) - (m'.stretch ((m.st + most) - m'.st).toNat).2.st).toNat < ((m.st + most) - m'.st).toNat) := by
          have e : ((m.st + most) - (m'.stretch ((m.st + most) - m'.st).toNat).2.st).toNat = k := by rw [k2]; omega
          show _ ∧ _
          rw [e]
          exact ⟨by rw [← HJ.out.eq, k3], k1⟩
        clear SR k1 k2 k3
        go_wp2_with (first
          | (go_at_call 38; refine (gone_any HJ.out.st.mac).mono ?_; rw [hg]; rintro e w1 ⟨rfl, hb⟩; have H1 : Hid (RJ w p b P m (m.st + most) w1 P' m') := HJ.out.below hb; clear hb)
          | (go_at_call 39; refine (stretch_any H1.out.st.mac (m.st + most) (by omega) (by omega)).mono ?_; rintro e w2 ⟨rfl, P2, hS⟩; have H2 : Hid (RJ w p b P m (m.st + most) w2 P2 (m'.stretch ((m.st + most) - m'.st).toNat).2) := ⟨H1.out.st.trans hS, H1.out.loc.step hS, HE.out.1⟩; clear hS))
        go_roundw
        case rel => exact ⟨P2, _, H2.out.below (al _)⟩
        case measure => rw [HS.out, stLeft_is (H2.out.below (al _)).st.mac]; exact HE.out.2
      · have HE : Hid (m.run ((m.st + most) - m.st).toNat = m'.stretch ((m.st + most) - m'.st).toNat) := by show _ = _; rw [← HJ.out.eq, SR.1 hk]
        have hkd : ((m'.stretch ((m.st + most) - m'.st).toNat).1.k == 0) = false := by simpa using hk
        clear SR
        go_wp2_with (first
          | (go_at_call 38; refine (gone_any HJ.out.st.mac).mono ?_; rw [hg]; rintro e w1 ⟨rfl, hb⟩; have H1 : Hid (RJ w p b P m (m.st + most) w1 P' m') := HJ.out.below hb; clear hb)
          | (go_at_call 39; refine (stretch_any H1.out.st.mac (m.st + most) (by omega) (by omega)).mono ?_; rintro e w2 ⟨rfl, P2, hS⟩; have H2 : Hid (MStp w p b P w2 P2 (m'.stretch ((m.st + most) - m'.st).toNat).2 ∧ Loc w2 p b P2 w.heap.size 4 (enAt 0 0).cells) := ⟨H1.out.st.trans hS, H1.out.loc.step hS⟩; have d23 : ∀ o, (w2.alloc o).cell? ⟨p, 23, none⟩ = some (.int .i64 (m'.stretch ((m.st + most) - m'.st).toNat).2.st) := (fun o => (H2.out.1.mac.below (al o)).five.c23); have r0 : ∀ o, Cpu.roomAt (w2.alloc o) w.heap.size 4 = true := (fun o => (H2.out.2.below (al o)).room); have e0 := H2.out.1.mac.ok.st.1; have e1 := H2.out.1.mac.ok.st.2; clear hS))
        exact Cpu.ret_cell1 rfl rfl (Cpu.loadEn_row (Cpu.rowEn_put _ _ _ (r0 _))) rfl ⟨by rw [HE.out], P2, by rw [HE.out]; exact (H2.out.1.trans (MStp.below H2.out.1.mac (al _))).put (H2.out.2.below (al _)) (Nat.le_refl _) big _⟩
set_option maxHeartbeats 4000000 in
set_option maxRecDepth 20000 in
theorem run_big {w : World} {p b : Nat} {P : Ph} {m : Ms} (h : Mac w p b P m) (most : Int) (hm : i64B most) (hs : m.st ≤ 4611686018417387904) (hmm : 10000000 < most) : Calls Tryz.prog 15 #[.pointer (some ⟨p, 0, none⟩), .int .i64 most] w fun e w' => e = .returned (.agg ({ (m.run ((m.st + 10000000) - m.st).toNat).1 with s := (m.run ((m.st + 10000000) - m.st).toNat).2.st - m.st } : En).cells) ∧ ∃ P', MStp w p b P w' P' (m.run ((m.st + 10000000) - m.st).toNat).2 := by
  have H0 : Hid (∀ t, RJ w p b P m (m.st + 10000000) (w.alloc (.cells (enAt 0 0).cells t)) P m) := fun t => ⟨MStp.below h (al _), Loc.new h _ _ 4 rfl, rfl⟩
  have big := h.ways.big
  have hs0 := h.ok.st.1
  have c23 := h.five.c23
  have hp := h.plt
  obtain ⟨m0, m1⟩ := hm
  clear h
  go_enter Tryz.func15, Tryz.ntmps15
  go_wp2
  go_loopw [7] (fun _ X => ∃ P' m', RJ w p b P m (m.st + 10000000) X P' m') (fun _ X => stLeft p (m.st + 10000000) X)
  case atStart => exact ⟨P, m, H0.out _⟩
  case round =>
    clear H0 c23
    obtain ⟨P', m', hJ⟩ := hrel
    have HJ : Hid (RJ w p b P m (m.st + 10000000) wr P' m') := hJ
    have HS : Hid (stLeft p (m.st + 10000000) wr = ((m.st + 10000000) - m'.st).toNat) := stLeft_is hJ.st.mac _
    have b0 := hJ.st.mac.ok.st.1
    have b1 := hJ.st.mac.ok.st.2
    clear hJ
    cases hg : m'.gone
    case true =>
      have HE : Hid (m.run ((m.st + 10000000) - m.st).toNat = (enAt 7 0, m')) := by show _ = _; rw [← HJ.out.eq, Ms.run_gone m' _ hg]
      go_wp2_with (first
        | (go_at_call 38; refine (gone_any HJ.out.st.mac).mono ?_; rw [hg]; rintro e w1 ⟨rfl, hb⟩; have H1 : Hid (RJ w p b P m (m.st + 10000000) w1 P' m') := HJ.out.below hb; have d23 := H1.out.st.mac.five.c23; have r0 := H1.out.loc.room; clear hb))
      exact Cpu.ret_cell1 rfl rfl (Cpu.loadEn_row (Cpu.rowEn_put _ _ _ r0)) rfl ⟨by rw [HE.out]; rfl, P', by rw [HE.out]; exact H1.out.st.put H1.out.loc (Nat.le_refl _) big _⟩
    case false =>
      have SR := stretch_run ((m.st + 10000000) - m'.st).toNat m' hg
      by_cases hk : (m'.stretch ((m.st + 10000000) - m'.st).toNat).1.k = 0
      · obtain ⟨k, k1, k2, k3⟩ := SR.2.1 hk
        have HE : Hid ((m'.stretch ((m.st + 10000000) - m'.st).toNat).2.run ((m.st + 10000000) - (m'.stretch ((m.st + 10000000) - m'.st).toNat).2.st).toNat = m.run ((m.st + 10000000) - m.st).toNat ∧ ((m.st + 10000000) - (m'.stretch ((m.st + 10000000) - m'.st).toNat).2.st).toNat < ((m.st + 10000000) - m'.st).toNat) := by
          have e : ((m.st + 10000000) - (m'.stretch ((m.st + 10000000) - m'.st).toNat).2.st).toNat = k := by rw [k2]; omega
          show _ ∧ _
          rw [e]
          exact ⟨by rw [← HJ.out.eq, k3], k1⟩
        clear SR k1 k2 k3
        go_wp2_with (first
          | (go_at_call 38; refine (gone_any HJ.out.st.mac).mono ?_; rw [hg]; rintro e w1 ⟨rfl, hb⟩; have H1 : Hid (RJ w p b P m (m.st + 10000000) w1 P' m') := HJ.out.below hb; clear hb)
          | (go_at_call 39; refine (stretch_any H1.out.st.mac (m.st + 10000000) (by omega) (by omega)).mono ?_; rintro e w2 ⟨rfl, P2, hS⟩; have H2 : Hid (RJ w p b P m (m.st + 10000000) w2 P2 (m'.stretch ((m.st + 10000000) - m'.st).toNat).2) := ⟨H1.out.st.trans hS, H1.out.loc.step hS, HE.out.1⟩; clear hS))
        go_roundw
        case rel => exact ⟨P2, _, H2.out.below (al _)⟩
        case measure => rw [HS.out, stLeft_is (H2.out.below (al _)).st.mac]; exact HE.out.2
      · have HE : Hid (m.run ((m.st + 10000000) - m.st).toNat = m'.stretch ((m.st + 10000000) - m'.st).toNat) := by show _ = _; rw [← HJ.out.eq, SR.1 hk]
        have hkd : ((m'.stretch ((m.st + 10000000) - m'.st).toNat).1.k == 0) = false := by simpa using hk
        clear SR
        go_wp2_with (first
          | (go_at_call 38; refine (gone_any HJ.out.st.mac).mono ?_; rw [hg]; rintro e w1 ⟨rfl, hb⟩; have H1 : Hid (RJ w p b P m (m.st + 10000000) w1 P' m') := HJ.out.below hb; clear hb)
          | (go_at_call 39; refine (stretch_any H1.out.st.mac (m.st + 10000000) (by omega) (by omega)).mono ?_; rintro e w2 ⟨rfl, P2, hS⟩; have H2 : Hid (MStp w p b P w2 P2 (m'.stretch ((m.st + 10000000) - m'.st).toNat).2 ∧ Loc w2 p b P2 w.heap.size 4 (enAt 0 0).cells) := ⟨H1.out.st.trans hS, H1.out.loc.step hS⟩; have d23 : ∀ o, (w2.alloc o).cell? ⟨p, 23, none⟩ = some (.int .i64 (m'.stretch ((m.st + 10000000) - m'.st).toNat).2.st) := (fun o => (H2.out.1.mac.below (al o)).five.c23); have r0 : ∀ o, Cpu.roomAt (w2.alloc o) w.heap.size 4 = true := (fun o => (H2.out.2.below (al o)).room); have e0 := H2.out.1.mac.ok.st.1; have e1 := H2.out.1.mac.ok.st.2; clear hS))
        exact Cpu.ret_cell1 rfl rfl (Cpu.loadEn_row (Cpu.rowEn_put _ _ _ (r0 _))) rfl ⟨by rw [HE.out], P2, by rw [HE.out]; exact (H2.out.1.trans (MStp.below H2.out.1.mac (al _))).put (H2.out.2.below (al _)) (Nat.le_refl _) big _⟩
theorem run_any {w : World} {p b : Nat} {P : Ph} {m : Ms} (h : Mac w p b P m) (most : Int) (hm : i64B most) (hs : m.st ≤ 4611686018417387904) : Calls Tryz.prog 15 #[.pointer (some ⟨p, 0, none⟩), .int .i64 most] w fun e w' => e = .returned (.agg (m.tells (steps most)).cells) ∧ ∃ P', MStp w p b P w' P' (m.run (steps most)).2 := by
  by_cases hmm : most ≤ 10000000
  · have e : steps most = (m.st + most - m.st).toNat := by unfold steps; rw [Int.min_eq_left hmm]; omega
    unfold Ms.tells
    rw [e]; exact run_small h most hm hs hmm
  · have e : steps most = (m.st + 10000000 - m.st).toNat := by unfold steps; rw [Int.min_eq_right (by omega)]; omega
    unfold Ms.tells
    rw [e]; exact run_big h most hm hs (by omega)
end Go.Proofs.YteegkhnikcioiaaGreatDoor
