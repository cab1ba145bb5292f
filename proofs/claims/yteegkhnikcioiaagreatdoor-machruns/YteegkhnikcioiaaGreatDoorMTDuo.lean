/-
  A run of the document's machine.
  The program's machine and the document's, apart.
-/
import Derived.Test.YteegkhnikcioiaaGreatDoorMRStep
import Derived.Test.YteegkhnikcioiaaGreatDoorMRun
import Derived.Test.YteegkhnikcioiaaGreatDoorMMade
namespace Go.Proofs.YteegkhnikcioiaaGreatDoor
open Go.ChangeShapes Go.WideShapes Go.ChangeAt Go.RowKit
open Cpu (Cp In Ac En decOk decI accA rightB)
attribute [local go_sem ↓] Cpu.loadCpu_seal Cpu.storeCpu_seal Cpu.loadIn_seal Cpu.storeIn_seal Cpu.loadAc_seal Cpu.storeAc_seal Cpu.loadEn_seal Cpu.storeEn_seal
attribute [local go_sem] rload_new Cpu.storeCpu_run Cpu.loadIn_run Cpu.storeIn_run Cpu.rowAt_at Cpu.rowAt_past Cpu.rowAt_drew Cpu.rowAt_drewN Cpu.roomCpu_new Cpu.roomIn_new Cpu.roomAt_old Cpu.roomAt_drew Cpu.roomAt_drewN Cpu.putCpu_new Cpu.putIn_new Cpu.Cp.zero_fold Cpu.In.fold Cpu.putRow_past Cpu.rowCpu_put Cpu.rowIn_put Cpu.size_put Cpu.putRow_drew Cpu.putRow_drewN Cpu.alloc_drewN Cpu.setCell_drewN Cpu.Cp.at16 Cpu.Cp.at17 Cpu.Cp.at18 Cpu.Cp.at19 Cpu.Cp.at20 Cpu.Cp.at21 Cpu.Cp.size Cpu.Cp.set16 Cpu.Cp.set17 Cpu.Cp.set18 Cpu.Cp.set19 Cpu.Cp.set20 Cpu.Cp.set21 Cpu.In.at0 Cpu.In.at1 Cpu.In.at2 Cpu.In.at3 Cpu.In.at4 Cpu.In.at5 Cpu.In.at6 Cpu.In.at7 Cpu.In.size Cpu.In.set0 Cpu.In.set1 Cpu.In.set2 Cpu.In.set3 Cpu.In.ne Cpu.Cp.ne Cpu.In.set4 Cpu.In.set5 Cpu.In.set6 Cpu.In.set7 Cpu.loadAc_run Cpu.storeAc_run Cpu.loadEn_run Cpu.storeEn_run Cpu.putAc_new Cpu.putEn_new Cpu.roomAc_new Cpu.roomEn_new Cpu.rowAc_put Cpu.rowEn_put Cpu.Ac.at0 Cpu.Ac.at1 Cpu.Ac.at2 Cpu.Ac.size Cpu.Ac.ne Cpu.Ac.fold Cpu.En.at0 Cpu.En.at1 Cpu.En.at2 Cpu.En.at3 Cpu.En.size Cpu.En.set0 Cpu.En.set1 Cpu.En.set2 Cpu.En.set3 Cpu.Ac.set0 Cpu.Ac.set1 Cpu.Ac.set2 Cpu.En.ne Cpu.En.fold
set_option linter.unusedVariables false

/-- What a round holds: what is left to run comes to the same. -/
structure RRJ (w : World) (p r : Nat) (Q : RPh) (m : Ms) (N : Nat) (X : World) (Q' : RPh) (m' : Ms) : Prop where
  st : RMStp w p r Q X Q' m'
  loc : RLoc X p r Q' w.heap.size 4 (enAt 0 0).cells
  did : m.st ≤ m'.st ∧ m'.st ≤ m.st + N
  eq : m'.run (N - (m'.st - m.st).toNat) = m.run N
theorem RRJ.below {w X Y : World} {p r : Nat} {Q Q' : RPh} {m m' : Ms} {N : Nat} (h : RRJ w p r Q m N X Q' m') (hb : Below X.heap.size X Y) : RRJ w p r Q m N Y Q' m' := ⟨h.st.trans (RMStp.below h.st.mac hb), h.loc.below hb, h.did, h.eq⟩
def rstLeft (p : Nat) (last : Int) (X : World) : Nat := match X.cell? ⟨p, 24, none⟩ with
  | some (.int _ z) => (last - z).toNat
  | _ => 0
theorem rstLeft_is {X : World} {p r : Nat} {Q : RPh} {m : Ms} (h : RMac X p r Q m) (last : Int) : rstLeft p last X = (last - m.st).toNat := by
  unfold rstLeft; rw [h.five.c24]
/-- What the power's test reads. -/
structure RPow (X : World) (p r : Nat) (m : Ms) : Prop where
  rd : ∃ rd wa wc, X.cell? ⟨r, 1, none⟩ = some (.pointer (some ⟨rd, 0, none⟩)) ∧ X.cell? ⟨rd, 1, none⟩ = some (.slice wa m.L.m wc)
theorem RMac.pow {X : World} {p r : Nat} {Q : RPh} {m : Ms} (h : RMac X p r Q m) : ∃ rd wa wc, X.cell? ⟨r, 1, none⟩ = some (.pointer (some ⟨rd, 0, none⟩)) ∧ X.cell? ⟨rd, 1, none⟩ = some (.slice wa m.L.m wc) := by
  obtain ⟨fa, fc, wa, wc, e1, e2, e3, e4, _⟩ := h.bus.dsk.parts
  exact ⟨Q.rd, wa, wc, h.bus.eight.c1, by rw [← h.bus.dm]; exact e4⟩
set_option maxHeartbeats 4000000 in
set_option maxRecDepth 20000 in
theorem rrun_any {w : World} {p r : Nat} {Q : RPh} {m : Ms} (h : RMac w p r Q m) (most : Int) (hm : i64B most) (hs : m.st ≤ 4611686018417387904) : Calls Tryz.prog 30 #[.pointer (some ⟨p, 0, none⟩), .int .i64 most] w fun e w' => e = .returned (.agg (m.tells (steps most)).cells) ∧ ∃ Q', RMStp w p r Q w' Q' (m.run (steps most)).2 := by
  have hN : (steps most : Int) = max (min most 10000000) 0 := by unfold steps; omega
  generalize steps most = N at hN ⊢
  have H0 : Hid (∀ t, RRJ w p r Q m N (w.alloc (.cells (⟨0, 0, 0, 0⟩ : En).cells t)) Q m) := fun t => ⟨RMStp.below h (al _), RLoc.new h _ _ 4 rfl, ⟨Int.le_refl _, by omega⟩, by rw [show (m.st - m.st).toNat = 0 by omega, Nat.sub_zero]⟩
  have hs0 := h.ok.st.1
  have c24 := fun o => (h.below (al o)).five.c24
  obtain ⟨m0, m1⟩ := hm
  have HN : Hid ((N : Int) = max (min most 10000000) 0) := hN
  clear h hN
  go_enter Tryz.func30, Tryz.ntmps30
  go_wp2
  go_loopw [6] (fun _ X => ∃ Q' m', RRJ w p r Q m N X Q' m') (fun _ X => rstLeft p (m.st + N) X)
  case atStart => exact ⟨Q, m, H0.out _⟩
  case round =>
    clear H0 c24
    obtain ⟨Q', m', hJ⟩ := hrel
    have HJ : Hid (RRJ w p r Q m N wr Q' m') := hJ
    have HS : Hid (rstLeft p (m.st + N) wr = ((m.st + N) - m'.st).toNat) := rstLeft_is hJ.st.mac _
    have b0 := hJ.st.mac.ok.st.1
    have b1 := hJ.st.mac.ok.st.2
    have d0 := hJ.did.1
    have d1 := hJ.did.2
    have c22 := hJ.st.mac.five.c22
    have c23 := hJ.st.mac.five.c23
    have c24 := hJ.st.mac.five.c24
    obtain ⟨rd, wa, wcp, e1, e2⟩ := hJ.st.mac.pow
    have hwr : IntKind.i64.wrap (m'.st - m.st) = m'.st - m.st := by rw [IntWalk.i64_left, IntWalk.wrap64_in]; omega
    clear hJ
    go_upto_region 3 with fail
    go_cut [41] from 13 to 66 (fun s41 X => s41 = .bool m'.gone ∧ ∃ n, X = wr.drewN n)
    case first =>
      by_cases g3 : 0 ≤ m'.cut
      · have g1 : decide (0 ≤ m'.cut) = true := by simpa using g3
        by_cases g4 : m'.cut ≤ (m'.L.m : Int)
        · have g2 : decide (m'.cut ≤ (m'.L.m : Int)) = true := by simpa using g4
          have hg : m'.gone = true := by simp [Ms.gone, g3, g4]
          go_wp2
          go_quiet (fail)
          go_wp2
          go_meet
          case rel => exact ⟨by rw [hg] <;> first | rfl | simp, _, rfl⟩
        · have g2 : decide (m'.cut ≤ (m'.L.m : Int)) = false := by simpa using g4
          have hg : m'.gone = false := by simp [Ms.gone, g3]; omega
          go_wp2
          go_quiet (fail)
          go_wp2
          go_meet
          case rel => exact ⟨by rw [hg] <;> first | rfl | simp, _, rfl⟩
      · have g1 : decide (0 ≤ m'.cut) = false := by simpa using g3
        have hg : m'.gone = false := by simp [Ms.gone, g3]
        go_wp2
        go_quiet (fail)
        go_wp2
        go_meet
        case rel => exact ⟨by rw [hg] <;> first | rfl | simp, _, rfl⟩
    case rest =>
      obtain ⟨rfl, n, rfl⟩ := hcut
      have HX : Hid (RRJ w p r Q m N (wr.drewN n) Q' m') := HJ.out.below (drewNB wr n)
      clear HJ e1 e2 c22 c23 c24
      generalize wr.drewN n = X at HX ⊢
      have r0 := HX.out.loc.room
      cases hg : m'.gone
      case true =>
        have HE : Hid (m.run N = (enAt 7 0, m')) := by show _ = _; rw [← HX.out.eq, Ms.run_gone m' _ hg]
        go_wp2
        exact Cpu.ret_cell1 rfl rfl (Cpu.loadEn_row (Cpu.rowEn_put _ _ _ r0)) rfl ⟨by unfold Ms.tells; rw [HE.out]; rfl, Q', by rw [HE.out]; exact HX.out.st.put HX.out.loc (Nat.le_refl _) _⟩
      case false =>
        by_cases hz : m'.st - m.st = N
        · have HE : Hid (m.run N = (enAt 1 0, m')) := by
            show _ = _
            rw [← HX.out.eq, show N - (m'.st - m.st).toNat = 0 by omega]
            simp [Ms.run, hg]
          have HZ : Hid (m'.st - m.st = N) := hz
          clear hz
          by_cases hmo : most ≤ m'.st - m.st
          · have hmd : decide (most ≤ m'.st - m.st) = true := by simpa using hmo
            go_wp2
            exact Cpu.ret_cell1 rfl rfl (Cpu.loadEn_row (Cpu.rowEn_put _ _ _ r0)) rfl ⟨by unfold Ms.tells; rw [HE.out]; rfl, Q', by rw [HE.out]; exact HX.out.st.put HX.out.loc (Nat.le_refl _) _⟩
          · have hmd : decide (most ≤ m'.st - m.st) = false := by simpa using hmo
            have hmb : 10000000 ≤ m'.st - m.st := by have := HN.out; have := HZ.out; omega
            have hme : decide (10000000 ≤ m'.st - m.st) = true := by simpa using hmb
            go_wp2
            exact Cpu.ret_cell1 rfl rfl (Cpu.loadEn_row (Cpu.rowEn_put _ _ _ r0)) rfl ⟨by unfold Ms.tells; rw [HE.out]; rfl, Q', by rw [HE.out]; exact HX.out.st.put HX.out.loc (Nat.le_refl _) _⟩
        · have hmo : ¬ most ≤ m'.st - m.st := by have := HN.out; omega
          have hmd : decide (most ≤ m'.st - m.st) = false := by simpa using hmo
          have hmb : ¬ 10000000 ≤ m'.st - m.st := by have := HN.out; omega
          have hme : decide (10000000 ≤ m'.st - m.st) = false := by simpa using hmb
          have hlt : m'.st - m.st < N := by omega
          have hsuc : N - (m'.st - m.st).toNat = (N - (m'.st - m.st).toNat - 1) + 1 := by omega
          have hst5 : m'.st + 1 ≤ 4611686018427387904 := by have := HN.out; omega
          by_cases hk : m'.step.1.2.k = 0
          · have HE : Hid (m'.step.2.run (N - (m'.step.2.st - m.st).toNat) = m.run N ∧ m'.step.2.st = m'.st + 1) := by
              have g := (step_goes hk).1
              refine ⟨?_, g⟩
              rw [← HX.out.eq, hsuc, g, show N - (m'.st + 1 - m.st).toNat = N - (m'.st - m.st).toNat - 1 by omega]
              simp [Ms.run, hg, hk]
            have hkd : (m'.step.1.2.k == 0) = true := by simpa using hk
            have HLT : Hid (m'.st - m.st < N) := hlt
            clear hsuc hlt hz
            go_wp2_with (go_at_call 50; refine (rstep_any HX.out.st.mac hst5).mono ?_; rw [hkd]; rintro e w5 ⟨rfl, Q5, hS⟩; have H5 : Hid (RMStp w p r Q w5 Q5 m'.step.2 ∧ RLoc w5 p r Q5 w.heap.size 4 (enAt 0 0).cells) := ⟨HX.out.st.trans hS, HX.out.loc.step hS⟩; clear hS)
            go_roundw
            case rel => exact ⟨Q5, m'.step.2, H5.out.1.trans (RMStp.below H5.out.1.mac (al _)), H5.out.2.below (al _), by have := HE.out.2; have := HLT.out; omega, HE.out.1⟩
            case measure =>
              have := HE.out.2
              have := HLT.out
              rw [HS.out, rstLeft_is (H5.out.1.trans (RMStp.below H5.out.1.mac (al _))).mac]
              omega
          · have HE : Hid (m.run N = (m'.step.1.2, m'.step.2)) := by
              show _ = _
              rw [← HX.out.eq, hsuc]
              simp [Ms.run, hg, hk]
            have hkd : (m'.step.1.2.k == 0) = false := by simpa using hk
            clear hsuc hlt hz
            go_wp2_with (go_at_call 50; refine (rstep_any HX.out.st.mac hst5).mono ?_; rw [hkd]; rintro e w5 ⟨rfl, Q5, hS⟩; have H5 : Hid (RMStp w p r Q w5 Q5 m'.step.2 ∧ RLoc w5 p r Q5 w.heap.size 4 (enAt 0 0).cells) := ⟨HX.out.st.trans hS, HX.out.loc.step hS⟩; have d24 : ∀ o, (w5.alloc o).cell? ⟨p, 24, none⟩ = some (.int .i64 m'.step.2.st) := (fun o => (H5.out.1.mac.below (al o)).five.c24); have r5 : ∀ o, Cpu.roomAt (w5.alloc o) w.heap.size 4 = true := (fun o => (H5.out.2.below (al o)).room); have s5 := H5.out.1.mac.ok.st.1; have s6 := H5.out.1.mac.ok.st.2; have l5 := H5.out.2.lt; clear hS)
            exact Cpu.ret_cell1 rfl rfl (Cpu.loadEn_row ((Cpu.rowAt_past _ _ _ (by rw [Cpu.size_put]; exact l5)).trans (Cpu.rowEn_put _ _ _ H5.out.2.room))) rfl ⟨by unfold Ms.tells; rw [HE.out], Q5, by rw [HE.out]; exact (H5.out.1.put H5.out.2 (Nat.le_refl _) _).trans (RMStp.below (H5.out.1.put H5.out.2 (Nat.le_refl _) _).mac (al _))⟩
end Go.Proofs.YteegkhnikcioiaaGreatDoor

namespace Go.Proofs.YteegkhnikcioiaaGreatDoor
open Go.ChangeShapes Go.WideShapes Go.ChangeAt Go.RowKit
open Cpu (Cp In Ac En decOk decI accA rightB)
attribute [local go_sem ↓] Cpu.loadCpu_seal Cpu.storeCpu_seal Cpu.loadIn_seal Cpu.storeIn_seal Cpu.loadAc_seal Cpu.storeAc_seal Cpu.loadEn_seal Cpu.storeEn_seal
attribute [local go_sem] Cpu.loadCpu_run Cpu.storeCpu_run Cpu.loadIn_run Cpu.storeIn_run Cpu.rowAt_at Cpu.rowAt_past Cpu.rowAt_drew Cpu.rowAt_drewN Cpu.roomCpu_new Cpu.roomIn_new Cpu.roomAt_old Cpu.roomAt_drew Cpu.roomAt_drewN Cpu.putCpu_new Cpu.putIn_new Cpu.Cp.zero_fold Cpu.In.fold Cpu.putRow_past Cpu.rowCpu_put Cpu.rowIn_put Cpu.size_put Cpu.putRow_drew Cpu.putRow_drewN Cpu.alloc_drewN Cpu.setCell_drewN Cpu.Cp.at16 Cpu.Cp.at17 Cpu.Cp.at18 Cpu.Cp.at19 Cpu.Cp.at20 Cpu.Cp.at21 Cpu.Cp.size Cpu.Cp.set16 Cpu.Cp.set17 Cpu.Cp.set18 Cpu.Cp.set19 Cpu.Cp.set20 Cpu.Cp.set21 Cpu.In.at0 Cpu.In.at1 Cpu.In.at2 Cpu.In.at3 Cpu.In.at4 Cpu.In.at5 Cpu.In.at6 Cpu.In.at7 Cpu.In.size Cpu.In.set0 Cpu.In.set1 Cpu.In.set2 Cpu.In.set3 Cpu.In.ne Cpu.Cp.ne Cpu.In.set4 Cpu.In.set5 Cpu.In.set6 Cpu.In.set7 loadMid_run storeMid_run mc_size mc_cpu Cpu.loadAc_run Cpu.storeAc_run Cpu.loadEn_run Cpu.storeEn_run Cpu.putAc_new Cpu.putEn_new Cpu.roomAc_new Cpu.roomEn_new Cpu.rowAc_put Cpu.rowEn_put Cpu.Ac.at0 Cpu.Ac.at1 Cpu.Ac.at2 Cpu.Ac.size Cpu.Ac.ne Cpu.Ac.fold Cpu.En.at0 Cpu.En.at1 Cpu.En.at2 Cpu.En.at3 Cpu.En.size Cpu.En.set0 Cpu.En.set1 Cpu.En.set2 Cpu.En.set3 Cpu.Ac.set0 Cpu.Ac.set1 Cpu.Ac.set2 Cpu.En.ne Cpu.En.fold
set_option linter.unusedVariables false
attribute [local go_sem ↓] buildRef_seal
attribute [local go_sem] buildRef_run rfresh_ne rfresh_21 rfresh_size

structure TDuo (w X : World) (p b : Nat) (P : Ph) (m : Ms) (q r : Nat) (Q : RPh) (n : Ms) : Prop where
  one : MOwn w p b P m X
  two : RMac X q r Q n
  new : ∀ x, RM q r Q x → w.heap.size ≤ x
  ap : ∀ x, MM p b P x → ¬ RM q r Q x
  z : 0 < w.heap.size
theorem TDuo.fst {w X Y : World} {p b q r : Nat} {P P' : Ph} {Q : RPh} {m m' n : Ms} (h : TDuo w X p b P m q r Q n) (hs : MStp X p b P Y P' m') : TDuo w Y p b P' m' q r Q n where
  one := h.one.step hs
  two := h.two.keep hs.tou.size fun x hx hm => hs.tou.block x hx fun hp => h.ap x hp hm
  new := h.new
  ap := fun x hx hy => hx.elim (fun e => h.ap x (.inl e) hy) fun e => (hs.new x e).elim (fun e => h.ap x (.inr e) hy) fun e => absurd (h.two.lt x hy) (by omega)
  z := h.z
theorem TDuo.snd {w X Y : World} {p b q r : Nat} {P : Ph} {Q Q' : RPh} {m n n' : Ms} (h : TDuo w X p b P m q r Q n) (hs : RMStp X q r Q Y Q' n') : TDuo w Y p b P m q r Q' n' where
  one := ⟨h.one.mac.keep hs.tou.size fun x hx hm => hs.tou.block x hx fun hp => hm.elim (fun hm => h.ap x hm hp) fun e => by
      have := h.new x hp
      have := h.z
      omega, h.one.below.trans (hs.tou.below h.one.below.size h.new), h.one.new⟩
  two := hs.mac
  new := fun x hx => hx.elim (fun e => h.new x (.inl e)) fun e => (hs.new x e).elim (fun e => h.new x (.inr e)) fun e => Nat.le_trans h.one.below.size e
  ap := fun x hx hy => hy.elim (fun e => h.ap x hx (.inl e)) fun e => (hs.new x e).elim (fun e => h.ap x hx (.inr e)) fun e => by
    have : x < X.heap.size := hx.elim (fun e => by rw [e]; exact h.one.mac.plt) (h.one.mac.bus.lt x)
    omega
  z := h.z
theorem TDuo.next {w X Y : World} {p b q r : Nat} {P : Ph} {Q : RPh} {m n : Ms} (h : TDuo w X p b P m q r Q n) (hb : Below X.heap.size X Y) : TDuo w Y p b P m q r Q n := h.fst (MStp.below h.one.mac hb)
theorem TDuo.set {w X : World} {p b q r : Nat} {P : Ph} {Q : RPh} {m n : Ms} (h : TDuo w X p b P m q r Q n) {g : Nat} (hg : ¬ MM p b P g) (hr : ¬ RM q r Q g) (hw : w.heap.size ≤ g) (k : Nat) (v : Value) : TDuo w (X.setCell ⟨g, k, none⟩ v) p b P m q r Q n :=
  ⟨h.one.set hg (Nat.lt_of_lt_of_le h.z hw) k v hw, h.two.keep (by simp) fun x _ hx => Below.heap_setCell _ _ _ _ fun e => by
    have e : x = g := e
    exact hr (e ▸ hx), h.new, h.ap, h.z⟩
theorem rnew_mac {w1 : World} {r : Nat} {Q : RPh} {f : Nat → Int} {len : Nat} {D : Dk} (hB : RBus w1 r Q (Lg.new f len D)) (en : Int) (e0 : 0 ≤ en) (e1 : en ≤ 4294967295) (t : TypeId) : RMac (w1.alloc (.cells (rmcells r (Ms.new f len D en)) t)) w1.heap.size r Q (Ms.new f len D en) where
  bus := hB.below (al _)
  blk := rowAt_new _ _ _ _
  room := roomAt_new _ _ _ _ _ rfl rfl
  ne := fun e => absurd (hB.lt _ e) (by omega)
  plt := by simp
  ok := ⟨⟨fun j _ => by show (0 : Int) ≤ 0 ∧ (0 : Int) ≤ 4294967295; decide, by show (0 : Int) ≤ 0 ∧ (0 : Int) ≤ 4294967295; decide, ⟨e0, e1⟩⟩, by show (0 : Int) ≤ 0 ∧ (0 : Int) ≤ 4611686018427387904; decide, by show i64B (-1); exact ⟨by decide, by decide⟩⟩
set_option maxHeartbeats 1000000 in
set_option maxRecDepth 20000 in
theorem rmnew_ok (a : Option Addr) (len cap rd : Nat) (f : Nat → Int) (en : Int) (R : Rk) (D : Dk) (w : World) (hR : RepR w rd R) (hn : R.n = D.n) (hm : R.m = D.m) (hS : ∀ i, i < D.n → lastR R D.m i = strF (D.S i) 1024) (hB : ∀ i, i < D.n → ByteF (D.S i)) (hl : len ≤ 262144) (hr : RdW w a len f) (e0 : 0 ≤ en) (e1 : en ≤ 4294967295) (hw : isW en = true) : Calls Tryz.prog 29 #[.agg #[.slice a len cap, .int .u32 en], .pointer (some ⟨rd, 0, none⟩)] w fun e w' => ∃ q r Q, e = .returned (.tuple #[.pointer (some ⟨q, 0, none⟩), .int .i64 0]) ∧ RMac w' q r Q (Ms.new f len D en) ∧ (∀ x, RM q r Q x → R.mut rd x ∨ w.heap.size ≤ x) ∧ Below w.heap.size w w' := by
  have HC : Hid (∀ o, Calls Tryz.prog 49 #[.slice a len cap, .pointer (some ⟨rd, 0, none⟩)] (w.alloc o) fun e w' => ∃ r, e = .returned (.tuple #[.pointer (some ⟨r, 0, none⟩), .int .i64 0]) ∧ ∃ Q, RBus w' r Q (Lg.new f len D) ∧ (∀ x, Q.all r x → R.mut rd x ∨ (w.alloc o).heap.size ≤ x) ∧ Below (w.alloc o).heap.size (w.alloc o) w') := fun o => rbnew_bus a len cap rd f R D (w.alloc o) (hR.below (al o)) hn hm hS hB hl (hr.over (al o))
  have h4 : en % 4 = 0 := by simp [isW] at hw; omega
  have h5 : en < 1048576 := by simp [isW] at hw; omega
  have h1 : ¬ (262144 : Int) < (len : Int) := by omega
  clear hr hR hn hm hS hB hw
  go_enter Tryz.func29, Tryz.ntmps29
  go_wp2_with (go_at_call 49; refine (HC.out _).mono ?_; rintro e w1 ⟨r, rfl, Q, hB, hall, hb⟩; have H1 : Hid (RBus w1 r Q (Lg.new f len D) ∧ (∀ x, Q.all r x → R.mut rd x ∨ w.heap.size ≤ x) ∧ Below w.heap.size w w1) := ⟨hB, fun x hx => (hall x hx).imp_right (Nat.le_trans (al _).size), (al _).trans (hb.mono (al _).size)⟩; have c1 : w1.cell? ⟨w.heap.size, 1, none⟩ = some (.int .u32 en) := (hb.cell (p := ⟨w.heap.size, 1, none⟩) (by simp)).trans (by simp); have l1 : w.heap.size < w1.heap.size := (by have := hb.size; simp at this; omega); clear hb hB hall)
  go_ret2
  refine ⟨w1.heap.size, r, Q, ?_⟩
  refine ⟨rfl, rnew_mac H1.out.1 en e0 e1 _, ?_, H1.out.2.2.alloc H1.out.2.2.size _⟩
  rintro x (hx | hx)
  · right; rw [hx]; exact H1.out.2.2.size
  · exact H1.out.2.1 x hx
set_option maxHeartbeats 1000000 in
set_option maxRecDepth 20000 in
theorem rmnew_no (a : Option Addr) (len cap rd : Nat) (en : Int) (w : World) (e0 : 0 ≤ en) (e1 : en ≤ 4294967295) (hg : goodS len en = false) : Calls Tryz.prog 29 #[.agg #[.slice a len cap, .int .u32 en], .pointer (some ⟨rd, 0, none⟩)] w fun e w' => e = .returned (.tuple #[.pointer none, .int .i64 50]) ∧ Below w.heap.size w w' := by
  by_cases hl : len ≤ 262144
  · have h1 : ¬ (262144 : Int) < (len : Int) := by omega
    by_cases h4 : en % 4 = 0
    · by_cases h5 : en < 1048576
      · exfalso
        simp [goodS, hl, isW] at hg
        omega
      · go_enter Tryz.func29, Tryz.ntmps29
        go_wp2_with fail
        go_ret2
        exact ⟨rfl, al _⟩
    · go_enter Tryz.func29, Tryz.ntmps29
      go_wp2_with fail
      go_ret2
      exact ⟨rfl, al _⟩
  · have h1 : (262144 : Int) < (len : Int) := by omega
    go_enter Tryz.func29, Tryz.ntmps29
    go_wp2_with fail
    go_ret2
    exact ⟨rfl, al _⟩
end Go.Proofs.YteegkhnikcioiaaGreatDoor
