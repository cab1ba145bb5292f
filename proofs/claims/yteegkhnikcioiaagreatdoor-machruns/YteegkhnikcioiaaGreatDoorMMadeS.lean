/-
  What a law makes: a machine, and the document's beside it, which hold the same.
-/
import Derived.Test.YteegkhnikcioiaaGreatDoorMTDuo
import Derived.Deep.DeepCutAuto
namespace Go.Proofs.YteegkhnikcioiaaGreatDoor
open Go.ChangeShapes Go.WideShapes Go.ChangeAt Go.RowKit
open Cpu (Cp In Ac En decOk decI accA rightB)
attribute [local go_sem ↓] Cpu.loadCpu_seal Cpu.storeCpu_seal Cpu.loadIn_seal Cpu.storeIn_seal Cpu.loadAc_seal Cpu.storeAc_seal Cpu.loadEn_seal Cpu.storeEn_seal
attribute [local go_sem] Cpu.loadCpu_run Cpu.storeCpu_run Cpu.loadIn_run Cpu.storeIn_run Cpu.rowAt_at Cpu.rowAt_past Cpu.rowAt_drew Cpu.rowAt_drewN Cpu.roomCpu_new Cpu.roomIn_new Cpu.roomAt_old Cpu.roomAt_drew Cpu.roomAt_drewN Cpu.putCpu_new Cpu.putIn_new Cpu.Cp.zero_fold Cpu.In.fold Cpu.putRow_past Cpu.rowCpu_put Cpu.rowIn_put Cpu.size_put Cpu.putRow_drew Cpu.putRow_drewN Cpu.alloc_drewN Cpu.setCell_drewN Cpu.Cp.at16 Cpu.Cp.at17 Cpu.Cp.at18 Cpu.Cp.at19 Cpu.Cp.at20 Cpu.Cp.at21 Cpu.Cp.size Cpu.Cp.set16 Cpu.Cp.set17 Cpu.Cp.set18 Cpu.Cp.set19 Cpu.Cp.set20 Cpu.Cp.set21 Cpu.In.at0 Cpu.In.at1 Cpu.In.at2 Cpu.In.at3 Cpu.In.at4 Cpu.In.at5 Cpu.In.at6 Cpu.In.at7 Cpu.In.size Cpu.In.set0 Cpu.In.set1 Cpu.In.set2 Cpu.In.set3 Cpu.In.ne Cpu.Cp.ne Cpu.In.set4 Cpu.In.set5 Cpu.In.set6 Cpu.In.set7 loadMid_run storeMid_run mc_size mc_cpu Cpu.loadAc_run Cpu.storeAc_run Cpu.loadEn_run Cpu.storeEn_run Cpu.putAc_new Cpu.putEn_new Cpu.roomAc_new Cpu.roomEn_new Cpu.rowAc_put Cpu.rowEn_put Cpu.Ac.at0 Cpu.Ac.at1 Cpu.Ac.at2 Cpu.Ac.size Cpu.Ac.ne Cpu.Ac.fold Cpu.En.at0 Cpu.En.at1 Cpu.En.at2 Cpu.En.at3 Cpu.En.size Cpu.En.set0 Cpu.En.set1 Cpu.En.set2 Cpu.En.set3 Cpu.Ac.set0 Cpu.Ac.set1 Cpu.Ac.set2 Cpu.En.ne Cpu.En.fold
set_option linter.unusedVariables false
attribute [local go_sem ↓] makeU_seal appU_seal
set_option linter.unusedSimpArgs false

def MadeBoth (w : World) (f : Nat → Int) (len : Nat) (en : Int) (e : Ending) (w' : World) : Prop := ∃ p b P D q r Q, e = .returned (.tuple #[.pointer (some ⟨p, 0, none⟩), .int .i64 0, .pointer (some ⟨q, 0, none⟩), .int .i64 0]) ∧ TDuo w w' p b P (Ms.new f len D en) q r Q (Ms.new f len D en) ∧ D.m = 0
theorem MadeBoth.of {w : World} {f : Nat → Int} {len : Nat} {en : Int} {e : Ending} {w' : World} (h : ∃ p b P D q r Q, e = .returned (.tuple #[.pointer (some ⟨p, 0, none⟩), .int .i64 0, .pointer (some ⟨q, 0, none⟩), .int .i64 0]) ∧ TDuo w w' p b P (Ms.new f len D en) q r Q (Ms.new f len D en) ∧ D.m = 0) : MadeBoth w f len en e w' := h
def MadeNone (w : World) (e : Ending) (w' : World) : Prop := e = .returned (.tuple #[.pointer none, .int .i64 50, .pointer none, .int .i64 50]) ∧ Below w.heap.size w w'
theorem MadeNone.of {w : World} {e : Ending} {w' : World} (h : e = .returned (.tuple #[.pointer none, .int .i64 50, .pointer none, .int .i64 50]) ∧ Below w.heap.size w w') : MadeNone w e w' := h
/-- What is apart when both were made. -/
theorem mades_end {w w1 w2 w2d w4 w5 w6 : World} {p b db rd q r len : Nat} {P : Ph} {D : Dk} {R : Rk} {Q : RPh} {f : Nat → Int} {en : Int} (hM : MOwn w p b P (Ms.new f len D en) w5) (hG : URow w5 w2.heap.size (len + 2) (lentF f len 0) ∧ ¬ MM p b P w2.heap.size) (hall : ∀ x, MM p b P x → (D.mut db x ∨ D.fix x) ∨ w4.heap.size ≤ x) (hD : Rep w1 db D) (hR : RepR w2 rd R) (hRf : ∀ x, R.mut rd x → w1.heap.size ≤ x) (h25 : Below w2.heap.size w2 w5) (h4 : Below w2.heap.size w2d w4) (hRM : RMac w6 q r Q (Ms.new f len D en)) (hRA : ∀ x, RM q r Q x → R.mut rd x ∨ w5.heap.size ≤ x) (h6 : Below w5.heap.size w5 w6) (big : 0 < w.heap.size) (hw1 : w.heap.size ≤ w1.heap.size) (hlt : w2.heap.size < w4.heap.size) : TDuo w w6 p b P (Ms.new f len D en) q r Q (Ms.new f len D en) ∧ URow w6 w2.heap.size (len + 2) (lentF f len 0) ∧ ¬ RM q r Q w2.heap.size := by
  have l5 := hM.below.size
  refine ⟨⟨hM.next h6, hRM, fun x hx => (hRA x hx).elim (fun e => Nat.le_trans hw1 (hRf x e)) fun e => Nat.le_trans l5 e, fun x hx hy => ?_, big⟩, hG.1.same (h6.block _ hG.1.lt), fun e => ?_⟩
  · have hx5 : x < w5.heap.size := hx.elim (fun e => by rw [e]; exact hM.mac.plt) (hM.mac.bus.lt x)
    rcases hRA x hy with e | e
    · have e1 := hRf x e
      have e2 := hR.lt x e
      rcases hall x hx with d | d
      · have := hD.lt x d
        omega
      · omega
    · omega
  · rcases hRA _ e with e | e
    · have := hR.lt _ e
      omega
    · have := hG.1.lt
      omega
set_option maxHeartbeats 800000 in
set_option maxRecDepth 20000 in
theorem mades_okA (a : Option Addr) (len cap : Nat) (f : Nat → Int) (en sec : Int) (w : World) (hW : Cpu.Ways w) (hr : RdW w a len f) (hlen : len ≤ 35184372087808) (e0 : 0 ≤ en) (e1 : en ≤ 4294967295) (hs : sec < 8) (hg : goodS len en = true) : Calls Tryz.prog 10 #[.agg #[.slice a len cap, .int .u32 en, .int .i64 sec]] w fun e w' => MadeBoth w f len en e w' := by
  have HR : Hid (RdW w a len f) := hr
  have HW : Hid (Cpu.Ways w) := hW
  have HC : Hid (∀ X, Below (w.alloc (.cells #[.slice a len cap, .int .u32 en, .int .i64 sec] 25)).heap.size (w.alloc (.cells #[.slice a len cap, .int .u32 en, .int .i64 sec] 25)) X → X.cell? ⟨w.heap.size, 0, none⟩ = some (.slice a len cap) ∧ X.cell? ⟨w.heap.size, 1, none⟩ = some (.int .u32 en) ∧ Below w.heap.size w X) := fun X hX => ⟨(hX.cell (p := ⟨w.heap.size, 0, none⟩) (by simp)).trans (by simp), (hX.cell (p := ⟨w.heap.size, 1, none⟩) (by simp)).trans (by simp), (al _).trans (hX.mono (al _).size)⟩
  have hwr : IntKind.i64.wrap ((len : Int) + 2) = (len : Int) + 2 := by rw [IntWalk.i64_left, IntWalk.wrap64_in]; omega
  have gl : len ≤ 262144 := by simp [goodS] at hg; exact hg.1
  have gw : isW en = true := by simp [goodS] at hg; exact hg.2
  clear hr hW hg
  go_enter Tryz.func10, Tryz.ntmps10
  go_upto_region 6 with (first
    | (go_at_call 22; refine (new_some 8 _ (by omega) (by omega)).mono ?_; rintro e w1 ⟨db, D, rfl, hR, hn, hm, hS, hF, hfr, hb1⟩; have HD : Hid (Rep w1 db D ∧ D.n = 8 ∧ D.m = 0 ∧ D.fresh db w.heap.size ∧ Below (w.alloc (.cells #[.slice a len cap, .int .u32 en, .int .i64 sec] 25)).heap.size (w.alloc (.cells #[.slice a len cap, .int .u32 en, .int .i64 sec] 25)) w1) := ⟨hR, hn, hm, fun x hx => Nat.le_trans (al _).size (hfr x hx), hb1⟩; have HSz : Hid (D.S = (fun _ _ => 0)) := hS; clear hR hn hm hS hF hfr hb1)
    | (go_at_call 28; refine (rnew_some 8 _ (by omega) (by omega)).mono ?_; rintro e w2 ⟨rd, R, rfl, hRR, hRn, hRm, hRF, hRf, hb2⟩; have HRk : Hid (RepR w2 rd R ∧ R.n = 8 ∧ R.m = 0 ∧ (∀ i, i < 8 → R.F i = strF (fun _ => 0) 1024) ∧ (∀ x, R.mut rd x → w1.heap.size ≤ x)) := ⟨hRR, hRn, hRm, hRF, hRf⟩; clear hRR hRn hRm hRF hRf; have HE : Hid (Rep w2 db D ∧ Below (w.alloc (.cells #[.slice a len cap, .int .u32 en, .int .i64 sec] 25)).heap.size (w.alloc (.cells #[.slice a len cap, .int .u32 en, .int .i64 sec] 25)) w2) := ⟨HD.out.1.below hb2, HD.out.2.2.2.2.trans (hb2.mono HD.out.2.2.2.2.size)⟩; clear hb2))
  obtain ⟨w3, w4, HT0⟩ := lent_is cap HR.out hlen (HC.out w2.drew (HE.out.2.trans ((drB w2).mono HE.out.2.size))).2.2
  have hmk : (makeU (.int .i64 0) (.int .i64 ((len : Int) + 2))).run Tryz.prog w2.drew = .ok (.slice (some ⟨w2.heap.size, 0, none⟩) 0 (len + 2)) w3 := HT0.mak
  have hap : (appU #[22, 22] 22 #[.slice (some ⟨w2.heap.size, 0, none⟩) 0 (len + 2), .slice a len cap]).run Tryz.prog w3 = .ok (.slice (some ⟨w2.heap.size, 0, none⟩) len (len + 2)) w4 := HT0.ap
  have HT : Hid (Lent w a len cap f w2.drew w3 w4) := HT0
  have B3 : Below (w.alloc (.cells #[.slice a len cap, .int .u32 en, .int .i64 sec] 25)).heap.size (w.alloc (.cells #[.slice a len cap, .int .u32 en, .int .i64 sec] 25)) w3 := (HE.out.2.trans ((drB w2).mono HE.out.2.size)).trans (HT0.b3.mono (Nat.le_trans HE.out.2.size (drB w2).size))
  have B4 : Below (w.alloc (.cells #[.slice a len cap, .int .u32 en, .int .i64 sec] 25)).heap.size (w.alloc (.cells #[.slice a len cap, .int .u32 en, .int .i64 sec] 25)) w4 := (HE.out.2.trans ((drB w2).mono HE.out.2.size)).trans (HT0.b4.mono (Nat.le_trans HE.out.2.size (drB w2).size))
  have s0 := (HC.out w2.drew (HE.out.2.trans ((drB w2).mono HE.out.2.size))).1
  have s1 := (HC.out w3 B3).1
  have s2 := (HC.out w4 B4).1
  have t2 := (HC.out w4 B4).2.1
  have HB4 : Hid (Below (w.alloc (.cells #[.slice a len cap, .int .u32 en, .int .i64 sec] 25)).heap.size (w.alloc (.cells #[.slice a len cap, .int .u32 en, .int .i64 sec] 25)) w4) := B4
  clear HT0 B3 B4
  go_wp2_with fail
  go_region_held3 (fun X => X.cell? ⟨w.heap.size, 0, none⟩ = some (.slice a len cap)) (first | exact s0 | exact s1 | exact s2) (fail)
  go_wp2_with (first
    | (go_at_call 23; refine (mnew_ok _ len _ db f D en _ (HW.out.below (HC.out w4 HB4.out).2.2 HW.out.big) (HE.out.1.below ((drB w2).trans (HT.out.b4.mono (drB w2).size))) (fun x hx => Nat.lt_of_lt_of_le HW.out.big (HD.out.2.2.2.1 x hx)) gl (HT.out.row.rdL (by omega) HR.out) e0 e1 gw).mono ?_; rintro e w5 ⟨p, b, P, rfl, hM, hdb, hPD, hall, hb5⟩; have HM : Hid (MOwn w p b P (Ms.new f len D en) w5) := ⟨hM, (HC.out w4 HB4.out).2.2.trans (hb5.mono (HC.out w4 HB4.out).2.2.size), fun x hx => (hall x hx).elim (HD.out.2.2.2.1 x) fun e => Nat.le_trans (HC.out w4 HB4.out).2.2.size e⟩; have HG : Hid (URow w5 w2.heap.size (len + 2) (lentF f len 0) ∧ ¬ MM p b P w2.heap.size) := ⟨HT.out.row.same (hb5.block _ HT.out.row.lt), fun e => (hall _ e).elim (fun e => absurd (HE.out.1.lt _ e) (by omega)) fun e => absurd HT.out.row.lt (by have : w2.drew.heap.size = w2.heap.size := rfl; omega)⟩; have HB5 : Hid (Below (w.alloc (.cells #[.slice a len cap, .int .u32 en, .int .i64 sec] 25)).heap.size (w.alloc (.cells #[.slice a len cap, .int .u32 en, .int .i64 sec] 25)) w5) := HB4.out.trans (hb5.mono HB4.out.size); have u0 := (HC.out w5 HB5.out).1; have u1 := (HC.out w5 HB5.out).2.1; have HALL : Hid (∀ x, MM p b P x → (D.mut db x ∨ D.fix x) ∨ w4.heap.size ≤ x) := hall; have HB25 : Hid (Below w2.heap.size w2 w5) := ((drB w2).trans (HT.out.b4.mono (drB w2).size)).trans (hb5.mono (Nat.le_trans (drB w2).size HT.out.b4.size)); clear hM hdb hPD hall hb5)
    | (go_at_call 29; refine (rmnew_ok a len cap rd f en R D _ (HRk.out.1.below HB25.out) (by rw [HRk.out.2.1, HD.out.2.1]) (by rw [HRk.out.2.2.1, HD.out.2.2.1]) (fun i hi => by rw [HD.out.2.2.1, HSz.out]; exact HRk.out.2.2.2.1 i (by rw [← HD.out.2.1]; exact hi)) (fun i _ => by rw [HSz.out]; exact byte0) gl (HR.out.over HM.out.below) e0 e1 gw).mono ?_; rintro e w6 ⟨q, r, Q, rfl, hRM, hRA, hb6⟩; have HM6 : Hid (TDuo w w6 p b P (Ms.new f len D en) q r Q (Ms.new f len D en) ∧ URow w6 w2.heap.size (len + 2) (lentF f len 0) ∧ ¬ RM q r Q w2.heap.size) := mades_end HM.out HG.out HALL.out HD.out.1 HRk.out.1 HRk.out.2.2.2.2 HB25.out HT.out.b4 hRM hRA hb6 HW.out.big (by have := HD.out.2.2.2.2.size; have := (al (w := w) (.cells #[.slice a len cap, .int .u32 en, .int .i64 sec] 25)).size; omega) HT.out.row.lt; clear hRM hRA hb6))
  go_loopw [16] (fun i X => ∃ k : Nat, k ≤ len ∧ i = .int .i64 k ∧ TDuo w X p b P (Ms.new f len D en) q r Q (Ms.new f len D en) ∧ URow X w2.heap.size (len + 2) (lentF f len k)) (fun i _ => len - (intOf i).toNat)
  case atStart => exact ⟨0, Nat.zero_le _, rfl, HM6.out.1, HM6.out.2.1⟩
  case round =>
    obtain ⟨k, hk, rfl, hX, hU⟩ := hrel
    have HX : Hid (TDuo w wr p b P (Ms.new f len D en) q r Q (Ms.new f len D en) ∧ URow wr w2.heap.size (len + 2) (lentF f len k)) := ⟨hX, hU⟩
    clear hX
    by_cases hlt : k < len
    · have cg := (hU.at (k := k) (by omega)).1
      have fg := (hU.at (k := k) (by omega)).2
      have j0 : (0 : Int) ≤ (k : Int) := by omega
      have j1 : (k : Int) < (len : Int) := by omega
      clear hU
      go_wp2_with fail
      go_roundw
      case rel => exact ⟨k + 1, by omega, by go_num, HX.out.1.set HG.out.2 HM6.out.2.2 (HC.out w2 HE.out.2).2.2.size k _, by have := HX.out.2.set (k := k) (by omega) 2004318071; rwa [lent_next] at this⟩
      case measure => simp [intOf]; omega
    · have j1 : ¬ (k : Int) < (len : Int) := by omega
      clear hU
      go_wp2_with fail
      refine ret_tmp4 rfl rfl ?_
      exact MadeBoth.of ⟨p, b, P, D, q, r, Q, rfl, HX.out.1, HD.out.2.2.1⟩
set_option maxHeartbeats 800000 in
set_option maxRecDepth 20000 in
theorem mades_okB (a : Option Addr) (len cap : Nat) (f : Nat → Int) (en sec : Int) (w : World) (hW : Cpu.Ways w) (hr : RdW w a len f) (hlen : len ≤ 35184372087808) (e0 : 0 ≤ en) (e1 : en ≤ 4294967295) (hs : ¬ sec < 8) (hs2 : 64 < sec) (hg : goodS len en = true) : Calls Tryz.prog 10 #[.agg #[.slice a len cap, .int .u32 en, .int .i64 sec]] w fun e w' => MadeBoth w f len en e w' := by
  have HR : Hid (RdW w a len f) := hr
  have HW : Hid (Cpu.Ways w) := hW
  have HC : Hid (∀ X, Below (w.alloc (.cells #[.slice a len cap, .int .u32 en, .int .i64 sec] 25)).heap.size (w.alloc (.cells #[.slice a len cap, .int .u32 en, .int .i64 sec] 25)) X → X.cell? ⟨w.heap.size, 0, none⟩ = some (.slice a len cap) ∧ X.cell? ⟨w.heap.size, 1, none⟩ = some (.int .u32 en) ∧ Below w.heap.size w X) := fun X hX => ⟨(hX.cell (p := ⟨w.heap.size, 0, none⟩) (by simp)).trans (by simp), (hX.cell (p := ⟨w.heap.size, 1, none⟩) (by simp)).trans (by simp), (al _).trans (hX.mono (al _).size)⟩
  have hwr : IntKind.i64.wrap ((len : Int) + 2) = (len : Int) + 2 := by rw [IntWalk.i64_left, IntWalk.wrap64_in]; omega
  have gl : len ≤ 262144 := by simp [goodS] at hg; exact hg.1
  have gw : isW en = true := by simp [goodS] at hg; exact hg.2
  clear hr hW hg
  go_enter Tryz.func10, Tryz.ntmps10
  go_upto_region 6 with (first
    | (go_at_call 22; refine (new_some 8 _ (by omega) (by omega)).mono ?_; rintro e w1 ⟨db, D, rfl, hR, hn, hm, hS, hF, hfr, hb1⟩; have HD : Hid (Rep w1 db D ∧ D.n = 8 ∧ D.m = 0 ∧ D.fresh db w.heap.size ∧ Below (w.alloc (.cells #[.slice a len cap, .int .u32 en, .int .i64 sec] 25)).heap.size (w.alloc (.cells #[.slice a len cap, .int .u32 en, .int .i64 sec] 25)) w1) := ⟨hR, hn, hm, fun x hx => Nat.le_trans (al _).size (hfr x hx), hb1⟩; have HSz : Hid (D.S = (fun _ _ => 0)) := hS; clear hR hn hm hS hF hfr hb1)
    | (go_at_call 28; refine (rnew_some 8 _ (by omega) (by omega)).mono ?_; rintro e w2 ⟨rd, R, rfl, hRR, hRn, hRm, hRF, hRf, hb2⟩; have HRk : Hid (RepR w2 rd R ∧ R.n = 8 ∧ R.m = 0 ∧ (∀ i, i < 8 → R.F i = strF (fun _ => 0) 1024) ∧ (∀ x, R.mut rd x → w1.heap.size ≤ x)) := ⟨hRR, hRn, hRm, hRF, hRf⟩; clear hRR hRn hRm hRF hRf; have HE : Hid (Rep w2 db D ∧ Below (w.alloc (.cells #[.slice a len cap, .int .u32 en, .int .i64 sec] 25)).heap.size (w.alloc (.cells #[.slice a len cap, .int .u32 en, .int .i64 sec] 25)) w2) := ⟨HD.out.1.below hb2, HD.out.2.2.2.2.trans (hb2.mono HD.out.2.2.2.2.size)⟩; clear hb2))
  obtain ⟨w3, w4, HT0⟩ := lent_is cap HR.out hlen (HC.out w2.drew (HE.out.2.trans ((drB w2).mono HE.out.2.size))).2.2
  have hmk : (makeU (.int .i64 0) (.int .i64 ((len : Int) + 2))).run Tryz.prog w2.drew = .ok (.slice (some ⟨w2.heap.size, 0, none⟩) 0 (len + 2)) w3 := HT0.mak
  have hap : (appU #[22, 22] 22 #[.slice (some ⟨w2.heap.size, 0, none⟩) 0 (len + 2), .slice a len cap]).run Tryz.prog w3 = .ok (.slice (some ⟨w2.heap.size, 0, none⟩) len (len + 2)) w4 := HT0.ap
  have HT : Hid (Lent w a len cap f w2.drew w3 w4) := HT0
  have B3 : Below (w.alloc (.cells #[.slice a len cap, .int .u32 en, .int .i64 sec] 25)).heap.size (w.alloc (.cells #[.slice a len cap, .int .u32 en, .int .i64 sec] 25)) w3 := (HE.out.2.trans ((drB w2).mono HE.out.2.size)).trans (HT0.b3.mono (Nat.le_trans HE.out.2.size (drB w2).size))
  have B4 : Below (w.alloc (.cells #[.slice a len cap, .int .u32 en, .int .i64 sec] 25)).heap.size (w.alloc (.cells #[.slice a len cap, .int .u32 en, .int .i64 sec] 25)) w4 := (HE.out.2.trans ((drB w2).mono HE.out.2.size)).trans (HT0.b4.mono (Nat.le_trans HE.out.2.size (drB w2).size))
  have s0 := (HC.out w2.drew (HE.out.2.trans ((drB w2).mono HE.out.2.size))).1
  have s1 := (HC.out w3 B3).1
  have s2 := (HC.out w4 B4).1
  have t2 := (HC.out w4 B4).2.1
  have HB4 : Hid (Below (w.alloc (.cells #[.slice a len cap, .int .u32 en, .int .i64 sec] 25)).heap.size (w.alloc (.cells #[.slice a len cap, .int .u32 en, .int .i64 sec] 25)) w4) := B4
  clear HT0 B3 B4
  go_wp2_with fail
  go_region_held3 (fun X => X.cell? ⟨w.heap.size, 0, none⟩ = some (.slice a len cap)) (first | exact s0 | exact s1 | exact s2) (fail)
  go_wp2_with (first
    | (go_at_call 23; refine (mnew_ok _ len _ db f D en _ (HW.out.below (HC.out w4 HB4.out).2.2 HW.out.big) (HE.out.1.below ((drB w2).trans (HT.out.b4.mono (drB w2).size))) (fun x hx => Nat.lt_of_lt_of_le HW.out.big (HD.out.2.2.2.1 x hx)) gl (HT.out.row.rdL (by omega) HR.out) e0 e1 gw).mono ?_; rintro e w5 ⟨p, b, P, rfl, hM, hdb, hPD, hall, hb5⟩; have HM : Hid (MOwn w p b P (Ms.new f len D en) w5) := ⟨hM, (HC.out w4 HB4.out).2.2.trans (hb5.mono (HC.out w4 HB4.out).2.2.size), fun x hx => (hall x hx).elim (HD.out.2.2.2.1 x) fun e => Nat.le_trans (HC.out w4 HB4.out).2.2.size e⟩; have HG : Hid (URow w5 w2.heap.size (len + 2) (lentF f len 0) ∧ ¬ MM p b P w2.heap.size) := ⟨HT.out.row.same (hb5.block _ HT.out.row.lt), fun e => (hall _ e).elim (fun e => absurd (HE.out.1.lt _ e) (by omega)) fun e => absurd HT.out.row.lt (by have : w2.drew.heap.size = w2.heap.size := rfl; omega)⟩; have HB5 : Hid (Below (w.alloc (.cells #[.slice a len cap, .int .u32 en, .int .i64 sec] 25)).heap.size (w.alloc (.cells #[.slice a len cap, .int .u32 en, .int .i64 sec] 25)) w5) := HB4.out.trans (hb5.mono HB4.out.size); have u0 := (HC.out w5 HB5.out).1; have u1 := (HC.out w5 HB5.out).2.1; have HALL : Hid (∀ x, MM p b P x → (D.mut db x ∨ D.fix x) ∨ w4.heap.size ≤ x) := hall; have HB25 : Hid (Below w2.heap.size w2 w5) := ((drB w2).trans (HT.out.b4.mono (drB w2).size)).trans (hb5.mono (Nat.le_trans (drB w2).size HT.out.b4.size)); clear hM hdb hPD hall hb5)
    | (go_at_call 29; refine (rmnew_ok a len cap rd f en R D _ (HRk.out.1.below HB25.out) (by rw [HRk.out.2.1, HD.out.2.1]) (by rw [HRk.out.2.2.1, HD.out.2.2.1]) (fun i hi => by rw [HD.out.2.2.1, HSz.out]; exact HRk.out.2.2.2.1 i (by rw [← HD.out.2.1]; exact hi)) (fun i _ => by rw [HSz.out]; exact byte0) gl (HR.out.over HM.out.below) e0 e1 gw).mono ?_; rintro e w6 ⟨q, r, Q, rfl, hRM, hRA, hb6⟩; have HM6 : Hid (TDuo w w6 p b P (Ms.new f len D en) q r Q (Ms.new f len D en) ∧ URow w6 w2.heap.size (len + 2) (lentF f len 0) ∧ ¬ RM q r Q w2.heap.size) := mades_end HM.out HG.out HALL.out HD.out.1 HRk.out.1 HRk.out.2.2.2.2 HB25.out HT.out.b4 hRM hRA hb6 HW.out.big (by have := HD.out.2.2.2.2.size; have := (al (w := w) (.cells #[.slice a len cap, .int .u32 en, .int .i64 sec] 25)).size; omega) HT.out.row.lt; clear hRM hRA hb6))
  go_loopw [16] (fun i X => ∃ k : Nat, k ≤ len ∧ i = .int .i64 k ∧ TDuo w X p b P (Ms.new f len D en) q r Q (Ms.new f len D en) ∧ URow X w2.heap.size (len + 2) (lentF f len k)) (fun i _ => len - (intOf i).toNat)
  case atStart => exact ⟨0, Nat.zero_le _, rfl, HM6.out.1, HM6.out.2.1⟩
  case round =>
    obtain ⟨k, hk, rfl, hX, hU⟩ := hrel
    have HX : Hid (TDuo w wr p b P (Ms.new f len D en) q r Q (Ms.new f len D en) ∧ URow wr w2.heap.size (len + 2) (lentF f len k)) := ⟨hX, hU⟩
    clear hX
    by_cases hlt : k < len
    · have cg := (hU.at (k := k) (by omega)).1
      have fg := (hU.at (k := k) (by omega)).2
      have j0 : (0 : Int) ≤ (k : Int) := by omega
      have j1 : (k : Int) < (len : Int) := by omega
      clear hU
      go_wp2_with fail
      go_roundw
      case rel => exact ⟨k + 1, by omega, by go_num, HX.out.1.set HG.out.2 HM6.out.2.2 (HC.out w2 HE.out.2).2.2.size k _, by have := HX.out.2.set (k := k) (by omega) 2004318071; rwa [lent_next] at this⟩
      case measure => simp [intOf]; omega
    · have j1 : ¬ (k : Int) < (len : Int) := by omega
      clear hU
      go_wp2_with fail
      refine ret_tmp4 rfl rfl ?_
      exact MadeBoth.of ⟨p, b, P, D, q, r, Q, rfl, HX.out.1, HD.out.2.2.1⟩
set_option maxHeartbeats 800000 in
set_option maxRecDepth 20000 in
theorem mades_okC (a : Option Addr) (len cap N : Nat) (f : Nat → Int) (en : Int) (w : World) (hW : Cpu.Ways w) (hr : RdW w a len f) (hlen : len ≤ 35184372087808) (e0 : 0 ≤ en) (e1 : en ≤ 4294967295) (hN : 8 ≤ N ∧ N ≤ 1024) (hs : ¬ (N : Int) < 8) (hs2 : ¬ 64 < (N : Int)) (hg : goodS len en = true) : Calls Tryz.prog 10 #[.agg #[.slice a len cap, .int .u32 en, .int .i64 (N : Int)]] w fun e w' => MadeBoth w f len en e w' := by
  have HR : Hid (RdW w a len f) := hr
  have HW : Hid (Cpu.Ways w) := hW
  have HC : Hid (∀ X, Below (w.alloc (.cells #[.slice a len cap, .int .u32 en, .int .i64 (N : Int)] 25)).heap.size (w.alloc (.cells #[.slice a len cap, .int .u32 en, .int .i64 (N : Int)] 25)) X → X.cell? ⟨w.heap.size, 0, none⟩ = some (.slice a len cap) ∧ X.cell? ⟨w.heap.size, 1, none⟩ = some (.int .u32 en) ∧ Below w.heap.size w X) := fun X hX => ⟨(hX.cell (p := ⟨w.heap.size, 0, none⟩) (by simp)).trans (by simp), (hX.cell (p := ⟨w.heap.size, 1, none⟩) (by simp)).trans (by simp), (al _).trans (hX.mono (al _).size)⟩
  have hwr : IntKind.i64.wrap ((len : Int) + 2) = (len : Int) + 2 := by rw [IntWalk.i64_left, IntWalk.wrap64_in]; omega
  have gl : len ≤ 262144 := by simp [goodS] at hg; exact hg.1
  have gw : isW en = true := by simp [goodS] at hg; exact hg.2
  clear hr hW hg
  go_enter Tryz.func10, Tryz.ntmps10
  go_upto_region 6 with (first
    | (go_at_call 22; refine (new_some N _ hN.1 hN.2).mono ?_; rintro e w1 ⟨db, D, rfl, hR, hn, hm, hS, hF, hfr, hb1⟩; have HD : Hid (Rep w1 db D ∧ D.n = N ∧ D.m = 0 ∧ D.fresh db w.heap.size ∧ Below (w.alloc (.cells #[.slice a len cap, .int .u32 en, .int .i64 (N : Int)] 25)).heap.size (w.alloc (.cells #[.slice a len cap, .int .u32 en, .int .i64 (N : Int)] 25)) w1) := ⟨hR, hn, hm, fun x hx => Nat.le_trans (al _).size (hfr x hx), hb1⟩; have HSz : Hid (D.S = (fun _ _ => 0)) := hS; clear hR hn hm hS hF hfr hb1)
    | (go_at_call 28; refine (rnew_some N _ hN.1 hN.2).mono ?_; rintro e w2 ⟨rd, R, rfl, hRR, hRn, hRm, hRF, hRf, hb2⟩; have HRk : Hid (RepR w2 rd R ∧ R.n = N ∧ R.m = 0 ∧ (∀ i, i < N → R.F i = strF (fun _ => 0) 1024) ∧ (∀ x, R.mut rd x → w1.heap.size ≤ x)) := ⟨hRR, hRn, hRm, hRF, hRf⟩; clear hRR hRn hRm hRF hRf; have HE : Hid (Rep w2 db D ∧ Below (w.alloc (.cells #[.slice a len cap, .int .u32 en, .int .i64 (N : Int)] 25)).heap.size (w.alloc (.cells #[.slice a len cap, .int .u32 en, .int .i64 (N : Int)] 25)) w2) := ⟨HD.out.1.below hb2, HD.out.2.2.2.2.trans (hb2.mono HD.out.2.2.2.2.size)⟩; clear hb2))
  obtain ⟨w3, w4, HT0⟩ := lent_is cap HR.out hlen (HC.out w2.drew (HE.out.2.trans ((drB w2).mono HE.out.2.size))).2.2
  have hmk : (makeU (.int .i64 0) (.int .i64 ((len : Int) + 2))).run Tryz.prog w2.drew = .ok (.slice (some ⟨w2.heap.size, 0, none⟩) 0 (len + 2)) w3 := HT0.mak
  have hap : (appU #[22, 22] 22 #[.slice (some ⟨w2.heap.size, 0, none⟩) 0 (len + 2), .slice a len cap]).run Tryz.prog w3 = .ok (.slice (some ⟨w2.heap.size, 0, none⟩) len (len + 2)) w4 := HT0.ap
  have HT : Hid (Lent w a len cap f w2.drew w3 w4) := HT0
  have B3 : Below (w.alloc (.cells #[.slice a len cap, .int .u32 en, .int .i64 (N : Int)] 25)).heap.size (w.alloc (.cells #[.slice a len cap, .int .u32 en, .int .i64 (N : Int)] 25)) w3 := (HE.out.2.trans ((drB w2).mono HE.out.2.size)).trans (HT0.b3.mono (Nat.le_trans HE.out.2.size (drB w2).size))
  have B4 : Below (w.alloc (.cells #[.slice a len cap, .int .u32 en, .int .i64 (N : Int)] 25)).heap.size (w.alloc (.cells #[.slice a len cap, .int .u32 en, .int .i64 (N : Int)] 25)) w4 := (HE.out.2.trans ((drB w2).mono HE.out.2.size)).trans (HT0.b4.mono (Nat.le_trans HE.out.2.size (drB w2).size))
  have s0 := (HC.out w2.drew (HE.out.2.trans ((drB w2).mono HE.out.2.size))).1
  have s1 := (HC.out w3 B3).1
  have s2 := (HC.out w4 B4).1
  have t2 := (HC.out w4 B4).2.1
  have HB4 : Hid (Below (w.alloc (.cells #[.slice a len cap, .int .u32 en, .int .i64 (N : Int)] 25)).heap.size (w.alloc (.cells #[.slice a len cap, .int .u32 en, .int .i64 (N : Int)] 25)) w4) := B4
  clear HT0 B3 B4
  go_wp2_with fail
  go_region_held3 (fun X => X.cell? ⟨w.heap.size, 0, none⟩ = some (.slice a len cap)) (first | exact s0 | exact s1 | exact s2) (fail)
  go_wp2_with (first
    | (go_at_call 23; refine (mnew_ok _ len _ db f D en _ (HW.out.below (HC.out w4 HB4.out).2.2 HW.out.big) (HE.out.1.below ((drB w2).trans (HT.out.b4.mono (drB w2).size))) (fun x hx => Nat.lt_of_lt_of_le HW.out.big (HD.out.2.2.2.1 x hx)) gl (HT.out.row.rdL (by omega) HR.out) e0 e1 gw).mono ?_; rintro e w5 ⟨p, b, P, rfl, hM, hdb, hPD, hall, hb5⟩; have HM : Hid (MOwn w p b P (Ms.new f len D en) w5) := ⟨hM, (HC.out w4 HB4.out).2.2.trans (hb5.mono (HC.out w4 HB4.out).2.2.size), fun x hx => (hall x hx).elim (HD.out.2.2.2.1 x) fun e => Nat.le_trans (HC.out w4 HB4.out).2.2.size e⟩; have HG : Hid (URow w5 w2.heap.size (len + 2) (lentF f len 0) ∧ ¬ MM p b P w2.heap.size) := ⟨HT.out.row.same (hb5.block _ HT.out.row.lt), fun e => (hall _ e).elim (fun e => absurd (HE.out.1.lt _ e) (by omega)) fun e => absurd HT.out.row.lt (by have : w2.drew.heap.size = w2.heap.size := rfl; omega)⟩; have HB5 : Hid (Below (w.alloc (.cells #[.slice a len cap, .int .u32 en, .int .i64 (N : Int)] 25)).heap.size (w.alloc (.cells #[.slice a len cap, .int .u32 en, .int .i64 (N : Int)] 25)) w5) := HB4.out.trans (hb5.mono HB4.out.size); have u0 := (HC.out w5 HB5.out).1; have u1 := (HC.out w5 HB5.out).2.1; have HALL : Hid (∀ x, MM p b P x → (D.mut db x ∨ D.fix x) ∨ w4.heap.size ≤ x) := hall; have HB25 : Hid (Below w2.heap.size w2 w5) := ((drB w2).trans (HT.out.b4.mono (drB w2).size)).trans (hb5.mono (Nat.le_trans (drB w2).size HT.out.b4.size)); clear hM hdb hPD hall hb5)
    | (go_at_call 29; refine (rmnew_ok a len cap rd f en R D _ (HRk.out.1.below HB25.out) (by rw [HRk.out.2.1, HD.out.2.1]) (by rw [HRk.out.2.2.1, HD.out.2.2.1]) (fun i hi => by rw [HD.out.2.2.1, HSz.out]; exact HRk.out.2.2.2.1 i (by rw [← HD.out.2.1]; exact hi)) (fun i _ => by rw [HSz.out]; exact byte0) gl (HR.out.over HM.out.below) e0 e1 gw).mono ?_; rintro e w6 ⟨q, r, Q, rfl, hRM, hRA, hb6⟩; have HM6 : Hid (TDuo w w6 p b P (Ms.new f len D en) q r Q (Ms.new f len D en) ∧ URow w6 w2.heap.size (len + 2) (lentF f len 0) ∧ ¬ RM q r Q w2.heap.size) := mades_end HM.out HG.out HALL.out HD.out.1 HRk.out.1 HRk.out.2.2.2.2 HB25.out HT.out.b4 hRM hRA hb6 HW.out.big (by have := HD.out.2.2.2.2.size; have := (al (w := w) (.cells #[.slice a len cap, .int .u32 en, .int .i64 (N : Int)] 25)).size; omega) HT.out.row.lt; clear hRM hRA hb6))
  go_loopw [16] (fun i X => ∃ k : Nat, k ≤ len ∧ i = .int .i64 k ∧ TDuo w X p b P (Ms.new f len D en) q r Q (Ms.new f len D en) ∧ URow X w2.heap.size (len + 2) (lentF f len k)) (fun i _ => len - (intOf i).toNat)
  case atStart => exact ⟨0, Nat.zero_le _, rfl, HM6.out.1, HM6.out.2.1⟩
  case round =>
    obtain ⟨k, hk, rfl, hX, hU⟩ := hrel
    have HX : Hid (TDuo w wr p b P (Ms.new f len D en) q r Q (Ms.new f len D en) ∧ URow wr w2.heap.size (len + 2) (lentF f len k)) := ⟨hX, hU⟩
    clear hX
    by_cases hlt : k < len
    · have cg := (hU.at (k := k) (by omega)).1
      have fg := (hU.at (k := k) (by omega)).2
      have j0 : (0 : Int) ≤ (k : Int) := by omega
      have j1 : (k : Int) < (len : Int) := by omega
      clear hU
      go_wp2_with fail
      go_roundw
      case rel => exact ⟨k + 1, by omega, by go_num, HX.out.1.set HG.out.2 HM6.out.2.2 (HC.out w2 HE.out.2).2.2.size k _, by have := HX.out.2.set (k := k) (by omega) 2004318071; rwa [lent_next] at this⟩
      case measure => simp [intOf]; omega
    · have j1 : ¬ (k : Int) < (len : Int) := by omega
      clear hU
      go_wp2_with fail
      refine ret_tmp4 rfl rfl ?_
      exact MadeBoth.of ⟨p, b, P, D, q, r, Q, rfl, HX.out.1, HD.out.2.2.1⟩
set_option maxHeartbeats 800000 in
set_option maxRecDepth 20000 in
theorem mades_manyA (a : Option Addr) (len cap : Nat) (f : Nat → Int) (en sec : Int) (w : World) (hW : Cpu.Ways w) (hr : RdW w a len f) (hlen : len ≤ 35184372087808) (e0 : 0 ≤ en) (e1 : en ≤ 4294967295) (hs : sec < 8) (hg : 262144 < len) : Calls Tryz.prog 10 #[.agg #[.slice a len cap, .int .u32 en, .int .i64 sec]] w fun e w' => MadeNone w e w' := by
  have HR : Hid (RdW w a len f) := hr
  have HGo : Hid (goodS len en = false) := by show _ = _; unfold goodS; rw [decide_eq_false (by omega)]; rfl
  have HW : Hid (Cpu.Ways w) := hW
  have HC : Hid (∀ X, Below (w.alloc (.cells #[.slice a len cap, .int .u32 en, .int .i64 sec] 25)).heap.size (w.alloc (.cells #[.slice a len cap, .int .u32 en, .int .i64 sec] 25)) X → X.cell? ⟨w.heap.size, 0, none⟩ = some (.slice a len cap) ∧ X.cell? ⟨w.heap.size, 1, none⟩ = some (.int .u32 en) ∧ Below w.heap.size w X) := fun X hX => ⟨(hX.cell (p := ⟨w.heap.size, 0, none⟩) (by simp)).trans (by simp), (hX.cell (p := ⟨w.heap.size, 1, none⟩) (by simp)).trans (by simp), (al _).trans (hX.mono (al _).size)⟩
  have hwr : IntKind.i64.wrap ((len : Int) + 2) = (len : Int) + 2 := by rw [IntWalk.i64_left, IntWalk.wrap64_in]; omega
  clear hr hW
  go_enter Tryz.func10, Tryz.ntmps10
  go_upto_region 6 with (first
    | (go_at_call 22; refine (new_some 8 _ (by omega) (by omega)).mono ?_; rintro e w1 ⟨db, D, rfl, hR, hn, hm, hS, hF, hfr, hb1⟩; have HD : Hid (Rep w1 db D ∧ D.n = 8 ∧ D.m = 0 ∧ D.fresh db w.heap.size ∧ Below (w.alloc (.cells #[.slice a len cap, .int .u32 en, .int .i64 sec] 25)).heap.size (w.alloc (.cells #[.slice a len cap, .int .u32 en, .int .i64 sec] 25)) w1) := ⟨hR, hn, hm, fun x hx => Nat.le_trans (al _).size (hfr x hx), hb1⟩; clear hR hn hm hS hF hfr hb1)
    | (go_at_call 28; refine (rnew_some 8 _ (by omega) (by omega)).mono ?_; rintro e w2 ⟨rd, R, rfl, _, _, _, _, _, hb2⟩; have HE : Hid (Rep w2 db D ∧ Below (w.alloc (.cells #[.slice a len cap, .int .u32 en, .int .i64 sec] 25)).heap.size (w.alloc (.cells #[.slice a len cap, .int .u32 en, .int .i64 sec] 25)) w2) := ⟨HD.out.1.below hb2, HD.out.2.2.2.2.trans (hb2.mono HD.out.2.2.2.2.size)⟩; clear hb2))
  obtain ⟨w3, w4, HT0⟩ := lent_is cap HR.out hlen (HC.out w2.drew (HE.out.2.trans ((drB w2).mono HE.out.2.size))).2.2
  have hmk : (makeU (.int .i64 0) (.int .i64 ((len : Int) + 2))).run Tryz.prog w2.drew = .ok (.slice (some ⟨w2.heap.size, 0, none⟩) 0 (len + 2)) w3 := HT0.mak
  have hap : (appU #[22, 22] 22 #[.slice (some ⟨w2.heap.size, 0, none⟩) 0 (len + 2), .slice a len cap]).run Tryz.prog w3 = .ok (.slice (some ⟨w2.heap.size, 0, none⟩) len (len + 2)) w4 := HT0.ap
  have HT : Hid (Lent w a len cap f w2.drew w3 w4) := HT0
  have B3 : Below (w.alloc (.cells #[.slice a len cap, .int .u32 en, .int .i64 sec] 25)).heap.size (w.alloc (.cells #[.slice a len cap, .int .u32 en, .int .i64 sec] 25)) w3 := (HE.out.2.trans ((drB w2).mono HE.out.2.size)).trans (HT0.b3.mono (Nat.le_trans HE.out.2.size (drB w2).size))
  have B4 : Below (w.alloc (.cells #[.slice a len cap, .int .u32 en, .int .i64 sec] 25)).heap.size (w.alloc (.cells #[.slice a len cap, .int .u32 en, .int .i64 sec] 25)) w4 := (HE.out.2.trans ((drB w2).mono HE.out.2.size)).trans (HT0.b4.mono (Nat.le_trans HE.out.2.size (drB w2).size))
  have s0 := (HC.out w2.drew (HE.out.2.trans ((drB w2).mono HE.out.2.size))).1
  have s1 := (HC.out w3 B3).1
  have s2 := (HC.out w4 B4).1
  have t2 := (HC.out w4 B4).2.1
  have HB4 : Hid (Below (w.alloc (.cells #[.slice a len cap, .int .u32 en, .int .i64 sec] 25)).heap.size (w.alloc (.cells #[.slice a len cap, .int .u32 en, .int .i64 sec] 25)) w4) := B4
  clear HT0 B3 B4
  go_wp2_with fail
  go_region_held3 (fun X => X.cell? ⟨w.heap.size, 0, none⟩ = some (.slice a len cap)) (first | exact s0 | exact s1 | exact s2) (fail)
  go_wp2_with (first
    | (go_at_call 23; refine (mnew_many _ len _ db en _ hg).mono ?_; rintro e w5 ⟨rfl, hb5⟩; have HM : Hid (Below w.heap.size w w5) := (HC.out w4 HB4.out).2.2.trans (hb5.mono (HC.out w4 HB4.out).2.2.size); have HG : Hid (URow w5 w2.heap.size (len + 2) (lentF f len 0)) := HT.out.row.same (hb5.block _ HT.out.row.lt); have HB5 : Hid (Below (w.alloc (.cells #[.slice a len cap, .int .u32 en, .int .i64 sec] 25)).heap.size (w.alloc (.cells #[.slice a len cap, .int .u32 en, .int .i64 sec] 25)) w5) := HB4.out.trans (hb5.mono HB4.out.size); have u0 := (HC.out w5 HB5.out).1; have u1 := (HC.out w5 HB5.out).2.1; clear hb5)
    | (go_at_call 29; refine (rmnew_no a len cap rd en _ e0 e1 HGo.out).mono ?_; rintro e w6 ⟨rfl, hb6⟩; have HM6 : Hid (Below w.heap.size w w6 ∧ URow w6 w2.heap.size (len + 2) (lentF f len 0)) := ⟨HM.out.trans (hb6.mono HM.out.size), HG.out.same (hb6.block _ HG.out.lt)⟩; clear hb6))
  go_loopw [16] (fun i X => ∃ k : Nat, k ≤ len ∧ i = .int .i64 k ∧ Below w.heap.size w X ∧ URow X w2.heap.size (len + 2) (lentF f len k)) (fun i _ => len - (intOf i).toNat)
  case atStart => exact ⟨0, Nat.zero_le _, rfl, HM6.out.1, HM6.out.2⟩
  case round =>
    obtain ⟨k, hk, rfl, hX, hU⟩ := hrel
    have HX : Hid (Below w.heap.size w wr ∧ URow wr w2.heap.size (len + 2) (lentF f len k)) := ⟨hX, hU⟩
    clear hX
    by_cases hlt : k < len
    · have cg := (hU.at (k := k) (by omega)).1
      have fg := (hU.at (k := k) (by omega)).2
      have j0 : (0 : Int) ≤ (k : Int) := by omega
      have j1 : (k : Int) < (len : Int) := by omega
      clear hU
      go_wp2_with fail
      go_roundw
      case rel => exact ⟨k + 1, by omega, by go_num, HX.out.1.setCell (HC.out w2 HE.out.2).2.2.size _, by have := HX.out.2.set (k := k) (by omega) 2004318071; rwa [lent_next] at this⟩
      case measure => simp [intOf]; omega
    · have j1 : ¬ (k : Int) < (len : Int) := by omega
      clear hU
      go_wp2_with fail
      refine ret_tmp4 rfl rfl ?_
      exact MadeNone.of ⟨rfl, HX.out.1⟩
set_option maxHeartbeats 800000 in
set_option maxRecDepth 20000 in
theorem mades_manyB (a : Option Addr) (len cap : Nat) (f : Nat → Int) (en sec : Int) (w : World) (hW : Cpu.Ways w) (hr : RdW w a len f) (hlen : len ≤ 35184372087808) (e0 : 0 ≤ en) (e1 : en ≤ 4294967295) (hs : ¬ sec < 8) (hs2 : 64 < sec) (hg : 262144 < len) : Calls Tryz.prog 10 #[.agg #[.slice a len cap, .int .u32 en, .int .i64 sec]] w fun e w' => MadeNone w e w' := by
  have HR : Hid (RdW w a len f) := hr
  have HGo : Hid (goodS len en = false) := by show _ = _; unfold goodS; rw [decide_eq_false (by omega)]; rfl
  have HW : Hid (Cpu.Ways w) := hW
  have HC : Hid (∀ X, Below (w.alloc (.cells #[.slice a len cap, .int .u32 en, .int .i64 sec] 25)).heap.size (w.alloc (.cells #[.slice a len cap, .int .u32 en, .int .i64 sec] 25)) X → X.cell? ⟨w.heap.size, 0, none⟩ = some (.slice a len cap) ∧ X.cell? ⟨w.heap.size, 1, none⟩ = some (.int .u32 en) ∧ Below w.heap.size w X) := fun X hX => ⟨(hX.cell (p := ⟨w.heap.size, 0, none⟩) (by simp)).trans (by simp), (hX.cell (p := ⟨w.heap.size, 1, none⟩) (by simp)).trans (by simp), (al _).trans (hX.mono (al _).size)⟩
  have hwr : IntKind.i64.wrap ((len : Int) + 2) = (len : Int) + 2 := by rw [IntWalk.i64_left, IntWalk.wrap64_in]; omega
  clear hr hW
  go_enter Tryz.func10, Tryz.ntmps10
  go_upto_region 6 with (first
    | (go_at_call 22; refine (new_some 8 _ (by omega) (by omega)).mono ?_; rintro e w1 ⟨db, D, rfl, hR, hn, hm, hS, hF, hfr, hb1⟩; have HD : Hid (Rep w1 db D ∧ D.n = 8 ∧ D.m = 0 ∧ D.fresh db w.heap.size ∧ Below (w.alloc (.cells #[.slice a len cap, .int .u32 en, .int .i64 sec] 25)).heap.size (w.alloc (.cells #[.slice a len cap, .int .u32 en, .int .i64 sec] 25)) w1) := ⟨hR, hn, hm, fun x hx => Nat.le_trans (al _).size (hfr x hx), hb1⟩; clear hR hn hm hS hF hfr hb1)
    | (go_at_call 28; refine (rnew_some 8 _ (by omega) (by omega)).mono ?_; rintro e w2 ⟨rd, R, rfl, _, _, _, _, _, hb2⟩; have HE : Hid (Rep w2 db D ∧ Below (w.alloc (.cells #[.slice a len cap, .int .u32 en, .int .i64 sec] 25)).heap.size (w.alloc (.cells #[.slice a len cap, .int .u32 en, .int .i64 sec] 25)) w2) := ⟨HD.out.1.below hb2, HD.out.2.2.2.2.trans (hb2.mono HD.out.2.2.2.2.size)⟩; clear hb2))
  obtain ⟨w3, w4, HT0⟩ := lent_is cap HR.out hlen (HC.out w2.drew (HE.out.2.trans ((drB w2).mono HE.out.2.size))).2.2
  have hmk : (makeU (.int .i64 0) (.int .i64 ((len : Int) + 2))).run Tryz.prog w2.drew = .ok (.slice (some ⟨w2.heap.size, 0, none⟩) 0 (len + 2)) w3 := HT0.mak
  have hap : (appU #[22, 22] 22 #[.slice (some ⟨w2.heap.size, 0, none⟩) 0 (len + 2), .slice a len cap]).run Tryz.prog w3 = .ok (.slice (some ⟨w2.heap.size, 0, none⟩) len (len + 2)) w4 := HT0.ap
  have HT : Hid (Lent w a len cap f w2.drew w3 w4) := HT0
  have B3 : Below (w.alloc (.cells #[.slice a len cap, .int .u32 en, .int .i64 sec] 25)).heap.size (w.alloc (.cells #[.slice a len cap, .int .u32 en, .int .i64 sec] 25)) w3 := (HE.out.2.trans ((drB w2).mono HE.out.2.size)).trans (HT0.b3.mono (Nat.le_trans HE.out.2.size (drB w2).size))
  have B4 : Below (w.alloc (.cells #[.slice a len cap, .int .u32 en, .int .i64 sec] 25)).heap.size (w.alloc (.cells #[.slice a len cap, .int .u32 en, .int .i64 sec] 25)) w4 := (HE.out.2.trans ((drB w2).mono HE.out.2.size)).trans (HT0.b4.mono (Nat.le_trans HE.out.2.size (drB w2).size))
  have s0 := (HC.out w2.drew (HE.out.2.trans ((drB w2).mono HE.out.2.size))).1
  have s1 := (HC.out w3 B3).1
  have s2 := (HC.out w4 B4).1
  have t2 := (HC.out w4 B4).2.1
  have HB4 : Hid (Below (w.alloc (.cells #[.slice a len cap, .int .u32 en, .int .i64 sec] 25)).heap.size (w.alloc (.cells #[.slice a len cap, .int .u32 en, .int .i64 sec] 25)) w4) := B4
  clear HT0 B3 B4
  go_wp2_with fail
  go_region_held3 (fun X => X.cell? ⟨w.heap.size, 0, none⟩ = some (.slice a len cap)) (first | exact s0 | exact s1 | exact s2) (fail)
  go_wp2_with (first
    | (go_at_call 23; refine (mnew_many _ len _ db en _ hg).mono ?_; rintro e w5 ⟨rfl, hb5⟩; have HM : Hid (Below w.heap.size w w5) := (HC.out w4 HB4.out).2.2.trans (hb5.mono (HC.out w4 HB4.out).2.2.size); have HG : Hid (URow w5 w2.heap.size (len + 2) (lentF f len 0)) := HT.out.row.same (hb5.block _ HT.out.row.lt); have HB5 : Hid (Below (w.alloc (.cells #[.slice a len cap, .int .u32 en, .int .i64 sec] 25)).heap.size (w.alloc (.cells #[.slice a len cap, .int .u32 en, .int .i64 sec] 25)) w5) := HB4.out.trans (hb5.mono HB4.out.size); have u0 := (HC.out w5 HB5.out).1; have u1 := (HC.out w5 HB5.out).2.1; clear hb5)
    | (go_at_call 29; refine (rmnew_no a len cap rd en _ e0 e1 HGo.out).mono ?_; rintro e w6 ⟨rfl, hb6⟩; have HM6 : Hid (Below w.heap.size w w6 ∧ URow w6 w2.heap.size (len + 2) (lentF f len 0)) := ⟨HM.out.trans (hb6.mono HM.out.size), HG.out.same (hb6.block _ HG.out.lt)⟩; clear hb6))
  go_loopw [16] (fun i X => ∃ k : Nat, k ≤ len ∧ i = .int .i64 k ∧ Below w.heap.size w X ∧ URow X w2.heap.size (len + 2) (lentF f len k)) (fun i _ => len - (intOf i).toNat)
  case atStart => exact ⟨0, Nat.zero_le _, rfl, HM6.out.1, HM6.out.2⟩
  case round =>
    obtain ⟨k, hk, rfl, hX, hU⟩ := hrel
    have HX : Hid (Below w.heap.size w wr ∧ URow wr w2.heap.size (len + 2) (lentF f len k)) := ⟨hX, hU⟩
    clear hX
    by_cases hlt : k < len
    · have cg := (hU.at (k := k) (by omega)).1
      have fg := (hU.at (k := k) (by omega)).2
      have j0 : (0 : Int) ≤ (k : Int) := by omega
      have j1 : (k : Int) < (len : Int) := by omega
      clear hU
      go_wp2_with fail
      go_roundw
      case rel => exact ⟨k + 1, by omega, by go_num, HX.out.1.setCell (HC.out w2 HE.out.2).2.2.size _, by have := HX.out.2.set (k := k) (by omega) 2004318071; rwa [lent_next] at this⟩
      case measure => simp [intOf]; omega
    · have j1 : ¬ (k : Int) < (len : Int) := by omega
      clear hU
      go_wp2_with fail
      refine ret_tmp4 rfl rfl ?_
      exact MadeNone.of ⟨rfl, HX.out.1⟩
set_option maxHeartbeats 800000 in
set_option maxRecDepth 20000 in
theorem mades_manyC (a : Option Addr) (len cap N : Nat) (f : Nat → Int) (en : Int) (w : World) (hW : Cpu.Ways w) (hr : RdW w a len f) (hlen : len ≤ 35184372087808) (e0 : 0 ≤ en) (e1 : en ≤ 4294967295) (hN : 8 ≤ N ∧ N ≤ 1024) (hs : ¬ (N : Int) < 8) (hs2 : ¬ 64 < (N : Int)) (hg : 262144 < len) : Calls Tryz.prog 10 #[.agg #[.slice a len cap, .int .u32 en, .int .i64 (N : Int)]] w fun e w' => MadeNone w e w' := by
  have HR : Hid (RdW w a len f) := hr
  have HGo : Hid (goodS len en = false) := by show _ = _; unfold goodS; rw [decide_eq_false (by omega)]; rfl
  have HW : Hid (Cpu.Ways w) := hW
  have HC : Hid (∀ X, Below (w.alloc (.cells #[.slice a len cap, .int .u32 en, .int .i64 (N : Int)] 25)).heap.size (w.alloc (.cells #[.slice a len cap, .int .u32 en, .int .i64 (N : Int)] 25)) X → X.cell? ⟨w.heap.size, 0, none⟩ = some (.slice a len cap) ∧ X.cell? ⟨w.heap.size, 1, none⟩ = some (.int .u32 en) ∧ Below w.heap.size w X) := fun X hX => ⟨(hX.cell (p := ⟨w.heap.size, 0, none⟩) (by simp)).trans (by simp), (hX.cell (p := ⟨w.heap.size, 1, none⟩) (by simp)).trans (by simp), (al _).trans (hX.mono (al _).size)⟩
  have hwr : IntKind.i64.wrap ((len : Int) + 2) = (len : Int) + 2 := by rw [IntWalk.i64_left, IntWalk.wrap64_in]; omega
  clear hr hW
  go_enter Tryz.func10, Tryz.ntmps10
  go_upto_region 6 with (first
    | (go_at_call 22; refine (new_some N _ hN.1 hN.2).mono ?_; rintro e w1 ⟨db, D, rfl, hR, hn, hm, hS, hF, hfr, hb1⟩; have HD : Hid (Rep w1 db D ∧ D.n = N ∧ D.m = 0 ∧ D.fresh db w.heap.size ∧ Below (w.alloc (.cells #[.slice a len cap, .int .u32 en, .int .i64 (N : Int)] 25)).heap.size (w.alloc (.cells #[.slice a len cap, .int .u32 en, .int .i64 (N : Int)] 25)) w1) := ⟨hR, hn, hm, fun x hx => Nat.le_trans (al _).size (hfr x hx), hb1⟩; clear hR hn hm hS hF hfr hb1)
    | (go_at_call 28; refine (rnew_some N _ hN.1 hN.2).mono ?_; rintro e w2 ⟨rd, R, rfl, _, _, _, _, _, hb2⟩; have HE : Hid (Rep w2 db D ∧ Below (w.alloc (.cells #[.slice a len cap, .int .u32 en, .int .i64 (N : Int)] 25)).heap.size (w.alloc (.cells #[.slice a len cap, .int .u32 en, .int .i64 (N : Int)] 25)) w2) := ⟨HD.out.1.below hb2, HD.out.2.2.2.2.trans (hb2.mono HD.out.2.2.2.2.size)⟩; clear hb2))
  obtain ⟨w3, w4, HT0⟩ := lent_is cap HR.out hlen (HC.out w2.drew (HE.out.2.trans ((drB w2).mono HE.out.2.size))).2.2
  have hmk : (makeU (.int .i64 0) (.int .i64 ((len : Int) + 2))).run Tryz.prog w2.drew = .ok (.slice (some ⟨w2.heap.size, 0, none⟩) 0 (len + 2)) w3 := HT0.mak
  have hap : (appU #[22, 22] 22 #[.slice (some ⟨w2.heap.size, 0, none⟩) 0 (len + 2), .slice a len cap]).run Tryz.prog w3 = .ok (.slice (some ⟨w2.heap.size, 0, none⟩) len (len + 2)) w4 := HT0.ap
  have HT : Hid (Lent w a len cap f w2.drew w3 w4) := HT0
  have B3 : Below (w.alloc (.cells #[.slice a len cap, .int .u32 en, .int .i64 (N : Int)] 25)).heap.size (w.alloc (.cells #[.slice a len cap, .int .u32 en, .int .i64 (N : Int)] 25)) w3 := (HE.out.2.trans ((drB w2).mono HE.out.2.size)).trans (HT0.b3.mono (Nat.le_trans HE.out.2.size (drB w2).size))
  have B4 : Below (w.alloc (.cells #[.slice a len cap, .int .u32 en, .int .i64 (N : Int)] 25)).heap.size (w.alloc (.cells #[.slice a len cap, .int .u32 en, .int .i64 (N : Int)] 25)) w4 := (HE.out.2.trans ((drB w2).mono HE.out.2.size)).trans (HT0.b4.mono (Nat.le_trans HE.out.2.size (drB w2).size))
  have s0 := (HC.out w2.drew (HE.out.2.trans ((drB w2).mono HE.out.2.size))).1
  have s1 := (HC.out w3 B3).1
  have s2 := (HC.out w4 B4).1
  have t2 := (HC.out w4 B4).2.1
  have HB4 : Hid (Below (w.alloc (.cells #[.slice a len cap, .int .u32 en, .int .i64 (N : Int)] 25)).heap.size (w.alloc (.cells #[.slice a len cap, .int .u32 en, .int .i64 (N : Int)] 25)) w4) := B4
  clear HT0 B3 B4
  go_wp2_with fail
  go_region_held3 (fun X => X.cell? ⟨w.heap.size, 0, none⟩ = some (.slice a len cap)) (first | exact s0 | exact s1 | exact s2) (fail)
  go_wp2_with (first
    | (go_at_call 23; refine (mnew_many _ len _ db en _ hg).mono ?_; rintro e w5 ⟨rfl, hb5⟩; have HM : Hid (Below w.heap.size w w5) := (HC.out w4 HB4.out).2.2.trans (hb5.mono (HC.out w4 HB4.out).2.2.size); have HG : Hid (URow w5 w2.heap.size (len + 2) (lentF f len 0)) := HT.out.row.same (hb5.block _ HT.out.row.lt); have HB5 : Hid (Below (w.alloc (.cells #[.slice a len cap, .int .u32 en, .int .i64 (N : Int)] 25)).heap.size (w.alloc (.cells #[.slice a len cap, .int .u32 en, .int .i64 (N : Int)] 25)) w5) := HB4.out.trans (hb5.mono HB4.out.size); have u0 := (HC.out w5 HB5.out).1; have u1 := (HC.out w5 HB5.out).2.1; clear hb5)
    | (go_at_call 29; refine (rmnew_no a len cap rd en _ e0 e1 HGo.out).mono ?_; rintro e w6 ⟨rfl, hb6⟩; have HM6 : Hid (Below w.heap.size w w6 ∧ URow w6 w2.heap.size (len + 2) (lentF f len 0)) := ⟨HM.out.trans (hb6.mono HM.out.size), HG.out.same (hb6.block _ HG.out.lt)⟩; clear hb6))
  go_loopw [16] (fun i X => ∃ k : Nat, k ≤ len ∧ i = .int .i64 k ∧ Below w.heap.size w X ∧ URow X w2.heap.size (len + 2) (lentF f len k)) (fun i _ => len - (intOf i).toNat)
  case atStart => exact ⟨0, Nat.zero_le _, rfl, HM6.out.1, HM6.out.2⟩
  case round =>
    obtain ⟨k, hk, rfl, hX, hU⟩ := hrel
    have HX : Hid (Below w.heap.size w wr ∧ URow wr w2.heap.size (len + 2) (lentF f len k)) := ⟨hX, hU⟩
    clear hX
    by_cases hlt : k < len
    · have cg := (hU.at (k := k) (by omega)).1
      have fg := (hU.at (k := k) (by omega)).2
      have j0 : (0 : Int) ≤ (k : Int) := by omega
      have j1 : (k : Int) < (len : Int) := by omega
      clear hU
      go_wp2_with fail
      go_roundw
      case rel => exact ⟨k + 1, by omega, by go_num, HX.out.1.setCell (HC.out w2 HE.out.2).2.2.size _, by have := HX.out.2.set (k := k) (by omega) 2004318071; rwa [lent_next] at this⟩
      case measure => simp [intOf]; omega
    · have j1 : ¬ (k : Int) < (len : Int) := by omega
      clear hU
      go_wp2_with fail
      refine ret_tmp4 rfl rfl ?_
      exact MadeNone.of ⟨rfl, HX.out.1⟩
set_option maxHeartbeats 800000 in
set_option maxRecDepth 20000 in
theorem mades_entryA (a : Option Addr) (len cap : Nat) (f : Nat → Int) (en sec : Int) (w : World) (hW : Cpu.Ways w) (hr : RdW w a len f) (hlen : len ≤ 35184372087808) (e0 : 0 ≤ en) (e1 : en ≤ 4294967295) (hs : sec < 8) (gl : len ≤ 262144) (gw : isW en = false) : Calls Tryz.prog 10 #[.agg #[.slice a len cap, .int .u32 en, .int .i64 sec]] w fun e w' => MadeNone w e w' := by
  have HR : Hid (RdW w a len f) := hr
  have HGo : Hid (goodS len en = false) := by show _ = _; unfold goodS; rw [gw]; simp
  have HW : Hid (Cpu.Ways w) := hW
  have HC : Hid (∀ X, Below (w.alloc (.cells #[.slice a len cap, .int .u32 en, .int .i64 sec] 25)).heap.size (w.alloc (.cells #[.slice a len cap, .int .u32 en, .int .i64 sec] 25)) X → X.cell? ⟨w.heap.size, 0, none⟩ = some (.slice a len cap) ∧ X.cell? ⟨w.heap.size, 1, none⟩ = some (.int .u32 en) ∧ Below w.heap.size w X) := fun X hX => ⟨(hX.cell (p := ⟨w.heap.size, 0, none⟩) (by simp)).trans (by simp), (hX.cell (p := ⟨w.heap.size, 1, none⟩) (by simp)).trans (by simp), (al _).trans (hX.mono (al _).size)⟩
  have hwr : IntKind.i64.wrap ((len : Int) + 2) = (len : Int) + 2 := by rw [IntWalk.i64_left, IntWalk.wrap64_in]; omega
  clear hr hW
  go_enter Tryz.func10, Tryz.ntmps10
  go_upto_region 6 with (first
    | (go_at_call 22; refine (new_some 8 _ (by omega) (by omega)).mono ?_; rintro e w1 ⟨db, D, rfl, hR, hn, hm, hS, hF, hfr, hb1⟩; have HD : Hid (Rep w1 db D ∧ D.n = 8 ∧ D.m = 0 ∧ D.fresh db w.heap.size ∧ Below (w.alloc (.cells #[.slice a len cap, .int .u32 en, .int .i64 sec] 25)).heap.size (w.alloc (.cells #[.slice a len cap, .int .u32 en, .int .i64 sec] 25)) w1) := ⟨hR, hn, hm, fun x hx => Nat.le_trans (al _).size (hfr x hx), hb1⟩; clear hR hn hm hS hF hfr hb1)
    | (go_at_call 28; refine (rnew_some 8 _ (by omega) (by omega)).mono ?_; rintro e w2 ⟨rd, R, rfl, _, _, _, _, _, hb2⟩; have HE : Hid (Rep w2 db D ∧ Below (w.alloc (.cells #[.slice a len cap, .int .u32 en, .int .i64 sec] 25)).heap.size (w.alloc (.cells #[.slice a len cap, .int .u32 en, .int .i64 sec] 25)) w2) := ⟨HD.out.1.below hb2, HD.out.2.2.2.2.trans (hb2.mono HD.out.2.2.2.2.size)⟩; clear hb2))
  obtain ⟨w3, w4, HT0⟩ := lent_is cap HR.out hlen (HC.out w2.drew (HE.out.2.trans ((drB w2).mono HE.out.2.size))).2.2
  have hmk : (makeU (.int .i64 0) (.int .i64 ((len : Int) + 2))).run Tryz.prog w2.drew = .ok (.slice (some ⟨w2.heap.size, 0, none⟩) 0 (len + 2)) w3 := HT0.mak
  have hap : (appU #[22, 22] 22 #[.slice (some ⟨w2.heap.size, 0, none⟩) 0 (len + 2), .slice a len cap]).run Tryz.prog w3 = .ok (.slice (some ⟨w2.heap.size, 0, none⟩) len (len + 2)) w4 := HT0.ap
  have HT : Hid (Lent w a len cap f w2.drew w3 w4) := HT0
  have B3 : Below (w.alloc (.cells #[.slice a len cap, .int .u32 en, .int .i64 sec] 25)).heap.size (w.alloc (.cells #[.slice a len cap, .int .u32 en, .int .i64 sec] 25)) w3 := (HE.out.2.trans ((drB w2).mono HE.out.2.size)).trans (HT0.b3.mono (Nat.le_trans HE.out.2.size (drB w2).size))
  have B4 : Below (w.alloc (.cells #[.slice a len cap, .int .u32 en, .int .i64 sec] 25)).heap.size (w.alloc (.cells #[.slice a len cap, .int .u32 en, .int .i64 sec] 25)) w4 := (HE.out.2.trans ((drB w2).mono HE.out.2.size)).trans (HT0.b4.mono (Nat.le_trans HE.out.2.size (drB w2).size))
  have s0 := (HC.out w2.drew (HE.out.2.trans ((drB w2).mono HE.out.2.size))).1
  have s1 := (HC.out w3 B3).1
  have s2 := (HC.out w4 B4).1
  have t2 := (HC.out w4 B4).2.1
  have HB4 : Hid (Below (w.alloc (.cells #[.slice a len cap, .int .u32 en, .int .i64 sec] 25)).heap.size (w.alloc (.cells #[.slice a len cap, .int .u32 en, .int .i64 sec] 25)) w4) := B4
  clear HT0 B3 B4
  go_wp2_with fail
  go_region_held3 (fun X => X.cell? ⟨w.heap.size, 0, none⟩ = some (.slice a len cap)) (first | exact s0 | exact s1 | exact s2) (fail)
  go_wp2_with (first
    | (go_at_call 23; refine (mnew_entry _ len _ db f D en _ (HE.out.1.below ((drB w2).trans (HT.out.b4.mono (drB w2).size))) gl (HT.out.row.rdL (by omega) HR.out) e0 e1 gw).mono ?_; rintro e w5 ⟨rfl, hb5⟩; have HM : Hid (Below w.heap.size w w5) := (HC.out w4 HB4.out).2.2.trans (hb5.mono (HC.out w4 HB4.out).2.2.size); have HG : Hid (URow w5 w2.heap.size (len + 2) (lentF f len 0)) := HT.out.row.same (hb5.block _ HT.out.row.lt); have HB5 : Hid (Below (w.alloc (.cells #[.slice a len cap, .int .u32 en, .int .i64 sec] 25)).heap.size (w.alloc (.cells #[.slice a len cap, .int .u32 en, .int .i64 sec] 25)) w5) := HB4.out.trans (hb5.mono HB4.out.size); have u0 := (HC.out w5 HB5.out).1; have u1 := (HC.out w5 HB5.out).2.1; clear hb5)
    | (go_at_call 29; refine (rmnew_no a len cap rd en _ e0 e1 HGo.out).mono ?_; rintro e w6 ⟨rfl, hb6⟩; have HM6 : Hid (Below w.heap.size w w6 ∧ URow w6 w2.heap.size (len + 2) (lentF f len 0)) := ⟨HM.out.trans (hb6.mono HM.out.size), HG.out.same (hb6.block _ HG.out.lt)⟩; clear hb6))
  go_loopw [16] (fun i X => ∃ k : Nat, k ≤ len ∧ i = .int .i64 k ∧ Below w.heap.size w X ∧ URow X w2.heap.size (len + 2) (lentF f len k)) (fun i _ => len - (intOf i).toNat)
  case atStart => exact ⟨0, Nat.zero_le _, rfl, HM6.out.1, HM6.out.2⟩
  case round =>
    obtain ⟨k, hk, rfl, hX, hU⟩ := hrel
    have HX : Hid (Below w.heap.size w wr ∧ URow wr w2.heap.size (len + 2) (lentF f len k)) := ⟨hX, hU⟩
    clear hX
    by_cases hlt : k < len
    · have cg := (hU.at (k := k) (by omega)).1
      have fg := (hU.at (k := k) (by omega)).2
      have j0 : (0 : Int) ≤ (k : Int) := by omega
      have j1 : (k : Int) < (len : Int) := by omega
      clear hU
      go_wp2_with fail
      go_roundw
      case rel => exact ⟨k + 1, by omega, by go_num, HX.out.1.setCell (HC.out w2 HE.out.2).2.2.size _, by have := HX.out.2.set (k := k) (by omega) 2004318071; rwa [lent_next] at this⟩
      case measure => simp [intOf]; omega
    · have j1 : ¬ (k : Int) < (len : Int) := by omega
      clear hU
      go_wp2_with fail
      refine ret_tmp4 rfl rfl ?_
      exact MadeNone.of ⟨rfl, HX.out.1⟩
set_option maxHeartbeats 800000 in
set_option maxRecDepth 20000 in
theorem mades_entryB (a : Option Addr) (len cap : Nat) (f : Nat → Int) (en sec : Int) (w : World) (hW : Cpu.Ways w) (hr : RdW w a len f) (hlen : len ≤ 35184372087808) (e0 : 0 ≤ en) (e1 : en ≤ 4294967295) (hs : ¬ sec < 8) (hs2 : 64 < sec) (gl : len ≤ 262144) (gw : isW en = false) : Calls Tryz.prog 10 #[.agg #[.slice a len cap, .int .u32 en, .int .i64 sec]] w fun e w' => MadeNone w e w' := by
  have HR : Hid (RdW w a len f) := hr
  have HGo : Hid (goodS len en = false) := by show _ = _; unfold goodS; rw [gw]; simp
  have HW : Hid (Cpu.Ways w) := hW
  have HC : Hid (∀ X, Below (w.alloc (.cells #[.slice a len cap, .int .u32 en, .int .i64 sec] 25)).heap.size (w.alloc (.cells #[.slice a len cap, .int .u32 en, .int .i64 sec] 25)) X → X.cell? ⟨w.heap.size, 0, none⟩ = some (.slice a len cap) ∧ X.cell? ⟨w.heap.size, 1, none⟩ = some (.int .u32 en) ∧ Below w.heap.size w X) := fun X hX => ⟨(hX.cell (p := ⟨w.heap.size, 0, none⟩) (by simp)).trans (by simp), (hX.cell (p := ⟨w.heap.size, 1, none⟩) (by simp)).trans (by simp), (al _).trans (hX.mono (al _).size)⟩
  have hwr : IntKind.i64.wrap ((len : Int) + 2) = (len : Int) + 2 := by rw [IntWalk.i64_left, IntWalk.wrap64_in]; omega
  clear hr hW
  go_enter Tryz.func10, Tryz.ntmps10
  go_upto_region 6 with (first
    | (go_at_call 22; refine (new_some 8 _ (by omega) (by omega)).mono ?_; rintro e w1 ⟨db, D, rfl, hR, hn, hm, hS, hF, hfr, hb1⟩; have HD : Hid (Rep w1 db D ∧ D.n = 8 ∧ D.m = 0 ∧ D.fresh db w.heap.size ∧ Below (w.alloc (.cells #[.slice a len cap, .int .u32 en, .int .i64 sec] 25)).heap.size (w.alloc (.cells #[.slice a len cap, .int .u32 en, .int .i64 sec] 25)) w1) := ⟨hR, hn, hm, fun x hx => Nat.le_trans (al _).size (hfr x hx), hb1⟩; clear hR hn hm hS hF hfr hb1)
    | (go_at_call 28; refine (rnew_some 8 _ (by omega) (by omega)).mono ?_; rintro e w2 ⟨rd, R, rfl, _, _, _, _, _, hb2⟩; have HE : Hid (Rep w2 db D ∧ Below (w.alloc (.cells #[.slice a len cap, .int .u32 en, .int .i64 sec] 25)).heap.size (w.alloc (.cells #[.slice a len cap, .int .u32 en, .int .i64 sec] 25)) w2) := ⟨HD.out.1.below hb2, HD.out.2.2.2.2.trans (hb2.mono HD.out.2.2.2.2.size)⟩; clear hb2))
  obtain ⟨w3, w4, HT0⟩ := lent_is cap HR.out hlen (HC.out w2.drew (HE.out.2.trans ((drB w2).mono HE.out.2.size))).2.2
  have hmk : (makeU (.int .i64 0) (.int .i64 ((len : Int) + 2))).run Tryz.prog w2.drew = .ok (.slice (some ⟨w2.heap.size, 0, none⟩) 0 (len + 2)) w3 := HT0.mak
  have hap : (appU #[22, 22] 22 #[.slice (some ⟨w2.heap.size, 0, none⟩) 0 (len + 2), .slice a len cap]).run Tryz.prog w3 = .ok (.slice (some ⟨w2.heap.size, 0, none⟩) len (len + 2)) w4 := HT0.ap
  have HT : Hid (Lent w a len cap f w2.drew w3 w4) := HT0
  have B3 : Below (w.alloc (.cells #[.slice a len cap, .int .u32 en, .int .i64 sec] 25)).heap.size (w.alloc (.cells #[.slice a len cap, .int .u32 en, .int .i64 sec] 25)) w3 := (HE.out.2.trans ((drB w2).mono HE.out.2.size)).trans (HT0.b3.mono (Nat.le_trans HE.out.2.size (drB w2).size))
  have B4 : Below (w.alloc (.cells #[.slice a len cap, .int .u32 en, .int .i64 sec] 25)).heap.size (w.alloc (.cells #[.slice a len cap, .int .u32 en, .int .i64 sec] 25)) w4 := (HE.out.2.trans ((drB w2).mono HE.out.2.size)).trans (HT0.b4.mono (Nat.le_trans HE.out.2.size (drB w2).size))
  have s0 := (HC.out w2.drew (HE.out.2.trans ((drB w2).mono HE.out.2.size))).1
  have s1 := (HC.out w3 B3).1
  have s2 := (HC.out w4 B4).1
  have t2 := (HC.out w4 B4).2.1
  have HB4 : Hid (Below (w.alloc (.cells #[.slice a len cap, .int .u32 en, .int .i64 sec] 25)).heap.size (w.alloc (.cells #[.slice a len cap, .int .u32 en, .int .i64 sec] 25)) w4) := B4
  clear HT0 B3 B4
  go_wp2_with fail
  go_region_held3 (fun X => X.cell? ⟨w.heap.size, 0, none⟩ = some (.slice a len cap)) (first | exact s0 | exact s1 | exact s2) (fail)
  go_wp2_with (first
    | (go_at_call 23; refine (mnew_entry _ len _ db f D en _ (HE.out.1.below ((drB w2).trans (HT.out.b4.mono (drB w2).size))) gl (HT.out.row.rdL (by omega) HR.out) e0 e1 gw).mono ?_; rintro e w5 ⟨rfl, hb5⟩; have HM : Hid (Below w.heap.size w w5) := (HC.out w4 HB4.out).2.2.trans (hb5.mono (HC.out w4 HB4.out).2.2.size); have HG : Hid (URow w5 w2.heap.size (len + 2) (lentF f len 0)) := HT.out.row.same (hb5.block _ HT.out.row.lt); have HB5 : Hid (Below (w.alloc (.cells #[.slice a len cap, .int .u32 en, .int .i64 sec] 25)).heap.size (w.alloc (.cells #[.slice a len cap, .int .u32 en, .int .i64 sec] 25)) w5) := HB4.out.trans (hb5.mono HB4.out.size); have u0 := (HC.out w5 HB5.out).1; have u1 := (HC.out w5 HB5.out).2.1; clear hb5)
    | (go_at_call 29; refine (rmnew_no a len cap rd en _ e0 e1 HGo.out).mono ?_; rintro e w6 ⟨rfl, hb6⟩; have HM6 : Hid (Below w.heap.size w w6 ∧ URow w6 w2.heap.size (len + 2) (lentF f len 0)) := ⟨HM.out.trans (hb6.mono HM.out.size), HG.out.same (hb6.block _ HG.out.lt)⟩; clear hb6))
  go_loopw [16] (fun i X => ∃ k : Nat, k ≤ len ∧ i = .int .i64 k ∧ Below w.heap.size w X ∧ URow X w2.heap.size (len + 2) (lentF f len k)) (fun i _ => len - (intOf i).toNat)
  case atStart => exact ⟨0, Nat.zero_le _, rfl, HM6.out.1, HM6.out.2⟩
  case round =>
    obtain ⟨k, hk, rfl, hX, hU⟩ := hrel
    have HX : Hid (Below w.heap.size w wr ∧ URow wr w2.heap.size (len + 2) (lentF f len k)) := ⟨hX, hU⟩
    clear hX
    by_cases hlt : k < len
    · have cg := (hU.at (k := k) (by omega)).1
      have fg := (hU.at (k := k) (by omega)).2
      have j0 : (0 : Int) ≤ (k : Int) := by omega
      have j1 : (k : Int) < (len : Int) := by omega
      clear hU
      go_wp2_with fail
      go_roundw
      case rel => exact ⟨k + 1, by omega, by go_num, HX.out.1.setCell (HC.out w2 HE.out.2).2.2.size _, by have := HX.out.2.set (k := k) (by omega) 2004318071; rwa [lent_next] at this⟩
      case measure => simp [intOf]; omega
    · have j1 : ¬ (k : Int) < (len : Int) := by omega
      clear hU
      go_wp2_with fail
      refine ret_tmp4 rfl rfl ?_
      exact MadeNone.of ⟨rfl, HX.out.1⟩
set_option maxHeartbeats 800000 in
set_option maxRecDepth 20000 in
theorem mades_entryC (a : Option Addr) (len cap N : Nat) (f : Nat → Int) (en : Int) (w : World) (hW : Cpu.Ways w) (hr : RdW w a len f) (hlen : len ≤ 35184372087808) (e0 : 0 ≤ en) (e1 : en ≤ 4294967295) (hN : 8 ≤ N ∧ N ≤ 1024) (hs : ¬ (N : Int) < 8) (hs2 : ¬ 64 < (N : Int)) (gl : len ≤ 262144) (gw : isW en = false) : Calls Tryz.prog 10 #[.agg #[.slice a len cap, .int .u32 en, .int .i64 (N : Int)]] w fun e w' => MadeNone w e w' := by
  have HR : Hid (RdW w a len f) := hr
  have HGo : Hid (goodS len en = false) := by show _ = _; unfold goodS; rw [gw]; simp
  have HW : Hid (Cpu.Ways w) := hW
  have HC : Hid (∀ X, Below (w.alloc (.cells #[.slice a len cap, .int .u32 en, .int .i64 (N : Int)] 25)).heap.size (w.alloc (.cells #[.slice a len cap, .int .u32 en, .int .i64 (N : Int)] 25)) X → X.cell? ⟨w.heap.size, 0, none⟩ = some (.slice a len cap) ∧ X.cell? ⟨w.heap.size, 1, none⟩ = some (.int .u32 en) ∧ Below w.heap.size w X) := fun X hX => ⟨(hX.cell (p := ⟨w.heap.size, 0, none⟩) (by simp)).trans (by simp), (hX.cell (p := ⟨w.heap.size, 1, none⟩) (by simp)).trans (by simp), (al _).trans (hX.mono (al _).size)⟩
  have hwr : IntKind.i64.wrap ((len : Int) + 2) = (len : Int) + 2 := by rw [IntWalk.i64_left, IntWalk.wrap64_in]; omega
  clear hr hW
  go_enter Tryz.func10, Tryz.ntmps10
  go_upto_region 6 with (first
    | (go_at_call 22; refine (new_some N _ hN.1 hN.2).mono ?_; rintro e w1 ⟨db, D, rfl, hR, hn, hm, hS, hF, hfr, hb1⟩; have HD : Hid (Rep w1 db D ∧ D.n = N ∧ D.m = 0 ∧ D.fresh db w.heap.size ∧ Below (w.alloc (.cells #[.slice a len cap, .int .u32 en, .int .i64 (N : Int)] 25)).heap.size (w.alloc (.cells #[.slice a len cap, .int .u32 en, .int .i64 (N : Int)] 25)) w1) := ⟨hR, hn, hm, fun x hx => Nat.le_trans (al _).size (hfr x hx), hb1⟩; clear hR hn hm hS hF hfr hb1)
    | (go_at_call 28; refine (rnew_some N _ hN.1 hN.2).mono ?_; rintro e w2 ⟨rd, R, rfl, _, _, _, _, _, hb2⟩; have HE : Hid (Rep w2 db D ∧ Below (w.alloc (.cells #[.slice a len cap, .int .u32 en, .int .i64 (N : Int)] 25)).heap.size (w.alloc (.cells #[.slice a len cap, .int .u32 en, .int .i64 (N : Int)] 25)) w2) := ⟨HD.out.1.below hb2, HD.out.2.2.2.2.trans (hb2.mono HD.out.2.2.2.2.size)⟩; clear hb2))
  obtain ⟨w3, w4, HT0⟩ := lent_is cap HR.out hlen (HC.out w2.drew (HE.out.2.trans ((drB w2).mono HE.out.2.size))).2.2
  have hmk : (makeU (.int .i64 0) (.int .i64 ((len : Int) + 2))).run Tryz.prog w2.drew = .ok (.slice (some ⟨w2.heap.size, 0, none⟩) 0 (len + 2)) w3 := HT0.mak
  have hap : (appU #[22, 22] 22 #[.slice (some ⟨w2.heap.size, 0, none⟩) 0 (len + 2), .slice a len cap]).run Tryz.prog w3 = .ok (.slice (some ⟨w2.heap.size, 0, none⟩) len (len + 2)) w4 := HT0.ap
  have HT : Hid (Lent w a len cap f w2.drew w3 w4) := HT0
  have B3 : Below (w.alloc (.cells #[.slice a len cap, .int .u32 en, .int .i64 (N : Int)] 25)).heap.size (w.alloc (.cells #[.slice a len cap, .int .u32 en, .int .i64 (N : Int)] 25)) w3 := (HE.out.2.trans ((drB w2).mono HE.out.2.size)).trans (HT0.b3.mono (Nat.le_trans HE.out.2.size (drB w2).size))
  have B4 : Below (w.alloc (.cells #[.slice a len cap, .int .u32 en, .int .i64 (N : Int)] 25)).heap.size (w.alloc (.cells #[.slice a len cap, .int .u32 en, .int .i64 (N : Int)] 25)) w4 := (HE.out.2.trans ((drB w2).mono HE.out.2.size)).trans (HT0.b4.mono (Nat.le_trans HE.out.2.size (drB w2).size))
  have s0 := (HC.out w2.drew (HE.out.2.trans ((drB w2).mono HE.out.2.size))).1
  have s1 := (HC.out w3 B3).1
  have s2 := (HC.out w4 B4).1
  have t2 := (HC.out w4 B4).2.1
  have HB4 : Hid (Below (w.alloc (.cells #[.slice a len cap, .int .u32 en, .int .i64 (N : Int)] 25)).heap.size (w.alloc (.cells #[.slice a len cap, .int .u32 en, .int .i64 (N : Int)] 25)) w4) := B4
  clear HT0 B3 B4
  go_wp2_with fail
  go_region_held3 (fun X => X.cell? ⟨w.heap.size, 0, none⟩ = some (.slice a len cap)) (first | exact s0 | exact s1 | exact s2) (fail)
  go_wp2_with (first
    | (go_at_call 23; refine (mnew_entry _ len _ db f D en _ (HE.out.1.below ((drB w2).trans (HT.out.b4.mono (drB w2).size))) gl (HT.out.row.rdL (by omega) HR.out) e0 e1 gw).mono ?_; rintro e w5 ⟨rfl, hb5⟩; have HM : Hid (Below w.heap.size w w5) := (HC.out w4 HB4.out).2.2.trans (hb5.mono (HC.out w4 HB4.out).2.2.size); have HG : Hid (URow w5 w2.heap.size (len + 2) (lentF f len 0)) := HT.out.row.same (hb5.block _ HT.out.row.lt); have HB5 : Hid (Below (w.alloc (.cells #[.slice a len cap, .int .u32 en, .int .i64 (N : Int)] 25)).heap.size (w.alloc (.cells #[.slice a len cap, .int .u32 en, .int .i64 (N : Int)] 25)) w5) := HB4.out.trans (hb5.mono HB4.out.size); have u0 := (HC.out w5 HB5.out).1; have u1 := (HC.out w5 HB5.out).2.1; clear hb5)
    | (go_at_call 29; refine (rmnew_no a len cap rd en _ e0 e1 HGo.out).mono ?_; rintro e w6 ⟨rfl, hb6⟩; have HM6 : Hid (Below w.heap.size w w6 ∧ URow w6 w2.heap.size (len + 2) (lentF f len 0)) := ⟨HM.out.trans (hb6.mono HM.out.size), HG.out.same (hb6.block _ HG.out.lt)⟩; clear hb6))
  go_loopw [16] (fun i X => ∃ k : Nat, k ≤ len ∧ i = .int .i64 k ∧ Below w.heap.size w X ∧ URow X w2.heap.size (len + 2) (lentF f len k)) (fun i _ => len - (intOf i).toNat)
  case atStart => exact ⟨0, Nat.zero_le _, rfl, HM6.out.1, HM6.out.2⟩
  case round =>
    obtain ⟨k, hk, rfl, hX, hU⟩ := hrel
    have HX : Hid (Below w.heap.size w wr ∧ URow wr w2.heap.size (len + 2) (lentF f len k)) := ⟨hX, hU⟩
    clear hX
    by_cases hlt : k < len
    · have cg := (hU.at (k := k) (by omega)).1
      have fg := (hU.at (k := k) (by omega)).2
      have j0 : (0 : Int) ≤ (k : Int) := by omega
      have j1 : (k : Int) < (len : Int) := by omega
      clear hU
      go_wp2_with fail
      go_roundw
      case rel => exact ⟨k + 1, by omega, by go_num, HX.out.1.setCell (HC.out w2 HE.out.2).2.2.size _, by have := HX.out.2.set (k := k) (by omega) 2004318071; rwa [lent_next] at this⟩
      case measure => simp [intOf]; omega
    · have j1 : ¬ (k : Int) < (len : Int) := by omega
      clear hU
      go_wp2_with fail
      refine ret_tmp4 rfl rfl ?_
      exact MadeNone.of ⟨rfl, HX.out.1⟩
theorem mades_good (a : Option Addr) (len cap : Nat) (f : Nat → Int) (en sec : Int) (w : World) (hW : Cpu.Ways w) (hr : RdW w a len f) (hlen : len ≤ 35184372087808) (e0 : 0 ≤ en) (e1 : en ≤ 4294967295) (hg : goodS len en = true) : Calls Tryz.prog 10 #[.agg #[.slice a len cap, .int .u32 en, .int .i64 sec]] w fun e w' => MadeBoth w f len en e w' := by
  by_cases h1 : sec < 8
  · exact mades_okA a len cap f en sec w hW hr hlen e0 e1 h1 hg
  · by_cases h2 : 64 < sec
    · exact mades_okB a len cap f en sec w hW hr hlen e0 e1 h1 h2 hg
    · obtain ⟨N, rfl⟩ := Int.eq_ofNat_of_zero_le (show 0 ≤ sec by omega)
      exact mades_okC a len cap N f en w hW hr hlen e0 e1 (by omega) h1 h2 hg
theorem mades_bad (a : Option Addr) (len cap : Nat) (f : Nat → Int) (en sec : Int) (w : World) (hW : Cpu.Ways w) (hr : RdW w a len f) (hlen : len ≤ 35184372087808) (e0 : 0 ≤ en) (e1 : en ≤ 4294967295) (hg : goodS len en = false) : Calls Tryz.prog 10 #[.agg #[.slice a len cap, .int .u32 en, .int .i64 sec]] w fun e w' => MadeNone w e w' := by
  by_cases hl : len ≤ 262144
  · have gw : isW en = false := by simpa [goodS, hl] using hg
    by_cases h1 : sec < 8
    · exact mades_entryA a len cap f en sec w hW hr hlen e0 e1 h1 hl gw
    · by_cases h2 : 64 < sec
      · exact mades_entryB a len cap f en sec w hW hr hlen e0 e1 h1 h2 hl gw
      · obtain ⟨N, rfl⟩ := Int.eq_ofNat_of_zero_le (show 0 ≤ sec by omega)
        exact mades_entryC a len cap N f en w hW hr hlen e0 e1 (by omega) h1 h2 hl gw
  · by_cases h1 : sec < 8
    · exact mades_manyA a len cap f en sec w hW hr hlen e0 e1 h1 (by omega)
    · by_cases h2 : 64 < sec
      · exact mades_manyB a len cap f en sec w hW hr hlen e0 e1 h1 h2 (by omega)
      · obtain ⟨N, rfl⟩ := Int.eq_ofNat_of_zero_le (show 0 ≤ sec by omega)
        exact mades_manyC a len cap N f en w hW hr hlen e0 e1 (by omega) h1 h2 (by omega)
end Go.Proofs.YteegkhnikcioiaaGreatDoor
