/-
  The law on runs in pieces: its walk.
-/
import Derived.Test.YteegkhnikcioiaaGreatDoorMPiecesQ
import Derived.Deep.DeepCutAuto
namespace Go.Proofs.YteegkhnikcioiaaGreatDoor
open Go.ChangeShapes Go.WideShapes Go.ChangeAt Go.RowKit
open Cpu (Cp In Ac En decOk decI accA rightB)
attribute [local go_sem ↓] Cpu.loadCpu_seal Cpu.storeCpu_seal Cpu.loadIn_seal Cpu.storeIn_seal Cpu.loadAc_seal Cpu.storeAc_seal Cpu.loadEn_seal Cpu.storeEn_seal
attribute [local go_sem] Cpu.loadCpu_run Cpu.storeCpu_run Cpu.loadIn_run Cpu.storeIn_run Cpu.rowAt_at Cpu.rowAt_past Cpu.rowAt_drew Cpu.rowAt_drewN Cpu.roomCpu_new Cpu.roomIn_new Cpu.roomAt_old Cpu.roomAt_drew Cpu.roomAt_drewN Cpu.putCpu_new Cpu.putIn_new Cpu.Cp.zero_fold Cpu.In.fold Cpu.putRow_past Cpu.rowCpu_put Cpu.rowIn_put Cpu.size_put Cpu.putRow_drew Cpu.putRow_drewN Cpu.alloc_drewN Cpu.setCell_drewN Cpu.Cp.at16 Cpu.Cp.at17 Cpu.Cp.at18 Cpu.Cp.at19 Cpu.Cp.at20 Cpu.Cp.at21 Cpu.Cp.size Cpu.Cp.set16 Cpu.Cp.set17 Cpu.Cp.set18 Cpu.Cp.set19 Cpu.Cp.set20 Cpu.Cp.set21 Cpu.In.at0 Cpu.In.at1 Cpu.In.at2 Cpu.In.at3 Cpu.In.at4 Cpu.In.at5 Cpu.In.at6 Cpu.In.at7 Cpu.In.size Cpu.In.set0 Cpu.In.set1 Cpu.In.set2 Cpu.In.set3 Cpu.In.ne Cpu.Cp.ne Cpu.In.set4 Cpu.In.set5 Cpu.In.set6 Cpu.In.set7 loadMid_run storeMid_run mc_size mc_cpu Cpu.loadAc_run Cpu.storeAc_run Cpu.loadEn_run Cpu.storeEn_run Cpu.putAc_new Cpu.putEn_new Cpu.roomAc_new Cpu.roomEn_new Cpu.rowAc_put Cpu.rowEn_put Cpu.Ac.at0 Cpu.Ac.at1 Cpu.Ac.at2 Cpu.Ac.size Cpu.Ac.ne Cpu.Ac.fold Cpu.En.at0 Cpu.En.at1 Cpu.En.at2 Cpu.En.at3 Cpu.En.size Cpu.En.set0 Cpu.En.set1 Cpu.En.set2 Cpu.En.set3 Cpu.Ac.set0 Cpu.Ac.set1 Cpu.Ac.set2 Cpu.En.ne Cpu.En.fold
set_option linter.unusedVariables false
attribute [local go_sem ↓] Cpu.eqlCpu_seal

set_option maxHeartbeats 2000000 in
set_option maxRecDepth 20000 in
theorem pieces_no (a : Option Addr) (len cap : Nat) (f : Nat → Int) (en sec : Int) (s : ByteArray) (pa : Option Addr) (pl pc : Nat) (w : World) (hW : Cpu.Ways w) (hr : RdW w a len f) (hlen : len ≤ 35184372087808) (e0 : 0 ≤ en) (e1 : en ≤ 4294967295) (hg : goodS len en = false) : Calls Tryz.prog 4 #[.agg #[.slice a len cap, .int .u32 en, .int .i64 sec], .string s, .slice pa pl pc] w fun e w' => e = .returned (.bool true) ∧ Below w.heap.size w w' := by
  have HR : Hid (RdW w a len f) := hr
  have HW : Hid (Cpu.Ways w) := hW
  have HS : Hid (Starts w a len cap en sec (w.alloc (.cells #[.slice a len cap, .int .u32 en, .int .i64 sec] 25))) := Starts.begin _ _ _ _ _ _
  clear hr hW
  go_enter Tryz.func4, Tryz.ntmps4
  go_wp2_with (first
    | (go_at_call 9; refine (mshown_any _ (HW.out.alloc _)).mono ?_; rintro e w1 ⟨rfl, b1⟩; have H1 : Hid (Starts w a len cap en sec w1) := HS.out.next b1; have c0 := H1.out.c0; have c1 := H1.out.c1; have c2 := H1.out.c2; clear b1)
    | (go_at_call 10; have hx := H2; clear hx; refine (made_bad a len cap f en sec _ (HW.out.below H2.out.below HW.out.big) (HR.out.over H2.out.below) hlen e0 e1 hg).mono ?_; rintro e w3 ⟨v3, k3, rfl, b3⟩; have H3 : Hid (Starts w a len cap en sec w3) := H2.out.next b3; clear b3)
    | (go_at_call 10; refine (made_bad a len cap f en sec _ (HW.out.below H1.out.below HW.out.big) (HR.out.over H1.out.below) hlen e0 e1 hg).mono ?_; rintro e w2 ⟨v2, k2, rfl, b2⟩; have H2 : Hid (Starts w a len cap en sec w2) := H1.out.next b2; have d0 := H2.out.c0; have d1 := H2.out.c1; have d2 := H2.out.c2; clear b2))
  go_ret
  exact ⟨by first | rfl | simp, H3.out.below⟩
set_option maxHeartbeats 4000000 in
set_option maxRecDepth 20000 in
theorem pieces_ok (a : Option Addr) (len cap : Nat) (f : Nat → Int) (en sec : Int) (s : ByteArray) (pa : Option Addr) (pl pc : Nat) (pf : Nat → Int) (w : World) (hW : Cpu.Ways w) (hr : RdW w a len f) (hlen : len ≤ 35184372087808) (e0 : 0 ≤ en) (e1 : en ≤ 4294967295) (hg : goodS len en = true) (hsz : s.size ≤ maxLen) (hp : RdJ w pa pl pf) : Calls Tryz.prog 4 #[.agg #[.slice a len cap, .int .u32 en, .int .i64 sec], .string s, .slice pa pl pc] w fun e w' => e = .returned (.bool true) ∧ Below w.heap.size w w' := by
  have HR : Hid (RdW w a len f) := hr
  have HP : Hid (RdJ w pa pl pf) := hp
  have HW : Hid (Cpu.Ways w) := hW
  have hplm : (pl : Int) ≤ 9223372036854775807 := by have := hp.1; unfold maxLen at this; omega
  have HS : Hid (Starts w a len cap en sec (w.alloc (.cells #[.slice a len cap, .int .u32 en, .int .i64 sec] 25))) := Starts.begin _ _ _ _ _ _
  clear hr hW hp
  go_enter Tryz.func4, Tryz.ntmps4
  go_upto_region 10 with (first
    | (go_at_call 9; refine (mshown_any _ (HW.out.alloc _)).mono ?_; rintro e w1 ⟨rfl, b1⟩; have H1 : Hid (Starts w a len cap en sec w1) := HS.out.next b1; have c0 := H1.out.c0; have c1 := H1.out.c1; have c2 := H1.out.c2; clear b1)
    | (go_at_call 10; have hx := H2; clear hx; refine (made_good a len cap f en sec _ (HW.out.below H2.out.1.below HW.out.big) (HR.out.over H2.out.1.below) hlen e0 e1 hg).mono ?_; rintro e w3 ⟨q, c, Q, D2, v3, k3, rfl, hM, hD2⟩; have H3 : Hid (MDuo w w3 p b P (Ms.new f len D en) q c Q (Ms.new f len D en)) := MDuo.begin H2.out.2.1 (by rw [new_same f len en H2.out.2.2 hD2]; exact hM); clear hM hD2)
    | (go_at_call 10; refine (made_good a len cap f en sec _ (HW.out.below H1.out.below HW.out.big) (HR.out.over H1.out.below) hlen e0 e1 hg).mono ?_; rintro e w2 ⟨p, b, P, D, v2, k2, rfl, hM, hD⟩; have H2 : Hid (Starts w a len cap en sec w2 ∧ MOwn w p b P (Ms.new f len D en) w2 ∧ (D.n = secN sec ∧ D.m = 0 ∧ D.S = (fun _ _ => 0))) := ⟨H1.out.next hM.below, ⟨hM.mac, (H1.out.next hM.below).below, fun x hx => Nat.le_trans H1.out.below.size (hM.new x hx)⟩, hD⟩; have d0 := H2.out.1.c0; have d1 := H2.out.1.c1; have d2 := H2.out.1.c2; clear hM hD)
    | (go_at_call 14; have hx := H4; clear hx; refine (mfeed_any H4.out.two.mac s hsz).mono ?_; rintro e w5 ⟨rfl, Q5, hS⟩; have H5 : Hid (MDuo w w5 p b P4 (fedM (Ms.new f len D en) s) q c Q5 (fedM (Ms.new f len D en) s)) := H4.out.snd hS; clear hS)
    | (go_at_call 14; refine (mfeed_any H3.out.one.mac s hsz).mono ?_; rintro e w4 ⟨rfl, P4, hS⟩; have H4 : Hid (MDuo w w4 p b P4 (fedM (Ms.new f len D en) s) q c Q (Ms.new f len D en)) := H3.out.fst hS; clear hS))
  have H6 : Hid (PL w (w5.alloc (.cells (⟨0, 0, 0, 0⟩ : En).cells 41)) p b q c Q5 (fedM (Ms.new f len D en) s) w5.heap.size 0 P4 (fedM (Ms.new f len D en) s) ⟨0, 0, 0, 0⟩) := PL.begin H5.out rfl (by show (-1 : Int) < 0; decide) _ _ HW.out.big
  have m1 : (fedM (Ms.new f len D en) s).st = 0 := rfl
  have m2 : (fedM (Ms.new f len D en) s).cut < 0 := by show (-1 : Int) < 0; decide
  have HB : Hid (Below w.heap.size w w5) := H5.out.one.below
  clear H5 H4 H3 H2 H1 HS HR c0 c1 c2 d0 d1 d2
  generalize fedM (Ms.new f len D en) s = m0 at H6 m1 m2
  go_cut [18] (fun s18 X => s18 = .int .i64 0 ∧ X = w5.alloc (.cells (⟨0, 0, 0, 0⟩ : En).cells 41))
  case first =>
    go_wp2_with fail
    go_meet
    case rel => exact ⟨rfl, rfl⟩
  case rest =>
    obtain ⟨rfl, rfl⟩ := hcut
    rename_i K1 hK1 K2 hK2
    refine hK2 _ _ ?_
    clear hK2
    go_cut [16] (fun s16 X => ∃ all P' m E, s16 = .int .i64 all ∧ PL w X p b q c Q5 m0 w5.heap.size all P' m E)
    case first =>
      clear hK1
      go_wp2_with fail
      go_loopw [16, 18] (fun s16 s18 X => ∃ k : Nat, ∃ all P' m E, k ≤ pl ∧ s18 = .int .i64 k ∧ s16 = .int .i64 all ∧ PL w X p b q c Q5 m0 w5.heap.size all P' m E ∧ (m0.run all.toNat).1.k = 1) (fun _ s18 _ => pl - (intOf s18).toNat)
      case atStart => exact ⟨0, 0, P4, m0, ⟨0, 0, 0, 0⟩, Nat.zero_le _, rfl, rfl, H6.out, begin_k m2⟩
      case round =>
        clear H6
        obtain ⟨k, all, P', m, E, hk, rfl, rfl, hL, hk1⟩ := hrel
        have HL : Hid (PL w wr p b q c Q5 m0 w5.heap.size all P' m E) := hL
        have hk2 : Hid ((m0.run all.toNat).1.k = 1) := hk1
        have a0 := hL.pc.all.1
        have a1 := hL.pc.all.2
        clear hk1
        by_cases hlt : k < pl
        · have q0 : (0 : Int) ≤ (k : Int) := by omega
          have q1 : (k : Int) < (pl : Int) := by omega
          by_cases ha : all < 3000
          · obtain ⟨gb, off, rfl, cv, bv⟩ := HP.out.at hL.duo.one.below hlt
            clear hL
            have hd : 0 < 3000 - all := by omega
            have hwd : IntKind.i64.wrap (3000 - all) = 3000 - all := by rw [IntWalk.i64_left, IntWalk.wrap64_in]; omega
            have bv0 := bv.1
            have bv1 := bv.2
            go_upto_region 13 with fail
            go_cut [19] from 61 to 92 (fun s19 X => s19 = .int .i64 (pieceK (pf k) all) ∧ X = wr)
            case first =>
              have hcs : (0 < pf k ∧ pf k < 3000 - all ∧ pieceK (pf k) all = pf k) ∨ (0 < pf k ∧ pf k = 3000 - all ∧ pieceK (pf k) all = pf k) ∨ (0 < pf k ∧ 3000 - all < pf k ∧ pieceK (pf k) all = 3000 - all) ∨ (pf k = 0 ∧ pieceK (pf k) all = 0) ∨ (pf k < 0 ∧ pieceK (pf k) all = 0) := by unfold pieceK; omega
              rcases hcs with ⟨v0, v1, e⟩ | ⟨v0, v1, e⟩ | ⟨v0, v1, e⟩ | ⟨v0, e⟩ | ⟨v0, e⟩
              all_goals
                go_wp2_with fail
                go_meet
                case rel => exact ⟨by rw [e] <;> first | rfl | (simp; omega), rfl⟩
            case rest =>
              obtain ⟨rfl, rfl⟩ := hcut
              have bk := pieceK_bd (pf k) all ⟨a0, ha⟩
              generalize pieceK (pf k) all = kk at bk ⊢
              go_upto_region 15 with (go_at_call 15; refine (PL.go HL.out m1 m2 hk2.out bk.1 bk.2).mono ?_; rintro e w6 ⟨E6, P6, m6, rfl, hL6, hW6⟩; have r6 : Cpu.roomAt w6 w5.heap.size 4 = true := hL6.room; have HF : Hid (PL w (Cpu.putRow w6 w5.heap.size E6.cells) p b q c Q5 m0 w5.heap.size (all + E6.s) P6 m6 E6 ∧ Went m0 all kk E6) := ⟨hL6.lay E6, hW6⟩; clear hL6 hW6)
              obtain ⟨ke, te, ae, se⟩ := E6
              have hbd : 0 ≤ all + se ∧ all + se ≤ 3000 ∧ 0 ≤ se ∧ se ≤ 3000 := HF.out.2.bd
              have cE : ∀ j, (Cpu.putRow w6 w5.heap.size (⟨ke, te, ae, se⟩ : En).cells).cell? ⟨w5.heap.size, j, none⟩ = (⟨ke, te, ae, se⟩ : En).cells[j]? := Cpu.rowAt_cell HF.out.1.kept.row
              by_cases hke : ke = 1
              · subst hke
                have hg1 := HF.out.2.k rfl
                have hse : se = kk := hg1.2
                subst hse
                have HK1 : Hid ((m0.run (all + se).toNat).1.k = 1) := hg1.1
                clear hg1 hk2 HL
                go_wp2_with fail
                go_roundw
                case rel => exact ⟨k + 1, all + se, P6, m6, ⟨1, te, ae, se⟩, by omega, by go_num, rfl, HF.out.1, HK1.out⟩
                case measure => simp [intOf]; omega
              · have hke2 : (ke == 1) = false := by simpa using hke
                clear hk2 HL
                go_wp2_with fail
                go_meet
                case rel => exact ⟨all + se, P6, m6, ⟨ke, te, ae, se⟩, rfl, HF.out.1⟩
          · clear hL
            go_wp2_with fail
            go_meet
            case rel => exact ⟨all, P', m, E, rfl, HL.out⟩
        · have q1 : ¬ (k : Int) < (pl : Int) := by omega
          clear hL
          go_wp2_with fail
          go_meet
          case rel => exact ⟨all, P', m, E, rfl, HL.out⟩
    case rest =>
      clear H6
      obtain ⟨all, P', m, E, rfl, hL⟩ := hcut
      have HL : Hid (PL w wc p b q c Q5 m0 w5.heap.size all P' m E) := hL
      have a0 := hL.pc.all.1
      have a1 := hL.pc.all.2
      clear hL
      refine hK1 _ _ ?_
      clear hK1
      obtain ⟨ke, te, ae, se⟩ := E
      go_upto_region 20 with (go_at_call 15; refine (PL.whole HL.out m1).mono ?_; rintro e w7 ⟨E7, Q7, rfl, hs7, hM7, hk7, hst7⟩; obtain ⟨k7, t7, p7, s7⟩ := E7; obtain rfl : s7 = all := hs7; have H7 : Hid (MDuo w w7 p b P' m q c Q7 m ∧ Kept w7 p b P' q c Q7 w5.heap.size (⟨ke, te, ae, se⟩ : En).cells ∧ m.st = s7) := ⟨hM7, hk7, hst7⟩; clear hM7 hk7 hst7)
      have H8 : Hid (MDuo w (w7.alloc (.cells (⟨k7, t7, p7, s7⟩ : En).cells 41)) p b P' m q c Q7 m ∧ Kept (w7.alloc (.cells (⟨k7, t7, p7, s7⟩ : En).cells 41)) p b P' q c Q7 w5.heap.size (⟨ke, te, ae, se⟩ : En).cells ∧ Kept (w7.alloc (.cells (⟨k7, t7, p7, s7⟩ : En).cells 41)) p b P' q c Q7 w7.heap.size (⟨k7, t7, p7, s7⟩ : En).cells ∧ m.st = s7) := ⟨H7.out.1.next (al _), H7.out.2.1.next (al _), Kept.new H7.out.1 _ _, H7.out.2.2⟩
      clear H7 HL
      generalize w7.alloc (.cells (⟨k7, t7, p7, s7⟩ : En).cells 41) = W8 at *
      have cE : ∀ j, W8.cell? ⟨w5.heap.size, j, none⟩ = (⟨ke, te, ae, se⟩ : En).cells[j]? := Cpu.rowAt_cell H8.out.2.1.row
      have cF : ∀ j, W8.cell? ⟨w7.heap.size, j, none⟩ = (⟨k7, t7, p7, s7⟩ : En).cells[j]? := Cpu.rowAt_cell H8.out.2.2.1.row
      go_cut [103] (fun s103 X => (∃ B : Bool, s103 = .bool B) ∧ X = W8)
      case first =>
        by_cases h1 : ke = 1
        · subst h1
          go_wp2_with fail
          go_meet
          case rel => exact ⟨⟨_, rfl⟩, rfl⟩
        · have h1b : (ke == 1) = false := by simpa using h1
          by_cases h0 : ke = 0
          · subst h0
            go_wp2_with fail
            go_meet
            case rel => exact ⟨⟨_, rfl⟩, rfl⟩
          · have h0b : (ke == 0) = false := by simpa using h0
            go_wp2_with fail
            go_meet
            case rel => exact ⟨⟨_, rfl⟩, rfl⟩
      case rest =>
        obtain ⟨⟨B, rfl⟩, rfl⟩ := hcut
        go_upto_if 103 with fail
        go_cut [16] (fun s16 X => s16 = .int .i64 s7 ∧ X = wc)
        case first =>
          cases B
          all_goals
            go_wp2_with fail
            go_meet
            case rel => exact ⟨rfl, rfl⟩
        case rest =>
          obtain ⟨rfl, rfl⟩ := hcut
          clear cE
          go_upto_region 25 with (first
            | (go_at_call 16; have hx := H10; clear hx; refine (mcpu_any (H10.out.1.next (al _)).two.mac).mono ?_; rintro e w11 ⟨rfl, hb⟩; have H11 : Hid (MDuo w w11 p b P' m q c Q7 m ∧ Kept w11 p b P' q c Q7 w7.heap.size (⟨k7, t7, p7, s7⟩ : En).cells ∧ Kept w11 p b P' q c Q7 w10.heap.size m.c.cells) := ⟨(H10.out.1.next (al _)).next hb, (H10.out.2.next (al _)).next hb, (Kept.new H10.out.1 _ _).next hb⟩; clear hb)
            | (go_at_call 16; refine (mcpu_any H8.out.1.one.mac).mono ?_; rintro e w10 ⟨rfl, hb⟩; have H10 : Hid (MDuo w w10 p b P' m q c Q7 m ∧ Kept w10 p b P' q c Q7 w7.heap.size (⟨k7, t7, p7, s7⟩ : En).cells) := ⟨H8.out.1.next hb, H8.out.2.2.1.next hb⟩; clear hb))
          have B0 := H11.out.1.next (al (.cells m.c.cells 45))
          have k1 := H11.out.2.1.next (al (.cells m.c.cells 45))
          have k2_ := H11.out.2.2.next (al (.cells m.c.cells 45))
          have k3_ := Kept.new H11.out.1 m.c.cells 45
          have hcq := H11.out.1.one.mac.ok.c
          have hq0 : ∀ X, (Cpu.eqlCpu (.agg m.c.cells) (.agg m.c.cells)).run Tryz.prog X = .ok (.bool true) X := fun X => Cpu.eqlCpu_same m.c hcq X
          generalize w11.alloc (.cells m.c.cells 45) = V at *
          have HO1 : Hid (∀ X, Below V.heap.size V X → OutAt X p (strO m.L.O) m.st) := fun X hX => B0.one.mac.outAt.below hX
          have HO2 : Hid (∀ X, Below V.heap.size V X → OutAt X q (strO m.L.O) m.st) := fun X hX => B0.two.mac.outAt.below hX
          have HD1 : Hid (∀ X, Below V.heap.size V X → DiskAt X p P'.db) := fun X hX => B0.one.mac.diskAt.below hX
          have HD2 : Hid (∀ X, Below V.heap.size V X → DiskAt X q Q7.db) := fun X hX => B0.two.mac.diskAt.below hX
          have HI1 : Hid (∀ X, Below V.heap.size V X → ImgAt X P'.db m.L.n m.L.S) := fun X hX => B0.one.mac.img.below hX
          have HI2 : Hid (∀ X, Below V.heap.size V X → ImgAt X Q7.db m.L.n m.L.S) := fun X hX => B0.two.mac.img.below hX
          have HV : Hid (Below w.heap.size w V) := B0.one.below
          have l1 := k1.lt
          have l2 := k2_.lt
          have l3 := k3_.lt
          have s0 : Below V.heap.size V V ∧ Cpu.rowAt V w10.heap.size = some m.c.cells ∧ Cpu.rowAt V w11.heap.size = some m.c.cells ∧ (∀ j, V.cell? ⟨w7.heap.size, j, none⟩ = (⟨k7, t7, p7, s7⟩ : En).cells[j]?) := ⟨Below.refl _ _, k2_.row, k3_.row, Cpu.rowAt_cell k1.row⟩
          clear B0 k1 k2_ k3_ H11 H10 H8 cF
          first | (go_region_held (fun X => Below V.heap.size V X ∧ Cpu.rowAt X w10.heap.size = some m.c.cells ∧ Cpu.rowAt X w11.heap.size = some m.c.cells ∧ (∀ j, X.cell? ⟨w7.heap.size, j, none⟩ = (⟨k7, t7, p7, s7⟩ : En).cells[j]?)) (first | exact cs_next (drB _) l1 l2 l3 s0 | assumption | exact cs_next (by assumption) l1 l2 l3 (by assumption)) (first
            | (go_at_call 17; refine (outAt_any (o := strO m.L.O) (n := m.st) (by first | exact HO1.out _ (by assumption : Below V.heap.size V _ ∧ _).1 | exact HO2.out _ (by assumption : Below V.heap.size V _ ∧ _).1)).mono ?_; rintro e v ⟨rfl, hw⟩; obtain rfl := hw.symm; clear hw)
            | (go_at_call 18; refine (stAt_any (o := strO m.L.O) (n := m.st) (by first | exact HO1.out _ (by assumption : Below V.heap.size V _ ∧ _).1 | exact HO2.out _ (by assumption : Below V.heap.size V _ ∧ _).1)).mono ?_; rintro e v ⟨rfl, hw⟩; obtain rfl := hw.symm; clear hw)
            | (go_at_call 19; refine (diskAt_any (by first | exact HD1.out _ (by assumption : Below V.heap.size V _ ∧ _).1 | exact HD2.out _ (by assumption : Below V.heap.size V _ ∧ _).1)).mono ?_; rintro e v ⟨rfl, hw⟩; obtain rfl := hw.symm; clear hw)
            | (go_at_call 20; have hx := HQ; clear hx; refine (imgAt_any (n := m.L.n) (F := m.L.S) (by first | exact HI1.out _ (by assumption : Below V.heap.size V _ ∧ _).1 | exact HI2.out _ (by assumption : Below V.heap.size V _ ∧ _).1)).mono ?_; rintro e v ⟨g2, c2, rfl, hb, hq⟩; have hq2 := hq v (Below.refl _ _); have hq1 := HQ.out v hb; clear hq)
            | (go_at_call 20; refine (imgAt_any (n := m.L.n) (F := m.L.S) (by first | exact HI1.out _ (by assumption : Below V.heap.size V _ ∧ _).1 | exact HI2.out _ (by assumption : Below V.heap.size V _ ∧ _).1)).mono ?_; rintro e u ⟨g1, c1, rfl, hb, hq⟩; have hq1 := hq u (Below.refl _ _); have HQ : Hid (∀ Z, Below u.heap.size u Z → (convert 49 9 (.slice (some ⟨g1, 0, none⟩) (m.L.n * 1024) c1)).run Tryz.prog Z = .ok (.string (strF (imgF m.L.S) (m.L.n * 1024))) Z) := hq; clear hq))) | fail
          all_goals
            have hz : Below w.heap.size w _ := HV.out.trans (Below.mono (by assumption : Below V.heap.size V _ ∧ _).1 HV.out.size)
            go_wp2_with fail
            go_ret
            exact ⟨by first | rfl | simp, hz⟩
theorem pieces_any (a : Option Addr) (len cap : Nat) (f : Nat → Int) (en sec : Int) (s : ByteArray) (pa : Option Addr) (pl pc : Nat) (pf : Nat → Int) (w : World) (hW : Cpu.Ways w) (hr : RdW w a len f) (hlen : len ≤ 35184372087808) (e0 : 0 ≤ en) (e1 : en ≤ 4294967295) (hsz : s.size ≤ maxLen) (hp : RdJ w pa pl pf) : Calls Tryz.prog 4 #[.agg #[.slice a len cap, .int .u32 en, .int .i64 sec], .string s, .slice pa pl pc] w fun e w' => e = .returned (.bool true) ∧ Below w.heap.size w w' := by
  cases hg : goodS len en
  · exact pieces_no a len cap f en sec s pa pl pc w hW hr hlen e0 e1 hg
  · exact pieces_ok a len cap f en sec s pa pl pc pf w hW hr hlen e0 e1 hg hsz hp
end Go.Proofs.YteegkhnikcioiaaGreatDoor
