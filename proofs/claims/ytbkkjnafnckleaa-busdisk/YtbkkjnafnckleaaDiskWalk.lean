/-
  The walk of the law on the disk: from the first word to the last.
-/
import Derived.Test.YtbkkjnafnckleaaDiskLaw
namespace Go.Proofs.Ytbkkjnafnckleaa
open Go.ChangeShapes Go.WideShapes Go.ChangeAt Go.RowKit
attribute [local go_sem ↓] loadSec_seal storeSec_seal eqlSec_seal zeroSec
attribute [local go_sem] loadSec_run storeSec_run rowAt_at rowAt_old rowAt_drew rowAt_drewN roomSec_new roomAt_old roomAt_drew roomAt_drewN putSec_new putRow_past rowSec_put size_put putRow_drew putRow_drewN alloc_drewN setCell_drewN sec_size

set_option linter.unusedVariables false

theorem poke_rel {w : World} {b db x k m : Nat} {f : Nat → Int} {X : World} (h : DkRel w b db x f k m X) (x4 : x % 4 = 0) {a : Int} (ha : a = ((x + 4 * k : Nat) : Int)) (hlt : x + 4 * k < 1048576) : Calls Try.prog 23 #[.pointer (some ⟨b, 0, none⟩), .int .u32 a, .int .u32 (f k)] X fun e Y => e = .returned (.bool true) ∧ DkRel w b db x f (k + 1) m Y := by
  subst ha
  obtain ⟨P, L, hO, hdb, hn, hm, hf⟩ := h.ex
  have hw : isW ((x + 4 * k : Nat) : Int) = true := by unfold isW; exact decide_eq_true (by omega)
  have e := poke_any b P L ((x + 4 * k : Nat) : Int) (f k) X hO.bus (by omega) (by omega)
  rw [hw] at e
  exact e.mono fun e Y ⟨he, hS⟩ => ⟨he, ⟨P, _, hO.step hS, hdb, hn, hm, hf.next x4 hw⟩⟩
theorem word_rel {w : World} {b : Nat} {P : Ph} {L : Lg} {X : World} {y k : Nat} {f : Nat → Int} (h : Own w b P L X) {i : Nat} (hf : Fours L.M y f k) (hi : i < k) (y4 : y % 4 = 0) (hlt : y + 4 * i < 1048576) (f0 : 0 ≤ f i) (f1 : f i ≤ 4294967295) {a : Int} (ha : a = ((y + 4 * i : Nat) : Int)) : Calls Try.prog 18 #[.pointer (some ⟨b, 0, none⟩), .int .u32 a] X fun e Y => e = .returned (.tuple #[.int .u32 (f i), .bool true]) ∧ Own w b P L Y ∧ Below X.heap.size X Y := by
  subst ha
  exact (word_is b P L _ X h.bus (by unfold isW; exact decide_eq_true (by omega)) ((hf i hi).word f0 f1) (by omega) (by omega)).mono fun e Y ⟨he, hb⟩ => ⟨he, h.next hb, hb⟩
/-- A word out of its four bytes, as the law puts it together. -/
theorem or_four (v : Int) (v0 : 0 ≤ v) (v1 : v ≤ 4294967295) : bits .or .u32 (bits .or .u32 (bits .or .u32 (byteOf v 0) (byteOf v 1 * 256 % 4294967296)) (byteOf v 2 * 65536 % 4294967296)) (byteOf v 3 * 16777216 % 4294967296) = v := by
  have b0 := byteOf_bd v 0
  have b1 := byteOf_bd v 1
  have b2 := byteOf_bd v 2
  have b3 := byteOf_bd v 3
  have e1 := or_place (byteOf v 0) (byteOf v 1) 8 b0.1 (by omega) (by omega) b1.1 (by omega)
  have e2 := or_place (byteOf v 0 + byteOf v 1 * 256) (byteOf v 2) 16 (by omega) (by omega) (by omega) b2.1 (by omega)
  have e3 := or_place (byteOf v 0 + byteOf v 1 * 256 + byteOf v 2 * 65536) (byteOf v 3) 24 (by omega) (by omega) (by omega) b3.1 (by omega)
  have n1 : (2 : Int) ^ 8 = 256 := rfl
  have n2 : (2 : Int) ^ 16 = 65536 := rfl
  have n3 : (2 : Int) ^ 24 = 16777216 := rfl
  rw [n1] at e1
  rw [n2] at e2
  rw [n3] at e3
  rw [e1, e2, e3]
  have := word_back v v0 v1
  simp only [tgv] at this
  omega
theorem or_test (v : Int) (v0 : 0 ≤ v) (v1 : v ≤ 4294967295) : (bits .or .u32 (bits .or .u32 (bits .or .u32 (byteOf v 0) (byteOf v 1 * 256)) (byteOf v 2 * 65536)) (byteOf v 3 * 16777216) != v) = false := by
  have b1 := byteOf_bd v 1
  have b2 := byteOf_bd v 2
  have b3 := byteOf_bd v 3
  have e := or_four v v0 v1
  rw [show byteOf v 1 * 256 % 4294967296 = byteOf v 1 * 256 by omega, show byteOf v 2 * 65536 % 4294967296 = byteOf v 2 * 65536 by omega, show byteOf v 3 * 16777216 % 4294967296 = byteOf v 3 * 16777216 by omega] at e
  rw [e]; simp
theorem none_rd3 (w : World) (f : Nat → Int) : RdW w none 0 f := ⟨by decide, .inl rfl⟩
theorem DkRel.begin {w X : World} {b db x : Nat} {f : Nat → Int} {P : Ph} {D : Dk} (h : Own w b P (Lg.new (fun _ => 0) 0 D) X) (hdb : P.db = db) (hn : D.n = 16) (hm : D.m = 0) : DkRel w b db x f 0 0 X := ⟨P, _, h, hdb, hn, hm, fun i hi => by omega⟩
theorem writes_is {b m : Nat} {D : Dk} {w : World} (h : Rep w b D) (hm : D.m = m) : Calls Try.prog 25 #[.pointer (some ⟨b, 0, none⟩)] w fun e w' => ∃ g, e = .returned (.slice (some ⟨g, 0, none⟩) m m) ∧ Below w.heap.size w w' :=
  (writes_any b D w h).mono fun e w' ⟨g, he, _, _, _, hb⟩ => ⟨g, by rw [he, hm], hb⟩
namespace busDisk
set_option maxHeartbeats 8000000 in
set_option maxRecDepth 20000 in
theorem walk_short (a : Option Addr) (l cap : Nat) (f : Nat → Int) (s fr to_ sp : Int) (w : World) (hr : RdW w a l f) (hl : l ≤ 256) (s0 : -9223372036854775808 ≤ s) (s1 : s ≤ 9223372036854775807) (r0 : -9223372036854775808 ≤ fr) (r1 : fr ≤ 9223372036854775807) (t0 : -9223372036854775808 ≤ to_) (t1 : to_ ≤ 9223372036854775807) (p0 : -9223372036854775808 ≤ sp) (p1 : sp ≤ 9223372036854775807) : Calls Try.prog 6 #[.slice a l cap, .int .i64 s, .int .i64 fr, .int .i64 to_, .int .i64 sp] w fun e w' => e = .returned (.bool true) ∧ Below w.heap.size w w' := by
  have HR : Hid (RdW w a l f) := hr
  clear hr
  obtain ⟨sn, hsn⟩ := Int.eq_ofNat_of_zero_le (pickI_bd s 16 (by decide)).1
  obtain ⟨xn, hxn⟩ := Int.eq_ofNat_of_zero_le (pickI_bd fr 261889 (by decide)).1
  obtain ⟨yn, hyn⟩ := Int.eq_ofNat_of_zero_le (pickI_bd to_ 261889 (by decide)).1
  have hs16 : sn < 16 := by have := (pickI_bd s 16 (by decide)).2; omega
  have hx16 : xn < 261889 := by have := (pickI_bd fr 261889 (by decide)).2; omega
  have hy16 : yn < 261889 := by have := (pickI_bd to_ 261889 (by decide)).2; omega
  have h256 : ¬ (256 : Int) < (l : Int) := by omega
  go_enter Try.func6, Try.ntmps6
  go_wp2_with (first
    | (go_at_call 7; refine (shown_any _).mono ?_; rintro e w0 ⟨rfl, hs⟩; have HS : Hid (Below w.heap.size w w0) := hs; clear hs)
    | (go_at_call 15; refine (new_some 16 _ (by omega) (by omega)).mono ?_; rintro e w1 ⟨db, D, rfl, hR, hn, hm, hS, hF, hfr, hb1⟩; have HD : Hid (Rep w1 db D ∧ D.fresh db w.heap.size ∧ Below w.heap.size w w1 ∧ D.n = 16 ∧ D.m = 0) := ⟨hR, fun x hx => Nat.le_trans HS.out.size (hfr x hx), HS.out.trans (hb1.mono HS.out.size), hn, hm⟩; clear hR hn hm hS hF hfr hb1 HS)
    | (go_at_call 16; refine (new_bus none 0 _ db (fun _ => 0) D _ HD.out.1 (by decide) (none_rd3 _ _)).mono ?_; rintro e w2 ⟨b, P, rfl, hB, hdb, hD, hall, hb2⟩; have HB : Hid (DkRel w b db (xn * 4) f 0 0 w2) := DkRel.begin (Own.begin HD.out.2.1 HD.out.2.2.1 (Below.refl _ w1) hB hall hb2) hdb HD.out.2.2.2.1 HD.out.2.2.2.2; clear hB hdb hD hall hb2 HD)
    | (go_at_call 20; refine (pick_any _ _ _ (by assumption) (by assumption) (by decide) (by decide)).mono ?_; rintro e wz ⟨rfl, hw⟩; obtain rfl := hw.symm))
  go_loopw [19] (fun i X => ∃ k : Nat, k ≤ l ∧ i = .int .i64 k ∧ DkRel w b db (xn * 4) f k 0 X) (fun i _ => l - (intOf i).toNat)
  case atStart => exact ⟨0, Nat.zero_le _, rfl, HB.out⟩
  case round =>
    obtain ⟨k, hk, rfl, hM⟩ := hrel
    have HM : Hid (DkRel w b db (xn * 4) f k 0 wr) := hM
    clear hM HB
    by_cases hlt : k < l
    · obtain ⟨g, off, rfl, hc, f0, f1⟩ := HR.out.at (k := k) (by omega)
      have hgl := World.block_lt_of_cell? _ _ hc
      simp only [] at hgl
      have hc' : wr.cell? ⟨g, off + k, none⟩ = some (.int .u32 (f k)) := by
        obtain ⟨P, L, hO, _⟩ := HM.out.ex
        exact (World.cell?_of_block (hO.below.block g hgl)).trans hc
      have j0 : (0 : Int) ≤ (k : Int) := by omega
      have j1 : (k : Int) < (l : Int) := by omega
      clear hc hgl
      go_wp2_with fail
      refine (poke_rel HM.out (by omega) (by omega) (by omega)).mono ?_; rintro e v4 ⟨rfl, hM1⟩; have HM1 : Hid (DkRel w b db (xn * 4) f (k + 1) 0 v4) := hM1; clear hM1 HM
      go_wp2_with fail
      go_roundw
      case rel => exact ⟨k + 1, by omega, by go_num, HM1.out⟩
      case measure => simp [intOf]; omega
    · obtain rfl : k = l := by omega
      have hq0 := pickI_bd sp 6 (by decide)
      have hq : pickI sp 6 = 0 ∨ pickI sp 6 = 1 ∨ pickI sp 6 = 2 ∨ pickI sp 6 = 3 ∨ pickI sp 6 = 4 ∨ pickI sp 6 = 5 := by omega
      clear hq0
      rcases hq with hq | hq | hq | hq | hq | hq
      · go_wp2_with (first
          | (go_at_call 20; refine (pick_any _ _ _ (by assumption) (by assumption) (by decide) (by decide)).mono ?_; rintro e wz ⟨rfl, hw⟩; obtain rfl := hw.symm))
        refine (command_write HM.out sn (xn * 4) hs16 (by omega) (by omega) (by decide)).mono ?_
        rintro e v5 ⟨rfl, P5, L5, hO5, hdb5, hn5, hm5, hf5, hS5⟩
        have H5 : Hid (Own w b P5 L5 v5 ∧ P5.db = db ∧ L5.n = 16 ∧ L5.m = 1 ∧ Fours L5.M (xn * 4) f k ∧ L5.S sn = memF L5.M (xn * 4)) := ⟨hO5, hdb5, hn5, hm5, hf5, hS5⟩
        clear hO5 hdb5 hn5 hm5 hf5 hS5 HM
        go_wp2_with fail
        refine (command_read H5.out.1 H5.out.2.2.1 sn (yn * 4) hs16 (by omega) (by omega)).mono ?_
        rintro e v6 ⟨rfl, P6, L6, hO6, hdb6, hn6, hm6, hS6, hM6⟩
        have H6 : Hid (Own w b P6 L6 v6 ∧ P6.db = db ∧ L6.n = 16 ∧ L6.m = 1 ∧ Fours L6.M (yn * 4) f k ∧ ∀ i, i < k → ∀ j, j < 4 → L6.S sn (4 * i + j) = byteOf (f i) j) := by
          refine ⟨hO6, hdb6.trans H5.out.2.1, hn6, hm6.trans H5.out.2.2.2.1, ?_, fun i hi j hj => ?_⟩
          · rw [hM6, H5.out.2.2.2.2.2]; exact H5.out.2.2.2.2.1.read hl
          · rw [hS6, H5.out.2.2.2.2.2]
            have e := H5.out.2.2.2.2.1 i hi j hj
            unfold memF
            rw [show xn * 4 + (4 * i + j) = (((xn * 4 + 4 * i : Nat) : Int)).toNat + j by omega]
            exact e
        clear hO6 hdb6 hn6 hm6 hS6 hM6 H5
        have HD6 : Hid (Rep v6 db P6.D ∧ sn < P6.D.n ∧ P6.D.m = 1) := by
          refine ⟨?_, ?_, ?_⟩
          · rw [← H6.out.2.1]; exact H6.out.1.bus.dsk
          · rw [H6.out.1.bus.dn, H6.out.2.2.1]; exact hs16
          · rw [H6.out.1.bus.dm, H6.out.2.2.2.1]
        go_wp2_with fail
        refine (read_good db P6.D sn _ HD6.out.1 HD6.out.2.1).mono ?_
        rintro e v7 ⟨g7, rfl, hg7, hrow7, hroom7, hlt7, hb7⟩
        have H7 : Hid (Own w b P6 L6 v7 ∧ Fours L6.M (yn * 4) f k ∧ (∀ i, i < k → ∀ j, j < 4 → L6.S sn (4 * i + j) = byteOf (f i) j) ∧ rowAt v7 g7 = some (sec (L6.S sn)) ∧ Rep v7 db P6.D ∧ P6.D.m = 1) := ⟨H6.out.1.next hb7, H6.out.2.2.2.2.1, H6.out.2.2.2.2.2, by rw [← H6.out.1.bus.dS]; exact hrow7, HD6.out.1.below hb7, HD6.out.2.2⟩
        clear hg7 hrow7 hroom7 hlt7 hb7 H6 HD6
        go_wp2_with (go_at_call 25; refine (writes_is H7.out.2.2.2.2.1 H7.out.2.2.2.2.2).mono ?_; rintro e v8 ⟨g8, rfl, hb8⟩; have H8 : Hid (Own w b P6 L6 v8 ∧ Fours L6.M (yn * 4) f k ∧ (∀ i, i < k → ∀ j, j < 4 → L6.S sn (4 * i + j) = byteOf (f i) j) ∧ rowAt v8 g7 = some (sec (L6.S sn))) := ⟨H7.out.1.next hb8, H7.out.2.1, H7.out.2.2.1, (rowAt_same (hb8.block g7 (rowAt_lt H7.out.2.2.2.1))).trans H7.out.2.2.2.1⟩; clear hb8 H7)
        go_loopw [24] (fun i X => ∃ m : Nat, m ≤ k ∧ i = .int .i64 m ∧ Own w b P6 L6 X ∧ rowAt X g7 = some (sec (L6.S sn))) (fun i _ => k - (intOf i).toNat)
        case atStart => exact ⟨0, Nat.zero_le _, rfl, H8.out.1, H8.out.2.2.2⟩
        case round =>
          obtain ⟨m, hm, rfl, hO9, hr9⟩ := hrel
          have H9 : Hid (Own w b P6 L6 wr ∧ rowAt wr g7 = some (sec (L6.S sn))) := ⟨hO9, hr9⟩
          clear hO9 hr9
          by_cases hmk : m < k
          · obtain ⟨g, off, rfl, hc, f0, f1⟩ := HR.out.at (k := m) hmk
            have HC : Hid (w.cell? ⟨g, off + m, none⟩ = some (.int .u32 (f m))) := hc
            have j0 : (0 : Int) ≤ (m : Int) := by omega
            have j1 : (m : Int) < (k : Int) := by omega
            clear hc
            go_wp2_with fail
            refine (word_rel H9.out.1 H8.out.2.1 hmk (by omega) (by omega) f0 f1 (by omega)).mono ?_
            rintro e v10 ⟨rfl, hO10, hb10⟩
            have H10 : Hid (Own w b P6 L6 v10 ∧ rowAt v10 g7 = some (sec (L6.S sn))) := ⟨hO10, (rowAt_same (hb10.block g7 (rowAt_lt H9.out.2))).trans H9.out.2⟩
            have hcw : v10.cell? ⟨g, off + m, none⟩ = some (.int .u32 (f m)) := (World.cell?_of_block (hO10.below.block g (World.block_lt_of_cell? _ _ HC.out))).trans HC.out
            have hcs : ∀ j, j < 4 → v10.cell? ⟨g7, 4 * m + j, none⟩ = some (.int .u8 (byteOf (f m) j)) := fun j hj => by
              rw [rowAt_cell H10.out.2, sec_at _ (by omega), H8.out.2.2.1 m hmk j hj]
            clear hO10 hb10 H9
            obtain ⟨q, hq4⟩ : ∃ q : Nat, 4 * m = q := ⟨_, rfl⟩
            rw [hq4] at hcs
            have hqi : 4 * (m : Int) = (q : Int) := by omega
            have l0 := hcs 0 (by omega)
            have l1 := hcs 1 (by omega)
            have l2 := hcs 2 (by omega)
            have l3 := hcs 3 (by omega)
            simp only [Nat.add_zero] at l0
            have l2' := l2
            have l3' := l3
            rw [show q + 2 = ((q : Int) + 2).toNat by omega] at l2'
            rw [show q + 3 = ((q : Int) + 3).toNat by omega] at l3'
            clear hcs hq4
            have b0 := byteOf_bd (f m) 0
            have b1 := byteOf_bd (f m) 1
            have b2 := byteOf_bd (f m) 2
            have b3 := byteOf_bd (f m) 3
            have k0 : (0 : Int) ≤ (q : Int) := by omega
            have k1 : (q : Int) < 1024 := by omega
            have k2 : (0 : Int) ≤ (q : Int) + 1 := by omega
            have k3 : (q : Int) + 1 < 1024 := by omega
            have k4 : (0 : Int) ≤ (q : Int) + 2 := by omega
            have k5 : (q : Int) + 2 < 1024 := by omega
            have k6 : (0 : Int) ≤ (q : Int) + 3 := by omega
            have k7 : (q : Int) + 3 < 1024 := by omega
            have hor := or_test (f m) f0 f1
            go_wp2_with fail
            go_quiet (fail)
            go_wp2_with fail
            go_roundw
            case rel => exact ⟨m + 1, by omega, by go_num, H10.out.1.next (drewNB _ _), H10.out.2⟩
            case measure => simp [intOf]; omega
          · go_wp2_with fail
            go_ret
            exact ⟨rfl, H9.out.1.below⟩
      · go_wp2_with (first
          | (go_at_call 20; refine (pick_any _ _ _ (by assumption) (by assumption) (by decide) (by decide)).mono ?_; rintro e wz ⟨rfl, hw⟩; obtain rfl := hw.symm)
          | (go_at_call 24; refine (command_no HM.out _ _ _ (by omega) (by omega) (by omega) (by omega) (by omega) (by omega) (by omega)).mono ?_; rintro e v5 ⟨rfl, hD5, hb5⟩; have H5 : Hid ((∃ D, Rep v5 db D ∧ D.m = 0) ∧ Below w.heap.size w v5) := ⟨hD5, hb5⟩; clear hD5 hb5 HM)
          | (go_at_call 25; refine (writes_is H5.out.1.choose_spec.1 H5.out.1.choose_spec.2).mono ?_; rintro e v6 ⟨g6, rfl, hb6⟩; have H6 : Hid (Below w.heap.size w v6) := H5.out.2.trans (hb6.mono H5.out.2.size); clear hb6))
        go_ret
        exact ⟨rfl, H6.out⟩
      · go_wp2_with (first
          | (go_at_call 20; refine (pick_any _ _ _ (by assumption) (by assumption) (by decide) (by decide)).mono ?_; rintro e wz ⟨rfl, hw⟩; obtain rfl := hw.symm)
          | (go_at_call 24; refine (command_no HM.out _ _ _ (by omega) (by omega) (by omega) (by omega) (by omega) (by omega) (by omega)).mono ?_; rintro e v5 ⟨rfl, hD5, hb5⟩; have H5 : Hid ((∃ D, Rep v5 db D ∧ D.m = 0) ∧ Below w.heap.size w v5) := ⟨hD5, hb5⟩; clear hD5 hb5 HM)
          | (go_at_call 25; refine (writes_is H5.out.1.choose_spec.1 H5.out.1.choose_spec.2).mono ?_; rintro e v6 ⟨g6, rfl, hb6⟩; have H6 : Hid (Below w.heap.size w v6) := H5.out.2.trans (hb6.mono H5.out.2.size); clear hb6))
        go_ret
        exact ⟨rfl, H6.out⟩
      · go_wp2_with (first
          | (go_at_call 20; refine (pick_any _ _ _ (by assumption) (by assumption) (by decide) (by decide)).mono ?_; rintro e wz ⟨rfl, hw⟩; obtain rfl := hw.symm)
          | (go_at_call 24; refine (command_no HM.out _ _ _ (by omega) (by omega) (by omega) (by omega) (by omega) (by omega) (by omega)).mono ?_; rintro e v5 ⟨rfl, hD5, hb5⟩; have H5 : Hid ((∃ D, Rep v5 db D ∧ D.m = 0) ∧ Below w.heap.size w v5) := ⟨hD5, hb5⟩; clear hD5 hb5 HM)
          | (go_at_call 25; refine (writes_is H5.out.1.choose_spec.1 H5.out.1.choose_spec.2).mono ?_; rintro e v6 ⟨g6, rfl, hb6⟩; have H6 : Hid (Below w.heap.size w v6) := H5.out.2.trans (hb6.mono H5.out.2.size); clear hb6))
        go_ret
        exact ⟨rfl, H6.out⟩
      · go_wp2_with (first
          | (go_at_call 20; refine (pick_any _ _ _ (by assumption) (by assumption) (by decide) (by decide)).mono ?_; rintro e wz ⟨rfl, hw⟩; obtain rfl := hw.symm)
          | (go_at_call 24; refine (command_no HM.out _ _ _ (by omega) (by omega) (by omega) (by omega) (by omega) (by omega) (by omega)).mono ?_; rintro e v5 ⟨rfl, hD5, hb5⟩; have H5 : Hid ((∃ D, Rep v5 db D ∧ D.m = 0) ∧ Below w.heap.size w v5) := ⟨hD5, hb5⟩; clear hD5 hb5 HM)
          | (go_at_call 25; refine (writes_is H5.out.1.choose_spec.1 H5.out.1.choose_spec.2).mono ?_; rintro e v6 ⟨g6, rfl, hb6⟩; have H6 : Hid (Below w.heap.size w v6) := H5.out.2.trans (hb6.mono H5.out.2.size); clear hb6))
        go_ret
        exact ⟨rfl, H6.out⟩
      · go_wp2_with (first
          | (go_at_call 20; refine (pick_any _ _ _ (by assumption) (by assumption) (by decide) (by decide)).mono ?_; rintro e wz ⟨rfl, hw⟩; obtain rfl := hw.symm)
          | (go_at_call 24; refine (command_no HM.out _ _ _ (by omega) (by omega) (by omega) (by omega) (by omega) (by omega) (by omega)).mono ?_; rintro e v5 ⟨rfl, hD5, hb5⟩; have H5 : Hid ((∃ D, Rep v5 db D ∧ D.m = 0) ∧ Below w.heap.size w v5) := ⟨hD5, hb5⟩; clear hD5 hb5 HM)
          | (go_at_call 25; refine (writes_is H5.out.1.choose_spec.1 H5.out.1.choose_spec.2).mono ?_; rintro e v6 ⟨g6, rfl, hb6⟩; have H6 : Hid (Below w.heap.size w v6) := H5.out.2.trans (hb6.mono H5.out.2.size); clear hb6))
        go_ret
        exact ⟨rfl, H6.out⟩
end busDisk
end Go.Proofs.Ytbkkjnafnckleaa
