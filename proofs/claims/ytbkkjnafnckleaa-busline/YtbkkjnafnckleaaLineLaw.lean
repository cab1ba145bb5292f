/-
  The walk of the law on the line.
-/
import Derived.Test.YtbkkjnafnckleaaLineW
import Derived.Deep.QuietTactic
import Derived.BigQuiet
namespace Go.Proofs.Ytbkkjnafnckleaa
open Go.ChangeShapes Go.WideShapes Go.ChangeAt Go.RowKit
attribute [local go_sem ↓] loadSec_seal storeSec_seal eqlSec_seal zeroSec
attribute [local go_sem] loadSec_run storeSec_run rowAt_at rowAt_old rowAt_drew rowAt_drewN roomSec_new roomAt_old roomAt_drew roomAt_drewN putSec_new putRow_past rowSec_put size_put putRow_drew putRow_drewN alloc_drewN setCell_drewN sec_size

set_option linter.unusedVariables false

theorem none_rd2 (w : World) (f : Nat → Int) : RdW w none 0 f := ⟨by decide, .inl rfl⟩
theorem no_none (x : Nat) (h : inB none x) : False := by
  obtain ⟨p, hp, _⟩ := h
  cases hp
theorem LH.begin {w X : World} {b : Nat} {P : Ph} {D : Dk} (h : Own w b P (Lg.new (fun _ => 0) 0 D) X) : LH w b X [] [] 0 none 0 none 0 :=
  ⟨⟨P, _, ⟨h, ⟨.inl ⟨rfl, rfl, rfl⟩, fun x hx => by cases hx⟩, ⟨.inl ⟨rfl, rfl, rfl⟩, fun x hx => by cases hx⟩, fun x hx => (no_none x hx).elim, fun x hx => (no_none x hx).elim⟩, rfl, rfl⟩, Nat.le_refl _, by decide, by decide⟩
theorem drop_at {F : List Int} {p : Nat} (h : p < F.length) : F.drop p = F.getD p 0 :: F.drop (p + 1) := by
  rw [List.drop_eq_getElem_cons h]; simp [List.getD, List.getElem?_eq_getElem h]
theorem SRow.cellAt {w : World} {a : Option Addr} {c : Nat} {f : List Int} (h : SRow w a c f) {p : Nat} (hp : p < f.length) : ∃ g off, a = some ⟨g, off, none⟩ ∧ w.cell? ⟨g, off + p, none⟩ = some (.int .u8 (f.getD p 0)) ∧ 0 ≤ f.getD p 0 ∧ f.getD p 0 ≤ 255 := by
  rcases h.row with ⟨_, rfl, _⟩ | ⟨g, off, cur, rfl, hg, h1, h2, h3⟩
  · simp at hp
  · refine ⟨g, off, rfl, (cell_of_row w g _ cur 5 (0, 0) hg).trans (h3 p hp), h.byte _ ?_⟩
    simp [List.getD, List.getElem?_eq_getElem hp]
theorem waiting_is (b : Nat) (P : Ph) (L : Lg) (n : Nat) (w : World) (h : Bus w b P L) (hn : L.I.length = n) : Calls Try.prog 21 #[.pointer (some ⟨b, 0, none⟩)] w fun e w' => e = .returned (.int .i64 n) ∧ w' = w := hn ▸ waiting_any b P L w h
theorem out_is (b : Nat) (P : Ph) (L : Lg) (U : List Int) (w : World) (h : Bus w b P L) (hn : L.O = U) : Calls Try.prog 22 #[.pointer (some ⟨b, 0, none⟩)] w fun e w' => e = .returned (.string (strO U)) ∧ w' = w := hn ▸ out_any b P L w h
theorem pick_is (c : Int) (n N : Nat) (w : World) (c0 : -9223372036854775808 ≤ c) (c1 : c ≤ 9223372036854775807) (n0 : 0 < (n : Int)) (n1 : (n : Int) ≤ 9223372036854775807) (hN : pickI c n = N) : Calls Try.prog 20 #[.int .i64 c, .int .i64 n] w fun e w' => e = .returned (.int .i64 N) ∧ w' = w := hN ▸ pick_any c n w c0 c1 n0 n1
theorem feed_is {w : World} {b : Nat} {P : Ph} {L : Lg} {X : World} {F U : List Int} {fa : Option Addr} {fc : Nat} {pa : Option Addr} {pc p : Nat} (h : LR w b P L X F U fa fc pa pc) (hI : L.I = F.drop p) (hp : p ≤ F.length) (s : ByteArray) (hf : s.size + (F.length - p) ≤ 65536) : Calls Try.prog 19 #[.pointer (some ⟨b, 0, none⟩), .string s] X fun e Y => e = .returned (.int .i64 0) ∧ ∃ P' L', LR w b P' L' Y F U fa fc pa pc ∧ L'.I = (F ++ bytesL s).drop p ∧ L'.O = L.O :=
  (feed_ok b P L s X h.own.bus (by rw [hI, List.length_drop]; exact hf)).mono fun e Y ⟨he, P', hS⟩ => ⟨he, P', _, h.step hS, by show L.I ++ bytesL s = _; rw [hI, List.drop_append_of_le_length hp], rfl⟩
/-- What a put-out leaves. -/
theorem put_is {w : World} {b : Nat} {P : Ph} {L : Lg} {X : World} {F U : List Int} {fa : Option Addr} {fc : Nat} {pa : Option Addr} {pc : Nat} (h : LR w b P L X F U fa fc pa pc) (hO : L.O = U) (x : Int) (x0 : 0 ≤ x) (x1 : x ≤ 255) : Calls Try.prog 17 #[.pointer (some ⟨b, 0, none⟩), .agg #[.int .i64 3, .int .u32 4294967236, .int .u32 (x + 256)]] X fun e Y => e = .returned (.tuple #[.int .u32 0, .int .i64 0]) ∧ ∃ P' L', LR w b P' L' Y F U fa fc pa pc ∧ L'.I = L.I ∧ L'.O = if U.length < 65536 then U ++ [x] else U :=
  (do_is b P L 3 4294967236 (x + 256) X h.own.bus (step_out L _) (by decide) (by decide) (by omega) (by omega)).mono fun e Y ⟨he, P', hS⟩ => ⟨he, P', _, h.step hS, by split <;> rfl, by
    rw [← hO]
    split
    · show L.O ++ [(x + 256) % 256] = _
      rw [show (x + 256) % 256 = x by omega]
    · rfl⟩
theorem take_is {w : World} {b : Nat} {P : Ph} {L : Lg} {X : World} {F U : List Int} {fa : Option Addr} {fc : Nat} {pa : Option Addr} {pc p : Nat} (h : LR w b P L X F U fa fc pa pc) (hI : L.I = F.drop p) (hp : p < F.length) : Calls Try.prog 17 #[.pointer (some ⟨b, 0, none⟩), .agg #[.int .i64 1, .int .u32 4294967236, .int .u32 0]] X fun e Y => e = .returned (.tuple #[.int .u32 (F.getD p 0), .int .i64 0]) ∧ ∃ P' L', LR w b P' L' Y F U fa fc pa pc ∧ L'.I = F.drop (p + 1) ∧ L'.O = L.O :=
  (do_is b P L 1 4294967236 0 X h.own.bus (step_in_some L _ _ _ (hI.trans (drop_at hp))) (by decide) (by decide) (by decide) (by decide)).mono fun e Y ⟨he, P', hS⟩ => ⟨he, P', _, h.step hS, rfl, rfl⟩
theorem wait_is {w : World} {b : Nat} {P : Ph} {L : Lg} {X : World} {F U : List Int} {fa : Option Addr} {fc : Nat} {pa : Option Addr} {pc p : Nat} (h : LR w b P L X F U fa fc pa pc) (hI : L.I = F.drop p) (hp : F.length ≤ p) : Calls Try.prog 17 #[.pointer (some ⟨b, 0, none⟩), .agg #[.int .i64 1, .int .u32 4294967236, .int .u32 0]] X fun e Y => e = .returned (.tuple #[.int .u32 0, .int .i64 2]) ∧ ∃ P' L', LR w b P' L' Y F U fa fc pa pc ∧ L'.I = F.drop p ∧ L'.O = L.O :=
  (do_is b P L 1 4294967236 0 X h.own.bus (step_in_none L _ (hI.trans (List.drop_eq_nil_of_le hp))) (by decide) (by decide) (by decide) (by decide)).mono fun e Y ⟨he, P', hS⟩ => ⟨he, P', _, h.step hS, hI, rfl⟩
theorem src_byte' (w : World) (x : Int) (t : TypeId) : Src Try.prog 1 35 (.slice (some ⟨w.heap.size, 0, none⟩) 1 1) [x].length (bcells [x]) (w.alloc (.cells #[.int .u8 x] t)) := src_byte w x t _ rfl
namespace busLine
set_option maxHeartbeats 8000000 in
set_option maxRecDepth 20000 in
theorem walk (ta : Option Addr) (tl tc : Nat) (tf : Nat → ByteArray) (na : Option Addr) (nl nc : Nat) (nf : Nat → Int) (w : World) (ht : RdS w ta tl tf) (hn : RdI w na nl nf) : Calls Try.prog 5 #[.slice ta tl tc, .slice na nl nc] w fun e w' => e = .returned (.bool true) ∧ Below w.heap.size w w' := by
  have htl := ht.1
  have hnl := hn.1
  unfold maxLen at hnl
  have HT : Hid (RdS w ta tl tf) := ht
  have HN : Hid (RdI w na nl nf) := hn
  clear ht hn
  go_enter Try.func5, Try.ntmps5
  go_wp2_with (first
    | (go_at_call 7; refine (shown_any _).mono ?_; rintro e w0 ⟨rfl, hs⟩; have HS : Hid (Below w.heap.size w w0) := hs; clear hs)
    | (go_at_call 15; refine (new_some 8 _ (by omega) (by omega)).mono ?_; rintro e w1 ⟨db, D, rfl, hR, hn, hm, hS, hF, hfr, hb1⟩; have HD : Hid (Rep w1 db D ∧ D.fresh db w.heap.size ∧ Below w.heap.size w w1) := ⟨hR, fun x hx => Nat.le_trans HS.out.size (hfr x hx), HS.out.trans (hb1.mono HS.out.size)⟩; clear hR hn hm hS hF hfr hb1 HS)
    | (go_at_call 16; refine (new_bus none 0 _ db (fun _ => 0) D _ HD.out.1 (by decide) (none_rd2 _ _)).mono ?_; rintro e w2 ⟨b, P, rfl, hB, hdb, hD, hall, hb2⟩; have HB : Hid (LH w b w2 [] [] 0 none 0 none 0) := LH.begin (Own.begin HD.out.2.1 HD.out.2.2 (Below.refl _ w1) hB hall hb2); clear hB hdb hD hall hb2 HD))
  go_loopw [10, 11, 12, 13] (fun fed put at_ i X => ∃ (k p : Nat) (F U : List Int) (fa : Option Addr) (fc : Nat) (pa : Option Addr) (pc : Nat), k ≤ tl ∧ i = .int .i64 k ∧ p ≤ 8 * k ∧ at_ = .int .i64 p ∧ fed = .slice fa F.length fc ∧ put = .slice pa U.length pc ∧ LH w b X F U p fa fc pa pc) (fun _ _ _ i _ => tl - (intOf i).toNat)
  case atStart => exact ⟨0, 0, [], [], none, 0, none, 0, Nat.zero_le _, rfl, Nat.zero_le _, rfl, rfl, rfl, HB.out⟩
  case round =>
    obtain ⟨k, p, F, U, fa, fc, pa, pc, hk, rfl, hp, rfl, rfl, rfl, hH⟩ := hrel
    obtain ⟨P0, L, hLR, hI, hO⟩ := hH.ex
    have HL : Hid (LR w b P0 L wr F U fa fc pa pc ∧ L.I = F.drop p ∧ L.O = U) := ⟨hLR, hI, hO⟩
    have hpF := hH.le
    have hF := hH.len
    have hU := hH.ul
    have HIl : Hid (L.I.length = F.length - p) := by show L.I.length = F.length - p; rw [hI, List.length_drop]
    clear hH hLR hI hO HB
    by_cases hlt : k < tl
    · obtain ⟨g, off, hta, hc, hsz⟩ := HT.out.at hlt HL.out.1.own.below
      subst hta
      have j0 : (0 : Int) ≤ (k : Int) := by omega
      have j1 : (k : Int) < (tl : Int) := by omega
      have HSz : Hid ((tf k).size ≤ maxLen) := hsz
      unfold maxLen at hsz
      by_cases hfit : (tf k).size + (F.length - p) ≤ 65536
      · skip
        go_wp2_with fail
        refine (feed_is HL.out.1 HL.out.2.1 hpF (tf k) hfit).mono ?_
        rintro e w3 ⟨rfl, P1, L1, hK1, hK1I, hK1O⟩
        obtain ⟨fa1, fc1, w4, hr4, hS4, ht4, ha4, hl4⟩ := srow_append hK1.fed 9 35 (.string (tf k)) (bytesL (tf k)) (src_string w3 (tf k)) (bytesL_byte _) (by rw [bytesL_len]; omega)
        rw [bytesL_len] at hr4
        have HR4 : Hid _ := hr4
        obtain ⟨F1, hF1e⟩ : ∃ F1, F1 = F ++ bytesL (tf k) := ⟨_, rfl⟩
        have hF1l : F1.length = F.length + (tf k).size := by rw [hF1e, List.length_append, bytesL_len]
        have HH : Hid (LH w b w4 F1 U p fa1 fc1 pa pc) := by
          rw [hF1e]
          exact ⟨⟨P1, L1, hK1.onFed hS4 ht4 ha4 hl4, hK1I, hK1O.trans HL.out.2.2⟩, by rw [List.length_append]; omega, by rw [List.length_append, bytesL_len]; omega, hU⟩
        have hc3 := (HT.out.at hlt hK1.own.below)
        obtain ⟨g', off', e', hc3, _⟩ := hc3
        cases e'
        clear hK1 hK1I hK1O hr4 hS4 ht4 ha4 hl4 HL
        have HFl : Hid (F1.length = F.length + (tf k).size) := hF1l
        clear hF1e hF1l
        have t1 : ((tf k).size : Int) ≤ 65536 - ((F.length : Int) - (p : Int)) := by omega

        by_cases hkn : k < nl
        · obtain ⟨gn, on, hna, hcn, n0, n1⟩ := HN.out.at hkn HH.out.ex.choose_spec.choose_spec.1.own.below
          subst hna
          obtain ⟨N, hN⟩ := Int.eq_ofNat_of_zero_le (pickI_bd (nf k) 9 (by decide)).1
          have hN8 := (pickI_bd (nf k) 9 (by decide)).2
          have HNN : Hid (pickI (nf k) (9 : Nat) = (N : Int)) := hN
          have hN9 : N ≤ 8 := by omega
          have m1 : (k : Int) < (nl : Int) := by omega
          clear hN hN8
          go_wp2_with (first
            | (at_builtin; refine wpList_append_eq rfl _ _ _ _ rfl _ _ _ _ rfl rfl HR4.out ?_)
            | (go_at_call 20; refine (pick_is (nf k) 9 N _ n0 n1 (by decide) (by decide) HNN.out).mono ?_; rintro e wz ⟨rfl, hw⟩; obtain rfl := hw.symm))
          rw [← HFl.out]

          go_loopw [11, 12, 16] (fun put at_ j X => ∃ (m p : Nat) (U : List Int) (pa : Option Addr) (pc : Nat), m ≤ N ∧ j = .int .i64 m ∧ p ≤ 8 * k + m ∧ at_ = .int .i64 p ∧ put = .slice pa U.length pc ∧ LH w b X F1 U p fa1 fc1 pa pc) (fun _ _ j _ => N - (intOf j).toNat)
          case atStart => exact ⟨0, p, U, pa, pc, Nat.zero_le _, rfl, by omega, rfl, rfl, HH.out⟩
          case round =>
            obtain ⟨m, q, V, va, vc, hm, rfl, hq, rfl, rfl, hH⟩ := hrel
            obtain ⟨Q0, K, hLR, hI, hO⟩ := hH.ex
            have HK : Hid (LR w b Q0 K wr F1 V fa1 fc1 va vc ∧ K.I = F1.drop q ∧ K.O = V) := ⟨hLR, hI, hO⟩
            have hqF := hH.le
            have hF1 := hH.len
            have hV := hH.ul
            clear hH hLR hI hO HH
            by_cases hmN : m < N
            · have i1 : (m : Int) < (N : Int) := by omega
              by_cases hqe : q < F1.length
              · have e1 : ((q : Int) == (F1.length : Int)) = false := by simp; omega
                have i2 : (0 : Int) ≤ (q : Int) := by omega
                have i3 : (q : Int) < (F1.length : Int) := by omega
                go_wp2_with fail
                refine (take_is HK.out.1 HK.out.2.1 hqe).mono ?_
                rintro e x1 ⟨rfl, Q1, K1, hK1, hK1I, hK1O⟩
                obtain ⟨gf, of, rfl, hcf, b0, b1⟩ := hK1.fed.cellAt hqe
                have HK1 : Hid (LR w b Q1 K1 x1 F1 V (some ⟨gf, of, none⟩) fc1 va vc ∧ K1.I = F1.drop (q + 1) ∧ K1.O = V) := ⟨hK1, hK1I, hK1O.trans HK.out.2.2⟩
                clear hK1 hK1I hK1O HK
                generalize F1.getD q 0 = x at *
                go_wp2_with fail
                refine (put_is HK1.out.1 HK1.out.2.2 x b0 b1).mono ?_
                rintro e x2 ⟨rfl, Q2, K2, hK2, hK2I, hK2O⟩
                have HK2 : Hid (LR w b Q2 K2 x2 F1 V (some ⟨gf, of, none⟩) fc1 va vc ∧ K2.I = F1.drop (q + 1) ∧ K2.O = if V.length < 65536 then V ++ [x] else V) := ⟨hK2, hK2I.trans HK1.out.2.1, hK2O⟩
                clear hK2 hK2I hK2O HK1 hcf
                by_cases hV1 : V.length < 65536
                · have hV2 : (V.length : Int) < 65536 := by omega
                  have hbb : Below x2.heap.size x2 (x2.alloc (.cells #[.int .u8 x] 5)) := (Below.refl _ x2).alloc (Nat.le_refl _) _
                  obtain ⟨va', vc', x3, hr3, hS3, ht3, ha3, hl3⟩ := srow_append (HK2.out.1.next hbb).put 35 35 _ [x] (src_byte' x2 x 5) (by intro y hy; simp at hy; subst hy; exact ⟨b0, b1⟩) (by simp; omega)
                  have HR3 : Hid _ := hr3
                  have HH3 : Hid (LH w b x3 F1 (V ++ [x]) (q + 1) (some ⟨gf, of, none⟩) fc1 va' vc') := ⟨⟨Q2, K2, (HK2.out.1.next hbb).onPut hS3 ht3 ha3 hl3, HK2.out.2.1, HK2.out.2.2.trans (if_pos hV1)⟩, by omega, by omega, by simp; omega⟩
                  clear hr3 hS3 ht3 ha3 hl3 HK2 hbb
                  go_wp2_with (at_builtin; refine wpList_append_eq rfl _ _ _ _ rfl _ _ _ _ rfl rfl HR3.out ?_)
                  go_roundw
                  case rel => exact ⟨m + 1, q + 1, V ++ [x], va', vc', by omega, by go_num, by omega, by go_num, by simp, HH3.out⟩
                  case measure => simp [intOf]; omega
                · have hV2 : (65536 : Int) ≤ (V.length : Int) := by omega
                  have HH3 : Hid (LH w b x2 F1 V (q + 1) (some ⟨gf, of, none⟩) fc1 va vc) := ⟨⟨Q2, K2, HK2.out.1, HK2.out.2.1, HK2.out.2.2.trans (if_neg hV1)⟩, by omega, by omega, hV⟩
                  have hV4 : decide ((V.length : Int) < 65536) = false := by simp; omega
                  clear HK2 hV1 hV
                  go_wp2_with fail
                  go_roundw
                  case rel => exact ⟨m + 1, q + 1, V, va, vc, by omega, by go_num, by omega, by go_num, rfl, HH3.out⟩
                  case measure => simp [intOf]; omega
              · have e1 : ((q : Int) == (F1.length : Int)) = true := by simp; omega
                go_wp2_with fail
                refine (wait_is HK.out.1 HK.out.2.1 (by omega)).mono ?_
                rintro e x1 ⟨rfl, Q1, K1, hK1, hK1I, hK1O⟩
                have HK1 : Hid (LR w b Q1 K1 x1 F1 V fa1 fc1 va vc ∧ K1.I = F1.drop q ∧ K1.O = V) := ⟨hK1, hK1I, hK1O.trans HK.out.2.2⟩
                clear hK1 hK1I hK1O HK
                go_wp2_with (go_at_call 21; refine (waiting_is b Q1 K1 0 _ HK1.out.1.own.bus (by rw [HK1.out.2.1, List.length_drop]; omega)).mono ?_; rintro e x2 ⟨rfl, hw⟩; obtain rfl := hw.symm)
                go_roundw
                case rel => exact ⟨m + 1, q, V, va, vc, by omega, by go_num, by omega, rfl, rfl, ⟨⟨Q1, K1, HK1.out.1, HK1.out.2.1, HK1.out.2.2⟩, hqF, hF1, hV⟩⟩
                case measure => simp [intOf]; omega
            · have i1 : ¬ (m : Int) < (N : Int) := by omega
              go_wp2_with fail
              go_roundw
              case rel => exact ⟨k + 1, q, F1, V, fa1, fc1, va, vc, by omega, by go_num, by omega, rfl, rfl, rfl, ⟨⟨Q0, K, HK.out.1, HK.out.2.1, HK.out.2.2⟩, hqF, hF1, hV⟩⟩
              case measure => simp [intOf]; omega

        · have m1 : ¬ (k : Int) < (nl : Int) := by omega
          go_wp2_with (at_builtin; refine wpList_append_eq rfl _ _ _ _ rfl _ _ _ _ rfl rfl HR4.out ?_)
          rw [← HFl.out]

          go_loopw [11, 12, 16] (fun put at_ j X => ∃ (m p : Nat) (U : List Int) (pa : Option Addr) (pc : Nat), m ≤ 1 ∧ j = .int .i64 m ∧ p ≤ 8 * k + m ∧ at_ = .int .i64 p ∧ put = .slice pa U.length pc ∧ LH w b X F1 U p fa1 fc1 pa pc) (fun _ _ j _ => 1 - (intOf j).toNat)
          case atStart => exact ⟨0, p, U, pa, pc, Nat.zero_le _, rfl, by omega, rfl, rfl, HH.out⟩
          case round =>
            obtain ⟨m, q, V, va, vc, hm, rfl, hq, rfl, rfl, hH⟩ := hrel
            obtain ⟨Q0, K, hLR, hI, hO⟩ := hH.ex
            have HK : Hid (LR w b Q0 K wr F1 V fa1 fc1 va vc ∧ K.I = F1.drop q ∧ K.O = V) := ⟨hLR, hI, hO⟩
            have hqF := hH.le
            have hF1 := hH.len
            have hV := hH.ul
            clear hH hLR hI hO HH
            by_cases hmN : m < 1
            · have i1 : (m : Int) < 1 := by omega
              by_cases hqe : q < F1.length
              · have e1 : ((q : Int) == (F1.length : Int)) = false := by simp; omega
                have i2 : (0 : Int) ≤ (q : Int) := by omega
                have i3 : (q : Int) < (F1.length : Int) := by omega
                go_wp2_with fail
                refine (take_is HK.out.1 HK.out.2.1 hqe).mono ?_
                rintro e x1 ⟨rfl, Q1, K1, hK1, hK1I, hK1O⟩
                obtain ⟨gf, of, rfl, hcf, b0, b1⟩ := hK1.fed.cellAt hqe
                have HK1 : Hid (LR w b Q1 K1 x1 F1 V (some ⟨gf, of, none⟩) fc1 va vc ∧ K1.I = F1.drop (q + 1) ∧ K1.O = V) := ⟨hK1, hK1I, hK1O.trans HK.out.2.2⟩
                clear hK1 hK1I hK1O HK
                generalize F1.getD q 0 = x at *
                go_wp2_with fail
                refine (put_is HK1.out.1 HK1.out.2.2 x b0 b1).mono ?_
                rintro e x2 ⟨rfl, Q2, K2, hK2, hK2I, hK2O⟩
                have HK2 : Hid (LR w b Q2 K2 x2 F1 V (some ⟨gf, of, none⟩) fc1 va vc ∧ K2.I = F1.drop (q + 1) ∧ K2.O = if V.length < 65536 then V ++ [x] else V) := ⟨hK2, hK2I.trans HK1.out.2.1, hK2O⟩
                clear hK2 hK2I hK2O HK1 hcf
                by_cases hV1 : V.length < 65536
                · have hV2 : (V.length : Int) < 65536 := by omega
                  have hbb : Below x2.heap.size x2 (x2.alloc (.cells #[.int .u8 x] 5)) := (Below.refl _ x2).alloc (Nat.le_refl _) _
                  obtain ⟨va', vc', x3, hr3, hS3, ht3, ha3, hl3⟩ := srow_append (HK2.out.1.next hbb).put 35 35 _ [x] (src_byte' x2 x 5) (by intro y hy; simp at hy; subst hy; exact ⟨b0, b1⟩) (by simp; omega)
                  have HR3 : Hid _ := hr3
                  have HH3 : Hid (LH w b x3 F1 (V ++ [x]) (q + 1) (some ⟨gf, of, none⟩) fc1 va' vc') := ⟨⟨Q2, K2, (HK2.out.1.next hbb).onPut hS3 ht3 ha3 hl3, HK2.out.2.1, HK2.out.2.2.trans (if_pos hV1)⟩, by omega, by omega, by simp; omega⟩
                  clear hr3 hS3 ht3 ha3 hl3 HK2 hbb
                  go_wp2_with (at_builtin; refine wpList_append_eq rfl _ _ _ _ rfl _ _ _ _ rfl rfl HR3.out ?_)
                  go_roundw
                  case rel => exact ⟨m + 1, q + 1, V ++ [x], va', vc', by omega, by go_num, by omega, by go_num, by simp, HH3.out⟩
                  case measure => simp [intOf]; omega
                · have hV2 : (65536 : Int) ≤ (V.length : Int) := by omega
                  have HH3 : Hid (LH w b x2 F1 V (q + 1) (some ⟨gf, of, none⟩) fc1 va vc) := ⟨⟨Q2, K2, HK2.out.1, HK2.out.2.1, HK2.out.2.2.trans (if_neg hV1)⟩, by omega, by omega, hV⟩
                  have hV4 : decide ((V.length : Int) < 65536) = false := by simp; omega
                  clear HK2 hV1 hV
                  go_wp2_with fail
                  go_roundw
                  case rel => exact ⟨m + 1, q + 1, V, va, vc, by omega, by go_num, by omega, by go_num, rfl, HH3.out⟩
                  case measure => simp [intOf]; omega
              · have e1 : ((q : Int) == (F1.length : Int)) = true := by simp; omega
                go_wp2_with fail
                refine (wait_is HK.out.1 HK.out.2.1 (by omega)).mono ?_
                rintro e x1 ⟨rfl, Q1, K1, hK1, hK1I, hK1O⟩
                have HK1 : Hid (LR w b Q1 K1 x1 F1 V fa1 fc1 va vc ∧ K1.I = F1.drop q ∧ K1.O = V) := ⟨hK1, hK1I, hK1O.trans HK.out.2.2⟩
                clear hK1 hK1I hK1O HK
                go_wp2_with (go_at_call 21; refine (waiting_is b Q1 K1 0 _ HK1.out.1.own.bus (by rw [HK1.out.2.1, List.length_drop]; omega)).mono ?_; rintro e x2 ⟨rfl, hw⟩; obtain rfl := hw.symm)
                go_roundw
                case rel => exact ⟨m + 1, q, V, va, vc, by omega, by go_num, by omega, rfl, rfl, ⟨⟨Q1, K1, HK1.out.1, HK1.out.2.1, HK1.out.2.2⟩, hqF, hF1, hV⟩⟩
                case measure => simp [intOf]; omega
            · have i1 : ¬ (m : Int) < 1 := by omega
              go_wp2_with fail
              go_roundw
              case rel => exact ⟨k + 1, q, F1, V, fa1, fc1, va, vc, by omega, by go_num, by omega, rfl, rfl, rfl, ⟨⟨Q0, K, HK.out.1, HK.out.2.1, HK.out.2.2⟩, hqF, hF1, hV⟩⟩
              case measure => simp [intOf]; omega
      · skip
        go_wp2_with fail
        refine (feed_full b P0 L (tf k) _ HL.out.1.own.bus HSz.out (by rw [HIl.out]; omega)).mono ?_
        rintro e w3 ⟨rfl, hw⟩
        obtain rfl := hw.symm
        obtain ⟨F1, hF1e⟩ : ∃ F1, F1 = F := ⟨_, rfl⟩
        obtain ⟨fa1, hfa⟩ : ∃ fa1, fa1 = fa := ⟨_, rfl⟩
        obtain ⟨fc1, hfc⟩ : ∃ fc1, fc1 = fc := ⟨_, rfl⟩
        have HH : Hid (LH w b wr F1 U p fa1 fc1 pa pc) := by
          rw [hF1e, hfa, hfc]
          exact ⟨⟨P0, L, HL.out.1, HL.out.2.1, HL.out.2.2⟩, hpF, hF, hU⟩
        have hc3 := (HT.out.at hlt HL.out.1.own.below)
        obtain ⟨g', off', e', hc3, _⟩ := hc3
        cases e'
        clear HL
        have t1 : ¬ ((tf k).size : Int) ≤ 65536 - ((F.length : Int) - (p : Int)) := by omega
        subst hF1e hfa hfc

        by_cases hkn : k < nl
        · obtain ⟨gn, on, hna, hcn, n0, n1⟩ := HN.out.at hkn HH.out.ex.choose_spec.choose_spec.1.own.below
          subst hna
          obtain ⟨N, hN⟩ := Int.eq_ofNat_of_zero_le (pickI_bd (nf k) 9 (by decide)).1
          have hN8 := (pickI_bd (nf k) 9 (by decide)).2
          have HNN : Hid (pickI (nf k) (9 : Nat) = (N : Int)) := hN
          have hN9 : N ≤ 8 := by omega
          have m1 : (k : Int) < (nl : Int) := by omega
          clear hN hN8
          go_wp2_with (first
            
            | (go_at_call 20; refine (pick_is (nf k) 9 N _ n0 n1 (by decide) (by decide) HNN.out).mono ?_; rintro e wz ⟨rfl, hw⟩; obtain rfl := hw.symm))
          go_loopw [11, 12, 16] (fun put at_ j X => ∃ (m p : Nat) (U : List Int) (pa : Option Addr) (pc : Nat), m ≤ N ∧ j = .int .i64 m ∧ p ≤ 8 * k + m ∧ at_ = .int .i64 p ∧ put = .slice pa U.length pc ∧ LH w b X F1 U p fa1 fc1 pa pc) (fun _ _ j _ => N - (intOf j).toNat)
          case atStart => exact ⟨0, p, U, pa, pc, Nat.zero_le _, rfl, by omega, rfl, rfl, HH.out⟩
          case round =>
            obtain ⟨m, q, V, va, vc, hm, rfl, hq, rfl, rfl, hH⟩ := hrel
            obtain ⟨Q0, K, hLR, hI, hO⟩ := hH.ex
            have HK : Hid (LR w b Q0 K wr F1 V fa1 fc1 va vc ∧ K.I = F1.drop q ∧ K.O = V) := ⟨hLR, hI, hO⟩
            have hqF := hH.le
            have hF1 := hH.len
            have hV := hH.ul
            clear hH hLR hI hO HH
            by_cases hmN : m < N
            · have i1 : (m : Int) < (N : Int) := by omega
              by_cases hqe : q < F1.length
              · have e1 : ((q : Int) == (F1.length : Int)) = false := by simp; omega
                have i2 : (0 : Int) ≤ (q : Int) := by omega
                have i3 : (q : Int) < (F1.length : Int) := by omega
                go_wp2_with fail
                refine (take_is HK.out.1 HK.out.2.1 hqe).mono ?_
                rintro e x1 ⟨rfl, Q1, K1, hK1, hK1I, hK1O⟩
                obtain ⟨gf, of, rfl, hcf, b0, b1⟩ := hK1.fed.cellAt hqe
                have HK1 : Hid (LR w b Q1 K1 x1 F1 V (some ⟨gf, of, none⟩) fc1 va vc ∧ K1.I = F1.drop (q + 1) ∧ K1.O = V) := ⟨hK1, hK1I, hK1O.trans HK.out.2.2⟩
                clear hK1 hK1I hK1O HK
                generalize F1.getD q 0 = x at *
                go_wp2_with fail
                refine (put_is HK1.out.1 HK1.out.2.2 x b0 b1).mono ?_
                rintro e x2 ⟨rfl, Q2, K2, hK2, hK2I, hK2O⟩
                have HK2 : Hid (LR w b Q2 K2 x2 F1 V (some ⟨gf, of, none⟩) fc1 va vc ∧ K2.I = F1.drop (q + 1) ∧ K2.O = if V.length < 65536 then V ++ [x] else V) := ⟨hK2, hK2I.trans HK1.out.2.1, hK2O⟩
                clear hK2 hK2I hK2O HK1 hcf
                by_cases hV1 : V.length < 65536
                · have hV2 : (V.length : Int) < 65536 := by omega
                  have hbb : Below x2.heap.size x2 (x2.alloc (.cells #[.int .u8 x] 5)) := (Below.refl _ x2).alloc (Nat.le_refl _) _
                  obtain ⟨va', vc', x3, hr3, hS3, ht3, ha3, hl3⟩ := srow_append (HK2.out.1.next hbb).put 35 35 _ [x] (src_byte' x2 x 5) (by intro y hy; simp at hy; subst hy; exact ⟨b0, b1⟩) (by simp; omega)
                  have HR3 : Hid _ := hr3
                  have HH3 : Hid (LH w b x3 F1 (V ++ [x]) (q + 1) (some ⟨gf, of, none⟩) fc1 va' vc') := ⟨⟨Q2, K2, (HK2.out.1.next hbb).onPut hS3 ht3 ha3 hl3, HK2.out.2.1, HK2.out.2.2.trans (if_pos hV1)⟩, by omega, by omega, by simp; omega⟩
                  clear hr3 hS3 ht3 ha3 hl3 HK2 hbb
                  go_wp2_with (at_builtin; refine wpList_append_eq rfl _ _ _ _ rfl _ _ _ _ rfl rfl HR3.out ?_)
                  go_roundw
                  case rel => exact ⟨m + 1, q + 1, V ++ [x], va', vc', by omega, by go_num, by omega, by go_num, by simp, HH3.out⟩
                  case measure => simp [intOf]; omega
                · have hV2 : (65536 : Int) ≤ (V.length : Int) := by omega
                  have HH3 : Hid (LH w b x2 F1 V (q + 1) (some ⟨gf, of, none⟩) fc1 va vc) := ⟨⟨Q2, K2, HK2.out.1, HK2.out.2.1, HK2.out.2.2.trans (if_neg hV1)⟩, by omega, by omega, hV⟩
                  have hV4 : decide ((V.length : Int) < 65536) = false := by simp; omega
                  clear HK2 hV1 hV
                  go_wp2_with fail
                  go_roundw
                  case rel => exact ⟨m + 1, q + 1, V, va, vc, by omega, by go_num, by omega, by go_num, rfl, HH3.out⟩
                  case measure => simp [intOf]; omega
              · have e1 : ((q : Int) == (F1.length : Int)) = true := by simp; omega
                go_wp2_with fail
                refine (wait_is HK.out.1 HK.out.2.1 (by omega)).mono ?_
                rintro e x1 ⟨rfl, Q1, K1, hK1, hK1I, hK1O⟩
                have HK1 : Hid (LR w b Q1 K1 x1 F1 V fa1 fc1 va vc ∧ K1.I = F1.drop q ∧ K1.O = V) := ⟨hK1, hK1I, hK1O.trans HK.out.2.2⟩
                clear hK1 hK1I hK1O HK
                go_wp2_with (go_at_call 21; refine (waiting_is b Q1 K1 0 _ HK1.out.1.own.bus (by rw [HK1.out.2.1, List.length_drop]; omega)).mono ?_; rintro e x2 ⟨rfl, hw⟩; obtain rfl := hw.symm)
                go_roundw
                case rel => exact ⟨m + 1, q, V, va, vc, by omega, by go_num, by omega, rfl, rfl, ⟨⟨Q1, K1, HK1.out.1, HK1.out.2.1, HK1.out.2.2⟩, hqF, hF1, hV⟩⟩
                case measure => simp [intOf]; omega
            · have i1 : ¬ (m : Int) < (N : Int) := by omega
              go_wp2_with fail
              go_roundw
              case rel => exact ⟨k + 1, q, F1, V, fa1, fc1, va, vc, by omega, by go_num, by omega, rfl, rfl, rfl, ⟨⟨Q0, K, HK.out.1, HK.out.2.1, HK.out.2.2⟩, hqF, hF1, hV⟩⟩
              case measure => simp [intOf]; omega

        · have m1 : ¬ (k : Int) < (nl : Int) := by omega
          go_wp2_with fail
          go_loopw [11, 12, 16] (fun put at_ j X => ∃ (m p : Nat) (U : List Int) (pa : Option Addr) (pc : Nat), m ≤ 1 ∧ j = .int .i64 m ∧ p ≤ 8 * k + m ∧ at_ = .int .i64 p ∧ put = .slice pa U.length pc ∧ LH w b X F1 U p fa1 fc1 pa pc) (fun _ _ j _ => 1 - (intOf j).toNat)
          case atStart => exact ⟨0, p, U, pa, pc, Nat.zero_le _, rfl, by omega, rfl, rfl, HH.out⟩
          case round =>
            obtain ⟨m, q, V, va, vc, hm, rfl, hq, rfl, rfl, hH⟩ := hrel
            obtain ⟨Q0, K, hLR, hI, hO⟩ := hH.ex
            have HK : Hid (LR w b Q0 K wr F1 V fa1 fc1 va vc ∧ K.I = F1.drop q ∧ K.O = V) := ⟨hLR, hI, hO⟩
            have hqF := hH.le
            have hF1 := hH.len
            have hV := hH.ul
            clear hH hLR hI hO HH
            by_cases hmN : m < 1
            · have i1 : (m : Int) < 1 := by omega
              by_cases hqe : q < F1.length
              · have e1 : ((q : Int) == (F1.length : Int)) = false := by simp; omega
                have i2 : (0 : Int) ≤ (q : Int) := by omega
                have i3 : (q : Int) < (F1.length : Int) := by omega
                go_wp2_with fail
                refine (take_is HK.out.1 HK.out.2.1 hqe).mono ?_
                rintro e x1 ⟨rfl, Q1, K1, hK1, hK1I, hK1O⟩
                obtain ⟨gf, of, rfl, hcf, b0, b1⟩ := hK1.fed.cellAt hqe
                have HK1 : Hid (LR w b Q1 K1 x1 F1 V (some ⟨gf, of, none⟩) fc1 va vc ∧ K1.I = F1.drop (q + 1) ∧ K1.O = V) := ⟨hK1, hK1I, hK1O.trans HK.out.2.2⟩
                clear hK1 hK1I hK1O HK
                generalize F1.getD q 0 = x at *
                go_wp2_with fail
                refine (put_is HK1.out.1 HK1.out.2.2 x b0 b1).mono ?_
                rintro e x2 ⟨rfl, Q2, K2, hK2, hK2I, hK2O⟩
                have HK2 : Hid (LR w b Q2 K2 x2 F1 V (some ⟨gf, of, none⟩) fc1 va vc ∧ K2.I = F1.drop (q + 1) ∧ K2.O = if V.length < 65536 then V ++ [x] else V) := ⟨hK2, hK2I.trans HK1.out.2.1, hK2O⟩
                clear hK2 hK2I hK2O HK1 hcf
                by_cases hV1 : V.length < 65536
                · have hV2 : (V.length : Int) < 65536 := by omega
                  have hbb : Below x2.heap.size x2 (x2.alloc (.cells #[.int .u8 x] 5)) := (Below.refl _ x2).alloc (Nat.le_refl _) _
                  obtain ⟨va', vc', x3, hr3, hS3, ht3, ha3, hl3⟩ := srow_append (HK2.out.1.next hbb).put 35 35 _ [x] (src_byte' x2 x 5) (by intro y hy; simp at hy; subst hy; exact ⟨b0, b1⟩) (by simp; omega)
                  have HR3 : Hid _ := hr3
                  have HH3 : Hid (LH w b x3 F1 (V ++ [x]) (q + 1) (some ⟨gf, of, none⟩) fc1 va' vc') := ⟨⟨Q2, K2, (HK2.out.1.next hbb).onPut hS3 ht3 ha3 hl3, HK2.out.2.1, HK2.out.2.2.trans (if_pos hV1)⟩, by omega, by omega, by simp; omega⟩
                  clear hr3 hS3 ht3 ha3 hl3 HK2 hbb
                  go_wp2_with (at_builtin; refine wpList_append_eq rfl _ _ _ _ rfl _ _ _ _ rfl rfl HR3.out ?_)
                  go_roundw
                  case rel => exact ⟨m + 1, q + 1, V ++ [x], va', vc', by omega, by go_num, by omega, by go_num, by simp, HH3.out⟩
                  case measure => simp [intOf]; omega
                · have hV2 : (65536 : Int) ≤ (V.length : Int) := by omega
                  have HH3 : Hid (LH w b x2 F1 V (q + 1) (some ⟨gf, of, none⟩) fc1 va vc) := ⟨⟨Q2, K2, HK2.out.1, HK2.out.2.1, HK2.out.2.2.trans (if_neg hV1)⟩, by omega, by omega, hV⟩
                  have hV4 : decide ((V.length : Int) < 65536) = false := by simp; omega
                  clear HK2 hV1 hV
                  go_wp2_with fail
                  go_roundw
                  case rel => exact ⟨m + 1, q + 1, V, va, vc, by omega, by go_num, by omega, by go_num, rfl, HH3.out⟩
                  case measure => simp [intOf]; omega
              · have e1 : ((q : Int) == (F1.length : Int)) = true := by simp; omega
                go_wp2_with fail
                refine (wait_is HK.out.1 HK.out.2.1 (by omega)).mono ?_
                rintro e x1 ⟨rfl, Q1, K1, hK1, hK1I, hK1O⟩
                have HK1 : Hid (LR w b Q1 K1 x1 F1 V fa1 fc1 va vc ∧ K1.I = F1.drop q ∧ K1.O = V) := ⟨hK1, hK1I, hK1O.trans HK.out.2.2⟩
                clear hK1 hK1I hK1O HK
                go_wp2_with (go_at_call 21; refine (waiting_is b Q1 K1 0 _ HK1.out.1.own.bus (by rw [HK1.out.2.1, List.length_drop]; omega)).mono ?_; rintro e x2 ⟨rfl, hw⟩; obtain rfl := hw.symm)
                go_roundw
                case rel => exact ⟨m + 1, q, V, va, vc, by omega, by go_num, by omega, rfl, rfl, ⟨⟨Q1, K1, HK1.out.1, HK1.out.2.1, HK1.out.2.2⟩, hqF, hF1, hV⟩⟩
                case measure => simp [intOf]; omega
            · have i1 : ¬ (m : Int) < 1 := by omega
              go_wp2_with fail
              go_roundw
              case rel => exact ⟨k + 1, q, F1, V, fa1, fc1, va, vc, by omega, by go_num, by omega, rfl, rfl, rfl, ⟨⟨Q0, K, HK.out.1, HK.out.2.1, HK.out.2.2⟩, hqF, hF1, hV⟩⟩
              case measure => simp [intOf]; omega
    · have HB : Hid (Bus wr b P0 L) := HL.out.1.own.bus
      have HBe : Hid (Below w.heap.size w wr) := HL.out.1.own.below
      have HO : Hid (L.O = U) := HL.out.2.2
      have HRd : Hid (RdB wr pa U.length (fun i => U.getD i 0)) := HL.out.1.put.rd (by unfold maxLen; omega)
      have e1 : (((F.length - p : Nat) : Int) == (F.length : Int) - (p : Int)) = true := by simp; omega
      have hcv : ∀ cap n, (convert 35 9 (.slice pa U.length cap)).run Try.prog (wr.drewN n) = .ok (.string (strO U)) (wr.drewN n) := fun cap n => conv_str cap (HRd.out.below (drewNB wr n))
      have hcd : ∀ cap, (convert 35 9 (.slice pa U.length cap)).run Try.prog wr.drew = .ok (.string (strO U)) wr.drew := fun cap => conv_str cap (HRd.out.below ((Below.refl _ wr).drew))
      clear HL
      go_wp2_with fail
      go_quiet ((first | (go_at_call 21; exact Calls.quiet_of_same (waiting_is b P0 L (F.length - p) _ (HB.out.below (drewNB wr _)) HIl.out)) | (go_at_call 22; exact Calls.quiet_of_same (out_is b P0 L U _ (HB.out.below (drewNB wr _)) HO.out))))
      go_wp2
      go_ret
      exact ⟨rfl, bdrewN HBe.out _⟩
end busLine
end Go.Proofs.Ytbkkjnafnckleaa
