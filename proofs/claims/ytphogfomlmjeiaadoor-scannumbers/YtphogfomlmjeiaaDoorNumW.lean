/-
  The walk of the law ScanNumbers: it returns true.
-/
import Derived.Test.YtphogfomlmjeiaaDoorNumP
namespace Go.Proofs.YtphogfomlmjeiaaDoor
set_option linter.unusedVariables false
set_option linter.unusedSimpArgs false
open Go.ChangeShapes Go.WideShapes Go.ChangeAt Go.RowKit
attribute [local go_sem ↓] loadTk_seal storeTk_seal loadKeys_seal loadSigns_seal
attribute [local go_sem] loadTk_run storeTk_run rowAt_at rowAt_old rowAt_drew rowAt_drewN roomTk_new roomAt_old roomAt_drew roomAt_drewN putTk_new Tk.fold putRow_past rowTk_put size_put putRow_drew putRow_drewN alloc_drewN setCell_drewN Tk.at0 Tk.at1 Tk.at2 Tk.at3 Tk.size Tk.set0 Tk.set1 Tk.set2 Tk.set3 Tk.ne rowAt_set rowAt_far roomAt_far
attribute [local go_sem ↓] eqlTk_seal neqTk_seal

theorem conv_u32_i32 (n : Int) (w : World) : (convert 33 21 (.int .u32 n)).run Tryd.prog w = .ok (.int .i32 (IntKind.i32.wrap n)) w := by
  simp [convert, run_underlying Tryd.underlying33, run_underlying Tryd.underlying21, Conv.intToInt]
theorem conv_u32_i64 (n : Int) (h0 : 0 ≤ n) (h1 : n ≤ 4294967295) (w : World) : (convert 33 2 (.int .u32 n)).run Tryd.prog w = .ok (.int .i64 n) w := by
  have e : IntKind.i64.wrap n = n := by rw [IntKind.wrap_i64]; omega
  simp [convert, run_underlying Tryd.underlying33, run_underlying Tryd.underlying2, Conv.intToInt, e]
theorem conv_u64_i64 (n : Int) (h0 : 0 ≤ n) (h1 : n ≤ 2147483647) (w : World) : (convert 34 2 (.int .u64 n)).run Tryd.prog w = .ok (.int .i64 n) w := by
  have e : IntKind.i64.wrap n = n := by rw [IntKind.wrap_i64]; omega
  simp [convert, run_underlying Tryd.underlying34, run_underlying Tryd.underlying2, Conv.intToInt, e]
/-- A contract of All, of a text. -/
def AllTwo (s : ByteArray) (t : Tk) : Prop := ∀ X, Vars X → Calls Tryd.prog 8 #[.string s] X fun e w' => ∃ g c, e = .returned (.tuple #[.slice (some ⟨g, 0, none⟩) 2 c, .int .i64 0, .int .i64 0]) ∧ TkAt w' g 0 t ∧ Below X.heap.size X w'
def AllErr (s : ByteArray) (p x : Int) : Prop := ∀ X, Vars X → Calls Tryd.prog 8 #[.string s] X fun e w' => ∃ a c, e = .returned (.tuple #[.slice a 0 c, .int .i64 p, .int .i64 x]) ∧ Below X.heap.size X w'
theorem rep_snoc (i : Nat) : bs (List.replicate i 48) ++ { data := #[48] } = bs (List.replicate (i + 1) 48) := by
  rw [List.replicate_succ']; exact bs_app (List.replicate i 48) [48]
set_option maxHeartbeats 4000000 in
set_option maxRecDepth 20000 in
theorem numbers_walk (n N : Nat) (hn : n < 4294967296) (hN : N < 18446744073709551616) (z : Int) (w : World) (V : Vars w) :
    Calls Tryd.prog 5 #[.int .u32 (n : Int), .int .u64 (N : Int), .int .i64 z] w fun e w' => e = .returned (.bool true) ∧ Below w.heap.size w w' := by
  have BA := fun W => based_any n hn W
  have DA := fun W => decimals_any N hN W
  have hl1 := D_len (b := 16) n
  have hl2 := D_len (b := 10) N
  have A1 : AllTwo (bs (48 :: D 16 n) ++ { data := #[72] }) ⟨3, ⟨#[]⟩, sgnd n, 0⟩ := fun X VX => by
    obtain ⟨q, hq⟩ := all_H n hn
    have := all_two _ _ _ hq X VX
    rw [show bs (48 :: (D 16 n ++ [72])) = bs (48 :: D 16 n) ++ { data := #[72] } from (bs_app (48 :: D 16 n) [72]).symm] at this
    exact this
  have A2 : n ≤ 255 → AllTwo ({ data := #[32] } ++ bs (48 :: D 16 n) ++ { data := #[88] }) ⟨4, ⟨#[]⟩, n, 1⟩ := fun h X VX => by
    obtain ⟨q, hq⟩ := all_X n hn
    rw [if_pos h] at hq
    have := all_two _ _ _ hq X VX
    rw [show bs (32 :: 48 :: (D 16 n ++ [88])) = { data := #[32] } ++ bs (48 :: D 16 n) ++ { data := #[88] } from by
      rw [show ({ data := #[32] } : ByteArray) = bs [32] from rfl, show ({ data := #[88] } : ByteArray) = bs [88] from rfl, bs_app, bs_app]; rfl] at this
    exact this
  have A2' : ¬ n ≤ 255 → AllErr ({ data := #[32] } ++ bs (48 :: D 16 n) ++ { data := #[88] }) 1 82 := fun h X VX => by
    obtain ⟨q, hq⟩ := all_X n hn
    rw [if_neg h] at hq
    have := all_err _ _ _ hq X VX
    rw [show bs (32 :: 48 :: (D 16 n ++ [88])) = { data := #[32] } ++ bs (48 :: D 16 n) ++ { data := #[88] } from by
      rw [show ({ data := #[32] } : ByteArray) = bs [32] from rfl, show ({ data := #[88] } : ByteArray) = bs [88] from rfl, bs_app, bs_app]; rfl] at this
    exact this
  have A3 : N ≤ 2147483647 → ∀ k, k ≤ 30 → AllTwo (bs (List.replicate k 48) ++ bs (D 10 N)) ⟨3, ⟨#[]⟩, N, 0⟩ := fun h k hk X VX => by
    obtain ⟨q, hq⟩ := all_D k N (by omega) hN
    rw [if_pos h] at hq
    have := all_two _ _ _ hq X VX
    rw [← bs_app] at this
    exact this
  have A3' : ¬ N ≤ 2147483647 → ∀ k, k ≤ 30 → AllErr (bs (List.replicate k 48) ++ bs (D 10 N)) 0 82 := fun h k hk X VX => by
    obtain ⟨q, hq⟩ := all_D k N (by omega) hN
    rw [if_neg h] at hq
    have := all_err _ _ _ hq X VX
    rw [← bs_app] at this
    exact this
  have z1 : (bs (48 :: D 16 n)).size ≤ 65 := by rw [bs_size]; simp; omega
  have z2 : (bs (D 10 N)).size ≤ 64 := by rw [bs_size]; exact hl2
  have hsw := sgnd_wrap n (by omega) (by omega)
  obtain ⟨s0, s1⟩ := sgnd_range n (by omega) (by omega)
  have C1 := conv_u32_i32 (n : Int)
  rw [hsw] at C1
  have C2 := conv_i64 (sgnd n) s0 s1
  have C3 := conv_u32_i64 (n : Int) (by omega) (by omega)
  generalize bs (48 :: D 16 n) = x at *
  generalize bs (D 10 N) = y at *
  generalize sgnd n = u at *
  clear hl1 hl2 hsw
  have HA1 : Hid (AllTwo (x ++ { data := #[72] }) ⟨3, ⟨#[]⟩, u, 0⟩) := A1
  clear A1
  by_cases h255 : n ≤ 255
  · have HA2 : Hid (AllTwo ({ data := #[32] } ++ x ++ { data := #[88] }) ⟨4, ⟨#[]⟩, n, 1⟩) := A2 h255
    clear A2 A2'
    have d255 : decide ((n : Int) ≤ 255) = true := by simp; omega
    have d255' : decide ((255 : Int) < n) = false := by simp; omega
    go_enter Tryd.func5, Tryd.ntmps5
    go_wp2_with (first | (go_at_call 11; refine (shown_any _ V).mono ?_; rintro e w1 ⟨rfl, hb1⟩) | (go_at_call 14; refine (BA _).mono ?_; rintro e W' ⟨rfl, hw⟩; rw [hw]; clear hw) | (go_at_call 8; have hx := hb2; clear hx; refine (HA2.out _ ((V.call hb1).call hb2)).mono ?_; rintro e w3 ⟨g2, c2, rfl, t2, hb3⟩) | (go_at_call 8; refine (HA1.out _ (V.call hb1)).mono ?_; rintro e w2 ⟨g1, c1, rfl, t1, hb2⟩))
    have V3 : Vars w3 := ((V.call hb1).call hb2).call hb3
    have hB : Below w.heap.size w w3 := Below.call (Below.call hb1 hb2 (Nat.le_refl _)) hb3 (Nat.le_refl _)
    have T1 := t1.below hb3
    have T2 := t2
    clear V BA HA1 HA2 t1 hb1 hb2 hb3
    go_loopg [14, 15] 30 (fun gf s14 s15 wx => ∃ i : Nat, s14 = .string (bs (List.replicate i 48)) ∧ s15 = .int .i64 (i : Int) ∧ i + gf = 30 ∧ wx = w3)
    case atStart => exact ⟨0, rfl, rfl, rfl, rfl⟩
    case round =>
      obtain ⟨i, rfl, rfl, hi, hww⟩ := hrel
      obtain rfl := hww.symm
      have hzi : (bs (List.replicate i 48)).size ≤ 30 := by rw [bs_size, List.length_replicate]; omega
      have hrs := rep_snoc i
      by_cases hgo : (i : Int) < z ∧ i < 30
      · obtain ⟨g', rfl⟩ : ∃ g', gk = g' + 1 := ⟨gk - 1, by omega⟩
        have d1 : decide ((i : Int) < z) = true := by simpa using hgo.1
        have d2 : decide ((i : Int) < 30) = true := by simp; omega
        clear A3 A3' T1 T2
        go_wp2
        go_roundg g'
        case measure => omega
        case rel => exact ⟨i + 1, by first | rfl | exact congrArg _ hrs, by simp, by omega, rfl⟩
      · clear hrs
        by_cases hN31 : N ≤ 2147483647
        · have HA3 : Hid (AllTwo (bs (List.replicate i 48) ++ y) ⟨3, ⟨#[]⟩, N, 0⟩) := A3 hN31 i (by omega)
          clear A3 A3'
          have C4 := conv_u64_i64 (N : Int) (by omega) (by omega)
          have d31 : decide ((N : Int) ≤ 2147483647) = true := by simp; omega
          have EQ := eqlTk_same (Tk.mk 3 ⟨#[]⟩ N 0) _ rfl
          have NE := neqTk_same (Tk.mk 4 ⟨#[]⟩ n 1) _ rfl
          generalize bs (List.replicate i 48) = pd at *
          by_cases hz : (i : Int) < z
          · have d1 : decide ((i : Int) < z) = true := by simpa using hz
            obtain rfl : i = 30 := by omega
            go_wp2_with (first | (go_at_call 15; refine (DA _).mono ?_; rintro e W' ⟨rfl, hw⟩; rw [hw]; clear hw) | (go_at_call 8; refine (HA3.out _ V3).mono ?_; rintro e w4 ⟨g3, c3, rfl, t3, hb4⟩; obtain ⟨f1, f2, f3, f4⟩ := (T1.below hb4).cells; have L2 := (T2.below hb4).load; have L3 := t3.load))
            go_ret
            exact ⟨rfl, Below.call hB hb4 (Nat.le_refl _)⟩
          · have d1 : decide ((i : Int) < z) = false := by simpa using hz
            go_wp2_with (first | (go_at_call 15; refine (DA _).mono ?_; rintro e W' ⟨rfl, hw⟩; rw [hw]; clear hw) | (go_at_call 8; refine (HA3.out _ V3).mono ?_; rintro e w4 ⟨g3, c3, rfl, t3, hb4⟩; obtain ⟨f1, f2, f3, f4⟩ := (T1.below hb4).cells; have L2 := (T2.below hb4).load; have L3 := t3.load))
            go_ret
            exact ⟨rfl, Below.call hB hb4 (Nat.le_refl _)⟩
        · have HA3 : Hid (AllErr (bs (List.replicate i 48) ++ y) 0 82) := A3' hN31 i (by omega)
          clear A3 A3'
          have d31 : decide ((N : Int) ≤ 2147483647) = false := by simp; omega
          have NE := neqTk_same (Tk.mk 4 ⟨#[]⟩ n 1) _ rfl
          generalize bs (List.replicate i 48) = pd at *
          by_cases hz : (i : Int) < z
          · have d1 : decide ((i : Int) < z) = true := by simpa using hz
            obtain rfl : i = 30 := by omega
            go_wp2_with (first | (go_at_call 15; refine (DA _).mono ?_; rintro e W' ⟨rfl, hw⟩; rw [hw]; clear hw) | (go_at_call 8; refine (HA3.out _ V3).mono ?_; rintro e w4 ⟨a3, c3, rfl, hb4⟩; obtain ⟨f1, f2, f3, f4⟩ := (T1.below hb4).cells; have L2 := (T2.below hb4).load))
            go_ret
            exact ⟨rfl, Below.call hB hb4 (Nat.le_refl _)⟩
          · have d1 : decide ((i : Int) < z) = false := by simpa using hz
            go_wp2_with (first | (go_at_call 15; refine (DA _).mono ?_; rintro e W' ⟨rfl, hw⟩; rw [hw]; clear hw) | (go_at_call 8; refine (HA3.out _ V3).mono ?_; rintro e w4 ⟨a3, c3, rfl, hb4⟩; obtain ⟨f1, f2, f3, f4⟩ := (T1.below hb4).cells; have L2 := (T2.below hb4).load))
            go_ret
            exact ⟨rfl, Below.call hB hb4 (Nat.le_refl _)⟩
  · have HA2 : Hid (AllErr ({ data := #[32] } ++ x ++ { data := #[88] }) 1 82) := A2' h255
    clear A2 A2'
    have d255 : decide ((n : Int) ≤ 255) = false := by simp; omega
    have d255' : decide ((255 : Int) < n) = true := by simp; omega
    go_enter Tryd.func5, Tryd.ntmps5
    go_wp2_with (first | (go_at_call 11; refine (shown_any _ V).mono ?_; rintro e w1 ⟨rfl, hb1⟩) | (go_at_call 14; refine (BA _).mono ?_; rintro e W' ⟨rfl, hw⟩; rw [hw]; clear hw) | (go_at_call 8; have hx := hb2; clear hx; refine (HA2.out _ ((V.call hb1).call hb2)).mono ?_; rintro e w3 ⟨a2, c2, rfl, hb3⟩) | (go_at_call 8; refine (HA1.out _ (V.call hb1)).mono ?_; rintro e w2 ⟨g1, c1, rfl, t1, hb2⟩))
    have V3 : Vars w3 := ((V.call hb1).call hb2).call hb3
    have hB : Below w.heap.size w w3 := Below.call (Below.call hb1 hb2 (Nat.le_refl _)) hb3 (Nat.le_refl _)
    have T1 := t1.below hb3
    clear V BA HA1 HA2 t1 hb1 hb2 hb3
    go_loopg [14, 15] 30 (fun gf s14 s15 wx => ∃ i : Nat, s14 = .string (bs (List.replicate i 48)) ∧ s15 = .int .i64 (i : Int) ∧ i + gf = 30 ∧ wx = w3)
    case atStart => exact ⟨0, rfl, rfl, rfl, rfl⟩
    case round =>
      obtain ⟨i, rfl, rfl, hi, hww⟩ := hrel
      obtain rfl := hww.symm
      have hzi : (bs (List.replicate i 48)).size ≤ 30 := by rw [bs_size, List.length_replicate]; omega
      have hrs := rep_snoc i
      by_cases hgo : (i : Int) < z ∧ i < 30
      · obtain ⟨g', rfl⟩ : ∃ g', gk = g' + 1 := ⟨gk - 1, by omega⟩
        have d1 : decide ((i : Int) < z) = true := by simpa using hgo.1
        have d2 : decide ((i : Int) < 30) = true := by simp; omega
        clear A3 A3' T1
        go_wp2
        go_roundg g'
        case measure => omega
        case rel => exact ⟨i + 1, by first | rfl | exact congrArg _ hrs, by simp, by omega, rfl⟩
      · clear hrs
        by_cases hN31 : N ≤ 2147483647
        · have HA3 : Hid (AllTwo (bs (List.replicate i 48) ++ y) ⟨3, ⟨#[]⟩, N, 0⟩) := A3 hN31 i (by omega)
          clear A3 A3'
          have C4 := conv_u64_i64 (N : Int) (by omega) (by omega)
          have d31 : decide ((N : Int) ≤ 2147483647) = true := by simp; omega
          have EQ := eqlTk_same (Tk.mk 3 ⟨#[]⟩ N 0) _ rfl
          generalize bs (List.replicate i 48) = pd at *
          by_cases hz : (i : Int) < z
          · have d1 : decide ((i : Int) < z) = true := by simpa using hz
            obtain rfl : i = 30 := by omega
            go_wp2_with (first | (go_at_call 15; refine (DA _).mono ?_; rintro e W' ⟨rfl, hw⟩; rw [hw]; clear hw) | (go_at_call 8; refine (HA3.out _ V3).mono ?_; rintro e w4 ⟨g3, c3, rfl, t3, hb4⟩; obtain ⟨f1, f2, f3, f4⟩ := (T1.below hb4).cells; have L3 := t3.load))
            go_ret
            exact ⟨rfl, Below.call hB hb4 (Nat.le_refl _)⟩
          · have d1 : decide ((i : Int) < z) = false := by simpa using hz
            go_wp2_with (first | (go_at_call 15; refine (DA _).mono ?_; rintro e W' ⟨rfl, hw⟩; rw [hw]; clear hw) | (go_at_call 8; refine (HA3.out _ V3).mono ?_; rintro e w4 ⟨g3, c3, rfl, t3, hb4⟩; obtain ⟨f1, f2, f3, f4⟩ := (T1.below hb4).cells; have L3 := t3.load))
            go_ret
            exact ⟨rfl, Below.call hB hb4 (Nat.le_refl _)⟩
        · have HA3 : Hid (AllErr (bs (List.replicate i 48) ++ y) 0 82) := A3' hN31 i (by omega)
          clear A3 A3'
          have d31 : decide ((N : Int) ≤ 2147483647) = false := by simp; omega
          generalize bs (List.replicate i 48) = pd at *
          by_cases hz : (i : Int) < z
          · have d1 : decide ((i : Int) < z) = true := by simpa using hz
            obtain rfl : i = 30 := by omega
            go_wp2_with (first | (go_at_call 15; refine (DA _).mono ?_; rintro e W' ⟨rfl, hw⟩; rw [hw]; clear hw) | (go_at_call 8; refine (HA3.out _ V3).mono ?_; rintro e w4 ⟨a3, c3, rfl, hb4⟩; obtain ⟨f1, f2, f3, f4⟩ := (T1.below hb4).cells))
            go_ret
            exact ⟨rfl, Below.call hB hb4 (Nat.le_refl _)⟩
          · have d1 : decide ((i : Int) < z) = false := by simpa using hz
            go_wp2_with (first | (go_at_call 15; refine (DA _).mono ?_; rintro e W' ⟨rfl, hw⟩; rw [hw]; clear hw) | (go_at_call 8; refine (HA3.out _ V3).mono ?_; rintro e w4 ⟨a3, c3, rfl, hb4⟩; obtain ⟨f1, f2, f3, f4⟩ := (T1.below hb4).cells))
            go_ret
            exact ⟨rfl, Below.call hB hb4 (Nat.le_refl _)⟩
theorem numbers_any (a b c : Int) (w : World) (V : Vars w) (ha : (Lit.int .u32 a).wf = true) (hb : (Lit.int .u64 b).wf = true) :
    Calls Tryd.prog 5 #[.int .u32 a, .int .u64 b, .int .i64 c] w fun e w' => e = .returned (.bool true) ∧ Below w.heap.size w w' := by
  have a1 : 0 ≤ a ∧ a ≤ 4294967295 := by simpa [Lit.wf, IntKind.min, IntKind.max, IntKind.signed, IntKind.bits] using ha
  have b1 : 0 ≤ b ∧ b ≤ 18446744073709551615 := by simpa [Lit.wf, IntKind.min, IntKind.max, IntKind.signed, IntKind.bits] using hb
  obtain ⟨n, rfl⟩ : ∃ n : Nat, a = n := ⟨a.toNat, by omega⟩
  obtain ⟨N, rfl⟩ : ∃ N : Nat, b = N := ⟨b.toNat, by omega⟩
  exact numbers_walk n N (by omega) (by omega) c w V
end Go.Proofs.YtphogfomlmjeiaaDoor
