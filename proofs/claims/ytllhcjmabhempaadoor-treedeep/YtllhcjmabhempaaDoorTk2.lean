/-
  Layer 8, the program's: number, quoted, first.
-/
import Derived.Test.YtllhcjmabhempaaDoorTk1
namespace Go.Proofs.YtllhcjmabhempaaDoor
set_option linter.unusedVariables false
set_option linter.unusedSimpArgs false
open Go.ChangeShapes Go.WideShapes Go.ChangeAt Go.RowKit


theorem numP_at {l : Bs} (h : l.length - 1 < l.length) (x : UInt8) (hx : l[l.length - 1] = x) : numP l = if x = 72 then numT 3 sgnd l.length (valP 16 4294967295 0 (l.take (l.length - 1))) else if x = 88 then numT 4 id l.length (valP 16 255 0 (l.take (l.length - 1))) else numT 3 id l.length (valP 10 2147483647 0 l) := by
  have e : l.getLast? = some x := by rw [List.getLast?_eq_getElem?, List.getElem?_eq_getElem h, hx]
  unfold numP
  rw [e, List.dropLast_eq_take]
  simp
theorem valP_range (base most : Int) (hb : 0 ≤ base) : ∀ (l : Bs) (n v : Int), 0 ≤ n → n ≤ most → valP base most n l = some v → 0 ≤ v ∧ v ≤ most
  | [], n, v, h0, h1, h => by simp only [valP, Option.some.injEq] at h; omega
  | c :: r, n, v, h0, h1, h => by
    rw [valP] at h
    split at h
    · cases h
    · split at h
      · cases h
      · refine valP_range base most hb r _ v ?_ (by omega) h
        have hd : 0 ≤ digV (c.toNat : Int) := by
          unfold digV
          by_cases h : digI (c.toNat : Int) = true
          · rw [if_pos h]; simp [digI] at h; omega
          · rw [if_neg h]; split <;> omega
        have := Int.mul_nonneg h0 hb
        omega
theorem sgnd_wrap (n : Int) (h0 : 0 ≤ n) (h1 : n ≤ 4294967295) : IntKind.i32.wrap n = sgnd n := by
  rw [IntKind.wrap_i32]; unfold sgnd; split <;> omega
theorem sgnd_range (n : Int) (h0 : 0 ≤ n) (h1 : n ≤ 4294967295) : -2147483648 ≤ sgnd n ∧ sgnd n ≤ 2147483647 := by unfold sgnd; split <;> omega
theorem u8_ne {x : UInt8} {k : Nat} (hk : k < 256) (h : x ≠ UInt8.ofNat k) : ((x.toNat : Int) == (k : Int)) = false := by
  rw [beq_eq_false_iff_ne]
  intro e
  apply h
  apply UInt8.toNat_inj.1
  rw [UInt8.toNat_ofNat']
  omega
theorem conv_i32 (n : Int) (w : World) : (convert 2 21 (.int .i64 n)).run Tryd.prog w = .ok (.int .i32 (IntKind.i32.wrap n)) w := by
  simp [convert, run_underlying Tryd.underlying2, run_underlying Tryd.underlying21, Conv.intToInt]
theorem conv_i64 (n : Int) (h0 : -2147483648 ≤ n) (h1 : n ≤ 2147483647) (w : World) : (convert 21 2 (.int .i32 n)).run Tryd.prog w = .ok (.int .i64 n) w := by
  have e : IntKind.i64.wrap n = n := by rw [IntKind.wrap_i64]; omega
  simp [convert, run_underlying Tryd.underlying2, run_underlying Tryd.underlying21, Conv.intToInt, e]
theorem num_aft {w w1 : World} {n : Nat} {A B : Tk} {t : TypeId} (hb : Below (((w.alloc (.cells A.cells t)).alloc (.cells B.cells t)).drewN n).heap.size (((w.alloc (.cells A.cells t)).alloc (.cells B.cells t)).drewN n) w1) :
    Below w.heap.size w w1 ∧ roomAt w1 w.heap.size 4 = true ∧ rowAt w1 (w.heap.size + 1) = some B.cells ∧ roomAt w1 (w.heap.size + 1) 4 = true ∧ (∀ j, w1.cell? ⟨w.heap.size + 1, j, none⟩ = B.cells[j]?) ∧ (∀ j, j < 4 → w1.frozen? ⟨w.heap.size + 1, j, none⟩ = false) := by
  have hs : (((w.alloc (.cells A.cells t)).alloc (.cells B.cells t)).drewN n).heap.size = w.heap.size + 2 := by
    show ((w.alloc (.cells A.cells t)).alloc (.cells B.cells t)).heap.size = _
    simp
  rw [hs] at hb
  have n1 : rowAt w1 (w.heap.size + 1) = some B.cells := (rowAt_below hb _ (by omega)).trans ((rowAt_drewN _ _ _).trans (rowAt_at _ _ _ _ _ (by simp)))
  have m1 : roomAt w1 (w.heap.size + 1) 4 = true := (roomAt_below hb _ _ (by omega)).trans ((roomAt_drewN _ _ _ _).trans (roomTk_new _ _ _ _ (by simp)))
  refine ⟨(bdrewN (((Below.refl _ _).alloc (Nat.le_refl _) _).alloc (by simp) _) n).trans (hb.mono (by omega)), ?_, n1, m1, row_facts n1 m1⟩
  rw [roomAt_below hb _ _ (by omega), roomAt_drewN, roomAt_old _ _ _ _ (by simp)]
  exact roomTk_new _ _ _ _ rfl
set_option maxHeartbeats 1000000 in
set_option maxRecDepth 20000 in
theorem number_any (l : Bs) (hl : l.length ≤ 1000000000) (hl0 : 0 < l.length) (w : World) (r : Rd) (hr : numP l = r) : Calls Tryd.prog 24 #[.string (bs l)] w fun e w' => e = .returned (.tuple #[.agg (Tk.mk r.k (bs r.t) r.n 0).cells, .int .i64 (r.len : Int), .int .i64 r.e]) ∧ Below w.heap.size w w' := by
  have hz := bs_size l
  have hi1 : l.length - 1 < l.length := by omega
  have hsub : IntKind.i64.wrap ((l.length : Int) - 1) = (l.length : Int) - 1 := by rw [IntKind.wrap_i64]; omega
  have SL : ∀ W, _ := slice_hz l (l.length - 1) (by omega) ((l.length : Int) - 1) (by omega)
  have IX : ∀ W, _ := index_str l (l.length - 1) hi1 ((l.length : Int) - 1) (by omega)
  obtain ⟨x, hx⟩ : ∃ x, l[l.length - 1]'hi1 = x := ⟨_, rfl⟩
  have hnum := numP_at hi1 x hx
  rw [hx] at IX
  have hx8 := x.toNat_lt
  have V1 := fun W => value_any (l.take (l.length - 1)) (by rw [List.length_take]; omega) 16 4294967295 (by omega) (by omega) (by omega) (by omega) W
  have V2 := fun W => value_any (l.take (l.length - 1)) (by rw [List.length_take]; omega) 16 255 (by omega) (by omega) (by omega) (by omega) W
  have V3 := fun W => value_any l hl 10 2147483647 (by omega) (by omega) (by omega) (by omega) W
  have g0 : (0 : Int) ≤ (l.length : Int) - 1 := by omega
  have g1 : (l.length : Int) - 1 < (l.length : Int) := by omega
  have g2 : (l.length : Int) - 1 ≤ (l.length : Int) := by omega
  rw [hr] at hnum
  clear hr hx
  by_cases h72 : x = 72
  · rw [if_pos h72] at hnum
    subst h72
    have R1 := valP_range 16 4294967295 (by omega) (l.take (l.length - 1)) 0
    have VV := V1
    clear V1 V2 V3
    generalize l.take (l.length - 1) = d at *
    cases hv : valP 16 4294967295 0 d with
    | none =>
      rw [hv] at hnum VV
      subst hnum
      clear R1 hv
      go_enter Tryd.func24, Tryd.ntmps24
      go_wp2
      go_region
      go_wp2_with (go_at_call 51; refine (VV _).mono ?_; rintro e w1 ⟨rfl, hb⟩; obtain ⟨hbl, m0, n1, m1, n2, n3⟩ := num_aft hb)
      refine ret3 rfl rfl (loadTk_row (rowTk_put _ _ _ (by simp [roomAt_far, m0]))) rfl rfl rfl ⟨rfl, ?_⟩
      exact below_put (by first | exact (hbl.setCell (by simp) _).setCell (by simp) _ | exact hbl.setCell (by simp) _) _ (Nat.le_refl _) _
    | some v =>
      rw [hv] at hnum VV
      obtain ⟨v0, v1⟩ := R1 v (by omega) (by omega) hv
      have hsw := sgnd_wrap v v0 v1
      obtain ⟨s0, s1⟩ := sgnd_range v v0 v1
      have C1 := conv_i32 v
      rw [hsw] at C1
      have C2 := conv_i64 (sgnd v) s0 s1
      have hnum2 : r = ⟨3, [], sgnd v, l.length, 0⟩ := hnum
      generalize sgnd v = u at *
      subst hnum2
      clear R1 hv hnum hsw
      go_enter Tryd.func24, Tryd.ntmps24
      go_wp2
      go_region
      go_wp2_with (go_at_call 51; refine (VV _).mono ?_; rintro e w1 ⟨rfl, hb⟩; obtain ⟨hbl, m0, n1, m1, n2, n3⟩ := num_aft hb)
      refine ret3 rfl rfl (loadTk_row (rowTk_put _ _ _ (by simp [roomAt_far, m0]))) rfl rfl rfl ⟨rfl, ?_⟩
      exact below_put (by first | exact (hbl.setCell (by simp) _).setCell (by simp) _ | exact hbl.setCell (by simp) _) _ (Nat.le_refl _) _
  · rw [if_neg h72] at hnum
    have n72 : ((x.toNat : Int) == 72) = false := u8_ne (k := 72) (by omega) h72
    by_cases h88 : x = 88
    · rw [if_pos h88] at hnum
      subst h88
      have R1 := valP_range 16 255 (by omega) (l.take (l.length - 1)) 0
      have VV := V2
      clear V1 V2 V3
      generalize l.take (l.length - 1) = d at *
      cases hv : valP 16 255 0 d with
      | none =>
        rw [hv] at hnum VV
        subst hnum
        clear R1 hv
        go_enter Tryd.func24, Tryd.ntmps24
        go_wp2
        go_region
        go_wp2_with (go_at_call 51; refine (VV _).mono ?_; rintro e w1 ⟨rfl, hb⟩; obtain ⟨hbl, m0, n1, m1, n2, n3⟩ := num_aft hb)
        refine ret3 rfl rfl (loadTk_row (rowTk_put _ _ _ (by simp [roomAt_far, m0]))) rfl rfl rfl ⟨rfl, ?_⟩
        exact below_put (by first | exact (hbl.setCell (by simp) _).setCell (by simp) _ | exact hbl.setCell (by simp) _) _ (Nat.le_refl _) _
      | some v =>
        rw [hv] at hnum VV
        have hnum2 : r = ⟨4, [], v, l.length, 0⟩ := hnum
        subst hnum2
        clear R1 hv hnum
        go_enter Tryd.func24, Tryd.ntmps24
        go_wp2
        go_region
        go_wp2_with (go_at_call 51; refine (VV _).mono ?_; rintro e w1 ⟨rfl, hb⟩; obtain ⟨hbl, m0, n1, m1, n2, n3⟩ := num_aft hb)
        refine ret3 rfl rfl (loadTk_row (rowTk_put _ _ _ (by simp [roomAt_far, m0]))) rfl rfl rfl ⟨rfl, ?_⟩
        exact below_put (by first | exact (hbl.setCell (by simp) _).setCell (by simp) _ | exact hbl.setCell (by simp) _) _ (Nat.le_refl _) _
    · rw [if_neg h88] at hnum
      have n88 : ((x.toNat : Int) == 88) = false := u8_ne (k := 88) (by omega) h88
      have VV := V3
      clear V1 V2 V3
      generalize l.take (l.length - 1) = d at *
      cases hv : valP 10 2147483647 0 l with
      | none =>
        rw [hv] at hnum VV
        subst hnum
        clear hv
        go_enter Tryd.func24, Tryd.ntmps24
        go_wp2
        go_region
        go_wp2_with (go_at_call 51; refine (VV _).mono ?_; rintro e w1 ⟨rfl, hb⟩; obtain ⟨hbl, m0, n1, m1, n2, n3⟩ := num_aft hb)
        refine ret3 rfl rfl (loadTk_row (rowTk_put _ _ _ (by simp [roomAt_far, m0]))) rfl rfl rfl ⟨rfl, ?_⟩
        exact below_put (by first | exact (hbl.setCell (by simp) _).setCell (by simp) _ | exact hbl.setCell (by simp) _) _ (Nat.le_refl _) _
      | some v =>
        rw [hv] at hnum VV
        have hnum2 : r = ⟨3, [], v, l.length, 0⟩ := hnum
        subst hnum2
        clear hv hnum
        go_enter Tryd.func24, Tryd.ntmps24
        go_wp2
        go_region
        go_wp2_with (go_at_call 51; refine (VV _).mono ?_; rintro e w1 ⟨rfl, hb⟩; obtain ⟨hbl, m0, n1, m1, n2, n3⟩ := num_aft hb)
        refine ret3 rfl rfl (loadTk_row (rowTk_put _ _ _ (by simp [roomAt_far, m0]))) rfl rfl rfl ⟨rfl, ?_⟩
        exact below_put (by first | exact (hbl.setCell (by simp) _).setCell (by simp) _ | exact hbl.setCell (by simp) _) _ (Nat.le_refl _) _
end Go.Proofs.YtllhcjmabhempaaDoor
