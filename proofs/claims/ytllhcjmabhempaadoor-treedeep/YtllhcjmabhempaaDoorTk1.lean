/-
  Layer 8, the program's: withText, nameOrKey, sign, digit, value.
-/
import Derived.Test.YtllhcjmabhempaaDoorNam
namespace Go.Proofs.YtllhcjmabhempaaDoor
set_option linter.unusedVariables false
set_option linter.unusedSimpArgs false
open Go.ChangeShapes Go.WideShapes Go.ChangeAt Go.RowKit


set_option maxRecDepth 20000 in
theorem withText_any (k : Int) (t : Bs) (ht : t.length ≤ 1000000000) (w : World) : Calls Tryd.prog 49 #[.int .i64 k, .string (bs t)] w fun e w' => e = .returned (.agg (Tk.mk k (bs t) 0 0).cells) ∧ Below w.heap.size w w' := by
  have CL := fun W => clone_any (bs t) W (by rw [bs_size]; omega)
  go_enter Tryd.func49, Tryd.ntmps49
  go_wp2_with (go_at_call 63; refine (CL _).mono ?_; rintro e w1 ⟨rfl, hb⟩; have hro : roomAt w1 w.heap.size 4 = true := (roomAt_below hb _ _ (by simp)).trans (roomTk_new _ _ _ _ rfl))
  refine ret_cell1 rfl rfl (loadTk_row (rowTk_put _ _ _ hro)) rfl ⟨rfl, ?_⟩
  exact below_put (((Below.refl _ _).alloc (Nat.le_refl _) _).trans (hb.mono (by simp))) _ (Nat.le_refl _) _
theorem ret3 {P : Program} {fn : Func} {R : Ending → World → Prop} {a : Act} {w : World} {p q r : Tmp} {ty : TypeId} {ad : Addr} {v x y : Value} (h : fn.results = #[.cell p ty, .tmp q, .tmp r]) (hp : a.tmps.getD p undef = .pointer (some ad)) (hl : (loadVar ty ad).run P w = .ok v w) (hd : a.defers = []) (hx : a.tmps.getD q undef = x) (hy : a.tmps.getD r undef = y) (hR : R (.returned (.tuple #[v, x, y])) w) : bodyPost P fn R .ret a w :=
  ret_cell_tmp2 h hp hl hd (by rw [hx, hy]; exact hR)
set_option maxRecDepth 20000 in
theorem nameOrKey_any (l : Bs) (hl : l.length ≤ 1000000000) (w : World) (V : Vars w) (r : Rd) (hr : nameP l = r) : Calls Tryd.prog 21 #[.string (bs l)] w fun e w' => e = .returned (.tuple #[.agg (Tk.mk r.k (bs r.t) r.n 0).cells, .int .i64 (r.len : Int), .int .i64 r.e]) ∧ Below w.heap.size w w' := by
  have hz := bs_size l
  have KY := fun W V => isKey_any l W V
  have NM := fun W V => isName_any l (by omega) W V
  have WT := fun k W => withText_any k l hl W
  subst hr
  cases hk : isKeyP l
  · rw [hk] at KY
    cases hn : isNameP l
    · rw [hn] at NM
      have hr : nameP l = .bad 84 := by simp [nameP, hk, hn]
      rw [hr]
      go_enter Tryd.func21, Tryd.ntmps21
      go_wp2_with (first | (go_at_call 48; refine (KY _ (V.alloc _).toKVars).mono ?_; rintro e W' ⟨rfl, hw⟩; rw [hw]; clear hw) | (go_at_call 50; refine (NM _ (V.alloc _).toKVars).mono ?_; rintro e w1 ⟨rfl, hb⟩; have hro : roomAt w1 w.heap.size 4 = true := (roomAt_below hb _ _ (by simp)).trans (roomTk_new _ _ _ _ rfl)))
      refine ret3 rfl rfl (loadTk_row (rowTk_put _ _ _ hro)) rfl rfl rfl ⟨rfl, ?_⟩
      exact below_put (((Below.refl _ _).alloc (Nat.le_refl _) _).trans (hb.mono (by simp))) _ (Nat.le_refl _) _
    · rw [hn] at NM
      have hr : nameP l = ⟨1, l, 0, l.length, 0⟩ := by simp [nameP, hk, hn]
      rw [hr]
      go_enter Tryd.func21, Tryd.ntmps21
      go_wp2_with (first | (go_at_call 48; refine (KY _ (V.alloc _).toKVars).mono ?_; rintro e W' ⟨rfl, hw⟩; rw [hw]; clear hw) | (go_at_call 50; refine (NM _ (V.alloc _).toKVars).mono ?_; rintro e w1 ⟨rfl, hb⟩; have hro : roomAt w1 w.heap.size 4 = true := (roomAt_below hb _ _ (by simp)).trans (roomTk_new _ _ _ _ rfl); have hs1 : w.heap.size < w1.heap.size := by have := hb.size; simp at this; omega) | (go_at_call 49; refine (WT _ _).mono ?_; rintro e w2 ⟨rfl, hb2⟩; have hro2 : roomAt w2 w.heap.size 4 = true := (roomAt_below hb2 _ _ hs1).trans hro))
      refine ret3 rfl rfl (loadTk_row (rowTk_put _ _ _ hro2)) rfl rfl rfl ⟨rfl, ?_⟩
      exact below_put ((((Below.refl _ _).alloc (Nat.le_refl _) _).trans (hb.mono (by simp))).trans (hb2.mono (by omega))) _ (Nat.le_refl _) _
  · rw [hk] at KY
    have hr : nameP l = ⟨2, l, 0, l.length, 0⟩ := by simp [nameP, hk]
    rw [hr]
    go_enter Tryd.func21, Tryd.ntmps21
    go_wp2_with (first | (go_at_call 48; refine (KY _ (V.alloc _).toKVars).mono ?_; rintro e W' ⟨rfl, hw⟩; rw [hw]; clear hw) | (go_at_call 49; refine (WT _ _).mono ?_; rintro e w1 ⟨rfl, hb⟩; have hro : roomAt w1 w.heap.size 4 = true := (roomAt_below hb _ _ (by simp)).trans (roomTk_new _ _ _ _ rfl)))
    refine ret3 rfl rfl (loadTk_row (rowTk_put _ _ _ hro)) rfl rfl rfl ⟨rfl, ?_⟩
    exact below_put (((Below.refl _ _).alloc (Nat.le_refl _) _).trans (hb.mono (by simp))) _ (Nat.le_refl _) _
theorem find_cons' (x : Bs) (r : List Bs) (f : Bs → Bool) : (x :: r).find? f = if f x then some x else r.find? f := by rw [List.find?_cons]; cases f x <;> rfl
set_option maxRecDepth 20000 in
theorem sign_any (l : Bs) (hl : l.length ≤ 1000000000) (w : World) (V : Vars w) (r : Rd) (hr : signP l = r) : Calls Tryd.prog 26 #[.string (bs l)] w fun e w' => e = .returned (.tuple #[.agg (Tk.mk r.k (bs r.t) r.n 0).cells, .int .i64 (r.len : Int), .int .i64 r.e]) ∧ Below w.heap.size w w' := by
  have LS := (V.alloc (.cells (Tk.mk 0 ⟨#[]⟩ 0 0).cells 41)).loadSigns
  clear V
  go_enter Tryd.func26, Tryd.ntmps26
  go_wp2
  go_loopg [3, 4, 6, 8] 26 (fun gf s3 s4 s6 s8 wx => ∃ i : Nat, s3 = .int .i64 0 ∧ s4 = .int .i64 0 ∧ s8 = .int .i64 (i : Int) ∧ i + gf = 26 ∧ wx = w.alloc (.cells (Tk.mk 0 ⟨#[]⟩ 0 0).cells 41) ∧ Hid (signP l = signT ((signsL.drop i).find? fun s => s.isPrefixOf l)))
  case atStart => exact ⟨0, rfl, rfl, rfl, rfl, rfl, rfl⟩
  case round =>
    obtain ⟨i, rfl, rfl, rfl, hi, rfl, HK⟩ := hrel
    by_cases hlt : i < 26
    · obtain ⟨g', rfl⟩ : ∃ g', gk = g' + 1 := ⟨gk - 1, by omega⟩
      have IX := index_signs i hlt
      have hd : signsL.drop i = signsL[i]'hlt :: signsL.drop (i + 1) := List.drop_eq_getElem_cons hlt
      have hx2 := signs_one (signsL[i]'hlt) (List.getElem_mem _)
      obtain ⟨x, hx⟩ : ∃ x, signsL[i]'hlt = x := ⟨_, rfl⟩
      rw [hx] at IX hd hx2
      have hxz := bs_size x
      have PR := fun W => pre_any l x W
      have WT := fun k W => withText_any k x (by omega) W
      rw [hd, find_cons'] at HK
      have HK := HK.out
      clear hx hd
      cases he : x.isPrefixOf l
      · rw [he] at HK PR
        have HK2 : Hid (signP l = signT ((signsL.drop (i + 1)).find? fun s => s.isPrefixOf l)) := HK
        clear HK he
        go_wp2_with (go_at_call 19; refine (PR _).mono ?_; rintro e W' ⟨rfl, hw⟩; rw [hw]; clear hw)
        go_roundg g'
        case measure => omega
        case rel => exact ⟨i + 1, rfl, rfl, rfl, by omega, rfl, HK2⟩
      · rw [he] at HK PR
        have HK2 : Hid (r = ⟨6, x, 0, x.length, 0⟩) := hr.symm.trans HK
        clear HK he hr
        go_wp2_with (first | (go_at_call 19; refine (PR _).mono ?_; rintro e W' ⟨rfl, hw⟩; rw [hw]; clear hw) | (go_at_call 49; refine (WT _ _).mono ?_; rintro e w1 ⟨rfl, hb⟩; have hro : roomAt w1 w.heap.size 4 = true := (roomAt_below hb _ _ (by simp)).trans (roomTk_new _ _ _ _ rfl)))
        refine ret3 rfl rfl (loadTk_row (rowTk_put _ _ _ hro)) rfl rfl rfl ⟨?_, ?_⟩
        · rw [HK2.out]; rfl
        · exact below_put (((Below.refl _ _).alloc (Nat.le_refl _) _).trans (hb.mono (by simp))) _ (Nat.le_refl _) _
    · obtain rfl : i = 26 := by omega
      have HK2 : Hid (r = .bad 81) := hr.symm.trans HK.out
      go_wp2
      refine ret3 rfl rfl (loadTk_row (rowAt_at _ _ _ _ _ rfl)) rfl rfl rfl ⟨?_, (Below.refl _ _).alloc (Nat.le_refl _) _⟩
      rw [HK2.out]; rfl
set_option maxRecDepth 20000 in
theorem digit_any (r : Int) (h0 : 0 ≤ r) (h1 : r ≤ 2147483647) (w : World) : Calls Tryd.prog 64 #[.int .i32 r] w fun e w' => e = .returned (.int .i64 (digV r)) ∧ w' = w := by
  have DG := isDigit_any r w
  have hd : digV r = if digI r then r - 48 else if 65 ≤ r ∧ r ≤ 70 then r - 55 else 9223372036854775807 := rfl
  have hdi : digI r = true → 48 ≤ r ∧ r ≤ 57 := fun h => by simpa [digI] using h
  cases hb : digI r
  · rw [hb] at DG hd
    have HD : Hid (digV r = if 65 ≤ r ∧ r ≤ 70 then r - 55 else 9223372036854775807) := hd
    clear hdi hd
    go_enter Tryd.func64, Tryd.ntmps64
    go_wp2_with (go_at_call 23; refine DG.mono ?_; rintro e W' ⟨rfl, hw⟩; rw [hw]; clear hw)
    all_goals go_ret
    all_goals refine ⟨ret_int ?_, rfl⟩
    all_goals rw [HD.out]
    all_goals (split <;> omega)
  · rw [hb] at DG hd
    obtain ⟨q1, q2⟩ := hdi hb
    clear hdi
    go_enter Tryd.func64, Tryd.ntmps64
    go_wp2_with (go_at_call 23; refine DG.mono ?_; rintro e W' ⟨rfl, hw⟩; rw [hw]; clear hw)
    go_ret
    exact ⟨ret_int (by rw [hd]; rfl), rfl⟩
theorem digV_high {r : Int} (h : 128 ≤ r) : digV r = 9223372036854775807 := by unfold digV; rw [digI_high h, if_neg (by simp), if_neg (by omega)]
set_option maxRecDepth 20000 in
theorem value_any (l : Bs) (hl : l.length ≤ 1000000000) (base most : Int) (hb0 : 2 ≤ base) (hb1 : base ≤ 16) (hm0 : 0 ≤ most) (hm1 : most ≤ 4294967295) (w : World) :
    Calls Tryd.prog 51 #[.string (bs l), .int .i64 base, .int .i64 most] w fun e w' => e = .returned (.tuple #[.int .i64 ((valP base most 0 l).getD 0), .bool (valP base most 0 l).isSome]) ∧ Below w.heap.size w w' := by
  have hz := bs_size l
  obtain ⟨v, hv⟩ : ∃ v, valP base most 0 l = v := ⟨_, rfl⟩
  rw [hv]
  go_enter Tryd.func51, Tryd.ntmps51
  go_wp2
  go_loopg [6, 7, 8] l.length (fun gf s6 s7 s8 wx => ∃ (pos : Nat) (n : Int), s6 = .int .i64 0 ∧ s7 = .bool false ∧ s8 = .int .i64 n ∧ pos + gf = l.length ∧ wx.heap[w.heap.size]? = some (.stringIter (bs l) pos) ∧ Below w.heap.size w wx ∧ 0 ≤ n ∧ n ≤ most ∧ Hid (valP base most n (l.drop pos) = v))
  case atStart => exact ⟨0, 0, rfl, rfl, rfl, by omega, World.iter_heap w (bs l) 0, (Below.refl _ w).alloc (Nat.le_refl _) _, by omega, hm0, hv⟩
  case round =>
    obtain ⟨pos, n, rfl, rfl, rfl, hp, hit, hbw, hn0, hn1, HV⟩ := hrel
    by_cases hlt : pos < l.length
    · obtain ⟨g', rfl⟩ : ∃ g', gk = g' + 1 := ⟨gk - 1, by omega⟩
      obtain ⟨R, K, hnx, hK1, hK2, hR, hc⟩ := next_at l pos w.heap.size wr hit hlt
      have hit2 := Lib.iterAt_heap wr w.heap.size (bs l) pos (pos + K) hit
      have hbw2 := Lib.below_iterAt hbw (k := w.heap.size) (Nat.le_refl _) (bs l) (pos + K)
      obtain ⟨W, hWd⟩ : ∃ W, wr.iterAt w.heap.size (bs l) (pos + K) = W := ⟨_, rfl⟩
      rw [hWd] at hnx hit2 hbw2
      have DG := digit_any (R : Int) (by omega) (by omega) W
      have hV := HV.out
      rw [drop_cons hlt, valP] at hV
      have hdd : digV (R : Int) = digV (l[pos].toNat : Int) := by
        rcases hc with ⟨q1, _, _⟩ | ⟨q1, q2, _⟩
        · rw [q1]
        · rw [digV_high (by omega), digV_high (by omega)]
      have hK : digV (R : Int) < 16 → K = 1 := fun h => by
        rcases hc with ⟨_, q2, _⟩ | ⟨q1, q2, _⟩
        · exact q2
        · rw [digV_high (by omega)] at h; omega
      have hd0 : 0 ≤ digV (R : Int) := by
        unfold digV
        by_cases h : digI (R : Int) = true
        · rw [if_pos h]; simp [digI] at h; omega
        · rw [if_neg h]; split <;> omega
      rw [← hdd] at hV
      obtain ⟨D, hD⟩ : ∃ D, digV (R : Int) = D := ⟨_, rfl⟩
      rw [hD] at DG hV hK hd0
      clear hdd hD hc hit hbw hWd HV hv
      by_cases h1 : base ≤ D
      · have g1 : decide (base ≤ D) = true := by simpa using h1
        rw [if_pos h1] at hV
        subst hV
        clear hK
        go_wp2_with (go_at_call 64; refine DG.mono ?_; rintro e W' ⟨rfl, hw⟩; rw [hw]; clear hw)
        go_ret2
        exact ⟨rfl, hbw2⟩
      · have g1 : decide (base ≤ D) = false := by simpa using h1
        rw [if_neg h1] at hV
        obtain rfl := hK (by omega)
        have hmul : n * base ≤ 4294967295 * 16 := Int.mul_le_mul (by omega) hb1 (by omega) (by omega)
        have hmul0 : 0 ≤ n * base := Int.mul_nonneg hn0 (by omega)
        obtain ⟨M, hM⟩ : ∃ M, n * base = M := ⟨_, rfl⟩
        rw [hM] at hV hmul hmul0
        clear hK
        by_cases h2 : most < M + D
        · have g2 : decide (most < M + D) = true := by simpa using h2
          rw [if_pos h2] at hV
          subst hV
          go_wp2_with (go_at_call 64; refine DG.mono ?_; rintro e W' ⟨rfl, hw⟩; rw [hw]; clear hw)
          go_ret2
          exact ⟨rfl, hbw2⟩
        · have g2 : decide (most < M + D) = false := by simpa using h2
          rw [if_neg h2] at hV
          have HV : Hid (valP base most (M + D) (l.drop (pos + 1)) = v) := hV
          clear hV
          go_wp2_with (go_at_call 64; refine DG.mono ?_; rintro e W' ⟨rfl, hw⟩; rw [hw]; clear hw)
          go_roundg g'
          case measure => omega
          case rel => exact ⟨pos + 1, M + D, rfl, rfl, by simp, by omega, hit2, hbw2, by omega, by omega, HV⟩
    · have hnx := next_end l pos w.heap.size wr hit hlt
      have hV := HV.out
      rw [List.drop_of_length_le (by omega), valP] at hV
      subst hV
      clear HV hv
      go_wp2
      go_ret2
      exact ⟨rfl, hbw⟩
end Go.Proofs.YtllhcjmabhempaaDoor
