/-
  The document's layer 8: number, token.
-/
import Derived.Test.YtphogfomlmjeiaaDoorRf4
import Derived.Test.YtphogfomlmjeiaaDoorTk3
namespace Go.Proofs.YtphogfomlmjeiaaDoor
set_option linter.unusedVariables false
set_option linter.unusedSimpArgs false
open Go.ChangeShapes Go.WideShapes Go.ChangeAt Go.RowKit
attribute [local go_sem ↓] loadTk_seal storeTk_seal loadKeys_seal loadSigns_seal
attribute [local go_sem] loadTk_run storeTk_run rowAt_at rowAt_old rowAt_drew rowAt_drewN roomTk_new roomAt_old roomAt_drew roomAt_drewN putTk_new Tk.fold putRow_past rowTk_put size_put putRow_drew putRow_drewN alloc_drewN setCell_drewN Tk.at0 Tk.at1 Tk.at2 Tk.at3 Tk.size Tk.set0 Tk.set1 Tk.set2 Tk.set3 Tk.ne rowAt_set rowAt_far roomAt_far

theorem ret2c {P : Program} {fn : Func} {R : Ending → World → Prop} {a : Act} {w : World} {p q : Tmp} {ty : TypeId} {ad : Addr} {v x : Value} (h : fn.results = #[.cell p ty, .tmp q]) (hp : a.tmps.getD p undef = .pointer (some ad)) (hl : (loadVar ty ad).run P w = .ok v w) (hd : a.defers = []) (hx : a.tmps.getD q undef = x) (hR : R (.returned (.tuple #[v, x])) w) : bodyPost P fn R .ret a w :=
  ret_cell_tmp h hp hl hd (by rw [hx]; exact hR)
/-- What the document's number tells: a token, and whether it is one. -/
def NumIs (l : Bs) (p : Nat) (v : Value) : Prop := ∃ T : Tk, v = .tuple #[.agg T.cells, .bool ((numP l).e == 0)] ∧ ((numP l).e = 0 → T = ⟨(numP l).k, bs (numP l).t, (numP l).n, p⟩)
set_option maxHeartbeats 1000000 in
theorem rnumber_any (l : Bs) (hl : l.length ≤ 1000000000) (hl0 : 0 < l.length) (p : Nat) (w : World) : Calls Tryd.prog 39 #[.string (bs l), .int .i64 (p : Int)] w fun e w' => ∃ v, e = .returned v ∧ NumIs l p v ∧ Below w.heap.size w w' := by
  have hz := bs_size l
  have hi1 : l.length - 1 < l.length := by omega
  have hsub : IntKind.i64.wrap ((l.length : Int) - 1) = (l.length : Int) - 1 := by rw [IntKind.wrap_i64]; omega
  have SL : ∀ W, _ := slice_hz l (l.length - 1) (by omega) ((l.length : Int) - 1) (by omega)
  have IX : ∀ W, _ := index_str l (l.length - 1) hi1 ((l.length : Int) - 1) (by omega)
  obtain ⟨x, hx⟩ : ∃ x, l[l.length - 1]'hi1 = x := ⟨_, rfl⟩
  have hnum := numP_at hi1 x hx
  rw [hx] at IX
  have hx8 := x.toNat_lt
  have V1 := fun W => rbased_any (l.take (l.length - 1)) (by rw [List.length_take]; omega) 4294967295 (by omega) (by omega) W
  have V2 := fun W => rbased_any (l.take (l.length - 1)) (by rw [List.length_take]; omega) 255 (by omega) (by omega) W
  have V3 := fun W => rdecimal_any l hl W
  have NI : Hid (∀ v, NumIs l p v ↔ ∃ T : Tk, v = .tuple #[.agg T.cells, .bool ((numP l).e == 0)] ∧ ((numP l).e = 0 → T = ⟨(numP l).k, bs (numP l).t, (numP l).n, p⟩)) := fun v => Iff.rfl
  generalize numP l = r at *
  clear hx
  by_cases h72 : x = 72
  · rw [if_pos h72] at hnum
    subst h72
    have R1 := valP_range 16 4294967295 (by omega) (l.take (l.length - 1)) 0
    have VV := V1
    clear V1 V2 V3
    generalize l.take (l.length - 1) = d at *
    cases hv : valP 16 4294967295 0 d with
    | none =>
      rw [hv] at hnum VV
      subst hnum
      clear R1 hv
      go_enter Tryd.func39, Tryd.ntmps39
      go_wp2_with (go_at_call 46; refine (VV _).mono ?_; rintro e W' ⟨rfl, hw⟩; rw [hw]; clear hw)
      refine ret2c rfl rfl (loadTk_row (rowAt_at _ _ _ _ _ rfl)) rfl rfl ⟨_, rfl, (NI.out _).2 ⟨_, rfl, fun h => by simp [numT, Rd.bad] at h⟩, (Below.refl _ _).alloc (Nat.le_refl _) _⟩
    | some v =>
      rw [hv] at hnum VV
      obtain ⟨v0, v1⟩ := R1 v (by omega) (by omega) hv
      have hnum2 : r = ⟨3, [], sgnd v, l.length, 0⟩ := hnum
      have hsg : sgnd v = if 2147483648 ≤ v then v - 4294967296 else v := rfl
      subst hnum2
      clear R1 hv hnum
      by_cases hbig : 2147483648 ≤ v
      · rw [if_pos hbig] at hsg
        have k1 : decide (2147483648 ≤ v) = true := decide_eq_true hbig
        have HS : Hid (sgnd v = v - 4294967296) := hsg
        clear hsg
        go_enter Tryd.func39, Tryd.ntmps39
        go_wp2_with (go_at_call 46; refine (VV _).mono ?_; rintro e W' ⟨rfl, hw⟩; rw [hw]; clear hw)
        refine ret2c rfl rfl (loadTk_row (rowAt_at _ _ _ _ _ rfl)) rfl rfl ⟨_, rfl, (NI.out _).2 ⟨_, rfl, fun _ => ?_⟩, (Below.refl _ _).alloc (Nat.le_refl _) _⟩
        rw [HS.out]; rfl
      · rw [if_neg hbig] at hsg
        have k1 : decide (2147483648 ≤ v) = false := decide_eq_false hbig
        have HS : Hid (sgnd v = v) := hsg
        clear hsg
        go_enter Tryd.func39, Tryd.ntmps39
        go_wp2_with (go_at_call 46; refine (VV _).mono ?_; rintro e W' ⟨rfl, hw⟩; rw [hw]; clear hw)
        refine ret2c rfl rfl (loadTk_row (rowAt_at _ _ _ _ _ rfl)) rfl rfl ⟨_, rfl, (NI.out _).2 ⟨_, rfl, fun _ => ?_⟩, (Below.refl _ _).alloc (Nat.le_refl _) _⟩
        rw [HS.out]; rfl
  · rw [if_neg h72] at hnum
    have n72 : ((x.toNat : Int) == 72) = false := u8_ne (k := 72) (by omega) h72
    by_cases h88 : x = 88
    · rw [if_pos h88] at hnum
      subst h88
      have VV := V2
      clear V1 V2 V3
      generalize l.take (l.length - 1) = d at *
      cases hv : valP 16 255 0 d with
      | none =>
        rw [hv] at hnum VV
        subst hnum
        go_enter Tryd.func39, Tryd.ntmps39
        go_wp2_with (go_at_call 46; refine (VV _).mono ?_; rintro e W' ⟨rfl, hw⟩; rw [hw]; clear hw)
        refine ret2c rfl rfl (loadTk_row (rowAt_at _ _ _ _ _ rfl)) rfl rfl ⟨_, rfl, (NI.out _).2 ⟨_, rfl, fun h => by simp [numT, Rd.bad] at h⟩, (Below.refl _ _).alloc (Nat.le_refl _) _⟩
      | some v =>
        rw [hv] at hnum VV
        have hnum2 : r = ⟨4, [], v, l.length, 0⟩ := hnum
        subst hnum2
        clear hv hnum
        go_enter Tryd.func39, Tryd.ntmps39
        go_wp2_with (go_at_call 46; refine (VV _).mono ?_; rintro e W' ⟨rfl, hw⟩; rw [hw]; clear hw)
        refine ret2c rfl rfl (loadTk_row (rowAt_at _ _ _ _ _ rfl)) rfl rfl ⟨_, rfl, (NI.out _).2 ⟨_, rfl, fun _ => rfl⟩, (Below.refl _ _).alloc (Nat.le_refl _) _⟩
    · rw [if_neg h88] at hnum
      have n88 : ((x.toNat : Int) == 88) = false := u8_ne (k := 88) (by omega) h88
      have VV := V3
      clear V1 V2 V3
      generalize l.take (l.length - 1) = d at *
      cases hv : valP 10 2147483647 0 l with
      | none =>
        rw [hv] at hnum VV
        subst hnum
        clear hv
        go_enter Tryd.func39, Tryd.ntmps39
        go_wp2_with (go_at_call 47; refine (VV _).mono ?_; rintro e W' ⟨rfl, hw⟩; rw [hw]; clear hw)
        refine ret2c rfl rfl (loadTk_row (rowAt_at _ _ _ _ _ rfl)) rfl rfl ⟨_, rfl, (NI.out _).2 ⟨_, rfl, fun h => by simp [numT, Rd.bad] at h⟩, (Below.refl _ _).alloc (Nat.le_refl _) _⟩
      | some v =>
        rw [hv] at hnum VV
        have hnum2 : r = ⟨3, [], v, l.length, 0⟩ := hnum
        subst hnum2
        clear hv hnum
        go_enter Tryd.func39, Tryd.ntmps39
        go_wp2_with (go_at_call 47; refine (VV _).mono ?_; rintro e W' ⟨rfl, hw⟩; rw [hw]; clear hw)
        refine ret2c rfl rfl (loadTk_row (rowAt_at _ _ _ _ _ rfl)) rfl rfl ⟨_, rfl, (NI.out _).2 ⟨_, rfl, fun _ => rfl⟩, (Below.refl _ _).alloc (Nat.le_refl _) _⟩
end Go.Proofs.YtphogfomlmjeiaaDoor
