/-
  Proved: for every list of types, every base, all names and types of fields the law TypesLaid returns true, where the table of sizes holds what its initialiser lays: a record that was added has its fields within its size, none over another, each at its type's places, and its base's at the same ones. No other condition.
-/
import Derived.Test.YtgkfnfilomjphaaDoorVlw
import Derived.Test.YtgkfnfilomjphaaDoorVop
namespace Go.Proofs.YtgkfnfilomjphaaDoor
open Go.ChangeShapes Go.WideShapes Go.ChangeAt Go.RowKit
set_option linter.unusedVariables false

section
variable {H : Type} {enc : TypeId × Value → H} {W : World} {base : Nat} {held : Bool}
theorem row_strs {fuel : Nat} {a : Option Addr} {n c : Nat} {x : DataW H × List MemPlace} (h : DataW.trod enc Tryd.prog W base (fun _ => true) held fuel 23 [.slice a n c] = some x) (hw : Lt 23 x.1) : ∃ N : List ByteArray, RdV W 1 ⟨a, n, c⟩ N.length (flat stE N) ∧ ∀ z ∈ N, z.size ≤ maxLen := by
  obtain ⟨s, xs, e1, g1, r1⟩ := open_row Tryd.underlying23 cells_str (by omega) (of_decide_eq_true (by kernel_rfl)) h hw stE (fun z => z.size ≤ 140737488355328) ⟨#[]⟩ (fun n l y hy hl => by
    obtain ⟨z0, e0, s0⟩ := str_small hy hl
    exact ⟨z0, s0, e0⟩) (fun _ => rfl)
  injection e1 with e1 _
  injection e1 with h1 h2 h3
  obtain ⟨sa, sn, sc⟩ := s
  dsimp only at h1 h2 h3
  subst h1 h2 h3
  exact ⟨xs, r1, fun z hz => Nat.le_trans (g1 z hz) (by unfold maxLen; omega)⟩
theorem row_ints {fuel : Nat} {a : Option Addr} {n c : Nat} {x : DataW H × List MemPlace} (h : DataW.trod enc Tryd.prog W base (fun _ => true) held fuel 24 [.slice a n c] = some x) (hw : Lt 24 x.1) : ∃ O : List Int, RdV W 1 ⟨a, n, c⟩ O.length (flat iE O) := by
  obtain ⟨s, xs, e1, g1, r1⟩ := open_row Tryd.underlying24 cells_int (by omega) (of_decide_eq_true (by kernel_rfl)) h hw iE (fun z => True) 0 (fun n l y hy hl => by
    obtain ⟨z0, e0, _, _⟩ := DataW.trod_int Tryd.underlying3 hy
    exact ⟨z0, trivial, e0⟩) (fun _ => rfl)
  injection e1 with e1 _
  injection e1 with h1 h2 h3
  obtain ⟨sa, sn, sc⟩ := s
  dsimp only at h1 h2 h3
  subst h1 h2 h3
  exact ⟨xs, r1⟩
end
namespace typesLaid
set_option maxRecDepth 100000 in
theorem lifted (os : Os) (started : os.Started) (H : Type) (enc : TypeId × Value → H) :
    ReturnsInHanded {} Tryd.checked os 3 .any (fun w args => (Rows.typesLaidSpec.pre enc Tryd.prog Tryd.f3 [] false w args ∧ laidMetH Tryd.prog Rows.typesLaidRow.laid w) ∧ sizedMet enc Tryd.prog Tryd.f3 (OpenSpec.ofChange Rows.typesLaidSpec) false w args)
      (Rows.typesLaidSpec.post enc Tryd.prog Tryd.f3 false true false false) := by
  refine returns_sized (C := Tryd.checked) (X := fun w _ => laidMetH Tryd.prog Rows.typesLaidRow.laid w) (fun _ _ _ hh h => h.of_heap hh) ownK started (by kernel_rfl) Tryd.func3
    (ChangeSpec.witness_shaped (enc := enc) (C := Tryd.checked) (os := os) (X := fun w _ => laidMetH Tryd.prog Rows.typesLaidRow.laid w) false (World.laidAll Tryd.prog os Rows.typesLaidRow.laid) #[.slice none 0 0, .int .i64 0, .slice none 0 0, .slice none 0 0] 8 (World.laidAll_os _ _ _)
      (World.shaped_of_ZipB (by kernel_rfl) (by kernel_rfl)) (by kernel_rfl) (by kernel_rfl) (by kernel_rfl)
      (by rw [MakeChecks.laidMetH_plain _ _ _ (by kernel_rfl)]; exact laidMet_laidAll _ (by kernel_rfl) (by kernel_rfl))) ?_
  intro W base args ds gs before hS hL hval0 hW hZ
  have V := vs_laid rfl hL
  clear hS hL
  have hval : ∀ (j : Nat) t v, Tryd.f3.params[j]? = some t → args[j]? = some v → Value.okWide Tryd.prog W .any base t v := hval0
  have hW' := hW
  obtain ⟨p, q, hA0, hV, rfl, hfz, hnd⟩ := hW
  have hA : DataW.TrodAll enc Tryd.prog W 0 (fun _ => true) true Tryd.f3.params.toList args.toList ds p := hA0
  rw [Tryd.params3] at hA hval
  obtain ⟨v0, vs0, d0, ds0, p0, q0, hargs, rfl, rfl, h0, r0⟩ := trodAll_cons hA
  obtain ⟨v1, vs1, d1, ds1, p1, q1, rfl, rfl, rfl, h1, r1⟩ := trodAll_cons r0
  obtain ⟨v2, vs2, d2, ds2, p2, q2, rfl, rfl, rfl, h2, r2⟩ := trodAll_cons r1
  obtain ⟨v3, vs3, d3, ds3, p3, q3, rfl, rfl, rfl, h3, r3⟩ := trodAll_cons r2
  obtain ⟨rfl, rfl, rfl⟩ := trodAll_nil r3
  obtain rfl : args = #[v0, v1, v2, v3] := by cases args; simp_all
  obtain ⟨rfl, rfl⟩ := trodVars_none hV
  obtain ⟨a0, len0, cap0, rfl⟩ := okWide_slice Tryd.underlying22 (hval 0 22 v0 rfl rfl)
  obtain ⟨n1, rfl, rfl, rfl, w1⟩ := open_int Tryd.underlying3 (hval 1 3 v1 rfl rfl) h1
  obtain ⟨a2, len2, cap2, rfl⟩ := okWide_slice Tryd.underlying23 (hval 2 23 v2 rfl rfl)
  obtain ⟨a3, len3, cap3, rfl⟩ := okWide_slice Tryd.underlying24 (hval 3 24 v3 rfl rfl)
  have k0 := h0
  have k2 := h2
  have k3 := h3
  have lt0 : ∀ x ∈ p0, x.block < W.heap.size := by obtain ⟨m, hm⟩ := k0; exact DataW.trod_lt m _ _ _ hm
  have lt2 : ∀ x ∈ p2, x.block < W.heap.size := by obtain ⟨m, hm⟩ := k2; exact DataW.trod_lt m _ _ _ hm
  have lt3 : ∀ x ∈ p3, x.block < W.heap.size := by obtain ⟨m, hm⟩ := k3; exact DataW.trod_lt m _ _ _ hm
  obtain ⟨L, N, O, hR, hN, hNn, hO⟩ : ∃ (L : List Tt) (N : List ByteArray) (O : List Int), LsR W ⟨a0, len0, cap0⟩ L ∧ RdV W 1 ⟨a2, len2, cap2⟩ N.length (flat stE N) ∧ (∀ n ∈ N, n.size ≤ maxLen) ∧ RdV W 1 ⟨a3, len3, cap3⟩ O.length (flat iE O) := by
    obtain ⟨es, gs', before', ⟨p', q', hB0, hV', _⟩, hsz0⟩ := hZ
    have hB : DataW.TrodAll enc Tryd.prog W 0 (fun _ => true) true Tryd.f3.params.toList [.slice a0 len0 cap0, .int .i64 n1, .slice a2 len2 cap2, .slice a3 len3 cap3] es p' := hB0
    rw [Tryd.params3] at hB hsz0
    obtain ⟨_, _, e0, _, _, _, hx0, rfl, rfl, kk0, m1⟩ := trodAll_cons hB
    obtain ⟨rfl, rfl⟩ := List.cons.inj hx0
    obtain ⟨_, _, e1, _, _, _, hx1, rfl, rfl, kk1, m2⟩ := trodAll_cons m1
    obtain ⟨rfl, rfl⟩ := List.cons.inj hx1
    obtain ⟨_, _, e2, _, _, _, hx2, rfl, rfl, kk2, m3⟩ := trodAll_cons m2
    obtain ⟨rfl, rfl⟩ := List.cons.inj hx2
    obtain ⟨_, _, e3, _, _, _, hx3, rfl, rfl, kk3, m4⟩ := trodAll_cons m3
    obtain ⟨rfl, rfl⟩ := List.cons.inj hx3
    have hsz : (DataW.weightsEach Tryd.prog _ _).all (· ≤ reachBytes) = true := hsz0
    obtain ⟨fuel0, hf0⟩ := kk0
    obtain ⟨fuel2, hf2⟩ := kk2
    obtain ⟨fuel3, hf3⟩ := kk3
    have hl0 : Lt 22 e0 := fun m hm => by
      have := List.all_eq_true.1 hsz _ (DataW.weights_mem_each (j := 0) (t := 22) (d := e0) rfl rfl m hm)
      simpa using this
    have hl2 : Lt 23 e2 := fun m hm => by
      have := List.all_eq_true.1 hsz _ (DataW.weights_mem_each (j := 2) (t := 23) (d := e2) rfl rfl m hm)
      simpa using this
    have hl3 : Lt 24 e3 := fun m hm => by
      have := List.all_eq_true.1 hsz _ (DataW.weights_mem_each (j := 3) (t := 24) (d := e3) rfl rfl m hm)
      simpa using this
    obtain ⟨L, hL⟩ := ls_of hf0 hl0
    obtain ⟨N, hN1, hN2⟩ := row_strs hf2 hl2
    obtain ⟨O, hO⟩ := row_ints hf3 hl3
    exact ⟨L, N, O, hL, hN1, hN2, hO⟩
  clear hA0 hval0 hZ
  refine (laid_any W V ⟨a0, len0, cap0⟩ L hR n1 ⟨a2, len2, cap2⟩ ⟨a3, len3, cap3⟩ N O hN hNn hO).mono fun e W' ⟨he, bel⟩ => ?_
  subst he
  exact ⟨_, rfl, _, _, _, [], _, [], hW', trodAll_mk1 (shut_bool Tryd.underlying4 _), (trodAll_cons_mk (Below.trod laidOutB8 (by kernel_rfl) (of_decide_eq_true (by kernel_rfl)) k0 bel lt0) (trodAll_cons_mk (shut_int Tryd.underlying3 w1) (trodAll_cons_mk (Below.trod laidOutB8 (by kernel_rfl) (of_decide_eq_true (by kernel_rfl)) k2 bel lt2) (trodAll_cons_mk (Below.trod laidOutB8 (by kernel_rfl) (of_decide_eq_true (by kernel_rfl)) k3 bel lt3) trodAll_mk0)))), rfl, bel.frame _, fun h => by cases h⟩

theorem over : Rows.TypesLaidSaid :=
  OpenClaim.holds_of_wide 3 Tryd.f3 rfl rfl rfl rfl rfl rfl rfl ⟨rfl, rfl, rfl, rfl, rfl⟩ rfl rfl rfl rfl rfl (by kernel_rfl) Tryd.func3 (by kernel_rfl)
    (of_decide_eq_true (by kernel_rfl)) (by unfold Func.isWrapper; first | (rw [if_pos (by decide +kernel)]; kernel_rfl) | (rw [if_neg (by decide +kernel)]; exact ⟨rfl, rfl⟩))
    (fun os started H enc _ => lifted os started H enc)
end typesLaid
/-- The given card. -/
theorem typesLaid_holds : Rows.TypesLaidCardSaid :=
  Claim7.holds_tied_plain_at .later [] _ _ _ _ typesLaid.over (fun _ h => by cases h) (by kernel_rfl) (fun _ h => by cases h) typesLaid_row_tie rfl ⟨rfl, rfl⟩ (by kernel_rfl) rfl
    (fun f fn hf hfn => by
      obtain rfl : f = 3 := Option.some.inj ((show Tryd.prog.funcNamed "carrel/carrellaw11.TypesLaid" = some 3 by kernel_rfl).symm.trans hf) |>.symm
      obtain rfl : fn = Tryd.f3 := (Option.some.inj (Tryd.func3.symm.trans hfn)).symm
      exact ⟨by kernel_rfl, fun j t ht => by
        rw [Tryd.params3] at ht
        have hm : t ∈ [22, 3, 23, 24] := by simpa using Array.mem_of_getElem? ht
        have hall : ([22, 3, 23, 24].all fun u => !Tryd.prog.wantsStandIn u) = true := by kernel_rfl
        exact (show Tryd.prog.wantsStandIn t = false by simpa using List.all_eq_true.1 hall t hm)⟩)
    (by kernel_rfl)
#print axioms typesLaid_holds
end Go.Proofs.YtgkfnfilomjphaaDoor
