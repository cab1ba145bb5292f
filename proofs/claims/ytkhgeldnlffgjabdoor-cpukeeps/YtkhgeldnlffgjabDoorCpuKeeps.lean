/-
  The law on what an instruction leaves as it is: one that traps, or is none, changes nothing, every other one no register but its own; no condition but what the program's text lays into its table.
-/
import Derived.Test.YtkhgeldnlffgjabDoorKeepsV
import Derived.Test.YtkhgeldnlffgjabDoorDoor
import Derived.Test.YtkhgeldnlffgjabDoorTie
import Derived.Test.YtkhgeldnlffgjabDoorCards
import Derived.Lay
import Derived.SevenTiedAt
import Derived.JoinedOf
import Derived.ChangeSame
namespace Go.Proofs.YtkhgeldnlffgjabDoor
open Go.ChangeShapes Go.WideShapes Go.ChangeAt Go.RowKit

def numOf : Option Value → Int
  | some (.int _ z) => z
  | _ => 0
section
variable {H : Type} {enc : TypeId × Value → H} {W : World} {base : Nat} {spare : Nat → Bool} {held : Bool}
theorem u32_at {n : Nat} {l : List Value} {k : Nat} {xs : List (DataW H × List MemPlace)} {i m : Nat} (hm : xs.length = m) (hi : i < m) (h : DataW.trod enc Tryd.prog W base spare held n 22 ((l.drop k).take (Tryd.prog.cellsOf 22)) = xs[i]?) :
    ∃ z, l[k]? = some (.int .u32 z) ∧ 0 ≤ z ∧ z ≤ 4294967295 := by
  obtain ⟨y, hy⟩ := some_of hm hi
  rw [hy, Tryd.cellsU] at h
  obtain ⟨z, e1, _, wf⟩ := DataW.trod_int Tryd.underlying22 h
  exact ⟨z, at_of e1, by simpa [Lit.wf, IntKind.min, IntKind.max, IntKind.signed, IntKind.bits] using wf⟩
theorem cpu_of_cells (cs : Array Value) (hs : cs.size = 22) (hR : ∀ i, i < 16 → ∃ z, cs[i]? = some (.int .u32 z) ∧ 0 ≤ z ∧ z ≤ 4294967295) (hH : ∃ z, cs[16]? = some (.int .u32 z) ∧ 0 ≤ z ∧ z ≤ 4294967295)
    (hN : ∃ z, cs[17]? = some (.bool z)) (hZ : ∃ z, cs[18]? = some (.bool z)) (hC : ∃ z, cs[19]? = some (.bool z)) (hV : ∃ z, cs[20]? = some (.bool z)) (hP : ∃ z, cs[21]? = some (.int .u32 z) ∧ 0 ≤ z ∧ z ≤ 4294967295) :
    ∃ c : Cp, c.Ok ∧ cs = c.cells := by
  obtain ⟨h, eh, h0⟩ := hH
  obtain ⟨n, en⟩ := hN
  obtain ⟨z, ez⟩ := hZ
  obtain ⟨c, ec⟩ := hC
  obtain ⟨v, ev⟩ := hV
  obtain ⟨p, ep, p0⟩ := hP
  refine ⟨{ R := fun i => numOf cs[i]?, H := h, N := n, Z := z, C := c, V := v, PC := p }, ⟨fun i hi => ?_, h0, p0⟩, ?_⟩
  · obtain ⟨x, ex, x0⟩ := hR i hi
    simp only [ex, numOf]; exact x0
  · apply Array.ext_getElem?
    intro i
    by_cases hi : i < 16
    · rw [Cp.atR _ _ hi]
      obtain ⟨x, ex, _⟩ := hR i hi
      simp [ex, numOf]
    · by_cases h2 : i < 22
      · have : i = 16 ∨ i = 17 ∨ i = 18 ∨ i = 19 ∨ i = 20 ∨ i = 21 := by omega
        rcases this with rfl | rfl | rfl | rfl | rfl | rfl
        · rw [eh]; rfl
        · rw [en]; rfl
        · rw [ez]; rfl
        · rw [ec]; rfl
        · rw [ev]; rfl
        · rw [ep]; rfl
      · rw [Array.getElem?_eq_none (by omega), Array.getElem?_eq_none (by rw [Cp.size]; omega)]
theorem open_cpu {r : Reach} {b0 : Nat} {v : Value} {d : DataW H} {p : List MemPlace} (hv : Value.okWide Tryd.prog W r b0 25 v) (h : DataW.Trod enc Tryd.prog W base spare held 25 v d p) : ∃ c : Cp, c.Ok ∧ v = .agg c.cells := by
  obtain ⟨cs, rfl, hsz⟩ := okWide_struct Tryd.underlying25 hv
  obtain ⟨fuel, hf⟩ := h
  obtain ⟨xs, n, _, _, hl, hlen, hfld⟩ := DataW.trod_struct Tryd.underlying25 hf
  have hlen7 : xs.length = 7 := hlen
  have hcs : (Value.agg cs).cells.toList = cs.toList := rfl
  rw [hcs] at hfld
  have g0 := hfld 0 _ rfl
  obtain ⟨y0, hy0⟩ := some_of hlen7 (i := 0) (by omega)
  rw [hy0] at g0
  obtain ⟨ys, m, _, _, _, hm, hel⟩ := DataW.trod_array Tryd.underlying23 g0
  have hR : ∀ i, i < 16 → ∃ z, cs[i]? = some (.int .u32 z) ∧ 0 ≤ z ∧ z ≤ 4294967295 := fun i hi => by
    obtain ⟨z, e, hz⟩ := u32_at hm hi (hel i hi)
    refine ⟨z, ?_, hz⟩
    rw [Tryd.cellsU] at e
    have e2 : ((cs.toList.drop 0).take (Tryd.prog.cellsOf 23))[i * 1]? = some (.int .u32 z) := e
    rw [Tryd.cellsA, List.drop_zero, List.getElem?_take, Nat.mul_one, if_pos hi] at e2
    simpa using e2
  have up : ∀ {k : Nat} {v : Value}, cs.toList[k]? = some v → cs[k]? = some v := fun h => by simpa using h
  obtain ⟨h, eh, h0⟩ := u32_at hlen7 (by omega) (hfld 1 _ rfl)
  obtain ⟨b1, e1⟩ := bool_at hlen7 (by omega) (hfld 2 _ rfl)
  obtain ⟨b2, e2⟩ := bool_at hlen7 (by omega) (hfld 3 _ rfl)
  obtain ⟨b3, e3⟩ := bool_at hlen7 (by omega) (hfld 4 _ rfl)
  obtain ⟨b4, e4⟩ := bool_at hlen7 (by omega) (hfld 5 _ rfl)
  obtain ⟨q, eq, q0⟩ := u32_at hlen7 (by omega) (hfld 6 _ rfl)
  obtain ⟨c, hc, rfl⟩ := cpu_of_cells cs (hsz.trans Tryd.cellsC) hR ⟨h, up eh, h0⟩ ⟨_, up e1⟩ ⟨_, up e2⟩ ⟨_, up e3⟩ ⟨_, up e4⟩ ⟨q, up eq, q0⟩
  exact ⟨c, hc, rfl⟩
end

namespace cpuKeeps
set_option maxRecDepth 100000 in
theorem lifted (os : Os) (started : os.Started) (H : Type) (enc : TypeId × Value → H) :
    ReturnsInHanded {} Tryd.checked os 3 .any (fun w args => (Rows.cpuKeepsSpec.pre enc Tryd.prog Tryd.f3 [] false w args ∧ laidMetH Tryd.prog [("carrel/cpu.ways", Rows.laid_carrel_cpu_ways)] w) ∧ sizedMet enc Tryd.prog Tryd.f3 (OpenSpec.ofChange Rows.cpuKeepsSpec) false w args)
      (Rows.cpuKeepsSpec.post enc Tryd.prog Tryd.f3 false true false false) := by
  refine returnsInHanded_of_change_and (C := Tryd.checked) (X := fun w _ => laidMetH Tryd.prog [("carrel/cpu.ways", Rows.laid_carrel_cpu_ways)] w) (fun _ _ _ hh h => h.of_heap hh) own started (by kernel_rfl) Tryd.func3
    (ChangeSpec.witness_shaped (enc := enc) (C := Tryd.checked) (os := os) (X := fun w _ => laidMetH Tryd.prog [("carrel/cpu.ways", Rows.laid_carrel_cpu_ways)] w) false (World.laidAll Tryd.prog os [("carrel/cpu.ways", Rows.laid_carrel_cpu_ways)]) #[.agg Cp.zero.cells, .agg In.zero.cells, .int .u32 0] 8 (World.laidAll_os _ _ _)
      (World.shaped_of_ZipB (by kernel_rfl) (by kernel_rfl)) (by kernel_rfl) (by kernel_rfl) (by kernel_rfl)
      (by rw [MakeChecks.laidMetH_plain _ _ _ (by kernel_rfl)]; exact laidMet_laidAll _ (by kernel_rfl) (by kernel_rfl))) ?_
  intro W base args ds gs before hval0 hW _ _ hL _
  have hval : ∀ (j : Nat) t v, Tryd.f3.params[j]? = some t → args[j]? = some v → Value.okWide Tryd.prog W .any base t v := hval0
  have hW' := hW
  obtain ⟨p, q, hA0, hV, rfl, _, _⟩ := hW
  have hA : DataW.TrodAll enc Tryd.prog W 0 (fun _ => true) true Tryd.f3.params.toList args.toList ds p := hA0
  rw [Tryd.params3] at hA hval
  obtain ⟨v0, vs0, d0, ds0, p0, q0, hargs, rfl, rfl, h0, r0⟩ := trodAll_cons hA
  obtain ⟨v1, vs1, d1, ds1, p1, q1, rfl, rfl, rfl, h1, r1⟩ := trodAll_cons r0
  obtain ⟨v2, vs2, d2, ds2, p2, q2, rfl, rfl, rfl, h2, r2⟩ := trodAll_cons r1
  obtain ⟨rfl, rfl, rfl⟩ := trodAll_nil r2
  obtain rfl : args = #[v0, v1, v2] := by cases args; simp_all
  obtain ⟨rfl, rfl⟩ := trodVars_none hV
  have lt0 : ∀ x ∈ p0, x.block < W.heap.size := by obtain ⟨m, hm⟩ := h0; exact DataW.trod_lt m _ _ _ hm
  have lt1 : ∀ x ∈ p1, x.block < W.heap.size := by obtain ⟨m, hm⟩ := h1; exact DataW.trod_lt m _ _ _ hm
  obtain ⟨c, hc, rfl⟩ := open_cpu (hval 0 25 v0 rfl rfl) h0
  obtain ⟨i, rfl⟩ := open_in (hval 1 27 v1 rfl rfl) h1
  obtain ⟨x2, rfl, rfl, rfl, wx2⟩ := open_int Tryd.underlying22 (hval 2 22 v2 rfl rfl) h2
  have hx2 : 0 ≤ x2 ∧ x2 ≤ 4294967295 := by simpa [Lit.wf, IntKind.min, IntKind.max, IntKind.signed, IntKind.bits] using wx2
  clear hA0 hval0
  simp only [List.append_nil] at hW'
  refine (keeps_any c i x2 W (ways_of_laid hL) hc hx2.1 hx2.2).mono fun e W' ⟨he, hg⟩ => ?_
  subst he
  exact ⟨_, rfl, _, _, _, [], _, [], hW', trodAll_mk1 (shut_bool Tryd.underlying4 _), (trodAll_cons_mk (Below.trod laidOut (by kernel_rfl) (of_decide_eq_true (by kernel_rfl)) h0 hg lt0) (trodAll_cons_mk (Below.trod laidOut (by kernel_rfl) (of_decide_eq_true (by kernel_rfl)) h1 hg lt1) (trodAll_cons_mk (shut_int Tryd.underlying22 wx2) trodAll_mk0))), rfl, hg.frame _, fun h => by cases h⟩
theorem over : Rows.CpuKeepsSaid :=
  OpenClaim.holds_of_wide 3 Tryd.f3 rfl rfl rfl rfl rfl rfl rfl ⟨rfl, rfl, rfl, rfl, rfl⟩ rfl rfl rfl rfl rfl (by kernel_rfl) Tryd.func3 (by kernel_rfl)
    (of_decide_eq_true (by kernel_rfl)) (by unfold Func.isWrapper; first | (rw [if_pos (by decide +kernel)]; kernel_rfl) | (rw [if_neg (by decide +kernel)]; exact ⟨rfl, rfl⟩))
    (fun os started H enc _ => lifted os started H enc)
end cpuKeeps
/-- The given card. -/
theorem cpuKeeps_holds : Rows.CpuKeepsCardSaid :=
  Claim7.holds_tied_plain_at .later [] [.data] true Rows.cpuKeepsCard.stood.harness false cpuKeeps.over (fun _ h => by cases h) (by kernel_rfl) (fun _ h => by cases h) cpuKeeps_row_tie rfl ⟨rfl, rfl⟩ (by kernel_rfl) rfl
    (fun f fn hf hfn => by
      obtain rfl : f = 3 := Option.some.inj ((show Tryd.prog.funcNamed "carrel/carrellaw02.CpuKeeps" = some 3 by kernel_rfl).symm.trans hf) |>.symm
      obtain rfl : fn = Tryd.f3 := (Option.some.inj (Tryd.func3.symm.trans hfn)).symm
      exact ⟨by kernel_rfl, fun j t ht => by
        rw [Tryd.params3] at ht
        have hm : t ∈ [25, 27, 22] := by simpa using Array.mem_of_getElem? ht
        have hall : ([25, 27, 22].all fun u => !Tryd.prog.wantsStandIn u) = true := by kernel_rfl
        exact (show Tryd.prog.wantsStandIn t = false by simpa using List.all_eq_true.1 hall t hm)⟩)
    (by kernel_rfl)
#print axioms cpuKeeps_holds
end Go.Proofs.YtkhgeldnlffgjabDoor
