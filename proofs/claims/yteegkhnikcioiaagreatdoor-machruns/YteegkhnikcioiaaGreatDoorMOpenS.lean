/-
  What a machine is made of, opened.
-/
import Derived.Test.YteegkhnikcioiaaGreatDoorMMDuo
import Derived.Test.YteegkhnikcioiaaGreatDoorMCDoor
import Derived.Test.YteegkhnikcioiaaGreatDoorMOpenB
import Derived.SizedLaws
namespace Go.Proofs.YteegkhnikcioiaaGreatDoor
open Go.ChangeShapes Go.WideShapes Go.ChangeAt Go.RowKit
set_option linter.unusedVariables false

theorem Tryz.cellsMw : Tryz.prog.cellsOf 22 = 1 := by kernel_rfl
theorem Tryz.cellsMe : Tryz.prog.cellsOf 23 = 1 := by kernel_rfl
theorem Tryz.cellsMs : Tryz.prog.cellsOf 25 = 3 := by kernel_rfl
theorem Tryz.cellsMj : Tryz.prog.cellsOf 3 = 1 := by kernel_rfl
theorem Tryz.bytesMu : Tryz.prog.bytesOf 23 = 4 := by kernel_rfl
set_option maxRecDepth 100000 in
theorem start_of_list {H : Type} {enc : TypeId × Value → H} {W : World} {base : Nat} {l : List Value} {fuel : Nat} {x : DataW H × List MemPlace} (hf : DataW.trod enc Tryz.prog W base (fun _ => true) true fuel 25 l = some x) (hsz : ∀ n ∈ DataW.weights Tryz.prog 25 x.1, n ≤ reachBytes) :
    ∃ a len cap en sec f, l = [.slice a len cap, .int .u32 en, .int .i64 sec] ∧ RdW W a len f ∧ len ≤ 35184372087808 ∧ 0 ≤ en ∧ en ≤ 4294967295 := by
  obtain ⟨xs, n, _, ex, hl, hlen, hfld⟩ := DataW.trod_struct Tryz.underlying25 hf
  have h3 : xs.length = 3 := hlen
  obtain ⟨z1, k1, wf1⟩ : ∃ z, l[1]? = some (.int .u32 z) ∧ (Lit.int .u32 z).wf = true := by
    obtain ⟨y, hy⟩ := Cpu.some_of h3 (show 1 < 3 by omega)
    have h : DataW.trod enc Tryz.prog W base (fun _ => true) true n 23 ((l.drop 1).take (Tryz.prog.cellsOf 23)) = xs[1]? := hfld 1 _ rfl
    rw [hy, Tryz.cellsMe] at h
    obtain ⟨z, e1, _, wf⟩ := DataW.trod_int Tryz.underlying23 h
    exact ⟨z, Cpu.at_of e1, wf⟩
  obtain ⟨z2, k2⟩ : ∃ z, l[2]? = some (.int .i64 z) := by
    obtain ⟨y, hy⟩ := Cpu.some_of h3 (show 2 < 3 by omega)
    have h : DataW.trod enc Tryz.prog W base (fun _ => true) true n 3 ((l.drop 2).take (Tryz.prog.cellsOf 3)) = xs[2]? := hfld 2 _ rfl
    rw [hy, Tryz.cellsMj] at h
    obtain ⟨z, e1, _, wf⟩ := DataW.trod_int Tryz.underlying3 h
    exact ⟨z, Cpu.at_of e1⟩
  obtain ⟨a, len, cap, f, k0, hr, hle⟩ : ∃ a len cap f, l[0]? = some (.slice a len cap) ∧ RdW W a len f ∧ len ≤ 35184372087808 := by
    obtain ⟨y, hy⟩ := Cpu.some_of h3 (show 0 < 3 by omega)
    have h : DataW.trod enc Tryz.prog W base (fun _ => true) true n 22 ((l.drop 0).take (Tryz.prog.cellsOf 22)) = xs[0]? := hfld 0 _ rfl
    rw [hy, Tryz.cellsMw] at h
    rcases open_ints Tryz.underlying22 Tryz.underlying23 (by kernel_rfl) h with ⟨hcs, _⟩ | ⟨x', l', c', zs, hcs, _, hl', hm, hz, hx, hcell, hwz⟩
    · exact ⟨none, 0, 0, fun _ => 0, Cpu.at_of hcs, none_rdw _ _, by omega⟩
    · have hz' : zs.length = c' := by simpa using hz
      refine ⟨_, _, _, _, Cpu.at_of hcs, rdw_of_row hl' hm hz' hcell hwz, ?_⟩
      have hx1 : x.1 = .agg (xs.map (·.1)) := by rw [ex]
      have hmem : ((lits (H := H) .u32 (zs.take l')).length + (lits (H := H) .u32 (zs.drop l')).length) * Tryz.prog.bytesOf 23 ∈ DataW.weights Tryz.prog 25 x.1 := by
        rw [hx1]
        simp only [DataW.weights, Tryz.underlying25]
        exact DataW.weights_mem_each (j := 0) (t := 22) rfl (by rw [List.getElem?_map, hy]; rfl) _ (by rw [hx]; simp [DataW.weights, Tryz.underlying22])
      have hw := hsz _ hmem
      rw [Tryz.bytesMu] at hw
      simp only [lits, List.length_map, List.length_take, List.length_drop, reachBytes] at hw
      omega
  rw [Tryz.cellsMs] at hl
  refine ⟨a, len, cap, z1, z2, f, ?_, hr, hle, (wfU wf1).1, (wfU wf1).2⟩
  apply List.ext_getElem?
  intro k
  by_cases hk : k < 3
  · have : k = 0 ∨ k = 1 ∨ k = 2 := by omega
    rcases this with rfl | rfl | rfl
    · exact k0
    · exact k1
    · exact k2
  · rw [List.getElem?_eq_none (by omega), List.getElem?_eq_none (by simp; omega)]
set_option maxRecDepth 100000 in
theorem open_start {H : Type} {enc : TypeId × Value → H} {W : World} {base : Nat} {r : Reach} {b0 : Nat} {v : Value} {d : DataW H} {p : List MemPlace} (hv : Value.okWide Tryz.prog W r b0 25 v) (h : DataW.Trod enc Tryz.prog W base (fun _ => true) true 25 v d p) (hsz : ∀ n ∈ DataW.weights Tryz.prog 25 d, n ≤ reachBytes) :
    ∃ a len cap en sec f, v = .agg #[.slice a len cap, .int .u32 en, .int .i64 sec] ∧ RdW W a len f ∧ len ≤ 35184372087808 ∧ 0 ≤ en ∧ en ≤ 4294967295 := by
  obtain ⟨cs, rfl, _⟩ := okWide_struct Tryz.underlying25 hv
  obtain ⟨fuel, hf⟩ := h
  obtain ⟨a, len, cap, en, sec, f, hl, r1, r2, r3, r4⟩ := start_of_list hf hsz
  have hl' : cs.toList = [.slice a len cap, .int .u32 en, .int .i64 sec] := hl
  exact ⟨a, len, cap, en, sec, f, by rw [← Array.toArray_toList (xs := cs), hl'], r1, r2, r3, r4⟩
theorem sized_at {H : Type} {ts : List TypeId} {ds : List (DataW H)} (h : (DataW.weightsEach Tryz.prog ts ds).all (· ≤ reachBytes) = true) {j : Nat} {t : TypeId} {d : DataW H} (ht : ts[j]? = some t) (hd : ds[j]? = some d) : ∀ n ∈ DataW.weights Tryz.prog t d, n ≤ reachBytes := fun n hn => by
  have := List.all_eq_true.1 h _ (DataW.weights_mem_each ht hd n hn)
  simpa using this
end Go.Proofs.YteegkhnikcioiaaGreatDoor
