/-
  What is handed in: instructions opened; the table as the program's text lays it; and that laying and taking apart are each other's.
-/
import Derived.Test.YteegkhnikcioiaaGreatDoorMCShownB
import Derived.LaidMore
import Derived.Carry
namespace Go.Proofs.YteegkhnikcioiaaGreatDoor.Cpu
open Go.ChangeShapes Go.WideShapes Go.ChangeAt Go.RowKit
attribute [local go_sem ↓] loadCpu_seal storeCpu_seal loadIn_seal storeIn_seal
attribute [local go_sem] loadCpu_run storeCpu_run loadIn_run storeIn_run rowAt_at rowAt_past rowAt_drew rowAt_drewN roomCpu_new roomIn_new roomAt_old roomAt_drew roomAt_drewN putCpu_new putIn_new Cp.zero_fold In.fold putRow_past rowCpu_put rowIn_put size_put putRow_drew putRow_drewN alloc_drewN setCell_drewN Cp.at16 Cp.at17 Cp.at18 Cp.at19 Cp.at20 Cp.at21 Cp.size Cp.set16 Cp.set17 Cp.set18 Cp.set19 Cp.set20 Cp.set21 In.at0 In.at1 In.at2 In.at3 In.at4 In.at5 In.at6 In.at7 In.size In.set0 In.set1 In.set2 In.set3 In.ne Cp.ne In.set4 In.set5 In.set6 In.set7

theorem at_of {l : List Value} {k : Nat} {v : Value} (h : (l.drop k).take 1 = [v]) : l[k]? = some v := by
  have : ((l.drop k).take 1)[0]? = some v := by rw [h]; rfl
  simpa using this
theorem some_of {α : Type} {xs : List α} {n i : Nat} (h : xs.length = n) (hi : i < n) : ∃ y, xs[i]? = some y := ⟨xs[i]'(by omega), List.getElem?_eq_getElem (by omega)⟩
theorem Tryz.cellsI : Tryz.prog.cellsOf 3 = 1 := by kernel_rfl
theorem Tryz.cellsN : Tryz.prog.cellsOf 123 = 8 := by kernel_rfl
section
variable {H : Type} {enc : TypeId × Value → H} {W : World} {base : Nat} {spare : Nat → Bool} {held : Bool}
theorem i64_at {n : Nat} {l : List Value} {k : Nat} {xs : List (DataW H × List MemPlace)} {i m : Nat} (hm : xs.length = m) (hi : i < m) (h : DataW.trod enc Tryz.prog W base spare held n 3 ((l.drop k).take (Tryz.prog.cellsOf 3)) = xs[i]?) :
    ∃ z, l[k]? = some (.int .i64 z) := by
  obtain ⟨y, hy⟩ := some_of hm hi
  rw [hy, Tryz.cellsI] at h
  obtain ⟨z, e1, _, wf⟩ := DataW.trod_int Tryz.underlying3 h
  exact ⟨z, at_of e1⟩
theorem bool_at {n : Nat} {l : List Value} {k : Nat} {xs : List (DataW H × List MemPlace)} {i m : Nat} (hm : xs.length = m) (hi : i < m) (h : DataW.trod enc Tryz.prog W base spare held n 4 ((l.drop k).take (Tryz.prog.cellsOf 4)) = xs[i]?) :
    ∃ z, l[k]? = some (.bool z) := by
  obtain ⟨y, hy⟩ := some_of hm hi
  rw [hy, Tryz.cellsB] at h
  obtain ⟨z, e1, _⟩ := DataW.trod_bool Tryz.underlying4 h
  exact ⟨z, at_of e1⟩
end
def tabV (o f : Nat) : Option (DataW Unit) := ((((Rows.laid_carrel_cpu_ways : DataW Unit) |> fun | .agg l => l | _ => [])[o]?.map fun | .agg l => l | _ => []).getD [])[f]?
theorem tab_all : ∀ o : Nat, o < 16 → tabV o 0 = some (.lit (.int .i64 (waysZ o 0))) ∧ tabV o 1 = some (.lit (.int .i64 (waysZ o 1)))
  | 0, _ => ⟨by kernel_rfl, by kernel_rfl⟩
  | 1, _ => ⟨by kernel_rfl, by kernel_rfl⟩
  | 2, _ => ⟨by kernel_rfl, by kernel_rfl⟩
  | 3, _ => ⟨by kernel_rfl, by kernel_rfl⟩
  | 4, _ => ⟨by kernel_rfl, by kernel_rfl⟩
  | 5, _ => ⟨by kernel_rfl, by kernel_rfl⟩
  | 6, _ => ⟨by kernel_rfl, by kernel_rfl⟩
  | 7, _ => ⟨by kernel_rfl, by kernel_rfl⟩
  | 8, _ => ⟨by kernel_rfl, by kernel_rfl⟩
  | 9, _ => ⟨by kernel_rfl, by kernel_rfl⟩
  | 10, _ => ⟨by kernel_rfl, by kernel_rfl⟩
  | 11, _ => ⟨by kernel_rfl, by kernel_rfl⟩
  | 12, _ => ⟨by kernel_rfl, by kernel_rfl⟩
  | 13, _ => ⟨by kernel_rfl, by kernel_rfl⟩
  | 14, _ => ⟨by kernel_rfl, by kernel_rfl⟩
  | 15, _ => ⟨by kernel_rfl, by kernel_rfl⟩
  | _ + 16, h => absurd h (by omega)
theorem tab_eq (o : Nat) (ho : o < 16) (f : Nat) (hf : f < 2) : ((((Rows.laid_carrel_cpu_ways : DataW Unit) |> fun | .agg l => l | _ => [])[o]?.map fun | .agg l => l | _ => []).getD [])[f]? = some (.lit (.int .i64 (waysZ o f))) := by
  have hf2 : f = 0 ∨ f = 1 := by omega
  rcases hf2 with rfl | rfl
  · exact (tab_all o ho).1
  · exact (tab_all o ho).2
set_option maxRecDepth 100000 in
theorem ways_of_laid {W : World} (h : laidMetH Tryz.prog [("carrel/cpu.ways", Rows.laid_carrel_cpu_ways)] W) : Ways W := by
  rw [MakeChecks.laidMetH_plain _ _ _ (by kernel_rfl)] at h
  obtain ⟨ps, ⟨g, t, cs, fuel, p, q, hg, ht, hv, hd, _, _⟩, _, _⟩ := h
  obtain rfl := Option.some.inj ((show Tryz.prog.globalNamed "carrel/cpu.ways" = some 0 by kernel_rfl).symm.trans hg)
  obtain rfl := Option.some.inj ((show (Tryz.prog.globals[0]?).map (·.type) = some 183 by kernel_rfl).symm.trans ht)
  obtain ⟨xs, m, _, ex, _, hl, hel⟩ := DataW.trod_array Tryz.underlying183 hd
  have c2 : Tryz.prog.cellsOf 182 = 2 := by kernel_rfl
  have key : ∀ o : Nat, o < 16 → ∀ f : Nat, f < 2 → cs[o * 2 + f]? = some (.int .i64 (waysZ o f)) := by
    intro o ho f hf
    obtain ⟨y, hy⟩ := some_of hl ho
    have hE := hel o ho
    rw [hy, c2] at hE
    obtain ⟨ys, m2, _, ey, _, hl2, hel2⟩ := DataW.trod_array Tryz.underlying182 hE
    obtain ⟨y2, hy2⟩ := some_of hl2 hf
    have hF := hel2 f hf
    rw [hy2, Tryz.cellsI] at hF
    obtain ⟨z, e1, e2, _⟩ := DataW.trod_int Tryz.underlying3 hF
    have hz : z = waysZ o f := by
      have t1 : (Rows.laid_carrel_cpu_ways : DataW Unit) = .agg (xs.map (·.1)) := (Prod.mk.inj ex).1
      have t2 := tab_eq o ho f hf
      rw [t1] at t2
      simp only [List.getElem?_map, hy, Option.map_some, ey, Option.getD_some, hy2, e2, Option.some.injEq, DataW.lit.injEq, Lit.int.injEq, true_and] at t2
      exact t2
    have h1 := at_of e1
    rw [hz] at h1
    have h2 : ((cs.toList.drop (o * 2)).take 2)[f * 1]? = some (.int .i64 (waysZ o f)) := h1
    rw [List.getElem?_take, if_pos (by omega), List.getElem?_drop, Nat.mul_one] at h2
    simpa using h2
  have cell : ∀ o : Nat, o < 16 → ∀ f : Nat, f < 2 → W.cell? ⟨0, o * 2 + f, none⟩ = some (.int .i64 (waysZ o f)) := fun o ho f hf => by
    rw [World.var?_cell hg hv (o * 2 + f)]; exact key o ho f hf
  refine ⟨World.block_lt_of_cell? W _ (cell 0 (by omega) 0 (by omega)), fun o f a b c d => ?_⟩
  have := cell o.toNat (by omega) f.toNat (by omega)
  rwa [Int.toNat_of_nonneg a, Int.toNat_of_nonneg c] at this
theorem own : ownKnob Tryz.prog.godebug = none := by kernel_rfl
theorem laidOut : laidOutB Tryz.prog = true := by kernel_rfl
end Go.Proofs.YteegkhnikcioiaaGreatDoor.Cpu
