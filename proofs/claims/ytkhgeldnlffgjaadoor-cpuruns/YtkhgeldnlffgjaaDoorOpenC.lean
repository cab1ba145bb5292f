/-
  Arguments of the laws on processors, opened.
-/
import Derived.Test.YtkhgeldnlffgjaaDoorLaidR
import Derived.Test.YtkhgeldnlffgjaaDoorDoor
import Derived.Test.YtkhgeldnlffgjaaDoorBack
import Derived.Lay
import Derived.JoinedOf
import Derived.ChangeSame
namespace Go.Proofs.YtkhgeldnlffgjaaDoor
open Go.ChangeShapes Go.WideShapes Go.ChangeAt Go.RowKit
attribute [local go_sem ↓] loadCpu_seal storeCpu_seal loadIn_seal storeIn_seal
attribute [local go_sem] loadCpu_run storeCpu_run loadIn_run storeIn_run rowAt_at rowAt_past rowAt_drew rowAt_drewN roomCpu_new roomIn_new roomAt_old roomAt_drew roomAt_drewN putCpu_new putIn_new Cp.zero_fold In.fold putRow_past rowCpu_put rowIn_put size_put putRow_drew putRow_drewN alloc_drewN setCell_drewN Cp.at16 Cp.at17 Cp.at18 Cp.at19 Cp.at20 Cp.at21 Cp.size Cp.set16 Cp.set17 Cp.set18 Cp.set19 Cp.set20 Cp.set21 In.at0 In.at1 In.at2 In.at3 In.at4 In.at5 In.at6 In.at7 In.size In.set0 In.set1 In.set2 In.set3 In.ne Cp.ne In.set4 In.set5 In.set6 In.set7
set_option linter.unusedVariables false


theorem loadIn_at {w : World} {b o : Nat} (i : In) (h : w.rangeAt b o i.cells.toList) : (loadIn ⟨b, o, none⟩).run Tryd.prog w = .ok (.agg i.cells) w := by
  have := run_loadVar_mid (P := Tryd.prog) w b o 24 i.cells.toList _ h Tryd.underlying24 rfl Tryd.sizeIn
  simpa [loadIn] using this
theorem range_below {B : Nat} {w w' : World} {b o : Nat} {cs : List Value} (hb : Below B w w') (hB : b < B) (h : w.rangeAt b o cs) : w'.rangeAt b o cs := fun j v hv => (hb.cell (p := ⟨b, o + j, none⟩) hB).trans (h j v hv)
def RdI (w : World) (a : Option Addr) (len : Nat) (g : Nat → In) : Prop :=
  len ≤ maxLen ∧ (len = 0 ∨ ∃ b off, a = some ⟨b, off, none⟩ ∧ b < w.heap.size ∧ ∀ i, i < len → w.rangeAt b (off + i * 8) (g i).cells.toList)
theorem open_instrs {H : Type} {enc : TypeId × Value → H} {W : World} {base : Nat} {r : Reach} {b0 : Nat} {v : Value} {d : DataW H} {p : List MemPlace} (hv : Value.okWide Tryd.prog W r b0 30 v) (h : DataW.Trod enc Tryd.prog W base (fun _ => true) true 30 v d p) :
    ∃ a len cap g, v = .slice a len cap ∧ RdI W a len g := by
  obtain ⟨a0, len0, cap0, rfl⟩ := okWide_slice Tryd.underlying30 hv
  obtain ⟨fuel, hf⟩ := h
  rcases Go.Deep.open_slice Tryd.underlying30 hf with ⟨hcs, _⟩ | ⟨a, len, cap, m, n, D, Pl, hcs, _, hl, hm, hmm, _, hel⟩
  · simp [Value.cells] at hcs
    obtain ⟨rfl, rfl, rfl⟩ := hcs
    exact ⟨none, 0, 0, fun _ => In.zero, rfl, by unfold maxLen; omega, .inl rfl⟩
  · simp [Value.cells] at hcs
    obtain ⟨rfl, rfl, rfl⟩ := hcs
    have hmc : m = cap0 := by simpa using hmm
    have hall : ∀ i, ∃ gi : In, i < len0 → ∀ j, j < 8 → W.cell? ((a.add (i * 8)).add j) = gi.cells.toList[j]? := by
      intro i
      by_cases hi : i < len0
      · obtain ⟨cs', hc, ht⟩ := hel i (by omega)
        rw [Tryd.cellsN] at hc
        obtain ⟨gi, rfl⟩ := in_of_list ht
        exact ⟨gi, fun _ j hj => (World.cells?_some hc).2.2 j hj⟩
      · exact ⟨In.zero, fun h => absurd h hi⟩
    obtain ⟨g, hg⟩ := Classical.axiomOfChoice hall
    refine ⟨some a, len0, cap0, g, rfl, by omega, ?_⟩
    by_cases h0 : len0 = 0
    · exact .inl h0
    · have first := hg 0 (by omega) 0 (by omega)
      obtain ⟨b, off, spot⟩ := a
      have hspot : spot = none := by
        have e : (g 0).cells.toList[0]? = some (.int .i64 (g 0).F) := rfl
        rw [e] at first
        have := World.cell?_spot first
        simpa [Addr.add] using this
      subst hspot
      have hcell : ∀ i, i < len0 → ∀ j, j < 8 → W.cell? ⟨b, off + i * 8 + j, none⟩ = (g i).cells.toList[j]? := fun i hi j hj => by
        have := hg i hi j hj
        rwa [Go.WideShapes.add_plain, Go.WideShapes.add_plain] at this
      refine .inr ⟨b, off, rfl, ?_, fun i hi j v hv => ?_⟩
      · exact World.block_lt_of_cell? W _ (hcell 0 (by omega) 0 (by omega))
      · have hj : j < 8 := by
          have := (List.getElem?_eq_some_iff.1 hv).1
          simpa [In.cells] using this
        rw [hcell i hi j hj]; exact hv

def numOf : Option Value → Int
  | some (.int _ z) => z
  | _ => 0
section
variable {H : Type} {enc : TypeId × Value → H} {W : World} {base : Nat} {spare : Nat → Bool} {held : Bool}
theorem u32_at {n : Nat} {l : List Value} {k : Nat} {xs : List (DataW H × List MemPlace)} {i m : Nat} (hm : xs.length = m) (hi : i < m) (h : DataW.trod enc Tryd.prog W base spare held n 27 ((l.drop k).take (Tryd.prog.cellsOf 27)) = xs[i]?) :
    ∃ z, l[k]? = some (.int .u32 z) ∧ 0 ≤ z ∧ z ≤ 4294967295 := by
  obtain ⟨y, hy⟩ := some_of hm hi
  rw [hy, Tryd.cellsU] at h
  obtain ⟨z, e1, _, wf⟩ := DataW.trod_int Tryd.underlying27 h
  exact ⟨z, at_of e1, by simpa [Lit.wf, IntKind.min, IntKind.max, IntKind.signed, IntKind.bits] using wf⟩
theorem cpu_of_cells (cs : Array Value) (hs : cs.size = 22) (hR : ∀ i, i < 16 → ∃ z, cs[i]? = some (.int .u32 z) ∧ 0 ≤ z ∧ z ≤ 4294967295) (hH : ∃ z, cs[16]? = some (.int .u32 z) ∧ 0 ≤ z ∧ z ≤ 4294967295)
    (hN : ∃ z, cs[17]? = some (.bool z)) (hZ : ∃ z, cs[18]? = some (.bool z)) (hC : ∃ z, cs[19]? = some (.bool z)) (hV : ∃ z, cs[20]? = some (.bool z)) (hP : ∃ z, cs[21]? = some (.int .u32 z) ∧ 0 ≤ z ∧ z ≤ 4294967295) :
    ∃ c : Cp, c.Ok ∧ cs = c.cells := by
  obtain ⟨h, eh, h0⟩ := hH
  obtain ⟨n, en⟩ := hN
  obtain ⟨z, ez⟩ := hZ
  obtain ⟨c, ec⟩ := hC
  obtain ⟨v, ev⟩ := hV
  obtain ⟨p, ep, p0⟩ := hP
  refine ⟨{ R := fun i => numOf cs[i]?, H := h, N := n, Z := z, C := c, V := v, PC := p }, ⟨fun i hi => ?_, h0, p0⟩, ?_⟩
  · obtain ⟨x, ex, x0⟩ := hR i hi
    simp only [ex, numOf]; exact x0
  · apply Array.ext_getElem?
    intro i
    by_cases hi : i < 16
    · rw [Cp.atR _ _ hi]
      obtain ⟨x, ex, _⟩ := hR i hi
      simp [ex, numOf]
    · by_cases h2 : i < 22
      · have : i = 16 ∨ i = 17 ∨ i = 18 ∨ i = 19 ∨ i = 20 ∨ i = 21 := by omega
        rcases this with rfl | rfl | rfl | rfl | rfl | rfl
        · rw [eh]; rfl
        · rw [en]; rfl
        · rw [ez]; rfl
        · rw [ec]; rfl
        · rw [ev]; rfl
        · rw [ep]; rfl
      · rw [Array.getElem?_eq_none (by omega), Array.getElem?_eq_none (by rw [Cp.size]; omega)]
theorem open_cpu {r : Reach} {b0 : Nat} {v : Value} {d : DataW H} {p : List MemPlace} (hv : Value.okWide Tryd.prog W r b0 38 v) (h : DataW.Trod enc Tryd.prog W base spare held 38 v d p) : ∃ c : Cp, c.Ok ∧ v = .agg c.cells := by
  obtain ⟨cs, rfl, hsz⟩ := okWide_struct Tryd.underlying38 hv
  obtain ⟨fuel, hf⟩ := h
  obtain ⟨xs, n, _, _, hl, hlen, hfld⟩ := DataW.trod_struct Tryd.underlying38 hf
  have hlen7 : xs.length = 7 := hlen
  have hcs : (Value.agg cs).cells.toList = cs.toList := rfl
  rw [hcs] at hfld
  have g0 := hfld 0 _ rfl
  obtain ⟨y0, hy0⟩ := some_of hlen7 (i := 0) (by omega)
  rw [hy0] at g0
  obtain ⟨ys, m, _, _, _, hm, hel⟩ := DataW.trod_array Tryd.underlying36 g0
  have hR : ∀ i, i < 16 → ∃ z, cs[i]? = some (.int .u32 z) ∧ 0 ≤ z ∧ z ≤ 4294967295 := fun i hi => by
    obtain ⟨z, e, hz⟩ := u32_at hm hi (hel i hi)
    refine ⟨z, ?_, hz⟩
    rw [Tryd.cellsU] at e
    have e2 : ((cs.toList.drop 0).take (Tryd.prog.cellsOf 36))[i * 1]? = some (.int .u32 z) := e
    rw [Tryd.cellsA, List.drop_zero, List.getElem?_take, Nat.mul_one, if_pos hi] at e2
    simpa using e2
  have up : ∀ {k : Nat} {v : Value}, cs.toList[k]? = some v → cs[k]? = some v := fun h => by simpa using h
  obtain ⟨h, eh, h0⟩ := u32_at hlen7 (by omega) (hfld 1 _ rfl)
  obtain ⟨b1, e1⟩ := bool_at hlen7 (by omega) (hfld 2 _ rfl)
  obtain ⟨b2, e2⟩ := bool_at hlen7 (by omega) (hfld 3 _ rfl)
  obtain ⟨b3, e3⟩ := bool_at hlen7 (by omega) (hfld 4 _ rfl)
  obtain ⟨b4, e4⟩ := bool_at hlen7 (by omega) (hfld 5 _ rfl)
  obtain ⟨q, eq, q0⟩ := u32_at hlen7 (by omega) (hfld 6 _ rfl)
  obtain ⟨c, hc, rfl⟩ := cpu_of_cells cs (hsz.trans Tryd.cellsC) hR ⟨h, up eh, h0⟩ ⟨_, up e1⟩ ⟨_, up e2⟩ ⟨_, up e3⟩ ⟨_, up e4⟩ ⟨q, up eq, q0⟩
  exact ⟨c, hc, rfl⟩
end


def RdU (w : World) (a : Option Addr) (len : Nat) (f : Nat → Int) : Prop :=
  len ≤ maxLen ∧ (len = 0 ∨ ∃ b off, a = some ⟨b, off, none⟩ ∧ ∀ i, i < len → w.cell? ⟨b, off + i, none⟩ = some (.int .u32 (f i)) ∧ 0 ≤ f i ∧ f i ≤ 4294967295)
theorem open_words {H : Type} {enc : TypeId × Value → H} {W : World} {base : Nat} {r : Reach} {b0 : Nat} {v : Value} {d : DataW H} {p : List MemPlace} (hv : Value.okWide Tryd.prog W r b0 22 v) (h : DataW.Trod enc Tryd.prog W base (fun _ => true) true 22 v d p) :
    ∃ a len cap f, v = .slice a len cap ∧ RdU W a len f := by
  obtain ⟨a0, len0, cap0, rfl⟩ := okWide_slice Tryd.underlying22 hv
  obtain ⟨fuel, hf⟩ := h
  rcases open_ints Tryd.underlying22 Tryd.underlying27 Tryd.cellsU hf with ⟨hcs, _⟩ | ⟨x, l, c, zs, hcs, _, hl, hm, hz, hx, hcell, hwz⟩
  · simp [Value.cells] at hcs
    obtain ⟨rfl, rfl, rfl⟩ := hcs
    exact ⟨none, 0, 0, fun _ => 0, rfl, by unfold maxLen; omega, .inl rfl⟩
  · simp [Value.cells] at hcs
    obtain ⟨rfl, rfl, rfl⟩ := hcs
    have hz' : zs.length = cap0 := by simpa using hz
    refine ⟨_, len0, cap0, fun i => zs.getD i 0, rfl, by omega, ?_⟩
    by_cases h0 : len0 = 0
    · exact .inl h0
    · obtain ⟨b, off, rfl, hc⟩ := ints_at hcell (by omega)
      refine .inr ⟨b, off, rfl, fun i hi => ⟨hc i (by omega), ?_⟩⟩
      have hmem : zs.getD i 0 ∈ zs := by
        rw [List.getD, List.getElem?_eq_getElem (by omega)]; exact List.getElem_mem _
      simpa [Lit.wf, IntKind.min, IntKind.max, IntKind.signed, IntKind.bits] using hwz _ hmem
end Go.Proofs.YtkhgeldnlffgjaaDoor
