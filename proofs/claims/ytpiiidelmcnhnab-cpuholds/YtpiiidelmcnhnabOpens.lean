/-
  Processors that are handed in, opened: their cells are those of a plain processor; what is kept while functions are called.
-/
import Derived.Test.YtpiiidelmcnhnabHolds
namespace Go.Proofs.Ytpiiidelmcnhnab
open Go.ChangeShapes Go.WideShapes Go.ChangeAt Go.RowKit

theorem at_of {l : List Value} {k : Nat} {v : Value} (h : (l.drop k).take 1 = [v]) : l[k]? = some v := by
  have : ((l.drop k).take 1)[0]? = some v := by rw [h]; rfl
  simpa using this
def numOf : Option Value → Int
  | some (.int _ z) => z
  | _ => 0
def boolOf : Option Value → Bool
  | some (.bool z) => z
  | _ => false
theorem Try.cellsC : Try.prog.cellsOf 25 = 22 := by kernel_rfl
theorem Try.cellsA : Try.prog.cellsOf 23 = 16 := by kernel_rfl
theorem Try.cellsU : Try.prog.cellsOf 22 = 1 := by kernel_rfl
theorem Try.cellsB : Try.prog.cellsOf 4 = 1 := by kernel_rfl
section
variable {H : Type} {enc : TypeId × Value → H} {W : World} {base : Nat} {spare : Nat → Bool} {held : Bool}
theorem some_of {α : Type} {xs : List α} {n i : Nat} (h : xs.length = n) (hi : i < n) : ∃ y, xs[i]? = some y := ⟨xs[i]'(by omega), List.getElem?_eq_getElem (by omega)⟩
theorem u32_at {n : Nat} {l : List Value} {k : Nat} {xs : List (DataW H × List MemPlace)} {i m : Nat} (hm : xs.length = m) (hi : i < m) (h : DataW.trod enc Try.prog W base spare held n 22 ((l.drop k).take (Try.prog.cellsOf 22)) = xs[i]?) :
    ∃ z, l[k]? = some (.int .u32 z) ∧ 0 ≤ z ∧ z ≤ 4294967295 := by
  obtain ⟨y, hy⟩ := some_of hm hi
  rw [hy, Try.cellsU] at h
  obtain ⟨z, e1, _, wf⟩ := DataW.trod_int Try.underlying22 h
  exact ⟨z, at_of e1, by simpa [Lit.wf, IntKind.min, IntKind.max, IntKind.signed, IntKind.bits] using wf⟩
theorem bool_at {n : Nat} {l : List Value} {k : Nat} {xs : List (DataW H × List MemPlace)} {i m : Nat} (hm : xs.length = m) (hi : i < m) (h : DataW.trod enc Try.prog W base spare held n 4 ((l.drop k).take (Try.prog.cellsOf 4)) = xs[i]?) :
    ∃ z, l[k]? = some (.bool z) := by
  obtain ⟨y, hy⟩ := some_of hm hi
  rw [hy, Try.cellsB] at h
  obtain ⟨z, e1, _⟩ := DataW.trod_bool Try.underlying4 h
  exact ⟨z, at_of e1⟩
theorem cpu_of_cells (cs : Array Value) (hs : cs.size = 22) (hR : ∀ i, i < 16 → ∃ z, cs[i]? = some (.int .u32 z) ∧ 0 ≤ z ∧ z ≤ 4294967295) (hH : ∃ z, cs[16]? = some (.int .u32 z) ∧ 0 ≤ z ∧ z ≤ 4294967295)
    (hN : ∃ z, cs[17]? = some (.bool z)) (hZ : ∃ z, cs[18]? = some (.bool z)) (hC : ∃ z, cs[19]? = some (.bool z)) (hV : ∃ z, cs[20]? = some (.bool z)) (hP : ∃ z, cs[21]? = some (.int .u32 z) ∧ 0 ≤ z ∧ z ≤ 4294967295) :
    ∃ c : Cp, c.Ok ∧ cs = c.cells := by
  obtain ⟨h, eh, h0⟩ := hH
  obtain ⟨n, en⟩ := hN
  obtain ⟨z, ez⟩ := hZ
  obtain ⟨c, ec⟩ := hC
  obtain ⟨v, ev⟩ := hV
  obtain ⟨p, ep, p0⟩ := hP
  refine ⟨{ R := fun i => numOf cs[i]?, H := h, N := n, Z := z, C := c, V := v, PC := p }, ⟨fun i hi => ?_, h0, p0⟩, ?_⟩
  · obtain ⟨x, ex, x0⟩ := hR i hi
    simp only [ex, numOf]; exact x0
  · apply Array.ext_getElem?
    intro i
    by_cases hi : i < 16
    · rw [Cp.atR _ _ hi]
      obtain ⟨x, ex, _⟩ := hR i hi
      simp [ex, numOf]
    · by_cases h2 : i < 22
      · have : i = 16 ∨ i = 17 ∨ i = 18 ∨ i = 19 ∨ i = 20 ∨ i = 21 := by omega
        rcases this with rfl | rfl | rfl | rfl | rfl | rfl
        · rw [eh]; rfl
        · rw [en]; rfl
        · rw [ez]; rfl
        · rw [ec]; rfl
        · rw [ev]; rfl
        · rw [ep]; rfl
      · rw [Array.getElem?_eq_none (by omega), Array.getElem?_eq_none (by rw [Cp.size]; omega)]
theorem open_cpu {r : Reach} {b0 : Nat} {v : Value} {d : DataW H} {p : List MemPlace} (hv : Value.okWide Try.prog W r b0 25 v) (h : DataW.Trod enc Try.prog W base spare held 25 v d p) : ∃ c : Cp, c.Ok ∧ v = .agg c.cells := by
  obtain ⟨cs, rfl, hsz⟩ := okWide_struct Try.underlying25 hv
  obtain ⟨fuel, hf⟩ := h
  obtain ⟨xs, n, _, _, hl, hlen, hfld⟩ := DataW.trod_struct Try.underlying25 hf
  have hlen7 : xs.length = 7 := hlen
  have hcs : (Value.agg cs).cells.toList = cs.toList := rfl
  rw [hcs] at hfld
  have g0 := hfld 0 _ rfl
  obtain ⟨y0, hy0⟩ := some_of hlen7 (i := 0) (by omega)
  rw [hy0] at g0
  obtain ⟨ys, m, _, _, _, hm, hel⟩ := DataW.trod_array Try.underlying23 g0
  have hR : ∀ i, i < 16 → ∃ z, cs[i]? = some (.int .u32 z) ∧ 0 ≤ z ∧ z ≤ 4294967295 := fun i hi => by
    obtain ⟨z, e, hz⟩ := u32_at hm hi (hel i hi)
    refine ⟨z, ?_, hz⟩
    rw [Try.cellsU] at e
    have e2 : ((cs.toList.drop 0).take (Try.prog.cellsOf 23))[i * 1]? = some (.int .u32 z) := e
    rw [Try.cellsA, List.drop_zero, List.getElem?_take, Nat.mul_one, if_pos hi] at e2
    simpa using e2
  have up : ∀ {k : Nat} {v : Value}, cs.toList[k]? = some v → cs[k]? = some v := fun h => by simpa using h
  obtain ⟨h, eh, h0⟩ := u32_at hlen7 (by omega) (hfld 1 _ rfl)
  obtain ⟨b1, e1⟩ := bool_at hlen7 (by omega) (hfld 2 _ rfl)
  obtain ⟨b2, e2⟩ := bool_at hlen7 (by omega) (hfld 3 _ rfl)
  obtain ⟨b3, e3⟩ := bool_at hlen7 (by omega) (hfld 4 _ rfl)
  obtain ⟨b4, e4⟩ := bool_at hlen7 (by omega) (hfld 5 _ rfl)
  obtain ⟨q, eq, q0⟩ := u32_at hlen7 (by omega) (hfld 6 _ rfl)
  obtain ⟨c, hc, rfl⟩ := cpu_of_cells cs (hsz.trans Try.cellsC) hR ⟨h, up eh, h0⟩ ⟨_, up e1⟩ ⟨_, up e2⟩ ⟨_, up e3⟩ ⟨_, up e4⟩ ⟨q, up eq, q0⟩
  exact ⟨c, hc, rfl⟩
end
/-- Nothing that was there has turned, and these blocks hold these rows. -/
def Keeps (w : World) (rows : List (Nat × Array Value)) (X : World) : Prop := Below w.heap.size w X ∧ ∀ r ∈ rows, rowAt X r.1 = some r.2 ∧ r.1 < X.heap.size
theorem Keeps.call {w : World} {rows : List (Nat × Array Value)} {X w1 : World} (hb : Below X.heap.size X w1) (h : Keeps w rows X) : Keeps w rows w1 :=
  ⟨h.1.trans (hb.mono h.1.size), fun r hr => ⟨(rowAt_below hb _ (h.2 r hr).2).trans (h.2 r hr).1, Nat.lt_of_lt_of_le (h.2 r hr).2 hb.size⟩⟩
theorem Keeps.row {w : World} {rows : List (Nat × Array Value)} {X : World} (h : Keeps w rows X) {b : Nat} {c : Array Value} (hr : (b, c) ∈ rows) : rowAt X b = some c := (h.2 _ hr).1
theorem Keeps.drew {w : World} {rows : List (Nat × Array Value)} {X : World} (h : Keeps w rows X) : Keeps w rows X.drew := ⟨h.1.drew, h.2⟩
theorem Keeps.step1 {w X w1 : World} {b : Nat} {c : Array Value} (hb : Below X.heap.size X w1) (h : Keeps w [(b, c)] X ∧ rowAt X b = some c) : Keeps w [(b, c)] w1 ∧ rowAt w1 b = some c :=
  have k := h.1.call hb
  ⟨k, k.row (by simp)⟩
theorem Keeps.drew1 {w X : World} {b : Nat} {c : Array Value} (h : Keeps w [(b, c)] X) : Keeps w [(b, c)] X.drew ∧ rowAt X.drew b = some c := ⟨h.drew, h.drew.row (by simp)⟩
theorem Keeps.new1 (w : World) (c : Array Value) (t : TypeId) : Keeps w [(w.heap.size, c)] (w.alloc (.cells c t)) :=
  ⟨(Below.refl _ _).alloc (Nat.le_refl _) _, fun r hr => by
    obtain rfl := List.mem_singleton.1 hr
    exact ⟨rowAt_new _ _ _ _, by simp⟩⟩
end Go.Proofs.Ytpiiidelmcnhnab
