/-
  Layer 7: the functions that the reader hands to its rows of fixes and descriptors.
-/
import Derived.Test.YtcppgpcgbggdcaaDoorRcl
import Derived.Test.YtcppgpcgbggdcaaDoorRrw
namespace Go.Proofs.YtcppgpcgbggdcaaDoor
set_option linter.unusedVariables false
set_option linter.unusedSimpArgs false
open Go.ChangeShapes Go.WideShapes Go.ChangeAt Go.RowKit

theorem cell_far {w : World} {g j q : Nat} {v : Value} (h : q ≠ g) : (w.setCell ⟨g, j, none⟩ v).cell? ⟨q, 0, none⟩ = w.cell? ⟨q, 0, none⟩ := World.cell?_of_block (a := ⟨q, 0, none⟩) (Below.heap_setCell _ _ _ _ h)
theorem cell_far4 {w : World} {g q : Nat} {v0 v1 v2 v3 : Value} (h : q ≠ g) : ((((w.setCell ⟨g, 0, none⟩ v0).setCell ⟨g, 1, none⟩ v1).setCell ⟨g, 2, none⟩ v2).setCell ⟨g, 3, none⟩ v3).cell? ⟨q, 0, none⟩ = w.cell? ⟨q, 0, none⟩ := by rw [cell_far h, cell_far h, cell_far h, cell_far h]
/-- A Fix. -/
def fixS (f : Nat → Int) (len : Nat) (s : St) : (Int × Int × Int × Int) × St :=
  let x1 := numS f len 4294967295 s
  let x2 := octS f len 255 x1.2
  let x3 := numS f len 16 x2.2
  let x4 := numS f len 4294967295 x3.2
  ((x1.1, x2.1, x3.1 - 1, x4.1), x4.2)
def fixV (x : Int × Int × Int × Int) : Array Value := #[.int .i64 x.1, .int .i64 x.2.1, .int .i64 x.2.2.1, .int .i64 x.2.2.2]
theorem octS_bd (f : Nat → Int) (len : Nat) (s : St) (hf : ∀ i, i < len → 0 ≤ f i ∧ f i ≤ 255) : 0 ≤ (octS f len 255 s).1 ∧ (octS f len 255 s).1 ≤ 255 := by
  unfold octS
  split
  · rename_i h
    simp only [Bool.and_eq_true, decide_eq_true_eq] at h
    exact hf _ h.2.1
  · exact ⟨Int.le_refl _, show (0 : Int) ≤ 255 by decide⟩
theorem Rdr.bd {w : World} {b len cap : Nat} {a : Option Addr} {f : Nat → Int} {s : St} (h : Rdr w b a len cap f s) : ∀ i, i < len → 0 ≤ f i ∧ f i ≤ 255 := fun i hi => by
  rcases h.src.rd.2 with h0 | ⟨q, off, _, hc⟩
  · omega
  · exact (hc i hi).2
/-- A Desc. -/
def dscS (f : Nat → Int) (len : Nat) (s : St) : (Int × Int × List Int) × St :=
  let x1 := numS f len 4294967295 s
  let x2 := numS f len 4294967295 x1.2
  let x3 := rowS f len 4 (numS f len 4294967295) x2.2
  ((x1.1, x2.1, x3.1), x3.2)
def PostD (w : World) (b : Nat) (a : Option Addr) (len cap : Nat) (f : Nat → Int) (x : Int × Int × List Int) (s : St) (e : Ending) (w' : World) : Prop := ∃ v, e = .returned (.agg #[.int .i64 x.1, .int .i64 x.2.1, v]) ∧ w'.ownsRow w.heap.size 3 1 v x.2.2.length (x.2.2.map (Value.int .i64)) ∧ Rdr w' b a len cap f s ∧ w.grownBy w' (some b)
theorem own_set {X : World} {B g j : Nat} {e : TypeId} {k : Nat} {v u : Value} {n : Nat} {xs : List Value} (h : X.ownsRow B e k v n xs) (hne : ∀ x, v.ownBlock = some x → x ≠ g) : (X.setCell ⟨g, j, none⟩ u).ownsRow B e k v n xs := by
  refine ⟨h.1, ?_⟩
  rcases h.2 with hn | ⟨g1, cap, cur, hv, hb1, hg1, rest⟩
  · exact .inl hn
  · exact .inr ⟨g1, cap, cur, hv, hb1, (Below.heap_setCell _ _ _ _ (hne g1 (by rw [hv]; rfl))).trans hg1, rest⟩
theorem own_base {X : World} {B B' : Nat} {e : TypeId} {k : Nat} {v : Value} {n : Nat} {xs : List Value} (h : X.ownsRow B e k v n xs) (hB : B' ≤ B) : X.ownsRow B' e k v n xs := by
  refine ⟨h.1, ?_⟩
  rcases h.2 with hn | ⟨g1, cap, cur, hv, hb1, rest⟩
  · exact .inl hn
  · exact .inr ⟨g1, cap, cur, hv, Nat.le_trans hB hb1, rest⟩
theorem own_slice {X : World} {B : Nat} {e : TypeId} {k : Nat} {v : Value} {n : Nat} {xs : List Value} (h : X.ownsRow B e k v n xs) : ∃ a l c, v = .slice a l c := by
  rcases h.2 with ⟨hv, _⟩ | ⟨g, cap, cur, hv, _⟩
  · exact ⟨_, _, _, hv⟩
  · exact ⟨_, _, _, hv⟩
theorem cell_far3 {w : World} {g q : Nat} {v0 v1 v2 : Value} (h : q ≠ g) : (((w.setCell ⟨g, 0, none⟩ v0).setCell ⟨g, 1, none⟩ v1).setCell ⟨g, 2, none⟩ v2).cell? ⟨q, 0, none⟩ = w.cell? ⟨q, 0, none⟩ := by rw [cell_far h, cell_far h, cell_far h]
end Go.Proofs.YtcppgpcgbggdcaaDoor
