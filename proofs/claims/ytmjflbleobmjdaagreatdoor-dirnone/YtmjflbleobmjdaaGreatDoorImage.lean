/-
  A disk's image.
-/
import Derived.Test.YtmjflbleobmjdaaGreatDoorBoth
namespace Go.Proofs.YtmjflbleobmjdaaGreatDoor
open Go.ChangeShapes Go.WideShapes Go.ChangeAt Go.RowKit
attribute [local go_sem ↓] loadSec_seal storeSec_seal eqlSec_seal zeroSec
attribute [local go_sem] loadSec_run storeSec_run rowAt_at rowAt_old rowAt_drew rowAt_drewN roomSec_new roomAt_old roomAt_drew roomAt_drewN putSec_new putRow_past rowSec_put size_put putRow_drew putRow_drewN alloc_drewN setCell_drewN sec_size

set_option linter.unusedVariables false

def imgF (S : Nat → Nat → Int) : Nat → Int := fun i => S (i / 1024) (i % 1024)
theorem imgF_at (S : Nat → Nat → Int) (k j : Nat) (h : j < 1024) : imgF S (k * 1024 + j) = S k j := by
  unfold imgF
  rw [show (k * 1024 + j) / 1024 = k by omega, show (k * 1024 + j) % 1024 = j by omega]
theorem row_grow (f g : Nat → Int) (a b : Nat) (h : ∀ j, j < b → f (a + j) = g j) : rowOf f a ++ rowOf g b = rowOf f (a + b) := by
  apply List.ext_getElem?
  intro i
  by_cases h1 : i < a
  · rw [List.getElem?_append_left (by rw [rowOf_len]; exact h1), rowOf_at f h1, rowOf_at f (by omega)]
  · rw [List.getElem?_append_right (by rw [rowOf_len]; omega), rowOf_len]
    by_cases h2 : i < a + b
    · rw [rowOf_at g (by omega), rowOf_at f h2, ← h (i - a) (by omega), show a + (i - a) = i by omega]
    · rw [List.getElem?_eq_none (by rw [rowOf_len]; omega), List.getElem?_eq_none (by rw [rowOf_len]; omega)]
theorem img_grow (S : Nat → Nat → Int) (k : Nat) : rowOf (imgF S) (k * 1024) ++ rowOf (S k) 1024 = rowOf (imgF S) (k * 1024 + 1024) := row_grow _ _ _ _ fun j hj => imgF_at S k j hj
theorem sec_src {X : World} {p : Nat} {f : Nat → Int} (h : rowAt X p = some (sec f)) : ∀ j u, (rowOf f 1024)[j]? = some u → X.cell? ((⟨p, 0, none⟩ : Addr).add j) = some u := by
  intro j u hj
  have hjl : j < 1024 := by have := (List.getElem?_eq_some_iff.1 hj).1; rwa [rowOf_len] at this
  rw [add_lit0, rowAt_cell h, sec_at f hjl, ← hj, rowOf_at f hjl]
theorem own_rd {X : World} {base g n c : Nat} {f : Nat → Int} (h : X.ownsRow base 5 1 (.slice (some ⟨g, 0, none⟩) n c) n (rowOf f n)) (hn : n ≤ maxLen) (hf : ∀ i, i < n → 0 ≤ f i ∧ f i ≤ 255) : RdB X (some ⟨g, 0, none⟩) n f :=
  ⟨hn, .inr ⟨g, 0, rfl, fun i hi => ⟨by rw [Nat.zero_add, (own_cell h (j := i) (by omega)).1, rowOf_at f hi], hf i hi⟩⟩⟩
theorem imgF_byte {X : World} {b : Nat} {D : Dk} (h : Rep X b D) : ∀ i, i < D.n * 1024 → 0 ≤ imgF D.S i ∧ imgF D.S i ≤ 255 := fun i hi => (h.secS (i / 1024) (by omega)).2 (i % 1024) (by omega)
end Go.Proofs.YtmjflbleobmjdaaGreatDoor
