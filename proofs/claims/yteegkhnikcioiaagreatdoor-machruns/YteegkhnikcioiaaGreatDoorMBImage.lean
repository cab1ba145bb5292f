/-
  A disk's image.
-/
import Derived.Test.YteegkhnikcioiaaGreatDoorMBMeth
namespace Go.Proofs.YteegkhnikcioiaaGreatDoor
open Go.ChangeShapes Go.WideShapes Go.ChangeAt Go.RowKit
attribute [local go_sem ↓] loadSec_seal storeSec_seal eqlSec_seal zeroSec
attribute [local go_sem] loadSec_run storeSec_run rowAt_at rowAt_old rowAt_drew rowAt_drewN roomSec_new roomAt_old roomAt_drew roomAt_drewN putSec_new putRow_past rowSec_put size_put putRow_drew putRow_drewN alloc_drewN setCell_drewN sec_size

set_option linter.unusedVariables false

def imgF (S : Nat → Nat → Int) : Nat → Int := fun i => S (i / 1024) (i % 1024)
theorem imgF_at (S : Nat → Nat → Int) (k j : Nat) (h : j < 1024) : imgF S (k * 1024 + j) = S k j := by
  unfold imgF
  rw [show (k * 1024 + j) / 1024 = k by omega, show (k * 1024 + j) % 1024 = j by omega]
theorem row_grow (f g : Nat → Int) (a b : Nat) (h : ∀ j, j < b → f (a + j) = g j) : rowOf f a ++ rowOf g b = rowOf f (a + b) := by
  apply List.ext_getElem?
  intro i
  by_cases h1 : i < a
  · rw [List.getElem?_append_left (by rw [rowOf_len]; exact h1), rowOf_at f h1, rowOf_at f (by omega)]
  · rw [List.getElem?_append_right (by rw [rowOf_len]; omega), rowOf_len]
    by_cases h2 : i < a + b
    · rw [rowOf_at g (by omega), rowOf_at f h2, ← h (i - a) (by omega), show a + (i - a) = i by omega]
    · rw [List.getElem?_eq_none (by rw [rowOf_len]; omega), List.getElem?_eq_none (by rw [rowOf_len]; omega)]
theorem img_grow (S : Nat → Nat → Int) (k : Nat) : rowOf (imgF S) (k * 1024) ++ rowOf (S k) 1024 = rowOf (imgF S) (k * 1024 + 1024) := row_grow _ _ _ _ fun j hj => imgF_at S k j hj
theorem sec_src {X : World} {p : Nat} {f : Nat → Int} (h : rowAt X p = some (sec f)) : ∀ j u, (rowOf f 1024)[j]? = some u → X.cell? ((⟨p, 0, none⟩ : Addr).add j) = some u := by
  intro j u hj
  have hjl : j < 1024 := by have := (List.getElem?_eq_some_iff.1 hj).1; rwa [rowOf_len] at this
  rw [add_lit0, rowAt_cell h, sec_at f hjl, ← hj, rowOf_at f hjl]
theorem own_rd {X : World} {base g n c : Nat} {f : Nat → Int} (h : X.ownsRow base 5 1 (.slice (some ⟨g, 0, none⟩) n c) n (rowOf f n)) (hn : n ≤ maxLen) (hf : ∀ i, i < n → 0 ≤ f i ∧ f i ≤ 255) : RdB X (some ⟨g, 0, none⟩) n f :=
  ⟨hn, .inr ⟨g, 0, rfl, fun i hi => ⟨by rw [Nat.zero_add, (own_cell h (j := i) (by omega)).1, rowOf_at f hi], hf i hi⟩⟩⟩
theorem imgF_byte {X : World} {b : Nat} {D : Dk} (h : Rep X b D) : ∀ i, i < D.n * 1024 → 0 ≤ imgF D.S i ∧ imgF D.S i ≤ 255 := fun i hi => (h.secS (i / 1024) (by omega)).2 (i % 1024) (by omega)
set_option maxHeartbeats 1000000 in
theorem image_any (b : Nat) (D : Dk) (w : World) (h : Rep w b D) : Calls Tryz.prog 20 #[.pointer (some ⟨b, 0, none⟩)] w fun e w' => ∃ g c, e = .returned (.slice (some ⟨g, 0, none⟩) (D.n * 1024) c) ∧ RdB w' (some ⟨g, 0, none⟩) (D.n * 1024) (imgF D.S) ∧ w.heap.size ≤ g ∧ g < w'.heap.size ∧ Below w.heap.size w w' := by
  obtain ⟨i0, hi, hz0, hz1, hz2⟩ := info_parts info5
  have n0 := h.n0
  have n1 := h.n1
  have h1 := (h.cell 1).trans D.at1
  have hb0 : b < w.heap.size := h.lt b (.inl (.inl rfl))
  have H1 : Hid (∀ X, Below w.heap.size w X → X.cell? ⟨b, 1, none⟩ = some (.slice (some ⟨D.nb, 0, none⟩) D.n D.nc)) := fun X hX => ((h.below hX).cell 1).trans D.at1
  have HR : Hid (Rep w b D) := h
  have hmul : IntKind.i64.wrap ((D.n : Int) * 1024) = (D.n : Int) * 1024 := by rw [IntWalk.i64_left, IntWalk.wrap64_in]; omega
  clear h
  go_enter Tryz.func20, Tryz.ntmps20
  go_wp2_with (at_make; refine wpList_make_own _ rfl _ _ 49 rfl w.heap.size 5 i0 (.int .u8 0) 1 Tryz.underlying49 hi hz0 hz1 .i64 .i64 _ (D.n * 1024) rfl rfl (by omega) (by rw [hz2]; omega) (by unfold maxLen; omega) (by simp) ?_; intro w2 hown2 hgrow2; have hb2 : Below w.heap.size w w2 := (Below.refl _ w).grown hgrow2 (Nat.le_refl _) (fun k hk => by cases hk); have HO : Hid (w2.ownsRow w.heap.size 5 1 (.slice (some ⟨w.heap.size, 0, none⟩) 0 (D.n * 1024)) 0 []) := hown2; have HB : Hid _ := hb2; have c1 := H1.out _ hb2; clear hown2 hgrow2 hb2)
  go_loopw [3, 20] (fun v i X => ∃ k : Nat, k ≤ D.n ∧ i = .int .i64 k ∧ v = .slice (some ⟨w.heap.size, 0, none⟩) (k * 1024) (D.n * 1024) ∧ X.ownsRow w.heap.size 5 1 (.slice (some ⟨w.heap.size, 0, none⟩) (k * 1024) (D.n * 1024)) (k * 1024) (rowOf (imgF D.S) (k * 1024)) ∧ Below w.heap.size w X) (fun _ i _ => D.n - (intOf i).toNat)
  case atStart => exact ⟨0, by omega, rfl, by rw [Nat.zero_mul], by rw [Nat.zero_mul]; exact HO.out, HB.out⟩
  case round =>
    obtain ⟨k, hk, rfl, rfl, hown, hbX⟩ := hrel
    have HX : Hid (World.ownsRow _ w.heap.size 5 1 (.slice (some ⟨w.heap.size, 0, none⟩) (k * 1024) (D.n * 1024)) (k * 1024) (rowOf (imgF D.S) (k * 1024))) := hown
    have HBX : Hid _ := hbX
    by_cases hlt : k < D.n
    · have c2 := ((HR.out.below hbX).nowAt hlt).1
      have HS : Hid _ := ((HR.out.below hbX).secS k hlt).1
      have j0 : (0 : Int) ≤ (k : Int) := by omega
      have j1 : (k : Int) < (D.n : Int) := by omega
      clear hown hbX HO HB H1
      go_wp2_with (at_builtin; refine wpList_append_fits _ rfl _ _ 49 rfl w.heap.size 5 i0 1 Tryz.underlying49 hi hz1 w.heap.size (k * 1024) (D.n * 1024) (rowOf (imgF D.S) (k * 1024)) rfl HX.out ⟨D.p k, 0, none⟩ 1024 1024 (rowOf (D.S k) 1024) rfl (by rw [rowOf_len]) (sec_src HS.out) (row_one _ _) (by omega) ?_; intro w3 hown3 hgrow3; have HB3 : Hid (Below w.heap.size w w3) := HBX.out.grown hgrow3 HBX.out.size (fun j hj => Nat.le_of_eq (Option.some.inj hj)); have HO3 : Hid (w3.ownsRow w.heap.size 5 1 (.slice (some ⟨w.heap.size, 0, none⟩) (k * 1024 + 1024) (D.n * 1024)) (k * 1024 + 1024) (rowOf (imgF D.S) (k * 1024) ++ rowOf (D.S k) 1024)) := hown3; clear hown3 hgrow3)
      go_roundw
      case rel =>
        have e := HO3.out
        rw [img_grow] at e
        refine ⟨k + 1, by omega, by go_num, ?_, ?_, HB3.out⟩
        · rw [show (k + 1) * 1024 = k * 1024 + 1024 by omega]
        · rw [show (k + 1) * 1024 = k * 1024 + 1024 by omega]; exact e
      case measure => simp [intOf]; omega
    · have hkn : k = D.n := by omega
      subst hkn
      clear hown hbX HO HB H1
      go_wp2
      go_ret
      exact ⟨w.heap.size, _, rfl, own_rd HX.out (by unfold maxLen; omega) (imgF_byte HR.out), Nat.le_refl _, (World.ownsRow.lt (show World.ownsRow _ _ _ _ _ _ _ from HX.out) _ rfl).2, HBX.out⟩
end Go.Proofs.YteegkhnikcioiaaGreatDoor
