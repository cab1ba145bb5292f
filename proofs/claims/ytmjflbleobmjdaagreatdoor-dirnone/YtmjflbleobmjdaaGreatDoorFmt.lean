/-
  Layer 17: the program's Format.
-/
import Derived.Test.YtmjflbleobmjdaaGreatDoorWrt
namespace Go.Proofs.YtmjflbleobmjdaaGreatDoor
set_option linter.unusedVariables false
set_option linter.unusedSimpArgs false
open Go.ChangeShapes Go.WideShapes Go.ChangeAt Go.RowKit
attribute [local go_sem ↓] loadSec_seal storeSec_seal eqlSec_seal zeroSec
attribute [local go_sem] loadSec_run storeSec_run rowAt_at rowAt_old rowAt_drew rowAt_drewN roomSec_new roomAt_old roomAt_drew roomAt_drewN putSec_new putRow_past rowSec_put size_put putRow_drew putRow_drewN alloc_drewN setCell_drewN sec_size

set_option linter.unusedVariables false

/-- What a write leaves of a disk. -/
structure WrS (w : World) (d : Nat) (D E : Dk) (n : Int) (f : Nat → Int) (w' : World) : Prop where
  rep : Rep w' d E
  step : D.next E n 1024 f
  tou : Tou (D.mut d) w w'
  mu : ∀ x, E.mut d x → D.mut d x ∨ w.heap.size ≤ x
  fi : ∀ x, E.fix x → D.fix x ∨ w.heap.size ≤ x
theorem WrS.from {w X w' : World} {d : Nat} {D E : Dk} {n : Int} {f : Nat → Int} (h : WrS X d D E n f w') (hb : Below w.heap.size w X) : WrS w d D E n f w' :=
  ⟨h.rep, h.step, (Below.tou hb (D.mut d)).trans h.tou (fun _ _ hx => hx), fun x hx => (h.mu x hx).imp id (fun hh => by have := hb.size; omega), fun x hx => (h.fi x hx).imp id (fun hh => by have := hb.size; omega)⟩
theorem write_any (d : Nat) (D : Dk) (n : Int) (g cap : Nat) (l : List Int) (w : World) (h : Rep w d D) (hl : ByteF (secF l)) {W : World} (hW : Wsec W g l w) : Calls Tryz.prog 31 #[.pointer (some ⟨d, 0, none⟩), .int .i64 n, .slice (some ⟨g, 0, none⟩) 1024 cap] w fun e w' => ∃ E, e = .returned (.int .i64 (firstE n D.n 1024 D.m)) ∧ WrS w d D E n (secF l) w' := by
  refine (write_step d D n (some ⟨g, 0, none⟩) 1024 cap (secF l) w h (hW.row.rd (by unfold maxLen; omega) (fun i hi => hl i hi))).mono fun e w' ⟨E, he, hr, hs, ht, hm, hf⟩ => ?_
  exact ⟨E, he, hr, hs, ht, hm, hf⟩
theorem firstE_0 (N m : Nat) (hN : 0 < N) : firstE 0 N 1024 m = if m < 4096 then 0 else 33 := by
  have hp : placeE 0 N = 0 := by unfold placeE; rw [if_neg (by omega)]
  have hd : dataE 1024 = 0 := rfl
  unfold firstE
  rw [if_pos hp, if_pos hd]
  unfold wearE
  by_cases h : m < 4096
  · rw [if_neg (by omega), if_pos h]
  · rw [if_pos (by omega), if_neg h]
set_option maxHeartbeats 2000000 in
theorem format_any (d : Nat) (D : Dk) (w : World) (h : Rep w d D) : Calls Tryz.prog 12 #[.pointer (some ⟨d, 0, none⟩)] w fun e w' => ∃ E, e = .returned (.int .i64 (if D.m < 4096 then 0 else 174)) ∧ WrS w d D E 0 (secF (rootL [])) w' := by
  have HR := hidD (fun X => rootBytes_any (A := fun _ => False) (.slice none 0 0) [] X (RowI.nil _ _) (by simp) (by simp))
  have HW := hidD (fun g (X : World) (hX : Wsec w g (rootL []) X) => write_any d D 0 g 1024 (rootL []) X (h.below hX.below) (rootL_byte []) hX)
  have n0 := h.n0
  rw [firstE_0 _ _ (by omega)] at HW
  clear h n0
  by_cases hm : D.m < 4096
  all_goals
    first | rw [if_pos hm] at HW | rw [if_neg hm] at HW
    first | rw [if_pos hm] | rw [if_neg hm]
    clear hm
    go_enter Tryz.func12, Tryz.ntmps12
    go_wp2_with (first
      | (go_at_call 32; refine (HR.out _).mono ?_; rintro e w1 ⟨g, rfl, hx⟩; have HX := hidD hx; clear hx)
      | (go_at_call 31; refine (HW.out _ _ HX.out).mono ?_; rintro e w2 ⟨E, rfl, hE⟩; have HE := hidD hE; clear hE))
    go_ret
    exact ⟨E, rfl, HE.out.from HX.out.below⟩
set_option maxHeartbeats 2000000 in
theorem format_nil (w : World) : Calls Tryz.prog 12 #[.pointer none] w fun e w' => e = .returned (.int .i64 1) ∧ w' = w := by
  go_enter Tryz.func12, Tryz.ntmps12
  go_wp2
  go_ret
  exact ⟨rfl, rfl⟩
end Go.Proofs.YtmjflbleobmjdaaGreatDoor
