/-
  The questions that a write has to pass, one behind the other.
-/
import Derived.Test.YtmjflbleobmjdaaGreatDoorSmall
namespace Go.Proofs.YtmjflbleobmjdaaGreatDoor
open Go.ChangeShapes Go.WideShapes Go.ChangeAt Go.RowKit
attribute [local go_sem ↓] loadSec_seal storeSec_seal eqlSec_seal zeroSec
attribute [local go_sem] loadSec_run storeSec_run rowAt_at rowAt_old rowAt_drew rowAt_drewN roomSec_new roomAt_old roomAt_drew roomAt_drewN putSec_new putRow_past rowSec_put size_put putRow_drew putRow_drewN alloc_drewN setCell_drewN sec_size

set_option linter.unusedVariables false

def firstE (n : Int) (nlen len rlen : Nat) : Int := if placeE n nlen = 0 then (if dataE len = 0 then wearE rlen else dataE len) else placeE n nlen
def askV (f : Nat) (b : Nat) (n : Int) (a : Option Addr) (len cap : Nat) : Value := .func (.func f) #[.agg #[.pointer (some ⟨b, 0, none⟩), .int .i64 n, .slice a len cap]] #[]
set_option maxHeartbeats 1000000 in
theorem first_any (g b : Nat) (n : Int) (a : Option Addr) (len cap : Nat) (na : Option Addr) (nlen ncap : Nat) (ra : Option Addr) (rlen rcap : Nat) (w : World)
    (h0 : w.cell? ⟨g, 0, none⟩ = some (askV 59 b n a len cap)) (h1 : w.cell? ⟨g, 1, none⟩ = some (askV 60 b n a len cap)) (h2 : w.cell? ⟨g, 2, none⟩ = some (askV 61 b n a len cap))
    (hn : w.cell? ⟨b, 1, none⟩ = some (.slice na nlen ncap)) (hr : w.cell? ⟨b, 2, none⟩ = some (.slice ra rlen rcap)) :
    Calls Tryz.prog 58 #[.slice (some ⟨g, 0, none⟩) 3 3] w fun e w' => e = .returned (.int .i64 (firstE n nlen len rlen)) ∧ Below w.heap.size w w' := by
  have hg := World.block_lt_of_cell? _ _ h0
  have hb := World.block_lt_of_cell? _ _ hn
  simp only [] at hb hg
  have HC : Hid (∀ X, Below w.heap.size w X → (X.cell? ⟨g, 0, none⟩ = some (askV 59 b n a len cap) ∧ X.cell? ⟨g, 1, none⟩ = some (askV 60 b n a len cap) ∧ X.cell? ⟨g, 2, none⟩ = some (askV 61 b n a len cap)) ∧ X.cell? ⟨b, 1, none⟩ = some (.slice na nlen ncap) ∧ X.cell? ⟨b, 2, none⟩ = some (.slice ra rlen rcap)) := fun X hX =>
    ⟨⟨(hX.cell (p := ⟨g, 0, none⟩) hg).trans h0, (hX.cell (p := ⟨g, 1, none⟩) hg).trans h1, (hX.cell (p := ⟨g, 2, none⟩) hg).trans h2⟩, (hX.cell (p := ⟨b, 1, none⟩) hb).trans hn, (hX.cell (p := ⟨b, 2, none⟩) hb).trans hr⟩
  clear h0 h1 h2 hn hr hg hb
  unfold askV at HC
  go_enter Tryz.func58, Tryz.ntmps58
  go_wp2
  go_loopw [8] (fun i X => ∃ k : Nat, k ≤ 3 ∧ i = .int .i64 k ∧ (1 ≤ k → placeE n nlen = 0) ∧ (2 ≤ k → dataE len = 0) ∧ (3 ≤ k → wearE rlen = 0) ∧ Below w.heap.size w X) (fun i _ => 3 - (intOf i).toNat)
  case atStart => exact ⟨0, by omega, rfl, by omega, by omega, by omega, Below.refl _ _⟩
  case round =>
    obtain ⟨k, hk, rfl, p1, p2, p3, hX⟩ := hrel
    obtain ⟨⟨c0, c1, c2⟩, cn, cr⟩ := HC.out _ hX
    have HP : Hid ((1 ≤ k → placeE n nlen = 0) ∧ (2 ≤ k → dataE len = 0) ∧ (3 ≤ k → wearE rlen = 0)) := ⟨p1, p2, p3⟩
    have HB : Hid (Below w.heap.size w _) := hX
    clear HC p1 p2 p3 hX
    have hk : k = 0 ∨ k = 1 ∨ k = 2 ∨ k = 3 := by omega
    rcases hk with rfl | rfl | rfl | rfl
    · by_cases hp : placeE n nlen = 0
      · go_wp2_with (go_at_call 59; refine (place_any _ _ _ _ _ _ _ cn).mono ?_; rintro e w1 ⟨rfl, hb1⟩)
        go_roundw
        case rel => exact ⟨1, by omega, by go_num, fun _ => hp, by omega, by omega, HB.out.trans (hb1.mono HB.out.size)⟩
        case measure => simp [intOf]
      · go_wp2_with (go_at_call 59; refine (place_any _ _ _ _ _ _ _ cn).mono ?_; rintro e w1 ⟨rfl, hb1⟩)
        go_ret
        exact ⟨by simp [firstE, hp], HB.out.trans (hb1.mono HB.out.size)⟩
    · have hp := HP.out.1 (by omega)
      by_cases hd : dataE len = 0
      · go_wp2_with (go_at_call 60; refine (data_any _ _ _ _ _ _).mono ?_; rintro e w1 ⟨rfl, hb1⟩)
        go_roundw
        case rel => exact ⟨2, by omega, by go_num, fun _ => hp, fun _ => hd, by omega, HB.out.trans (hb1.mono HB.out.size)⟩
        case measure => simp [intOf]
      · go_wp2_with (go_at_call 60; refine (data_any _ _ _ _ _ _).mono ?_; rintro e w1 ⟨rfl, hb1⟩)
        go_ret
        exact ⟨by simp [firstE, hp, hd], HB.out.trans (hb1.mono HB.out.size)⟩
    · have hp := HP.out.1 (by omega)
      have hd := HP.out.2.1 (by omega)
      by_cases hw : wearE rlen = 0
      · go_wp2_with (go_at_call 61; refine (wear_any _ _ _ _ _ _ _ cr).mono ?_; rintro e w1 ⟨rfl, hb1⟩)
        go_roundw
        case rel => exact ⟨3, by omega, by go_num, fun _ => hp, fun _ => hd, fun _ => hw, HB.out.trans (hb1.mono HB.out.size)⟩
        case measure => simp [intOf]
      · go_wp2_with (go_at_call 61; refine (wear_any _ _ _ _ _ _ _ cr).mono ?_; rintro e w1 ⟨rfl, hb1⟩)
        go_ret
        exact ⟨by simp [firstE, hp, hd], HB.out.trans (hb1.mono HB.out.size)⟩
    · go_wp2
      go_ret
      exact ⟨by simp [firstE, HP.out.1 (by omega), HP.out.2.1 (by omega), HP.out.2.2 (by omega)], HB.out⟩
end Go.Proofs.YtmjflbleobmjdaaGreatDoor
