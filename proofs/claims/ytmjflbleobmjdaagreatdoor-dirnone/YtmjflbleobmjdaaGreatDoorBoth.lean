/-
  Writes and reads at any number.
-/
import Derived.Test.YtmjflbleobmjdaaGreatDoorMeth
namespace Go.Proofs.YtmjflbleobmjdaaGreatDoor
open Go.ChangeShapes Go.WideShapes Go.ChangeAt Go.RowKit
attribute [local go_sem ↓] loadSec_seal storeSec_seal eqlSec_seal zeroSec
attribute [local go_sem] loadSec_run storeSec_run rowAt_at rowAt_old rowAt_drew rowAt_drewN roomSec_new roomAt_old roomAt_drew roomAt_drewN putSec_new putRow_past rowSec_put size_put putRow_drew putRow_drewN alloc_drewN setCell_drewN sec_size

set_option linter.unusedVariables false
theorem first_ok {q n m : Nat} (hq : q < n) (hm : m < 4096) : firstE (q : Int) n 1024 m = 0 := by
  have e1 : placeE (q : Int) n = 0 := by unfold placeE; rw [if_neg (by omega)]
  have e2 : wearE m = 0 := by unfold wearE; rw [if_neg (by omega)]
  have e3 : dataE 1024 = 0 := by unfold dataE; rw [if_pos (by omega)]
  unfold firstE; rw [if_pos e1, if_pos e3, e2]
theorem place_out {n : Int} {N : Nat} (h : n < 0 ∨ (N : Int) ≤ n) : placeE n N = 31 := by unfold placeE; rw [if_pos h]
theorem first_out {n : Int} {N len m : Nat} (h : n < 0 ∨ (N : Int) ≤ n) : firstE n N len m = 31 := by
  unfold firstE; rw [place_out h, if_neg (by decide)]
/-- A write of a whole sector, whether there is one of that number or not. -/
def Dk.after (D E : Dk) (n : Int) (f : Nat → Int) : Prop := E.n = D.n ∧ E.m ≤ D.m + 1 ∧ ∀ i : Nat, i < D.n → E.S i = if (i : Int) = n then f else D.S i
theorem write_both (b : Nat) (D : Dk) (n : Int) (a : Option Addr) (cap : Nat) (f : Nat → Int) (w : World) (h : Rep w b D) (hm : D.m < 4096) (hf : RdB w a 1024 f) : Calls Tryz.prog 31 #[.pointer (some ⟨b, 0, none⟩), .int .i64 n, .slice a 1024 cap] w fun e w' => ∃ E, e = .returned (.int .i64 (placeE n D.n)) ∧ Rep w' b E ∧ D.after E n f ∧ Tou (D.mut b) w w' ∧ (∀ x, E.mut b x → D.mut b x ∨ w.heap.size ≤ x) ∧ (∀ x, E.fix x → D.fix x ∨ w.heap.size ≤ x) := by
  by_cases hn : n < 0 ∨ (D.n : Int) ≤ n
  · refine (write_bad b D n a 1024 cap w h (by rw [first_out hn]; decide)).mono ?_
    rintro e w' ⟨rfl, hb⟩
    refine ⟨D, by rw [first_out hn, place_out hn], h.below hb, ⟨rfl, Nat.le_succ _, fun i hi => ?_⟩, Below.tou hb _, fun x hx => .inl hx, fun x hx => .inl hx⟩
    rw [if_neg (by omega)]
  · obtain ⟨k, rfl⟩ : ∃ k : Nat, n = k := ⟨n.toNat, by omega⟩
    have hk : k < D.n := by omega
    refine (write_good b D k a cap f w h hk hm hf).mono ?_
    rintro e w' ⟨P, g, c, rfl, hR, ht, hmu, hfx⟩
    have e1 : placeE (k : Int) D.n = 0 := by unfold placeE; rw [if_neg hn]
    refine ⟨_, by rw [e1], hR, ⟨rfl, Nat.le_refl _, fun i hi => ?_⟩, ht, hmu, hfx⟩
    by_cases e : i = k
    · subst e; rw [wroteS_at, if_pos rfl]
    · rw [wroteS_ne _ _ _ _ _ _ e, if_neg (by omega)]
/-- A read, whether there is a sector of that number or not. -/
def readV (n : Int) (N g : Nat) : Value := if n < 0 ∨ (N : Int) ≤ n then .slice none 0 0 else .slice (some ⟨g, 0, none⟩) 1024 1024
theorem read_both (b : Nat) (D : Dk) (n : Int) (w : World) (h : Rep w b D) : Calls Tryz.prog 68 #[.pointer (some ⟨b, 0, none⟩), .int .i64 n] w fun e w' => ∃ g, e = .returned (.tuple #[readV n D.n g, .int .i64 (placeE n D.n)]) ∧ (0 ≤ n → n < D.n → w.heap.size ≤ g ∧ rowAt w' g = some (sec (D.S n.toNat)) ∧ roomAt w' g 1024 = true ∧ g < w'.heap.size) ∧ Below w.heap.size w w' := by
  by_cases hn : n < 0 ∨ (D.n : Int) ≤ n
  · refine (read_bad b D n w h (place_out hn)).mono ?_
    rintro e w' ⟨rfl, hb⟩
    exact ⟨0, by rw [readV, if_pos hn, place_out hn], fun h0 h1 => by omega, hb⟩
  · obtain ⟨k, rfl⟩ : ∃ k : Nat, n = k := ⟨n.toNat, by omega⟩
    refine (read_good b D k w h (by omega)).mono ?_
    rintro e w' ⟨g, rfl, h1, h2, h3, h4, hb⟩
    have e1 : placeE (k : Int) D.n = 0 := by unfold placeE; rw [if_neg hn]
    exact ⟨g, by rw [readV, if_neg hn, e1], fun _ _ => ⟨h1, h2, h3, h4⟩, hb⟩
end Go.Proofs.YtmjflbleobmjdaaGreatDoor
