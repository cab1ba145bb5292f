/-
  The document's examples at the head of the laws.
-/
import Derived.Test.YtbkkjnafnckleaaBNew
namespace Go.Proofs.Ytbkkjnafnckleaa
open Go.ChangeShapes Go.WideShapes Go.ChangeAt Go.RowKit
attribute [local go_sem ↓] loadSec_seal storeSec_seal eqlSec_seal zeroSec
attribute [local go_sem] loadSec_run storeSec_run rowAt_at rowAt_old rowAt_drew rowAt_drewN roomSec_new roomAt_old roomAt_drew roomAt_drewN putSec_new putRow_past rowSec_put size_put putRow_drew putRow_drewN alloc_drewN setCell_drewN sec_size

set_option linter.unusedVariables false

def twoF (i : Nat) : Int := if i = 0 then 1 else 258
theorem two_rd (w : World) (k : Nat) (hk : k = w.heap.size) : RdW (w.alloc (.cells #[.int .u32 1, .int .u32 258] 30)) (some ⟨k, 0, none⟩) 2 twoF := by
  subst hk
  refine ⟨by decide, .inr ⟨_, 0, rfl, fun i hi => ?_⟩⟩
  have : i = 0 ∨ i = 1 := by omega
  rcases this with rfl | rfl
  · exact ⟨by simp [twoF], by decide, by decide⟩
  · exact ⟨by simp [twoF], by decide, by decide⟩
theorem sh1 (D : Dk) : (Lg.new twoF 2 D).step 2 5 0 = ((1, 0), Lg.new twoF 2 D) := rfl
theorem sh2 (D : Dk) : (Lg.new twoF 2 D).step 1 2 0 = ((0, 1), Lg.new twoF 2 D) := rfl
theorem sh3 (D : Dk) : (Lg.new twoF 2 D).step 1 4294967236 0 = ((0, 2), Lg.new twoF 2 D) := rfl
theorem sh4 (D : Dk) : (Lg.new twoF 2 D).step 1 4294967256 0 = (((D.n : Int), 0), Lg.new twoF 2 D) := rfl
theorem do_is (b : Nat) (P : Ph) (L : Lg) (k a v : Int) (w : World) (h : Bus w b P L) {r q : Int} {L' : Lg} (he : L.step k a v = ((r, q), L')) (a0 : 0 ≤ a) (a1 : a ≤ 4294967295) (v0 : 0 ≤ v) (v1 : v ≤ 4294967295) : Calls Try.prog 17 #[.pointer (some ⟨b, 0, none⟩), .agg #[.int .i64 k, .int .u32 a, .int .u32 v]] w fun e w' => e = .returned (.tuple #[.int .u32 r, .int .i64 q]) ∧ ∃ P', Stp w b P w' P' L' := by
  have := do_any b P L k a v w h a0 a1 v0 v1
  rw [he] at this
  exact this
/-- A bus of the call's own, as the world goes on. -/
structure Own (w : World) (b : Nat) (P : Ph) (L : Lg) (X : World) : Prop where
  bus : Bus X b P L
  all : ∀ x, P.all b x → w.heap.size ≤ x
  below : Below w.heap.size w X
theorem Own.step {w X Y : World} {b : Nat} {P P' : Ph} {L L' : Lg} (h : Own w b P L X) (hs : Stp X b P Y P' L') : Own w b P' L' Y :=
  ⟨hs.bus, fun x hx => (hs.new x hx).elim (h.all x) fun e => Nat.le_trans h.below.size e, h.below.trans (hs.tou.below h.below.size h.all)⟩
theorem Own.next {w X Y : World} {b : Nat} {P : Ph} {L : Lg} (h : Own w b P L X) (hb : Below X.heap.size X Y) : Own w b P L Y := h.step (Stp.below h.bus hb)
/-- A new bus over a new disk. -/
theorem Own.begin {w w1 w1' w2 : World} {b db : Nat} {P : Ph} {D : Dk} {L : Lg} (hfr : D.fresh db w.heap.size) (hb1 : Below w.heap.size w w1) (ha : Below w1.heap.size w1 w1') (hB : Bus w2 b P L) (hall : ∀ x, P.all b x → (D.mut db x ∨ D.fix x) ∨ w1'.heap.size ≤ x) (hb2 : Below w1'.heap.size w1' w2) : Own w b P L w2 :=
  ⟨hB, fun x hx => (hall x hx).elim (hfr x) fun e => Nat.le_trans (Nat.le_trans hb1.size ha.size) e, (hb1.trans (ha.mono hb1.size)).trans (hb2.mono (Nat.le_trans hb1.size ha.size))⟩
theorem eq_nil (g : Nat) (w : World) : (binOp .eql 25 (.pointer (some ⟨g, 0, none⟩)) (.pointer none)).run Try.prog w = .ok (.bool false) w := by simp [go_sem]
set_option maxHeartbeats 2000000 in
theorem shown_any (w : World) : Calls Try.prog 7 #[] w fun e w' => e = .returned (.bool true) ∧ Below w.heap.size w w' := by
  go_enter Try.func7, Try.ntmps7
  go_wp2_with (first
    | (go_at_call 15; refine (new_some 8 _ (by omega) (by omega)).mono ?_; rintro e w1 ⟨db, D, rfl, hR, hn, hm, hS, hF, hfr, hb1⟩; have HR : Hid (Rep w1 db D ∧ D.n = 8 ∧ D.fresh db w.heap.size ∧ Below w.heap.size w w1) := ⟨hR, hn, hfr, hb1⟩; have hn8 : (D.n : Int) = 8 := by { rw [hn]; rfl }; clear hR hn hm hS hF hfr hb1)
    | (go_at_call 16; refine (new_bus _ 2 _ db twoF D _ (HR.out.1.below ((Below.refl _ w1).alloc (Nat.le_refl _) _)) (by decide) (two_rd w1 _ rfl)).mono ?_; rintro e w2 ⟨b, P, rfl, hB, hdb, hD, hall, hb2⟩; have HB : Hid (Own w b P (Lg.new twoF 2 D) w2) := Own.begin HR.out.2.2.1 HR.out.2.2.2 ((Below.refl _ w1).alloc (Nat.le_refl _) _) hB hall hb2; clear hB hdb hD hall hb2))
  refine (do_is b P _ _ _ _ _ HB.out.bus (sh1 D) (by decide) (by decide) (by decide) (by decide)).mono ?_; rintro e v1 ⟨rfl, P1, hS⟩; have HB1 : Hid (Own w b P1 (Lg.new twoF 2 D) v1) := HB.out.step hS; clear hS HB
  go_wp2_with fail
  refine (do_is b P1 _ _ _ _ _ HB1.out.bus (sh2 D) (by decide) (by decide) (by decide) (by decide)).mono ?_; rintro e v2 ⟨rfl, P2, hS⟩; have HB2 : Hid (Own w b P2 (Lg.new twoF 2 D) v2) := HB1.out.step hS; clear hS HB1
  go_wp2_with fail
  refine (do_is b P2 _ _ _ _ _ HB2.out.bus (sh3 D) (by decide) (by decide) (by decide) (by decide)).mono ?_; rintro e v3 ⟨rfl, P3, hS⟩; have HB3 : Hid (Own w b P3 (Lg.new twoF 2 D) v3) := HB2.out.step hS; clear hS HB2
  go_wp2_with fail
  refine (do_is b P3 _ _ _ _ _ HB3.out.bus (sh4 D) (by decide) (by decide) (by decide) (by decide)).mono ?_; rintro e v4 ⟨rfl, P4, hS⟩; have HB4 : Hid (Own w b P4 (Lg.new twoF 2 D) v4) := HB3.out.step hS; clear hS HB3
  go_wp2_with fail
  go_ret
  exact ⟨by simp, HB4.out.below⟩
end Go.Proofs.Ytbkkjnafnckleaa
