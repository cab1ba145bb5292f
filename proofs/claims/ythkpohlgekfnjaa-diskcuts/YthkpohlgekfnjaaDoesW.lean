/-
  One step by both disks: a write.
-/
import Derived.Test.YthkpohlgekfnjaaPair
import Derived.Deep.RegionHeld
namespace Go.Proofs.Ythkpohlgekfnjaa
open Go.ChangeShapes Go.WideShapes Go.ChangeAt Go.RowKit
attribute [local go_sem ↓] loadSec_seal storeSec_seal eqlSec_seal zeroSec
attribute [local go_sem] loadSec_run storeSec_run rowAt_at rowAt_old rowAt_drew rowAt_drewN roomSec_new roomAt_old roomAt_drew roomAt_drewN putSec_new putRow_past rowSec_put size_put putRow_drew putRow_drewN alloc_drewN setCell_drewN sec_size
set_option linter.unusedVariables false

def boxed (K N fi ma lo : Int) : Array Value := #[.int .i64 K, .int .i64 N, .int .u8 fi, .int .u8 ma, .int .i64 lo]
def Box (X : World) (bx : Nat) (K N fi ma lo : Int) : Prop := X.cell? ⟨bx, 0, none⟩ = some (.int .i64 K) ∧ X.cell? ⟨bx, 1, none⟩ = some (.int .i64 N) ∧ X.cell? ⟨bx, 2, none⟩ = some (.int .u8 fi) ∧ X.cell? ⟨bx, 3, none⟩ = some (.int .u8 ma) ∧ X.cell? ⟨bx, 4, none⟩ = some (.int .i64 lo)
theorem Box.same {X Y : World} {bx : Nat} {K N fi ma lo : Int} (h : Box X bx K N fi ma lo) (e : Y.heap[bx]? = X.heap[bx]?) : Box Y bx K N fi ma lo := by
  have hc : ∀ j, Y.cell? ⟨bx, j, none⟩ = X.cell? ⟨bx, j, none⟩ := fun j => World.cell?_of_block e
  unfold Box
  rw [hc 0, hc 1, hc 2, hc 3, hc 4]
  exact h
theorem Box.made (w : World) (K N fi ma lo : Int) (t : TypeId) : Box (w.alloc (.cells #[.int .i64 K, .int .i64 N, .int .u8 fi, .int .u8 ma, .int .i64 lo] t)) w.heap.size K N fi ma lo := by
  have e := heap_alloc_last w (.cells #[.int .i64 K, .int .i64 N, .int .u8 fi, .int .u8 ma, .int .i64 lo] t)
  exact ⟨cell_of_row _ _ 0 _ _ _ e, cell_of_row _ _ 1 _ _ _ e, cell_of_row _ _ 2 _ _ _ e, cell_of_row _ _ 3 _ _ _ e, cell_of_row _ _ 4 _ _ _ e⟩
theorem next_n {D E : Dk} {n : Int} {len : Nat} {f : Nat → Int} (h : D.next E n len f) : E.n = D.n := by
  rcases h with ⟨_, rfl⟩ | ⟨_, P, g, c, rfl⟩ <;> rfl
theorem filled_at (K N fi ma lo : Int) (w : World) : Calls Try.prog 22 #[.agg #[.int .i64 K, .int .i64 N, .int .u8 fi, .int .u8 ma, .int .i64 lo]] w fun e w' => ∃ g, e = .returned (.slice (some ⟨g, 0, none⟩) (fillN lo) (fillN lo)) ∧ BRow w' g (fillN lo) (fillF fi ma) ∧ w.heap.size ≤ g ∧ Below w.heap.size w w' := filled_any ⟨K, N, fi, ma, lo⟩ w
theorem fill_max (lo : Int) : fillN lo ≤ maxLen := by have := fillN_lt lo; unfold maxLen; omega
theorem fill_byte {fi ma : Int} (h1 : 0 ≤ fi ∧ fi ≤ 255) (h2 : 0 ≤ ma ∧ ma ≤ 255) (n : Nat) : ∀ i, i < n → 0 ≤ fillF fi ma i ∧ fillF fi ma i ≤ 255 := fun i _ => by
  unfold fillF; split
  · exact h2
  · exact h1
set_option maxHeartbeats 8000000 in
set_option maxRecDepth 20000 in
theorem does_write (w0 : World) (B d : Nat) (D : Dk) (r : Nat) (R : Rk) (N fi ma lo : Int) (w : World) (h : Pair w0 B d D r R w) (hf1 : 0 ≤ fi ∧ fi ≤ 255) (hm1 : 0 ≤ ma ∧ ma ≤ 255) : Calls Try.prog 12 #[.pointer (some ⟨d, 0, none⟩), .pointer (some ⟨r, 0, none⟩), .agg #[.int .i64 1, .int .i64 N, .int .u8 fi, .int .u8 ma, .int .i64 lo]] w fun e w' => e = .returned (.bool true) ∧ ∃ E Q, Pair w0 B d E r Q w' ∧ E.n = D.n := by
  have HP : Hid (Pair w0 B d D r R (w.alloc (.cells #[.int .i64 1, .int .i64 N, .int .u8 fi, .int .u8 ma, .int .i64 lo] 33))) := h.next ((Below.refl _ w).alloc (Nat.le_refl _) _)
  have HF : Hid (∀ x, (D.mut d x ∨ D.fix x) ∨ R.mut r x → x < w.heap.size) := fun x hx => hx.elim (h.rd.lt x) (h.rr.lt x)
  have HW0 : Hid (w0.heap.size ≤ w.heap.size) := h.below.size
  clear h
  go_enter Try.func12, Try.ntmps12
  go_wp2_with (first
    | (go_at_call 21; have hx := HA; clear hx; refine (write_step d D N _ _ _ (fillF fi ma) _ HA.out.2.1.rd (HA.out.1.rd (fill_max lo) (fill_byte hf1 hm1 _))).mono ?_; rintro e w2 ⟨E, rfl, hR, hs, ht, hmu, hfx⟩; have HH : Hid (Half w0 B d D E r R N (fillN lo) (fillF fi ma) w2 ∧ BRow w2 g1 (fillN lo) (fillF fi ma) ∧ Box w2 w.heap.size 1 N fi ma lo ∧ (∀ x, E.mut d x ∨ E.fix x → x < w.heap.size ∨ w1.heap.size ≤ x)) := ⟨HA.out.2.1.half hR hs ht hmu hfx, HA.out.1.same (ht.block _ HA.out.1.lt (fun hm => by have := HF.out g1 (.inl (.inl hm)); have := HA.out.2.2.2; omega)), HA.out.2.2.1.same (ht.block _ (by have := HA.out.2.1.below.size; have := HA.out.1.lt; have := HA.out.2.2.2; omega) (fun hm => by have := HF.out _ (.inl (.inl hm)); omega)), fun x hx => hx.elim (fun h1 => (hmu x h1).imp (fun h2 => HF.out x (.inl (.inl h2))) id) (fun h1 => (hfx x h1).imp (fun h2 => HF.out x (.inl (.inr h2))) id)⟩; obtain ⟨k0, k1, k2, k3, k4⟩ := HH.out.2.2.1; clear hR hs ht hmu hfx)
    | (go_at_call 22; have hx := HP; clear hx; refine (filled_at 1 N fi ma lo _).mono ?_; rintro e w1 ⟨g1, rfl, hB, hg, hb⟩; have HA : Hid (BRow w1 g1 (fillN lo) (fillF fi ma) ∧ Pair w0 B d D r R w1 ∧ Box w1 w.heap.size 1 N fi ma lo ∧ w.heap.size < g1) := ⟨hB, HP.out.next hb, (Box.made w 1 N fi ma lo _).same (hb.block _ (by simp)), by simp at hg; omega⟩; obtain ⟨k0, k1, k2, k3, k4⟩ := HA.out.2.2.1; clear hB hg hb HP))
  have HBX : Hid (∀ X : World, X.heap[w.heap.size]? = w2.heap[w.heap.size]? → Box X w.heap.size 1 N fi ma lo) := fun X e => HH.out.2.2.1.same e
  have HL : Hid (w.heap.size < w2.heap.size) := Nat.lt_trans HA.out.2.2.2 HH.out.2.1.lt
  clear k0 k1 k2 k3 k4
  go_region_held (fun X => X.cell? ⟨w.heap.size, 0, none⟩ = some (.int .i64 1) ∧ X.cell? ⟨w.heap.size, 1, none⟩ = some (.int .i64 N) ∧ X.cell? ⟨w.heap.size, 2, none⟩ = some (.int .u8 fi) ∧ X.cell? ⟨w.heap.size, 3, none⟩ = some (.int .u8 ma) ∧ X.cell? ⟨w.heap.size, 4, none⟩ = some (.int .i64 lo)) (first | exact HBX.out _ rfl | exact hS4 | exact hS3) (first
    | (go_at_call 27; have hx := HA2; clear hx; refine (rwrite_step r R N _ _ _ (fillF fi ma) _ HA2.out.2.1.rr (HA2.out.1.rd (fill_max lo) (fill_byte hf1 hm1 _))).mono ?_; rintro e w4 ⟨Q, he, hR, hs, ht, hmu⟩; rw [HH.out.1.tie.n, HH.out.1.tie.m] at he; obtain rfl := he; have hS4 : Box w4 w.heap.size 1 N fi ma lo := HA2.out.2.2.2.1.same (ht.block _ HA2.out.2.2.2.2.1 (fun hm => by have := HF.out _ (.inr hm); omega)); have HP4 : Hid (Pair w0 B d E r Q w4 ∧ BRow w4 g1 (fillN lo) (fillF fi ma) ∧ (∀ x, Q.mut r x → x < w.heap.size ∨ w2.heap.size ≤ x)) := ⟨HA2.out.2.1.whole hR hs ht hmu, HA2.out.2.2.1.same (ht.block _ HA2.out.2.2.1.lt (fun hm => by have := HF.out _ (.inr hm); have := HA.out.2.2.2; omega)), fun x hx => (hmu x hx).imp (fun h2 => HF.out x (.inr h2)) (fun h2 => Nat.le_trans HA2.out.2.2.2.2.2 h2)⟩; clear hR hs ht hmu)
    | (go_at_call 22; refine (filled_at 1 N fi ma lo _).mono ?_; rintro e w3 ⟨g2, rfl, hB, hg, hb⟩; have hS3 : Box w3 w.heap.size 1 N fi ma lo := HBX.out w3 (hb.block _ HL.out); have HA2 : Hid (BRow w3 g2 (fillN lo) (fillF fi ma) ∧ Half w0 B d D E r R N (fillN lo) (fillF fi ma) w3 ∧ BRow w3 g1 (fillN lo) (fillF fi ma) ∧ Box w3 w.heap.size 1 N fi ma lo ∧ w.heap.size < w3.heap.size ∧ w2.heap.size ≤ w3.heap.size) := ⟨hB, HH.out.1.next ((Below.refl _ w2).drew.trans hb), HH.out.2.1.same (hb.block _ HH.out.2.1.lt), hS3, Nat.lt_of_lt_of_le HL.out hb.size, hb.size⟩; clear hB hg hb))
  have HB4 : Hid (∀ X : World, X.heap[w.heap.size]? = w4.heap[w.heap.size]? → Box X w.heap.size 1 N fi ma lo) := fun X e => hS4.same e
  have HC : Hid (∀ X : World, X.heap[g1]? = w4.heap[g1]? → (convert 43 9 (.slice (some ⟨g1, 0, none⟩) (fillN lo) (fillN lo))).run Try.prog X = .ok (.string (strF (fillF fi ma) (fillN lo))) X) := fun X e => conv_str _ ((HP4.out.2.1.same e).rd (fill_max lo) (fill_byte hf1 hm1 _))
  have HL4 : Hid (w.heap.size < w4.heap.size) := Nat.lt_trans HA.out.2.2.2 HP4.out.2.1.lt
  clear hS3 hS4
  go_wp2
  go_region_held (fun X => ((convert 43 9 (.slice (some ⟨g1, 0, none⟩) (fillN lo) (fillN lo))).run Try.prog X = .ok (.string (strF (fillF fi ma) (fillN lo))) X) ∧ X.cell? ⟨w.heap.size, 0, none⟩ = some (.int .i64 1) ∧ X.cell? ⟨w.heap.size, 1, none⟩ = some (.int .i64 N) ∧ X.cell? ⟨w.heap.size, 2, none⟩ = some (.int .u8 fi) ∧ X.cell? ⟨w.heap.size, 3, none⟩ = some (.int .u8 ma) ∧ X.cell? ⟨w.heap.size, 4, none⟩ = some (.int .i64 lo)) (first | exact ⟨HC.out _ rfl, HB4.out _ rfl⟩ | exact hS5) (first
    | (go_at_call 22; refine (filled_at 1 N fi ma lo _).mono ?_; rintro e w5 ⟨g3, rfl, hB, hg, hb⟩; have hS5 := And.intro (HC.out w5 (hb.block _ HP4.out.2.1.lt)) (HB4.out w5 (hb.block _ HL4.out)); have hzz : ∀ X : World, X.heap = w5.heap → (convert 43 9 (.slice (some ⟨g3, 0, none⟩) (fillN lo) (fillN lo))).run Try.prog X = .ok (.string (strF (fillF fi ma) (fillN lo))) X := fun X hX => conv_str _ ((hB.same (by rw [hX])).rd (fill_max lo) (fill_byte hf1 hm1 _)); have zz0 := hzz w5 rfl; have zz1 := hzz w5.drew rfl; have zz2 := hzz w5.drew.drew rfl; have zz3 := hzz w5.drew.drew.drew rfl; have HP5 : Hid (Pair w0 B d E r Q w5 ∧ BRow w5 g1 (fillN lo) (fillF fi ma)) := ⟨HP4.out.1.next ((Below.refl _ w4).drew.trans hb), HP4.out.2.1.same (hb.block _ HP4.out.2.1.lt)⟩; clear hB hg hb hzz))
  go_wp2
  have HG : Hid (¬ (E.mut d g1 ∨ E.fix g1) ∧ ¬ Q.mut r g1 ∧ w0.heap.size ≤ g1) := ⟨fun hx => by
    have h1 := HH.out.2.2.2 g1 hx
    have h2 := HA.out.1.lt
    have h3 := HA.out.2.2.2
    omega, fun hx => by
    have h1 := HP4.out.2.2 g1 hx
    have h2 := HH.out.2.1.lt
    have h3 := HA.out.2.2.2
    omega, by have := HW0.out; have := HA.out.2.2.2; omega⟩
  clear zz0 zz1 zz2 zz3 hS5
  go_loopw [11] (fun i X => ∃ k : Nat, k ≤ fillN lo ∧ i = .int .i64 k ∧ Pair w0 B d E r Q X ∧ (∃ f2, BRow X g1 (fillN lo) f2)) (fun i _ => fillN lo - (intOf i).toNat)
  case atStart => exact ⟨0, by omega, rfl, HP5.out.1, _, HP5.out.2⟩
  case round =>
    obtain ⟨k, hk, rfl, hP, f2, hB⟩ := hrel
    have HPx : Hid (Pair w0 B d E r Q _ ∧ BRow _ g1 (fillN lo) f2) := ⟨hP, hB⟩
    have hmax := fillN_lt lo
    by_cases hlt : k < fillN lo
    · obtain ⟨c0, c1⟩ := hB.at hlt
      have q0 : (0 : Int) ≤ (k : Int) := by omega
      have q1 : (k : Int) < (fillN lo : Int) := by omega
      clear hP hB
      go_wp2
      go_roundw
      case rel => exact ⟨k + 1, by omega, by go_num, HPx.out.1.set HG.out.1 HG.out.2.1 HG.out.2.2 _, _, HPx.out.2.set hlt 200⟩
      case measure => simp [intOf]; omega
    · have q1 : ¬ (k : Int) < (fillN lo : Int) := by omega
      clear hP hB
      go_wp2
      go_ret
      first | exact ⟨by simp, E, Q, HPx.out.1, next_n HH.out.1.step⟩ | exact ⟨by simp, E, ⟨Q, HPx.out.1⟩, next_n HH.out.1.step⟩
end Go.Proofs.Ythkpohlgekfnjaa
