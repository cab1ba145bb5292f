/-
  One step by both disks: a read.
-/
import Derived.Test.YthkpohlgekfnjaaPair
namespace Go.Proofs.Ythkpohlgekfnjaa
open Go.ChangeShapes Go.WideShapes Go.ChangeAt Go.RowKit
attribute [local go_sem ↓] loadSec_seal storeSec_seal eqlSec_seal zeroSec
attribute [local go_sem] loadSec_run storeSec_run rowAt_at rowAt_old rowAt_drew rowAt_drewN roomSec_new roomAt_old roomAt_drew roomAt_drewN putSec_new putRow_past rowSec_put size_put putRow_drew putRow_drewN alloc_drewN setCell_drewN sec_size
set_option linter.unusedVariables false

def Box2 (X : World) (bx : Nat) (N : Int) : Prop := X.cell? ⟨bx, 1, none⟩ = some (.int .i64 N)
theorem Box2.same {X Y : World} {bx : Nat} {N : Int} (h : Box2 X bx N) (e : Y.heap[bx]? = X.heap[bx]?) : Box2 Y bx N := (World.cell?_of_block e).trans h
theorem Box2.made (w : World) (K N fi ma lo : Int) (t : TypeId) : Box2 (w.alloc (.cells #[.int .i64 K, .int .i64 N, .int .u8 fi, .int .u8 ma, .int .i64 lo] t)) w.heap.size N := by
  have e := heap_alloc_last w (.cells #[.int .i64 K, .int .i64 N, .int .u8 fi, .int .u8 ma, .int .i64 lo] t)
  exact cell_of_row _ _ 1 _ _ _ e
theorem frozen_set {X : World} {g k j : Nat} {v : Value} (h : X.frozen? ⟨g, j, none⟩ = false) : (X.setCell ⟨g, k, none⟩ v).frozen? ⟨g, j, none⟩ = false := by
  simpa using h
theorem conv_none (X : World) : (convert 43 9 (.slice none 0 0)).run Try.prog X = .ok (.string ⟨#[]⟩) X := conv_str (f := fun _ => 0) 0 ⟨Nat.zero_le _, .inl rfl⟩
set_option maxHeartbeats 8000000 in
set_option maxRecDepth 20000 in
theorem does_read_bad (w0 : World) (B d : Nat) (D : Dk) (r : Nat) (R : Rk) (K N fi ma lo : Int) (w : World) (h : Pair w0 B d D r R w) (hK : ¬ K = 1) (hN : N < 0 ∨ (0 ≤ N ∧ (D.n : Int) ≤ N)) : Calls Try.prog 12 #[.pointer (some ⟨d, 0, none⟩), .pointer (some ⟨r, 0, none⟩), .agg #[.int .i64 K, .int .i64 N, .int .u8 fi, .int .u8 ma, .int .i64 lo]] w fun e w' => e = .returned (.bool true) ∧ ∃ E Q, Pair w0 B d E r Q w' ∧ E.n = D.n := by
  have HP : Hid (Pair w0 B d D r R (w.alloc (.cells #[.int .i64 K, .int .i64 N, .int .u8 fi, .int .u8 ma, .int .i64 lo] 33))) := h.next ((Below.refl _ w).alloc (Nat.le_refl _) _)
  have hp : placeE N D.n = 31 := place_out (by omega)
  have HN : Hid _ := hN
  have HE : Hid _ := hp
  have hcn := conv_none
  clear h hN hp
  go_enter Try.func12, Try.ntmps12
  go_wp2_with (first
    | (go_at_call 23; have hx := HA2; clear hx; refine (read_bad d D N _ HA2.out.1.rd HE.out).mono ?_; rintro e w3 ⟨rfl, hb⟩; have HA3 : Hid (Pair w0 B d D r R w3) := HA2.out.1.next hb; clear hb)
    | (go_at_call 28; have hx := HA; clear hx; refine (rread_bad r R N _ HA.out.1.rr (by rw [HA.out.1.tie.n]; exact HN.out)).mono ?_; rintro e w2 ⟨rfl, hb⟩; have HA2 : Hid (Pair w0 B d D r R w2 ∧ Box2 w2 w.heap.size N) := ⟨HA.out.1.next hb, HA.out.2.1.same (hb.block _ HA.out.2.2)⟩; have k1 : w2.cell? ⟨w.heap.size, 1, none⟩ = some (.int .i64 N) := HA2.out.2; clear hb)
    | (go_at_call 23; have hx := HP; clear hx; refine (read_bad d D N _ HP.out.rd HE.out).mono ?_; rintro e w1 ⟨rfl, hb⟩; have HA : Hid (Pair w0 B d D r R w1 ∧ Box2 w1 w.heap.size N ∧ w.heap.size < w1.heap.size) := ⟨HP.out.next hb, (Box2.made w K N fi ma lo _).same (hb.block _ (by simp)), by have := hb.size; simp at this; omega⟩; have k1 : w1.cell? ⟨w.heap.size, 1, none⟩ = some (.int .i64 N) := HA.out.2.1; clear hb HP))
  go_loopw [17] (fun i X => i = .int .i64 0 ∧ X = w2) (fun i _ => 0)
  case atStart => exact ⟨rfl, rfl⟩
  case round =>
    obtain ⟨rfl, rfl⟩ := hrel
    go_wp2_with (go_at_call 23; refine (read_bad d D N _ HA2.out.1.rd HE.out).mono ?_; rintro e w3 ⟨rfl, hb⟩; have HA3 : Hid (Pair w0 B d D r R w3) := HA2.out.1.next hb; clear hb)
    go_ret
    exact ⟨by simp, D, R, HA3.out, rfl⟩
set_option maxHeartbeats 8000000 in
set_option maxRecDepth 20000 in
theorem does_read_good (w0 : World) (B d : Nat) (D : Dk) (r : Nat) (R : Rk) (K fi ma lo : Int) (n : Nat) (w : World) (h : Pair w0 B d D r R w) (hK : ¬ K = 1) (hn : n < D.n) : Calls Try.prog 12 #[.pointer (some ⟨d, 0, none⟩), .pointer (some ⟨r, 0, none⟩), .agg #[.int .i64 K, .int .i64 (n : Int), .int .u8 fi, .int .u8 ma, .int .i64 lo]] w fun e w' => e = .returned (.bool true) ∧ ∃ E Q, Pair w0 B d E r Q w' ∧ E.n = D.n := by
  have HP : Hid (Pair w0 B d D r R (w.alloc (.cells #[.int .i64 K, .int .i64 (n : Int), .int .u8 fi, .int .u8 ma, .int .i64 lo] 33))) := h.next ((Below.refl _ w).alloc (Nat.le_refl _) _)
  have HF : Hid (∀ x, (D.mut d x ∨ D.fix x) ∨ R.mut r x → x < w.heap.size) := fun x hx => hx.elim (h.rd.lt x) (h.rr.lt x)
  have HW0 : Hid (w0.heap.size ≤ w.heap.size) := h.below.size
  have HS : Hid (ByteF (D.S n) ∧ lastR R R.m n = strF (D.S n) 1024) := ⟨(h.rd.secS n hn).2, by rw [h.tie.S n hn, h.tie.m]; exact last_cut h.tie hn _ (Nat.le_refl _)⟩
  clear h
  go_enter Try.func12, Try.ntmps12
  go_wp2_with (first
    | (go_at_call 28; have hx := HA; clear hx; refine (rread_good r R n _ HA.out.1.rr (by rw [HA.out.1.tie.n]; exact hn)).mono ?_; rintro e w2 ⟨he, hb⟩; rw [HS.out.2] at he; obtain rfl := he; have HA2 : Hid (Pair w0 B d D r R w2 ∧ Box2 w2 w.heap.size n ∧ rowAt w2 g1 = some (sec (D.S n)) ∧ roomAt w2 g1 1024 = true ∧ g1 < w2.heap.size ∧ w.heap.size < w2.heap.size) := ⟨HA.out.1.next hb, HA.out.2.1.same (hb.block _ HA.out.2.2.2.2.2.2), (rowAt_below hb _ HA.out.2.2.2.2.2.1).trans HA.out.2.2.2.1, (roomAt_below hb _ _ HA.out.2.2.2.2.2.1).trans HA.out.2.2.2.2.1, Nat.lt_of_lt_of_le HA.out.2.2.2.2.2.1 hb.size, Nat.lt_of_lt_of_le HA.out.2.2.2.2.2.2 hb.size⟩; have hc2 := conv_str 1024 (sec_rd HA2.out.2.2.1 HS.out.1); clear hb)
    | (go_at_call 23; have hx := HP; clear hx; refine (read_good d D n _ HP.out.rd hn).mono ?_; rintro e w1 ⟨g1, rfl, h1, h2, h3, h4, hb⟩; have HA : Hid (Pair w0 B d D r R w1 ∧ Box2 w1 w.heap.size n ∧ w.heap.size < g1 ∧ rowAt w1 g1 = some (sec (D.S n)) ∧ roomAt w1 g1 1024 = true ∧ g1 < w1.heap.size ∧ w.heap.size < w1.heap.size) := ⟨HP.out.next hb, (Box2.made w K n fi ma lo _).same (hb.block _ (by simp)), by simp at h1; omega, h2, h3, h4, by have := hb.size; simp at this; omega⟩; have k1 : w1.cell? ⟨w.heap.size, 1, none⟩ = some (.int .i64 n) := HA.out.2.1; clear h1 h2 h3 h4 hb HP))
  have HG : Hid (¬ (D.mut d g1 ∨ D.fix g1) ∧ ¬ R.mut r g1 ∧ w0.heap.size ≤ g1 ∧ w.heap.size < g1) := ⟨fun hx => by have := HF.out g1 (.inl hx); have := HA.out.2.2.1; omega, fun hx => by have := HF.out g1 (.inr hx); have := HA.out.2.2.1; omega, by have := HW0.out; have := HA.out.2.2.1; omega, HA.out.2.2.1⟩
  clear k1 hc2
  go_loopw [17] (fun i X => ∃ k : Nat, k ≤ 1024 ∧ i = .int .i64 k ∧ Pair w0 B d D r R X ∧ Box2 X w.heap.size n ∧ (∀ j, j < 1024 → (X.cell? ⟨g1, j, none⟩).isSome = true ∧ X.frozen? ⟨g1, j, none⟩ = false)) (fun i _ => 1024 - (intOf i).toNat)
  case atStart => exact ⟨0, by omega, rfl, HA2.out.1, HA2.out.2.1, fun j hj => by have := room_there HA2.out.2.2.2.1 j hj; rwa [Nat.zero_add] at this⟩
  case round =>
    obtain ⟨k, hk, rfl, hP, hb2, hB⟩ := hrel
    have HPx : Hid (Pair w0 B d D r R wr ∧ Box2 wr w.heap.size n ∧ (∀ j, j < 1024 → (wr.cell? ⟨g1, j, none⟩).isSome = true ∧ wr.frozen? ⟨g1, j, none⟩ = false)) := ⟨hP, hb2, hB⟩
    have kk : wr.cell? ⟨w.heap.size, 1, none⟩ = some (.int .i64 n) := hb2
    by_cases hlt : k < 1024
    · obtain ⟨v0, c0⟩ := Option.isSome_iff_exists.1 (hB k hlt).1
      have c1 := (hB k hlt).2
      have q0 : (0 : Int) ≤ (k : Int) := by omega
      have q1 : (k : Int) < 1024 := by omega
      clear hP hB hb2
      go_wp2
      go_roundw
      case rel => exact ⟨k + 1, by omega, by go_num, HPx.out.1.set HG.out.1 HG.out.2.1 HG.out.2.2.1 _, HPx.out.2.1.same (Below.heap_setCell _ _ _ _ (by have := HG.out.2.2.2; show w.heap.size ≠ g1; omega)), fun j hj => ⟨World.isSome_setCells g1 [_] k wr _ (HPx.out.2.2 j hj).1, frozen_set (HPx.out.2.2 j hj).2⟩⟩
      case measure => simp [intOf]; omega
    · have q1 : ¬ (k : Int) < 1024 := by omega
      clear hP hB hb2
      go_wp2_with (go_at_call 23; refine (read_good d D n _ HPx.out.1.rd hn).mono ?_; rintro e w3 ⟨g3, rfl, h1, h2, h3, h4, hb⟩; have hc3 := conv_str 1024 (sec_rd h2 HS.out.1); have HA3 : Hid (Pair w0 B d D r R w3) := HPx.out.1.next hb; clear h1 h2 h3 h4 hb)
      go_ret
      exact ⟨by simp, D, R, HA3.out, rfl⟩
end Go.Proofs.Ythkpohlgekfnjaa
