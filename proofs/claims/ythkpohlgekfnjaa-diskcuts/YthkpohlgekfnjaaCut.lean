/-
  A disk as it was behind so many writes.
-/
import Derived.Test.YthkpohlgekfnjaaPair
namespace Go.Proofs.Ythkpohlgekfnjaa
open Go.ChangeShapes Go.WideShapes Go.ChangeAt Go.RowKit
attribute [local go_sem ↓] loadSec_seal storeSec_seal eqlSec_seal zeroSec
attribute [local go_sem] loadSec_run storeSec_run rowAt_at rowAt_old rowAt_drew rowAt_drewN roomSec_new roomAt_old roomAt_drew roomAt_drewN putSec_new putRow_past rowSec_put size_put putRow_drew putRow_drewN alloc_drewN setCell_drewN sec_size
set_option linter.unusedVariables false

theorem cut_bad (b : Nat) (D : Dk) (k : Int) (w : World) (h : Rep w b D) (hk : k < 0 ∨ (0 ≤ k ∧ (D.m : Int) < k)) : Calls Try.prog 20 #[.pointer (some ⟨b, 0, none⟩), .int .i64 k] w fun e w' => e = .returned (.tuple #[.pointer none, .int .i64 2]) ∧ Below w.heap.size w w' := by
  obtain ⟨ra, rcap, hv⟩ := h.rowV
  have h2 : w.cell? ⟨b, 2, none⟩ = some (.slice ra D.m rcap) := by rw [← hv]; exact (h.cell 2).trans D.at2
  clear h
  rcases hk with h0 | ⟨h0, h1⟩
  all_goals
    go_enter Try.func20, Try.ntmps20
    go_wp2
    go_ret2
    exact ⟨rfl, by go_grown⟩
/-- The places behind so many writes. -/
def cutP (D : Dk) : Nat → Nat → Nat
  | 0 => D.q
  | k + 1 => upd (cutP D k) (D.wn k) (D.wp k)
theorem cutP_sec {w : World} {b : Nat} {D : Dk} (h : Rep w b D) {i : Nat} (hi : i < D.n) : ∀ k, k ≤ D.m → rowAt w (cutP D k i) = some (sec (cutS D k i)) ∧ ByteF (cutS D k i)
  | 0, _ => h.secF i hi
  | k + 1, hk => by
    show rowAt w (upd (cutP D k) (D.wn k) (D.wp k) i) = some (sec (upd (cutS D k) (D.wn k) (D.C k) i)) ∧ ByteF (upd (cutS D k) (D.wn k) (D.C k) i)
    by_cases e : i = D.wn k
    · subst e; rw [upd_at, upd_at]; exact h.secC k (by omega)
    · rw [upd_ne _ _ e, upd_ne _ _ e]; exact cutP_sec h hi k (by omega)
theorem own_slice_cap {w : World} {b : Nat} {D : Dk} (h : Rep w b D) {ra : Option Addr} {rcap : Nat} (hv : D.rv = .slice ra D.m rcap) : D.m ≤ rcap := by
  rcases h.row.2 with ⟨e, e0⟩ | ⟨g, cap, _, e, _, _, h4, _⟩
  · omega
  · rw [hv] at e
    injection e with _ _ e3
    omega
set_option maxHeartbeats 4000000 in
set_option maxRecDepth 20000 in
theorem cut_good (b : Nat) (D : Dk) (k : Nat) (w : World) (h : Rep w b D) (hk : k ≤ D.m) : Calls Try.prog 20 #[.pointer (some ⟨b, 0, none⟩), .int .i64 (k : Int)] w fun e w' => ∃ c E, e = .returned (.tuple #[.pointer (some ⟨c, 0, none⟩), .int .i64 0]) ∧ Rep w' c E ∧ E.n = D.n ∧ E.m = 0 ∧ E.S = cutS D k ∧ (∀ x, E.mut c x → w.heap.size ≤ x) ∧ Below w.heap.size w w' := by
  obtain ⟨ra, rcap, hv⟩ := h.rowV
  have hcap := own_slice_cap h hv
  have n0 := h.n0
  have n1 := h.n1
  have hm4 := h.m1
  have h2 : w.cell? ⟨b, 2, none⟩ = some (.slice ra D.m rcap) := by rw [← hv]; exact (h.cell 2).trans D.at2
  have h0 := (h.cell 0).trans D.at0
  have hb0 : b < w.heap.size := h.lt b (.inl (.inl rfl))
  have HR : Hid (Rep w b D) := h
  have HV : Hid (D.rv = .slice ra D.m rcap) := hv
  have j0 : (0 : Int) ≤ (k : Int) := by omega
  have j1 : (k : Int) ≤ (D.m : Int) := by omega
  have j2 : (k : Int) ≤ (rcap : Int) := by omega
  have j3 : ¬ D.m < k := by omega
  have j4 : decide (D.m < k) = false := decide_eq_false j3
  have j5 : ¬ (k : Int) < 0 := by omega
  have j6 : ¬ (D.m : Int) < (k : Int) := by omega
  clear h hv
  go_enter Try.func20, Try.ntmps20
  go_wp2_with (go_at_call 31; refine (clone_any D.fb D.n D.fc D.q _ (by omega) n1 (fun i hi => HR.out.firstAt hi)).mono ?_; rintro e w1 ⟨ga, ca, rfl, hown, hg, hlt, hb⟩; have H1 : Hid (w1.ownsRow 0 58 1 (.slice (some ⟨ga, 0, none⟩) D.n ca) D.n (ptrs (cutP D 0) D.n) ∧ w.heap.size ≤ ga ∧ Below w.heap.size w w1) := ⟨hown, hg, hb⟩; have c2 : w1.cell? ⟨b, 2, none⟩ = some (.slice ra D.m rcap) := (hb.cell (p := ⟨b, 2, none⟩) hb0).trans h2; clear hown hg hlt hb)
  go_loopw [34] (fun i X => ∃ j : Nat, j ≤ k ∧ i = .int .i64 j ∧ X.ownsRow 0 58 1 (.slice (some ⟨ga, 0, none⟩) D.n ca) D.n (ptrs (cutP D j) D.n) ∧ Below w.heap.size w X) (fun i _ => k - (intOf i).toNat)
  case atStart => exact ⟨0, by omega, rfl, H1.out.1, H1.out.2.2⟩
  case round =>
    obtain ⟨j, hj, rfl, hown, hb⟩ := hrel
    have HX : Hid (World.ownsRow wr 0 58 1 (.slice (some ⟨ga, 0, none⟩) D.n ca) D.n (ptrs (cutP D j) D.n)) := hown
    have HB : Hid (Below w.heap.size w wr) := hb
    by_cases hlt : j < k
    · obtain ⟨rg, rc, e6, _, hl6, c3, c4⟩ := (HR.out.below hb).rowAt' (show j < D.m by omega)
      rw [HV.out] at e6
      injection e6 with e7 _ e8
      subst e7 e8
      have hwn := HR.out.wlt j (by omega)
      obtain ⟨c5, c6⟩ := own_cell HX.out (j := D.wn j) (by omega)
      rw [ptrs_at _ hwn] at c5
      have hgl : ga < wr.heap.size := (World.ownsRow.lt HX.out ga rfl).2
      have q0 : (0 : Int) ≤ (j : Int) := by omega
      have q1 : (j : Int) < (k : Int) := by omega
      have q2 : (0 : Int) ≤ ((D.wn j : Nat) : Int) := by omega
      have q3 : ((D.wn j : Nat) : Int) < (D.n : Int) := by omega
      clear hown hb
      go_wp2
      go_roundw
      case rel => exact ⟨j + 1, by omega, by go_num, own_same (own_set HX.out hwn (D.wp j)) (fun x hx => Below.heap_alloc _ _ _ (by have e := Option.some.inj (show some ga = some x from hx); subst e; simpa using hgl)), (HB.out.setCell H1.out.2.1 _).alloc (by have := HB.out.size; simpa using this) _⟩
      case measure => simp [intOf]; omega
    · have hjk : j = k := by omega
      subst hjk
      have q1 : ¬ (j : Int) < (j : Int) := by omega
      clear hown hb
      go_wp2_with (go_at_call 25; refine (made_any ga D.n ca (cutP D j) (cutS D j) _ n0 n1 HX.out (fun i hi => cutP_sec (HR.out.below HB.out) hi j hk)).mono ?_; rintro e w3 ⟨c, hh, cc, rfl, hrep, hbb, hhh, hb3⟩)
      go_ret2
      refine ⟨c, _, rfl, hrep, rfl, rfl, rfl, fun x hx => ?_, HB.out.trans (hb3.mono HB.out.size)⟩
      have := HB.out.size
      rcases hx with rfl | rfl | hx
      · omega
      · omega
      · simp [Dk.made, Value.ownBlock] at hx
end Go.Proofs.Ythkpohlgekfnjaa
