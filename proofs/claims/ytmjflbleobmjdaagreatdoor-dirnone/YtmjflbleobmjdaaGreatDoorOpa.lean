/-
  Layer 17: Open.
-/
import Derived.Test.YtmjflbleobmjdaaGreatDoorOpn
namespace Go.Proofs.YtmjflbleobmjdaaGreatDoor
set_option linter.unusedVariables false
set_option linter.unusedSimpArgs false
open Go.ChangeShapes Go.WideShapes Go.ChangeAt Go.RowKit
attribute [local go_sem ↓] loadSec_seal storeSec_seal eqlSec_seal zeroSec
attribute [local go_sem] loadSec_run storeSec_run rowAt_at rowAt_old rowAt_drew rowAt_drewN roomSec_new roomAt_old roomAt_drew roomAt_drewN putSec_new putRow_past rowSec_put size_put putRow_drew putRow_drewN alloc_drewN setCell_drewN sec_size

set_option linter.unusedVariables false

/-- What Open leaves. -/
def OpP (w : World) (d : Nat) (D : Dk) (r : Option Ds) (e : Ending) (Y : World) : Prop := match r with
  | some S => ∃ x n1 L lv fv rv, e = .returned (.tuple #[.pointer (some ⟨x, 0, none⟩), .int .i64 0]) ∧ L.map Fm.f = S.files ∧ L.length ≤ 200 ∧ RdX w.heap.size n1 x d D lv S.leaves L S.use fv rv Y
  | none => e = .returned (.tuple #[.pointer none, .int .i64 170])
theorem open_nil (w : World) : Calls Tryz.prog 11 #[.pointer none] w fun e w' => e = .returned (.tuple #[.pointer none, .int .i64 1]) ∧ Below w.heap.size w w' := by
  go_enter Tryz.func11, Tryz.ntmps11
  go_wp2
  go_ret2
  exact ⟨rfl, Below.refl _ _⟩
/-- The box, before read. -/
theorem RdX.start {w w1 : World} {d : Nat} {D : Dk} {a : Option Addr} {n c : Nat} (hb : Below w.heap.size w w1) (ho : OwI w1 w.heap.size (.slice a n c) (lst D.n fun _ => true)) (hn : D.n ≤ 1024) :
    RdX w.heap.size (w1.heap.size + 1) w1.heap.size d D (.slice none 0 0) [] [] (fun _ => 0) (.slice none 0 0) (.slice a n c) (w1.alloc (.cells #[.pointer (some ⟨d, 0, none⟩), .slice none 0 0, .slice none 0 0, .slice a n c, .slice none 0 0] 52)) where
  blk := by unfold rowAt; rw [World.alloc_heap_new]
  room := by unfold roomAt; rw [World.alloc_heap_new]; rfl
  b0 := hb.size
  xn := Nat.lt_succ_self _
  big := by simp
  fs := OwF.nil _ _
  nilf := fun _ => rfl
  secs := fun m hm => by cases hm
  free := by
    have hr := (ho.row (Nat.le_trans (lst_len _ _) (by omega))).below ((Below.refl _ w1).alloc (Nat.le_refl _) (.cells #[.pointer (some ⟨d, 0, none⟩), .slice none 0 0, .slice none 0 0, .slice a n c, .slice none 0 0] 52))
    obtain ⟨hl, a', c', e, h1, h2, h3⟩ := hr
    refine ⟨hl, a', c', e, h1, h2, fun hn => ?_⟩
    obtain ⟨b, off, ea, hA, hb', hc⟩ := h3 hn
    refine ⟨b, off, ea, ⟨hA, fun eb => ?_, by simp [Value.ownBlock]⟩, hb', hc⟩
    subst eb ea
    injection e with e1
    have := (ho.lt w1.heap.size (by rw [e1]; rfl)).2
    omega
  leaves := RowI.nil _ _
set_option maxHeartbeats 4000000 in
theorem open_any (d : Nat) (D : Dk) (m0 : Int) (w : World) (hR : Rep w d D) (hm : w.cell? ⟨0, 0, none⟩ = some (.int .i64 m0)) : Calls Tryz.prog 11 #[.pointer (some ⟨d, 0, none⟩)] w fun e w' => OpP w d D (openP D.n D.S) e w' ∧ Below w.heap.size w w' := by
  have HR := hidD hR
  have HM := hidD hm
  have n1024 := hR.n1
  have h0 := World.block_lt_of_cell? _ _ hm
  simp only [] at h0
  have HRD := hidD (fun (x n1 : Nat) (rv : Value) (X : World) (h : RdX w.heap.size n1 x d D (.slice none 0 0) [] [] (fun _ => 0) (.slice none 0 0) rv X) (hb : Below w.heap.size w X) => callsIn_wide.1 (read_in 8 (by omega) w.heap.size n1 x d D rv m0 X h (hR.below hb) (fun y hy => by have := hR.lt y hy; have := h.b0; omega) ((hb.cell (p := ⟨0, 0, none⟩) h0).trans hm) (by have := h.b0; omega)))
  clear hR hm
  cases hop : openP D.n D.S with
  | none =>
    rw [hop] at HRD
    clear hop
    go_enter Tryz.func11, Tryz.ntmps11
    go_wp2_with (first
      | (go_at_call 29; refine (sectors_any d D _ HR.out).mono ?_; rintro e w1 ⟨rfl, hb1⟩; have HB1 := hidD hb1; clear hb1)
      | (go_at_call 28; refine (upTo_any _ _ (by omega)).mono ?_; rintro e w2 ⟨v, rfl, ho, hb2⟩; obtain ⟨va, vn, vc, rfl⟩ := ho.isSl; have HB2 := hidD (HB1.out.trans (hb2.mono HB1.out.size)); have HO := hidD (ho.base HB1.out.size); clear hb2 ho)
      | (go_at_call 30; refine (HRD.out _ _ _ _ (RdX.start HB2.out HO.out n1024) (HB2.out.alloc HB2.out.size _)).mono ?_; rintro e w3 ⟨he, ht⟩; obtain rfl := (show e = .returned (.bool false) from he); have HB3 := hidD ((HB2.out.alloc HB2.out.size _).trans (ht.below (B := w.heap.size) (by have := HB2.out.size; simp; omega) (fun y hy => by subst hy; exact HB2.out.size))); clear ht he))
    go_ret2
    exact ⟨rfl, HB3.out⟩
  | some S =>
    rw [hop] at HRD
    clear hop
    go_enter Tryz.func11, Tryz.ntmps11
    go_wp2_with (first
      | (go_at_call 29; refine (sectors_any d D _ HR.out).mono ?_; rintro e w1 ⟨rfl, hb1⟩; have HB1 := hidD hb1; clear hb1)
      | (go_at_call 28; refine (upTo_any _ _ (by omega)).mono ?_; rintro e w2 ⟨v, rfl, ho, hb2⟩; obtain ⟨va, vn, vc, rfl⟩ := ho.isSl; have HB2 := hidD (HB1.out.trans (hb2.mono HB1.out.size)); have HO := hidD (ho.base HB1.out.size); clear hb2 ho)
      | (go_at_call 30; refine (HRD.out _ _ _ _ (RdX.start HB2.out HO.out n1024) (HB2.out.alloc HB2.out.size _)).mono ?_; rintro e w3 ⟨he, ht⟩; obtain ⟨rfl, n1, L, lv, fv, rv, hL, hl, hr⟩ := (show e = .returned (.bool true) ∧ ∃ n1 L lv fv rv, L.map Fm.f = S.files ∧ L.length ≤ 200 ∧ RdX w.heap.size n1 w2.heap.size d D lv S.leaves L S.use fv rv w3 from he); have HX := hidD hr; have HB3 := hidD ((HB2.out.alloc HB2.out.size _).trans (ht.below (B := w.heap.size) (by have := HB2.out.size; simp; omega) (fun y hy => by subst hy; exact HB2.out.size))); clear ht he hr))
    go_ret2
    exact ⟨⟨_, n1, L, lv, fv, rv, rfl, hL, hl, HX.out⟩, HB3.out⟩
end Go.Proofs.YtmjflbleobmjdaaGreatDoor
