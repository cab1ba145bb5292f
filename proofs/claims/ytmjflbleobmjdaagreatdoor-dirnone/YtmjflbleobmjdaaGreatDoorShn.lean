/-
  Layer 17: a new directory is empty.
-/
import Derived.Test.YtmjflbleobmjdaaGreatDoorNil
namespace Go.Proofs.YtmjflbleobmjdaaGreatDoor
set_option linter.unusedVariables false
set_option linter.unusedSimpArgs false
open Go.ChangeShapes Go.WideShapes Go.ChangeAt Go.RowKit
attribute [local go_sem ↓] loadSec_seal storeSec_seal eqlSec_seal zeroSec
attribute [local go_sem] loadSec_run storeSec_run rowAt_at rowAt_old rowAt_drew rowAt_drewN roomSec_new roomAt_old roomAt_drew roomAt_drewN putSec_new putRow_past rowSec_put size_put putRow_drew putRow_drewN alloc_drewN setCell_drewN sec_size

set_option linter.unusedVariables false

theorem root_none (n : Nat) (hn : 0 < n) (S : Nat → Nat → Int) (h : S 0 = secF (rootL [])) : rootP n S = some [] := by
  have e0 : wdF (secF (rootL [])) 0 = rootM := by decide
  have e1 : wdF (secF (rootL [])) 1 = 0 := by decide
  unfold rootP markedP
  rw [show S (Int.toNat 0) = secF (rootL []) from h, h, e0, e1, if_pos ⟨by omega, by omega, rfl, by decide⟩]
  rfl
theorem open_new (n : Nat) (hn : 0 < n) (S : Nat → Nat → Int) (h : S 0 = secF (rootL [])) : openP n S = some ⟨n, [], [], fun i => if i = 0 then 1 else 0⟩ := by
  unfold openP
  rw [root_none n hn S h]
  have e : takeAll n 0 1 (fun _ => 0) [0] = some (fun i => if i = 0 then 1 else 0) := by
    unfold takeAll
    rw [if_pos ⟨by omega, by omega, rfl⟩]
    rfl
  simp only [e]
  rfl
theorem free_at (x k c : Nat) (a : Option Addr) (X : World) (h : X.cell? ⟨x, 3, none⟩ = some (.slice a k c)) : Calls Tryz.prog 13 #[.pointer (some ⟨x, 0, none⟩)] X fun e Y => e = .returned (.int .i64 k) ∧ Below X.heap.size X Y := by
  go_enter Tryz.func13, Tryz.ntmps13
  go_wp2
  go_ret
  exact ⟨rfl, Below.refl _ _⟩
theorem next_ok {D E : Dk} {n : Int} {len : Nat} {f : Nat → Int} (h : D.next E n len f) (hz : firstE n D.n len D.m = 0) : E.n = D.n ∧ E.m = D.m + 1 ∧ E.S = upd D.S n.toNat f := by
  rcases h with ⟨h, _⟩ | ⟨_, P, g, c, rfl⟩
  · exact absurd hz h
  · exact ⟨rfl, rfl, rfl⟩
/-- Sixteen sectors, one of them the root's. -/
theorem lst_15 : (lst 16 fun i => (if i = 0 then 1 else 0) == 0).length = 15 := by decide
theorem shown_step (d : Nat) (D E : Dk) (w w1 w2 : World) (m0 : Int) (hn : D.n = 16) (hmm : D.m = 0) (hfr : D.fresh d w.heap.size) (hb : Below w.heap.size w w1) (hw : WrS w1 d D E 0 (secF (rootL [])) w2) (hm : w.cell? ⟨0, 0, none⟩ = some (.int .i64 m0)) :
    Below w.heap.size w w2 ∧ Calls Tryz.prog 11 #[.pointer (some ⟨d, 0, none⟩)] w2 fun e w3 => (∃ x a c, e = .returned (.tuple #[.pointer (some ⟨x, 0, none⟩), .int .i64 0]) ∧ w3.cell? ⟨x, 3, none⟩ = some (.slice a 15 c)) ∧ Below w.heap.size w w3 := by
  have h0 := World.block_lt_of_cell? _ _ hm
  simp only [] at h0
  have hB2 : Below w.heap.size w w2 := hb.trans (hw.tou.below hb.size fun x hx => hfr x (.inl hx))
  have hf : firstE 0 D.n 1024 D.m = 0 := by rw [firstE_0 _ _ (by omega), if_pos (by omega)]
  obtain ⟨e1, e2, e3⟩ := next_ok hw.step hf
  refine ⟨hB2, (open_any d E m0 w2 hw.rep ((hB2.cell (p := ⟨0, 0, none⟩) h0).trans hm)).mono ?_⟩
  rintro e w3 ⟨he, hb3⟩
  refine ⟨?_, hB2.trans (hb3.mono hB2.size)⟩
  rw [open_new E.n (by omega) E.S (by rw [e3]; exact if_pos rfl)] at he
  obtain ⟨x, n1, L, lv, fv, rv, rfl, hL, hl, hr⟩ := (show ∃ x n1 L lv fv rv, e = .returned (.tuple #[.pointer (some ⟨x, 0, none⟩), .int .i64 0]) ∧ L.map Fm.f = [] ∧ L.length ≤ 200 ∧ RdX w2.heap.size n1 x d E lv [] L (fun i => if i = 0 then 1 else 0) fv rv w3 from he)
  obtain ⟨_, _, _, c3, _⟩ := hr.cell
  obtain ⟨_, a, c, e4, _⟩ := hr.free
  rw [e1, hn, lst_15] at e4
  exact ⟨x, a, c, rfl, by rw [c3, e4]⟩
set_option maxHeartbeats 4000000 in
theorem shown_any (m0 : Int) (w : World) (hm : w.cell? ⟨0, 0, none⟩ = some (.int .i64 m0)) : Calls Tryz.prog 4 #[] w fun e w' => e = .returned (.bool true) ∧ Below w.heap.size w w' := by
  have HM := hidD hm
  have h0 := World.block_lt_of_cell? _ _ hm
  simp only [] at h0
  clear hm
  have HOP := hidD (fun (d : Nat) (D E : Dk) (w1 w2 : World) (hn : D.n = 16) (hmm : D.m = 0) (hfr : D.fresh d w.heap.size) (hb : Below w.heap.size w w1) (hw : WrS w1 d D E 0 (secF (rootL [])) w2) => shown_step d D E w w1 w2 m0 hn hmm hfr hb hw HM.out)
  go_enter Tryz.func4, Tryz.ntmps4
  go_wp2_with (first
    | (go_at_call 16; refine (new_some 16 _ (by omega) (by omega)).mono ?_; rintro e w1 ⟨d, D, rfl, hr, hn, hmm, hS, hF, hfr, hb⟩; have HR := hidD hr; have HB1 := hidD hb; have HFR := hidD hfr; have HN := hidD hn; have HMM := hidD hmm; clear hr hb hfr hS hF hn hmm)
    | (go_at_call 12; refine (format_any d D _ HR.out).mono ?_; rintro e w2 ⟨E, rfl, hw⟩; rw [HMM.out, if_pos (by decide)]; obtain ⟨q1, q2⟩ := HOP.out d D E w1 w2 HN.out HMM.out HFR.out HB1.out hw; have HB2 := hidD q1; have HQ := hidD q2; clear hw q1 q2)
    | (go_at_call 11; refine HQ.out.mono ?_; rintro e w3 ⟨⟨x, a, c, rfl, hc⟩, hb⟩; have HB3 := hidD hb; clear hb)
    | (go_at_call 13; refine (free_at x 15 c a _ hc).mono ?_; rintro e w4 ⟨rfl, hb⟩; have HB4 := hidD hb; clear hb))
  go_ret
  exact ⟨rfl, HB3.out.trans (HB4.out.mono HB3.out.size)⟩
end Go.Proofs.YtmjflbleobmjdaaGreatDoor
