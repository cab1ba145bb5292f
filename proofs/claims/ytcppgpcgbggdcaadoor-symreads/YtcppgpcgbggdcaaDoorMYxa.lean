/-
  Layer 13: rows that are there, whatever they hold: what spoil asks of symbols.
  Layer 13: symbols of the call's own are spoiled: what lies elsewhere stays.
  Layer 13: any bytes are read as the document says: what stands beside the law's walk.
-/
import Derived.Test.YtcppgpcgbggdcaaDoorYdj
import Derived.Test.YtcppgpcgbggdcaaDoorYow
import Derived.Test.YtcppgpcgbggdcaaDoorYbd
import Derived.Deep.CutBlock
import Derived.Deep.CutRange
namespace Go.Proofs.YtcppgpcgbggdcaaDoor
set_option linter.unusedVariables false
open Go.ChangeShapes Go.WideShapes Go.ChangeAt Go.RowKit

theorem own_wlt {X : World} {B : Nat} {e : TypeId} {k : Nat} {v : Value} {n : Nat} {xs : List Value} (h : X.ownsRow B e k v n xs) (g : Nat) (hg : v.ownBlock = some g) : g < X.heap.size := (h.lt g hg).2
theorem Below.of_tqQ {w X Y : World} {P : Nat → Prop} (h : Below w.heap.size w X) (t : Tq X Y P) (hp : ∀ k, k < w.heap.size → ¬ P k) : Below w.heap.size w Y := ⟨t.os.trans h.os, t.tape.trans h.tape, t.output.trans h.output, Nat.le_trans h.size t.size, fun k hk => (t.blk k (Nat.lt_of_lt_of_le hk h.size) (hp k hk)).trans (h.block k hk)⟩
theorem bl_get (f : Nat → Int) (n i : Nat) (hi : i < n) : (bl f n).getD i 0 = f i := by simp [bl, List.getD, hi]
theorem getd_by {l : List Int} (h : AllB l) (i : Nat) : 0 ≤ l.getD i 0 ∧ l.getD i 0 ≤ 255 := by
  by_cases hi : i < l.length
  · have hm : l.getD i 0 ∈ l := by rw [List.getD_eq_getElem?_getD, List.getElem?_eq_getElem hi]; exact List.getElem_mem hi
    exact h _ hm
  · rw [List.getD_eq_getElem?_getD, List.getElem?_eq_none (by omega)]
    exact ⟨by show (0 : Int) ≤ 0; omega, by show (0 : Int) ≤ 255; omega⟩
theorem bl_by {f : Nat → Int} {n : Nat} (h : Oct f n) : AllB (bl f n) := fun x hx => by
  unfold bl at hx
  simp at hx
  obtain ⟨i, hi, rfl⟩ := hx
  exact h i hi
/-- A row of n things of k cells is there, in a block from B up to U. -/
def Rz (X : World) (B U : Nat) (s : Sl) (k : Nat) (E : TypeId) : Prop := s.n = 0 ∨ ∃ (g : Nat) (cs : Array Value), s.a = some ⟨g, 0, none⟩ ∧ (s.n ≤ s.c ∧ s.c ≤ maxLen) ∧ B ≤ g ∧ g < U ∧ X.heap[g]? = some (.cells cs E (0, 0)) ∧ s.n * k ≤ cs.size
theorem Rz.of {X : World} {B : Nat} {E : TypeId} {k n : Nat} {s : Sl} {xs : List Value} (h : X.ownsRow B E k (.slice s.a s.n s.c) n xs) : Rz X B X.heap.size s k E := by
  rcases h.2 with ⟨hv, h0⟩ | ⟨g, cap, cur, hv, hB, hq, hc, hm, hs, hx⟩
  · injection hv with e1 e2 e3
    exact .inl (by omega)
  · injection hv with e1 e2 e3
    refine .inr ⟨g, cur, e1, ⟨by rw [e2, e3]; exact hc, by rw [e3]; exact hm⟩, hB, (Array.getElem?_eq_some_iff.1 hq).1, hq, ?_⟩
    rw [hs, e2]
    exact Nat.mul_le_mul_right k hc
theorem Rz.below {X Y : World} {B : Nat} {s : Sl} {k : Nat} {E : TypeId} (h : Rz X B X.heap.size s k E) (hb : Below X.heap.size X Y) : Rz Y B X.heap.size s k E := by
  rcases h with h0 | ⟨g, cs, e1, e2, e3, e4, e5, e6⟩
  · exact .inl h0
  · exact .inr ⟨g, cs, e1, e2, e3, e4, (hb.block g e4).trans e5, e6⟩
theorem Rz.set {X : World} {B U : Nat} {s : Sl} {k : Nat} {E : TypeId} (h : Rz X B U s k E) (d j : Nat) (u : Value) : Rz (X.setCell ⟨d, j, none⟩ u) B U s k E := by
  rcases h with h0 | ⟨g, cs, e1, e2, e3, e4, e5, e6⟩
  · exact .inl h0
  · by_cases hg : g = d
    · subst hg
      exact .inr ⟨g, _, e1, e2, e3, e4, Go.Joins.block_setCell e5 u, by rw [Array.size_setIfInBounds]; exact e6⟩
    · have t1 : Tq X (X.setCell ⟨d, j, none⟩ u) (fun y => y = d) := Tq.set rfl
      exact .inr ⟨g, cs, e1, e2, e3, e4, (t1.blk g (Array.getElem?_eq_some_iff.1 e5).1 hg).trans e5, e6⟩
/-- One cell of it. -/
theorem Rz.at {X : World} {B U : Nat} {s : Sl} {k i j : Nat} {E : TypeId} (h : Rz X B U s k E) (hi : i < s.n) (hj : j < k) : ∃ (g : Nat) (v : Value) (cs : Array Value), s.a = some ⟨g, 0, none⟩ ∧ (s.n ≤ s.c ∧ s.c ≤ maxLen) ∧ X.cell? ⟨g, i * k + j, none⟩ = some v ∧ X.frozen? ⟨g, i * k + j, none⟩ = false ∧ Hid (B ≤ g ∧ g < U ∧ X.heap[g]? = some (.cells cs E (0, 0))) := by
  rcases h with h0 | ⟨g, cs, e1, e2, e3, e4, e5, e6⟩
  · omega
  · have hle : (i + 1) * k ≤ s.n * k := Nat.mul_le_mul_right k hi
    rw [Nat.succ_mul] at hle
    have hlt : i * k + j < cs.size := by omega
    exact ⟨g, cs[i * k + j], cs, e1, e2, by rw [blk_cell e5]; exact Array.getElem?_eq_getElem hlt, blk_fz e5 _, e3, e4, e5⟩
/-- What stands while symbols are spoiled. -/
structure Sp (X0 X : World) (ob B U : Nat) (c : Sc) : Prop where
  bx : BA X ob 26 c.cells
  cs : Rz X B U c.cs 5 53
  vs : Rz X B U c.vs 5 69
  ps : Rz X B U c.ps 3 63
  pt : ∀ (g : Nat), c.ps.a = some ⟨g, 0, none⟩ → ∀ i, i < c.ps.n → ∃ t : Sl, X.cell? ⟨g, i * 3 + 1, none⟩ = some (.slice t.a t.n t.c) ∧ Rz X B U t 5 69
  tq : Tq X0 X (fun k => B ≤ k ∧ k < U)
theorem Sp.put {X0 X : World} {ob B U g j : Nat} {c : Sc} {cs : Array Value} {E : TypeId} (h : Sp X0 X ob B U c) (hg : B ≤ g ∧ g < U ∧ X.heap[g]? = some (.cells cs E (0, 0))) (hE : E ≠ 26) (hd : E = 63 → ∀ i, j ≠ i * 3 + 1) (u : Value) : Sp X0 (X.setCell ⟨g, j, none⟩ u) ob B U c := by
  obtain ⟨g1, g2, g3⟩ := hg
  have t1 : Tq X (X.setCell ⟨g, j, none⟩ u) (fun y => y = g) := Tq.set rfl
  have hob : ob ≠ g := by
    rintro rfl
    have := h.bx
    unfold BA at this
    rw [g3] at this
    injection this with this
    injection this with _ this _
    exact hE this
  refine ⟨h.bx.tq t1 hob, h.cs.set _ _ _, h.vs.set _ _ _, h.ps.set _ _ _, fun gd e i hi => ?_, h.tq.trans (t1.mono fun k _ e => by rw [e]; exact ⟨g1, g2⟩)⟩
  obtain ⟨t, c1, c2⟩ := h.pt gd e i hi
  refine ⟨t, ?_, c2.set _ _ _⟩
  rcases h.ps with h0 | ⟨gx, cx, e1, e2, e3, e4, e5, e6⟩
  · omega
  · rw [e] at e1
    injection e1 with e1; injection e1 with e1
    subst e1
    by_cases hh : gd = g
    · subst hh
      rw [g3] at e5
      injection e5 with e5
      injection e5 with _ e5 _
      rw [blk_cell (Go.Joins.block_setCell g3 u), Array.getElem?_setIfInBounds_ne (hd e5 i)]
      rw [blk_cell g3] at c1
      exact c1
    · exact (World.cell?_of_block (a := ⟨gd, i * 3 + 1, none⟩) (t1.blk gd (Array.getElem?_eq_some_iff.1 e5).1 hh)).trans c1
theorem Sp.pars {X0 X : World} {ob B U i : Nat} {c : Sc} (h : Sp X0 X ob B U c) (hi : i < c.ps.n) : ∃ (g : Nat) (t : Sl), c.ps.a = some ⟨g, 0, none⟩ ∧ (c.ps.n ≤ c.ps.c ∧ c.ps.c ≤ maxLen) ∧ X.cell? ⟨g, i * 3 + 1, none⟩ = some (.slice t.a t.n t.c) ∧ Hid (Rz X B U t 5 69) := by
  rcases h.ps with h0 | ⟨g, cs, e1, e2, e3, e4, e5, e6⟩
  · omega
  · obtain ⟨t, c1, c2⟩ := h.pt g e1 i hi
    exact ⟨g, t, e1, e2, c1, c2⟩
theorem Sp.tput {X0 X : World} {ob B U g i k : Nat} {c : Sc} {t : Sl} (h : Sp X0 X ob B U c) (hg : c.ps.a = some ⟨g, 0, none⟩) (hi : i < c.ps.n) (hc : X.cell? ⟨g, i * 3 + 1, none⟩ = some (.slice t.a t.n t.c)) (hr : Rz X B U t 5 69) (hk : k < t.n) : ∃ (gt : Nat) (v : Value), t.a = some ⟨gt, 0, none⟩ ∧ (t.n ≤ t.c ∧ t.c ≤ maxLen) ∧ X.cell? ⟨gt, k * 5 + 1, none⟩ = some v ∧ X.frozen? ⟨gt, k * 5 + 1, none⟩ = false ∧ Hid (Sp X0 (X.setCell ⟨gt, k * 5 + 1, none⟩ (.int .i64 (-7))) ob B U c ∧ (X.setCell ⟨gt, k * 5 + 1, none⟩ (.int .i64 (-7))).cell? ⟨g, i * 3 + 1, none⟩ = some (.slice t.a t.n t.c) ∧ Rz (X.setCell ⟨gt, k * 5 + 1, none⟩ (.int .i64 (-7))) B U t 5 69) := by
  obtain ⟨gt, v, cs, a1, a2, a3, a4, a5⟩ := hr.at (i := k) (j := 1) hk (by omega)
  refine ⟨gt, v, a1, a2, a3, a4, h.put a5.out (by decide) (fun e => absurd e (by decide)) _, ?_, hr.set _ _ _⟩
  rcases h.ps with h0 | ⟨gx, cx, e1, e2, e3, e4, e5, e6⟩
  · omega
  · rw [hg] at e1
    injection e1 with e1; injection e1 with e1
    subst e1
    have hne : g ≠ gt := by
      rintro rfl
      have := a5.out.2.2
      rw [e5] at this
      injection this with this
      injection this with _ this _
      exact absurd this (by decide)
    have t1 : Tq X (X.setCell ⟨gt, k * 5 + 1, none⟩ (.int .i64 (-7))) (fun y => y = gt) := Tq.set rfl
    exact (World.cell?_of_block (a := ⟨g, i * 3 + 1, none⟩) (t1.blk g (Array.getElem?_eq_some_iff.1 e5).1 hne)).trans hc
end Go.Proofs.YtcppgpcgbggdcaaDoor

namespace Go.Proofs.YtcppgpcgbggdcaaDoor
set_option linter.unusedVariables false
set_option linter.unusedSimpArgs false
open Go.ChangeShapes Go.WideShapes Go.ChangeAt Go.RowKit
attribute [local go_sem ↓] ldS_seal stS_seal
set_option maxHeartbeats 40000000 in
set_option maxRecDepth 20000 in
theorem spoil_of (w : World) (c : Sc) (B U : Nat) (h : Sp w (w.alloc (.cells c.cells 26)) w.heap.size B U c) : Calls Tryd.prog 19 #[.agg c.cells] w fun e w' => e = .returned (.tuple #[]) ∧ Tq w w' (fun k => B ≤ k ∧ k < U) := by
  obtain ⟨X0, hX0⟩ : ∃ X0, X0 = w := ⟨_, rfl⟩
  have S0 : Hid (Sp X0 (w.alloc (.cells c.cells 26)) w.heap.size B U c) := hid_of (by rw [hX0]; exact h)
  have FIN : Hid (∀ Y, Sp X0 Y w.heap.size B U c → Tq w Y (fun k => B ≤ k ∧ k < U)) := hid_of fun Y hY => by rw [← hX0]; exact hY.tq
  clear h
  go_enter Tryd.func19, Tryd.ntmps19
  go_upto_block 0 with fail
  go_cut [2] (fun s_ X => Hid (Sp X0 X w.heap.size B U c))
  case first =>
    go_wp2_with fail
    go_loopg [2] c.cs.n (fun gf s_ wx => ∃ (i : Nat), s_ = .int .i64 (i : Int) ∧ i + gf = c.cs.n ∧ Hid (Sp X0 wx w.heap.size B U c))
    case atStart => exact ⟨0, rfl, by omega, S0.out⟩
    case round =>
      clear S0
      obtain ⟨i, rfl, hi, HS⟩ := hrel
      have kc : wr.cell? ⟨w.heap.size, 1, none⟩ = some (.slice c.cs.a c.cs.n c.cs.c) := blk_cell HS.out.bx 1
      by_cases hlt : i < c.cs.n
      rotate_left
      · have d1 : decide ((i : Int) < (c.cs.n : Int)) = false := decide_eq_false (by omega)
        have d0 : ¬ (i < c.cs.n) := hlt
        go_wp2
        go_meet
        exact HS.out
      have d1 : decide ((i : Int) < (c.cs.n : Int)) = true := decide_eq_true (by omega)
      obtain ⟨g, v, cs, ga, gc, cl, fz, HG⟩ := HS.out.cs.at (i := i) (j := 0) hlt (by omega)
      have HN : Hid (Sp X0 (wr.setCell ⟨g, i * 5 + 0, none⟩ (.string ⟨#[109, 105, 110, 101]⟩)) w.heap.size B U c) := hid_of (HS.out.put HG.out (by decide) (fun e => absurd e (by decide)) _)
      rw [ga] at kc
      simp only [Nat.mul_one, Nat.add_zero] at cl fz HN
      obtain ⟨g', rfl⟩ : ∃ g', gk = g' + 1 := ⟨gk - 1, by omega⟩
      have hw : wrap64 ((i : Int) + 1) = (i : Int) + 1 := by have := gc.2; unfold maxLen at this; rw [IntWalk.wrap64_in] <;> omega
      have gc := gc.1
      clear HG ga
      go_wp2_with fail
      go_roundg g'
      case measure => omega
      case rel => exact ⟨i + 1, by simp [hw], by omega, HN.out⟩
  case rest =>
    have S1 := hid_of hcut.out
    clear hcut S0
    go_upto_block 2 with fail
    go_cut [3] (fun s_ X => Hid (Sp X0 X w.heap.size B U c))
    case first =>
      go_wp2_with fail
      go_loopg [3] c.vs.n (fun gf s_ wx => ∃ (i : Nat), s_ = .int .i64 (i : Int) ∧ i + gf = c.vs.n ∧ Hid (Sp X0 wx w.heap.size B U c))
      case atStart => exact ⟨0, rfl, by omega, S1.out⟩
      case round =>
        clear S1
        obtain ⟨i, rfl, hi, HS⟩ := hrel
        have kc : wr.cell? ⟨w.heap.size, 2, none⟩ = some (.slice c.vs.a c.vs.n c.vs.c) := blk_cell HS.out.bx 2
        by_cases hlt : i < c.vs.n
        rotate_left
        · have d1 : decide ((i : Int) < (c.vs.n : Int)) = false := decide_eq_false (by omega)
          have d0 : ¬ (i < c.vs.n) := hlt
          go_wp2
          go_meet
          exact HS.out
        have d1 : decide ((i : Int) < (c.vs.n : Int)) = true := decide_eq_true (by omega)
        obtain ⟨g, v, cs, ga, gc, cl, fz, HG⟩ := HS.out.vs.at (i := i) (j := 0) hlt (by omega)
        have HN : Hid (Sp X0 (wr.setCell ⟨g, i * 5 + 0, none⟩ (.string ⟨#[109, 105, 110, 101]⟩)) w.heap.size B U c) := hid_of (HS.out.put HG.out (by decide) (fun e => absurd e (by decide)) _)
        rw [ga] at kc
        simp only [Nat.mul_one, Nat.add_zero] at cl fz HN
        obtain ⟨g', rfl⟩ : ∃ g', gk = g' + 1 := ⟨gk - 1, by omega⟩
        have hw : wrap64 ((i : Int) + 1) = (i : Int) + 1 := by have := gc.2; unfold maxLen at this; rw [IntWalk.wrap64_in] <;> omega
        have gc := gc.1
        clear HG ga
        go_wp2_with fail
        go_roundg g'
        case measure => omega
        case rel => exact ⟨i + 1, by simp [hw], by omega, HN.out⟩
    case rest =>
      have S2 := hid_of hcut.out
      clear hcut S1
      go_upto_block 4 with fail
      go_wp2_with fail
      go_loopg [4] c.ps.n (fun gf s_ wx => ∃ (i : Nat), s_ = .int .i64 (i : Int) ∧ i + gf = c.ps.n ∧ Hid (Sp X0 wx w.heap.size B U c))
      case atStart => exact ⟨0, rfl, by omega, S2.out⟩
      case round =>
        clear S2
        obtain ⟨i, rfl, hi, HS⟩ := hrel
        have kc : wr.cell? ⟨w.heap.size, 3, none⟩ = some (.slice c.ps.a c.ps.n c.ps.c) := blk_cell HS.out.bx 3
        by_cases hlt : i < c.ps.n
        rotate_left
        · have d1 : decide ((i : Int) < (c.ps.n : Int)) = false := decide_eq_false (by omega)
          have d0 : ¬ (i < c.ps.n) := hlt
          go_wp2
          go_end0
          exact ⟨rfl, FIN.out _ HS.out⟩
        have d1 : decide ((i : Int) < (c.ps.n : Int)) = true := decide_eq_true (by omega)
        obtain ⟨g, t, ga, gc, ct, HT⟩ := HS.out.pars hlt
        obtain ⟨g', rfl⟩ : ∃ g', gk = g' + 1 := ⟨gk - 1, by omega⟩
        have HW : Hid (wrap64 ((i : Int) + 1) = (i : Int) + 1) := hid_of (by have := gc.2; unfold maxLen at this; rw [IntWalk.wrap64_in] <;> omega)
        have gc := gc.1
        have GA := hid_of ga
        rw [ga] at kc
        clear ga
        go_upto_block 6 with fail
        have H0 := hid_of (And.intro HS.out (And.intro ct HT.out))
        clear HS HT ct kc
        go_cut [5] from 30 to 61 (fun s_ X => Hid (Sp X0 X w.heap.size B U c))
        case first =>
          go_wp2_with fail
          go_loopg [5] t.n (fun gf s_ wx => ∃ (k : Nat), s_ = .int .i64 (k : Int) ∧ k + gf = t.n ∧ Hid (Sp X0 wx w.heap.size B U c ∧ wx.cell? ⟨g, i * 3 + 1, none⟩ = some (.slice t.a t.n t.c) ∧ Rz wx B U t 5 69))
          case atStart => exact ⟨0, rfl, by omega, H0.out⟩
          case round =>
            clear H0
            obtain ⟨k, rfl, hk, HK⟩ := hrel
            have kc : wr.cell? ⟨w.heap.size, 3, none⟩ = some (.slice c.ps.a c.ps.n c.ps.c) := blk_cell HK.out.1.bx 3
            rw [GA.out] at kc
            have ct := HK.out.2.1
            by_cases hlk : k < t.n
            rotate_left
            · have d2 : decide ((k : Int) < (t.n : Int)) = false := decide_eq_false (by omega)
              have d0 : ¬ (k < t.n) := hlk
              have FF := hid_of HK.out.1
              clear HK
              go_wp2
              go_meet
              exact FF.out
            have d2 : decide ((k : Int) < (t.n : Int)) = true := decide_eq_true (by omega)
            obtain ⟨gt, v, ta, tc, cl, fz, HN⟩ := HK.out.1.tput GA.out hlt ct HK.out.2.2 hlk
            obtain ⟨g2, rfl⟩ : ∃ g2, gk = g2 + 1 := ⟨gk - 1, by omega⟩
            have hv : wrap64 ((k : Int) + 1) = (k : Int) + 1 := by have := tc.2; unfold maxLen at this; rw [IntWalk.wrap64_in] <;> omega
            have tc := tc.1
            rw [ta] at ct
            clear HK ta
            go_wp2_with fail
            go_roundg g2
            case measure => omega
            case rel => exact ⟨k + 1, by simp [hv], by omega, HN.out⟩
        case rest =>
          have HS := hid_of hcut.out
          clear hcut H0
          have kc : wc.cell? ⟨w.heap.size, 3, none⟩ = some (.slice c.ps.a c.ps.n c.ps.c) := blk_cell HS.out.bx 3
          obtain ⟨gd, v, cs, ga, gc2, cl, fz, HG⟩ := HS.out.ps.at (i := i) (j := 0) hlt (by omega)
          have HN : Hid (Sp X0 (wc.setCell ⟨gd, i * 3 + 0, none⟩ (.string ⟨#[109, 105, 110, 101]⟩)) w.heap.size B U c) := hid_of (HS.out.put HG.out (by decide) (fun _ i' => by omega) _)
          rw [ga] at kc
          simp only [Nat.add_zero] at cl fz HN
          have hw := HW.out
          clear HG ga HS gc2 HW
          go_wp2_with fail
          go_roundg g'
          case measure => omega
          case rel => exact ⟨i + 1, by simp [hw], by omega, HN.out⟩
end Go.Proofs.YtcppgpcgbggdcaaDoor

namespace Go.Proofs.YtcppgpcgbggdcaaDoor
set_option linter.unusedVariables false
set_option linter.unusedSimpArgs false
open Go.ChangeShapes Go.WideShapes Go.ChangeAt Go.RowKit

theorem ow_belowx {w w' : World} {B : Nat} {v : Value} {l : List Int} (h : Ow w B v l) (hb : Below w.heap.size w w') : Ow w' B v l :=
  ⟨h.1, h.2.imp id fun ⟨g, cap, cur, e1, e2, e3, r⟩ => ⟨g, cap, cur, e1, e2, (hb.block g (Array.getElem?_eq_some_iff.1 e3).1).trans e3, r⟩⟩
/-- The same bytes, told by their list. -/
theorem src_bl {w : World} {a : Option Addr} {len cap : Nat} {f : Nat → Int} (h : Src w a len cap f) : Src w a len cap (fun i => (bl f len).getD i 0) := by
  refine ⟨⟨h.rd.1, ?_⟩, h.nil, h.fit⟩
  rcases h.rd.2 with h0 | ⟨b, off, e, hc⟩
  · exact .inl h0
  · exact .inr ⟨b, off, e, fun i hi => by have := hc i hi; rw [← bl_get f len i hi] at this; exact this⟩
theorem SyAt.rdx {X : World} {B : Nat} {c : Sc} {o : Sy} (h : SyAt X B c o) (hi : In o) : ∃ l, SyR X c o l := by
  obtain ⟨l, h1, h2, h3⟩ := h.ps
  have c4 : l.length = o.ps.length := by rw [← h1, List.length_map]
  have hp : ∀ x ∈ l, x.1 ∈ o.ps := fun x hx => by rw [← h1]; exact List.mem_map.2 ⟨x, hx, rfl⟩
  have k1 := hi.cl
  have k2 := hi.vl
  have k3 := hi.pl
  have k4 := hi.nm
  exact ⟨l, h.nm, own_rdv h.cs (by omega), own_rdv h.vs (by omega), h1, own_rdv h2 (by omega), fun p hq => own_rdv (h3 p hq) (by have := (hi.ps _ (hp p hq)).2.1; omega), by omega, fun x hx => by have := (hi.cs x hx).1; omega, fun x hx => by have := (hi.vs x hx).1; omega, fun x hx => by have := (hi.ps _ (hp x hx)).1; omega⟩
/-- What was answered: nothing, or symbols that lie somewhere. -/
def QY (X : World) (c : Sc) (er : Int) (o : Sy) : Prop := (er ≠ 0 → c = Sc.zero) ∧ (er = 0 → ∃ B, SyAt X B c o)
theorem QY.below {X Z : World} {c : Sc} {er : Int} {o : Sy} (h : QY X c er o) (hb : Below X.heap.size X Z) : QY Z c er o := ⟨h.1, fun e => by obtain ⟨B, h1⟩ := h.2 e; exact ⟨B, h1.below hb⟩⟩
theorem same_qy {X : World} {c d : Sc} {er : Int} {o : Sy} (h : QY X c er o) (g : QY X d er o) (hi : er = 0 → In o) : Calls Tryd.prog 15 #[.agg c.cells, .agg d.cells] X fun e w' => e = .returned (.bool true) ∧ Below X.heap.size X w' := by
  by_cases he : er = 0
  · obtain ⟨B, h1⟩ := h.2 he
    obtain ⟨B2, g1⟩ := g.2 he
    obtain ⟨l, h2⟩ := h1.rdx (hi he)
    obtain ⟨l2, g2⟩ := g1.rdx (hi he)
    exact same_eq X c d o l l2 h2 g2
  · rw [h.1 he, g.1 he]
    exact same_eq X Sc.zero Sc.zero _ [] [] (zero_rd X) (zero_rd X)
/-- What is known of the first answer: its rows lie in blocks from V up to U. -/
def NC (X : World) (c : Sc) (er : Int) (o : Sy) (V U : Nat) : Prop := (er ≠ 0 → c = Sc.zero) ∧ (er = 0 → ∃ (Y : World) (B : Nat), Y.heap.size = U ∧ V ≤ B ∧ SyAt Y B c o ∧ Below Y.heap.size Y X)
theorem NC.below {X Z : World} {c : Sc} {er : Int} {o : Sy} {V U : Nat} (h : NC X c er o V U) (hb : Below X.heap.size X Z) : NC Z c er o V U := ⟨h.1, fun e => by
  obtain ⟨Y, B, h1, h2, h3, h4⟩ := h.2 e
  exact ⟨Y, B, h1, h2, h3, h4.trans (hb.mono h4.size)⟩⟩
theorem NC.qy {X : World} {c : Sc} {er : Int} {o : Sy} {V U : Nat} (h : NC X c er o V U) : QY X c er o := ⟨h.1, fun e => by
  obtain ⟨Y, B, h1, h2, h3, h4⟩ := h.2 e
  exact ⟨B, h3.below h4⟩⟩
/-- An object of the call's own is spoiled: what lies elsewhere stays. -/
theorem nc_spoil {w : World} {c : Sc} {er : Int} {o : Sy} {V U : Nat} (h : NC w c er o V U) : Calls Tryd.prog 19 #[.agg c.cells] w fun e w' => e = .returned (.tuple #[]) ∧ Tq w w' (fun k => V ≤ k ∧ k < U) := by
  by_cases he : er = 0
  · obtain ⟨Y, B, h1, h2, h3, h4⟩ := h.2 he
    subst h1
    have hb : Below Y.heap.size Y (w.alloc (.cells c.cells 26)) := h4.alloc h4.size _
    obtain ⟨l, l1, l2, l3⟩ := h3.ps
    refine (spoil_of w c B Y.heap.size ⟨BA.new w _ _, (Rz.of h3.cs).below hb, (Rz.of h3.vs).below hb, (Rz.of l2).below hb, ?_, Tq.below ((Below.refl _ _).alloc (Nat.le_refl _) _)⟩).mono fun e w' hh => ⟨hh.1, hh.2.mono fun k _ hk => ⟨by have := hk.1; omega, hk.2⟩⟩
    intro g hg i hi
    have hn : c.ps.n = l.length := by
      rcases l2.2 with ⟨hv, h0⟩ | ⟨g', cap, cur, hv, _⟩
      · injection hv with _ e _; omega
      · injection hv
    have hi' : i < l.length := by omega
    have hp : l[i] ∈ l := List.getElem_mem hi'
    refine ⟨l[i].2, ?_, (Rz.of (l3 _ hp)).below hb⟩
    have hob : (Value.slice c.ps.a c.ps.n c.ps.c).ownBlock = some g := by simp [Value.ownBlock, hg]
    have hc := World.ownsRow.cells l2 (g := g) hob (i * 3 + 1) (.slice l[i].2.a l[i].2.n l[i].2.c) (by rw [flat_at pEnc 3 (fun _ => rfl) l i hi' 1 (by omega)]; rfl)
    rw [show (⟨g, 0, none⟩ : Addr).add (i * 3 + 1) = ⟨g, i * 3 + 1, none⟩ by simp [Addr.add]] at hc
    exact (World.cell?_of_block (a := ⟨g, i * 3 + 1, none⟩) (hb.block g (own_wlt l2 g hob))).trans hc
  · have hz := h.1 he
    subst hz
    exact (spoil_of w Sc.zero V U ⟨BA.new w _ _, .inl rfl, .inl rfl, .inl rfl, (fun g hg => by cases hg), Tq.below ((Below.refl _ _).alloc (Nat.le_refl _) _)⟩).mono fun e w' hh => hh
/-- Behind the first answer. -/
structure F1 (w Z : World) (k1 : Nat) (c1 : Sc) (er : Int) (o : Sy) (v : Value) (L : List Int) (V U : Nat) : Prop where
  ob : BA Z k1 26 c1.cells
  nc : NC Z c1 er o V U
  be : Below w.heap.size w Z
  mi : Ow Z w.heap.size v L
  lo : ∀ g, v.ownBlock = some g → g < V
  ord : w.heap.size ≤ V ∧ V ≤ U ∧ U ≤ k1
theorem F1.below {w X Z : World} {k1 : Nat} {c1 : Sc} {er : Int} {o : Sy} {v : Value} {L : List Int} {V U : Nat} (h : F1 w X k1 c1 er o v L V U) (hb : Below X.heap.size X Z) : F1 w Z k1 c1 er o v L V U :=
  ⟨h.ob.below hb, h.nc.below hb, h.be.trans (hb.mono h.be.size), ow_belowx h.mi hb, h.lo, h.ord⟩
/-- The document's answer. -/
structure F2 (w Z : World) (k2 : Nat) (c2 : Sc) (er : Int) (o : Sy) (U : Nat) : Prop where
  ob : BA Z k2 26 c2.cells
  z : er ≠ 0 → c2 = Sc.zero
  at_ : er = 0 → ∃ B, U ≤ B ∧ SyAt Z B c2 o
  be : Below w.heap.size w Z
  lo : U ≤ k2
theorem F2.below {w X Z : World} {k2 : Nat} {c2 : Sc} {er : Int} {o : Sy} {U : Nat} (h : F2 w X k2 c2 er o U) (hb : Below X.heap.size X Z) : F2 w Z k2 c2 er o U :=
  ⟨h.ob.below hb, h.z, fun e => by obtain ⟨B, h1, h2⟩ := h.at_ e; exact ⟨B, h1, h2.below hb⟩, h.be.trans (hb.mono h.be.size), h.lo⟩
theorem F2.qy {w X : World} {k2 : Nat} {c2 : Sc} {er : Int} {o : Sy} {U : Nat} (h : F2 w X k2 c2 er o U) : QY X c2 er o := ⟨h.z, fun e => by obtain ⟨B, _, h2⟩ := h.at_ e; exact ⟨B, h2⟩⟩
theorem F2.tq {w X Z : World} {k2 : Nat} {c2 : Sc} {er : Int} {o : Sy} {V U : Nat} (h : F2 w X k2 c2 er o U) (hV : w.heap.size ≤ V) (t : Tq X Z (fun k => V ≤ k ∧ k < U)) : F2 w Z k2 c2 er o U :=
  ⟨h.ob.tq t (by have := h.lo; omega), h.z, fun e => by obtain ⟨B, h1, h2⟩ := h.at_ e; exact ⟨B, h1, h2.tq t fun k hk _ => by omega⟩, Below.of_tqQ h.be t fun k hk => by omega, h.lo⟩
/-- A new block filled behind all that was there. -/
theorem bel_put {Y Z : World} {k : Nat} (hk : k = Y.heap.size) (t : Tq (Y.alloc (.cells Sc.zero.cells 26)) Z (fun x => x = k)) : Below Y.heap.size Y Z := by
  have t2 : Tq Y Z (fun x => x = k) := (Tq.below (P := fun x => x = k) ((Below.refl _ _).alloc (Nat.le_refl _) _)).trans t
  exact ⟨t2.os, t2.tape, t2.output, t2.size, fun j hj => t2.blk j hj (by omega)⟩
end Go.Proofs.YtcppgpcgbggdcaaDoor
