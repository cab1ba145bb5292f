/-
  Layer 7, the document's side: which objects may be, but for how many bytes they have.
  Layer 7, the document's side: Encode and Right.
  Layer 7: every object is judged and written as the document says: the law's walk.
  Proved: for every object the law ObjBytes returns true: the program's Right and Encode answer of a copy of it just what the document's Encode answers of it: the same bytes, or that it may not be; and the copy stays the same object. No condition.
-/
import Derived.Test.YtmfdomabegaidaaMDct
import Derived.Test.YtmfdomabegaidaaMDfi
import Derived.Test.YtmfdomabegaidaaMDpl
import Derived.Test.YtmfdomabegaidaaMDdd
import Derived.Test.YtmfdomabegaidaaMDby
import Derived.Test.YtmfdomabegaidaaMCpy
import Derived.Test.YtmfdomabegaidaaMSgs
import Derived.Test.YtmfdomabegaidaaMOneW
import Derived.Test.YtmfdomabegaidaaRows
namespace Go.Proofs.Ytmfdomabegaidaa
set_option linter.unusedVariables false
set_option linter.unusedSimpArgs false
open Go.ChangeShapes Go.WideShapes Go.ChangeAt Go.RowKit
attribute [local go_sem] Oc.at0 Oc.at1 Oc.at2 Oc.at3 Oc.at4 Oc.at5 Oc.at6 Oc.at7 Oc.at8 Oc.at9 Oc.at10 Oc.at11 Oc.at12
attribute [local go_sem ↓] loadO_seal

def loadF (a : Addr) : Sem Value := loadVar 57 a
theorem loadF_seal (a : Addr) : loadVar 57 a = loadF a := rfl
theorem loadF_run {X : World} {g off : Nat} {a b c d : Value} (h0 : X.cell? ⟨g, off, none⟩ = some a) (h1 : X.cell? ⟨g, off + 1, none⟩ = some b) (h2 : X.cell? ⟨g, off + 2, none⟩ = some c) (h3 : X.cell? ⟨g, off + 3, none⟩ = some d) : (loadF ⟨g, off, none⟩).run Try.prog X = .ok (.agg #[a, b, c, d]) X := by
  unfold loadF
  go_simp
theorem counts_imps {o : Ob} (h : countsB o = true) : o.imps.length ≤ 16 := by
  unfold countsB at h
  simp only [Bool.and_eq_true, decide_eq_true_eq] at h
  omega
attribute [local go_sem ↓] loadF_seal
/-- One fix and its place. -/
def fixAt (o : Ob) (i : Nat) : Bool := rfixB o (o.fixes.getD i (0, 0, 0, 0)) && (decide (i = 0) || decide ((o.fixes.getD (i - 1) (0, 0, 0, 0)).1 < (o.fixes.getD i (0, 0, 0, 0)).1))
set_option maxHeartbeats 40000000 in
set_option maxRecDepth 20000 in
theorem rwithin_any (w : World) (c : Oc) (o : Ob) (h : ObR w c o) : Calls Try.prog 23 #[.agg c.cells] w fun e w' => e = .returned (.bool (withinB o)) ∧ Below w.heap.size w w' := by
  have O0 : Hid (OB w (w.alloc (.cells c.cells 31)) c) := hid_of (Below.refl _ _)
  have LO : Hid (∀ X, OB w X c → (loadO ⟨w.heap.size, 0, none⟩).run Try.prog X = .ok (.agg c.cells) X ∧ X.cell? ⟨w.heap.size, 11, none⟩ = some (.slice c.ds.a c.ds.n c.ds.c) ∧ X.cell? ⟨w.heap.size, 12, none⟩ = some (.slice c.fx.a c.fx.n c.fx.c)) := fun X a => ⟨loadO_run a.bx, blk_cell a.bx 11, blk_cell a.bx 12⟩
  have H1 : Hid (∀ X, OB w X c → Calls Try.prog 75 #[.agg c.cells] X fun e Y => e = .returned (.bool (countsB o)) ∧ OB w Y c) := fun X a => (rcounts_any X c o (h.below a.bel)).mono fun e Y hh => ⟨hh.1, Below.trans a (hh.2.mono a.size)⟩
  have H2 : Hid (countsB o = true → ∀ X, OB w X c → Calls Try.prog 76 #[.agg c.cells] X fun e Y => e = .returned (.bool (plainB o)) ∧ OB w Y c) := fun hc X a => (rplain_any X c o (h.below a.bel) (counts_imps hc)).mono fun e Y hh => ⟨hh.1, Below.trans a (hh.2.mono a.size)⟩
  have H3 : Hid (∀ X, OB w X c → Calls Try.prog 77 #[.slice c.ds.a c.ds.n c.ds.c] X fun e Y => e = .returned (.bool (rdescsB o.descs)) ∧ OB w Y c) := fun X a => by
    obtain ⟨l, e1, e2, e3⟩ := h.ds
    rw [← e1]
    exact (rdescs_any X c.ds l (e2.below a.bel) (fun p hp => (e3 p hp).below a.bel)).mono fun e Y hh => ⟨hh.1, Below.trans a (hh.2.mono a.size)⟩
  have H4 : Hid (∀ X x, OB w X c → Calls Try.prog 78 #[.agg c.cells, .agg (xEnc x)] X fun e Y => e = .returned (.bool (rfixB o x)) ∧ OB w Y c) := fun X x a => (rfix_any X c o (h.below a.bel) x).mono fun e Y hh => ⟨hh.1, Below.trans a (hh.2.mono a.size)⟩
  obtain ⟨P, hP⟩ : ∃ P, P = withinB o := ⟨_, rfl⟩
  rw [← hP]
  have PL : Hid (P = (countsB o && (plainB o && (rdescsB o.descs && (List.range o.fixes.length).all fun i => fixAt o i)))) := hid_of hP
  clear hP
  have n_fx := h.fx.len
  have m_fx : c.fx.n ≤ 140737488355328 := by rw [n_fx]; exact h.fx.most
  have NFX := hid_of n_fx
  have HR := hid_of h
  clear h n_fx
  obtain ⟨q0, q1, q2⟩ := LO.out _ O0.out
  cases b1 : countsB o
  · have HX : Hid (P = false) := hid_of (by rw [PL.out, b1]; rfl)
    rw [b1] at H1
    clear H2 H3 H4
    go_enter Try.func23, Try.ntmps23
    go_wp2_with (go_at_call 75; refine (H1.out _ O0.out).mono ?_; rintro e w1 ⟨rfl, h1⟩)
    go_ret
    exact ⟨ret_bool HX.out.symm, h1.bel⟩
  have H2 := hid_of (H2.out b1)
  rw [b1] at H1 PL
  generalize plainB o = b2 at H2 PL
  cases b2
  · have HX : Hid (P = false) := hid_of (by rw [PL.out]; rfl)
    clear H3 H4
    go_enter Try.func23, Try.ntmps23
    go_wp2_with (first
      | (go_at_call 75; refine (H1.out _ O0.out).mono ?_; rintro e w1 ⟨rfl, h1⟩; obtain ⟨q3, q4, q5⟩ := LO.out _ h1; have G1 := hid_of h1; clear h1)
      | (go_at_call 76; refine (H2.out _ G1.out).mono ?_; rintro e w2 ⟨rfl, h2⟩))
    go_ret
    exact ⟨ret_bool HX.out.symm, h2.bel⟩
  generalize rdescsB o.descs = b3 at H3 PL
  cases b3
  · have HX : Hid (P = false) := hid_of (by rw [PL.out]; rfl)
    clear H4
    go_enter Try.func23, Try.ntmps23
    go_wp2_with (first
      | (go_at_call 75; refine (H1.out _ O0.out).mono ?_; rintro e w1 ⟨rfl, h1⟩; obtain ⟨q3, q4, q5⟩ := LO.out _ h1; have G1 := hid_of h1; clear h1)
      | (go_at_call 76; refine (H2.out _ G1.out).mono ?_; rintro e w2 ⟨rfl, h2⟩; obtain ⟨q6, q7, q8⟩ := LO.out _ h2; have G2 := hid_of h2; clear h2)
      | (go_at_call 77; refine (H3.out _ G2.out).mono ?_; rintro e w3 ⟨rfl, h3⟩))
    go_ret
    exact ⟨ret_bool HX.out.symm, h3.bel⟩
  have PL2 : Hid (P = (List.range o.fixes.length).all fun i => fixAt o i) := hid_of PL.out
  clear PL b1
  go_enter Try.func23, Try.ntmps23
  go_wp2_with (first
    | (go_at_call 75; refine (H1.out _ O0.out).mono ?_; rintro e w1 ⟨rfl, h1⟩; obtain ⟨q3, q4, q5⟩ := LO.out _ h1; have G1 := hid_of h1; clear h1)
    | (go_at_call 76; refine (H2.out _ G1.out).mono ?_; rintro e w2 ⟨rfl, h2⟩; obtain ⟨q6, q7, q8⟩ := LO.out _ h2; have G2 := hid_of h2; clear h2)
    | (go_at_call 77; refine (H3.out _ G2.out).mono ?_; rintro e w3 ⟨rfl, h3⟩; have G3 := hid_of h3; clear h3))
  clear G1 G2 H1 H2 H3 q0 q1 q2 q3 q4 q5 q6 q7 q8 O0
  go_loopg [6] c.fx.n (fun gf s4 wx => ∃ i : Nat, s4 = .int .i64 (i : Int) ∧ i + gf = c.fx.n ∧ Hid (OB w wx c) ∧ Hid (∀ j, j < i → fixAt o j = true))
  case atStart => exact ⟨0, rfl, by omega, G3.out, fun j hj => by omega⟩
  case round =>
    clear G3
    obtain ⟨i, rfl, hi, HB, HP⟩ := hrel
    obtain ⟨r0, r11, r12⟩ := LO.out _ HB.out
    by_cases hlt : i < c.fx.n
    · obtain ⟨g', rfl⟩ : ∃ g', gk = g' + 1 := ⟨gk - 1, by omega⟩
      have d1 : decide ((i : Int) < (c.fx.n : Int)) = true := decide_eq_true (by omega)
      have j0 : (0 : Int) ≤ (i : Int) := by omega
      have j1 : (i : Int) < (c.fx.n : Int) := by omega
      have HI : Hid (i < o.fixes.length) := hid_of (by rw [← NFX.out]; exact hlt)
      obtain ⟨b, off, ha, hc⟩ := elk HR.out.fx (fun _ => rfl) (0, 0, 0, 0) i HI.out
      have PV : Hid (∀ k, i = k + 1 → ∀ X, Below w.heap.size w X → X.cell? ⟨b, off + k * 4, none⟩ = some (.int .i64 (o.fixes.getD k (0, 0, 0, 0)).1)) := fun k hk X hX => by
        obtain ⟨b2, off2, ha2, hc2⟩ := elk HR.out.fx (fun _ => rfl) (0, 0, 0, 0) k (by have := HI.out; omega)
        rw [ha] at ha2
        injection ha2 with ha2; injection ha2 with h3 h4 _
        subst h3; subst h4
        exact hc2 X hX 0 (by omega)
      have FA : Hid (fixAt o i = (rfixB o (o.fixes.getD i (0, 0, 0, 0)) && (decide (i = 0) || decide ((o.fixes.getD (i - 1) (0, 0, 0, 0)).1 < (o.fixes.getD i (0, 0, 0, 0)).1)))) := hid_of rfl
      have HX : Hid (fixAt o i = false → P = false) := fun hx => by rw [PL2.out, all_not (P := fun i => fixAt o i) HI.out hx]
      have HY : Hid (fixAt o i = true → ∀ j, j < i + 1 → fixAt o j = true) := fun hx j hj => by
        rcases Nat.lt_or_ge j i with q | q
        · exact HP.out j q
        · have : j = i := by omega
          rw [this]; exact hx
      have CF := hid_of (H4.out · (o.fixes.getD i (0, 0, 0, 0)) ·)
      generalize o.fixes.getD i (0, 0, 0, 0) = x at hc FA CF
      obtain ⟨y0, y1, y2, y3⟩ := x
      have CE : Hid (∀ X, OB w X c → X.cell? ⟨w.heap.size, 12, none⟩ = some (.slice (some ⟨b, off, none⟩) c.fx.n c.fx.c) ∧ X.cell? ⟨b, off + i * 4, none⟩ = some (.int .i64 y0) ∧ (loadF ⟨b, off + i * 4, none⟩).run Try.prog X = .ok (.agg #[.int .i64 y0, .int .i64 y1, .int .i64 y2, .int .i64 y3]) X ∧ (loadO ⟨w.heap.size, 0, none⟩).run Try.prog X = .ok (.agg c.cells) X) := fun X a => by
        have e0 : X.cell? ⟨b, off + i * 4, none⟩ = some (.int .i64 y0) := hc X a.bel 0 (by omega)
        have e1 : X.cell? ⟨b, off + i * 4 + 1, none⟩ = some (.int .i64 y1) := hc X a.bel 1 (by omega)
        have e2 : X.cell? ⟨b, off + i * 4 + 2, none⟩ = some (.int .i64 y2) := hc X a.bel 2 (by omega)
        have e3 : X.cell? ⟨b, off + i * 4 + 3, none⟩ = some (.int .i64 y3) := hc X a.bel 3 (by omega)
        exact ⟨by rw [(LO.out X a).2.2, ha], e0, loadF_run e0 e1 e2 e3, (LO.out X a).1⟩
      have CF : Hid (∀ X, OB w X c → Calls Try.prog 78 #[.agg c.cells, .agg #[.int .i64 y0, .int .i64 y1, .int .i64 y2, .int .i64 y3]] X fun e Y => e = .returned (.bool (rfixB o (y0, y1, y2, y3))) ∧ OB w Y c) := CF
      clear hc r0 r11
      rw [ha] at r12
      clear ha
      have hS : OB w wr.drew c := OB.drew HB.out
      generalize rfixB o (y0, y1, y2, y3) = fb at CF FA
      cases fb
      · have HF := hid_of (HX.out (by rw [FA.out]; rfl))
        clear HX HY HP FA PV
        go_wp2
        refine wp_region_held_drew (S := (fun X => OB w X c)) (by kernel_rfl) hS (fun hHeld => ?_)
        refine wpAnyH_take (i := 0) (v := ?_) rfl (by kernel_rfl) (by kernel_rfl) (by kernel_rfl) (fun _ _ _ h => h) (Or.inl ⟨by kernel_rfl, ?y0n⟩) hHeld ?r0n
        case y0n => (intro wq hSw; have q1 := (CE.out wq hSw).2.2.2; go_simp; try rfl)
        simp only [Act.put, List.setIfInBounds_toArray, List.set_cons_zero, List.set_cons_succ]
        refine wpAnyH_take (i := 1) (v := ?_) rfl (by kernel_rfl) (by kernel_rfl) (by kernel_rfl) (fun _ _ _ h => h) (Or.inl ⟨by kernel_rfl, ?y1n⟩) hHeld ?r1n
        case y1n => (intro wq hSw; go_simp; try rfl)
        simp only [Act.put, List.setIfInBounds_toArray, List.set_cons_zero, List.set_cons_succ]
        refine wpAnyH_take (i := 2) (v := ?_) rfl (by kernel_rfl) (by kernel_rfl) (by kernel_rfl) (fun _ _ _ h => h) (Or.inl ⟨by kernel_rfl, ?y2n⟩) hHeld ?r2n
        case y2n => (intro wq hSw; have q1 := (CE.out wq hSw).1; go_simp; try rfl)
        simp only [Act.put, List.setIfInBounds_toArray, List.set_cons_zero, List.set_cons_succ]
        refine wpAnyH_take (i := 3) (v := ?_) rfl (by kernel_rfl) (by kernel_rfl) (by kernel_rfl) (fun _ _ _ h => h) (Or.inl ⟨by kernel_rfl, ?y3n⟩) hHeld ?r3n
        case y3n => (intro wq hSw; go_simp; try rfl)
        simp only [Act.put, List.setIfInBounds_toArray, List.set_cons_zero, List.set_cons_succ]
        refine wpAnyH_take (i := 4) (v := ?_) rfl (by kernel_rfl) (by kernel_rfl) (by kernel_rfl) (fun _ _ _ h => h) (Or.inl ⟨by kernel_rfl, ?y4n⟩) hHeld ?r4n
        case y4n => (intro wq hSw; go_simp; try rfl)
        simp only [Act.put, List.setIfInBounds_toArray, List.set_cons_zero, List.set_cons_succ]
        refine wpAnyH_take (i := 5) (v := ?_) rfl (by kernel_rfl) (by kernel_rfl) (by kernel_rfl) (fun _ _ _ h => h) (Or.inl ⟨by kernel_rfl, ?y5n⟩) hHeld ?r5n
        case y5n => (intro wq hSw; have q1 := (CE.out wq hSw).2.2.1; go_simp; try rfl)
        simp only [Act.put, List.setIfInBounds_toArray, List.set_cons_zero, List.set_cons_succ]
        refine wpAnyH_ready (rs := [6]) (by kernel_rfl) (by simp) ?_
        refine AllReadyH.cons rfl (fun K hK => ?_) AllReadyH.nil
        go_simp
        go_wp2_with (go_at_call 78; refine (CF.out _ hHeld).mono ?_; rintro e w5 ⟨rfl, h5⟩; have H5 := hid_of h5)
        refine hK.out _ _ h5 (fun _ => ?_)
        clear hK K
        refine wpAnyH_ready (rs := [7]) (by kernel_rfl) (by simp) ?_
        refine AllReadyH.cons rfl (fun K hK => ?_) AllReadyH.nil
        go_simp
        refine hK.out _ _ h5 (fun _ => ?_)
        clear hK K
        refine wpAnyH_done (by kernel_rfl) ?_ _
        clear hHeld hS
        obtain ⟨p12, p0, _, _⟩ := CE.out _ H5.out
        clear CE h5
        go_wp2_with fail
        go_region
        all_goals
          go_wp2
          go_ret
          exact ⟨ret_bool HF.out.symm, H5.out.bel.drew⟩
      by_cases hz : i = 0
      · have HG := hid_of (HY.out (by rw [FA.out, hz]; rfl))
        have z0 : decide ((0 : Int) < (i : Int)) = false := decide_eq_false (by omega)
        have z1 : ¬ 0 < i := by omega
        have z2 : decide (0 < i) = false := decide_eq_false z1
        clear HX HY HP FA PV hz
        go_wp2
        refine wp_region_held_drew (S := (fun X => OB w X c)) (by kernel_rfl) hS (fun hHeld => ?_)
        refine wpAnyH_take (i := 0) (v := ?_) rfl (by kernel_rfl) (by kernel_rfl) (by kernel_rfl) (fun _ _ _ h => h) (Or.inl ⟨by kernel_rfl, ?y0z⟩) hHeld ?r0z
        case y0z => (intro wq hSw; have q1 := (CE.out wq hSw).2.2.2; go_simp; try rfl)
        simp only [Act.put, List.setIfInBounds_toArray, List.set_cons_zero, List.set_cons_succ]
        refine wpAnyH_take (i := 1) (v := ?_) rfl (by kernel_rfl) (by kernel_rfl) (by kernel_rfl) (fun _ _ _ h => h) (Or.inl ⟨by kernel_rfl, ?y1z⟩) hHeld ?r1z
        case y1z => (intro wq hSw; go_simp; try rfl)
        simp only [Act.put, List.setIfInBounds_toArray, List.set_cons_zero, List.set_cons_succ]
        refine wpAnyH_take (i := 2) (v := ?_) rfl (by kernel_rfl) (by kernel_rfl) (by kernel_rfl) (fun _ _ _ h => h) (Or.inl ⟨by kernel_rfl, ?y2z⟩) hHeld ?r2z
        case y2z => (intro wq hSw; have q1 := (CE.out wq hSw).1; go_simp; try rfl)
        simp only [Act.put, List.setIfInBounds_toArray, List.set_cons_zero, List.set_cons_succ]
        refine wpAnyH_take (i := 3) (v := ?_) rfl (by kernel_rfl) (by kernel_rfl) (by kernel_rfl) (fun _ _ _ h => h) (Or.inl ⟨by kernel_rfl, ?y3z⟩) hHeld ?r3z
        case y3z => (intro wq hSw; go_simp; try rfl)
        simp only [Act.put, List.setIfInBounds_toArray, List.set_cons_zero, List.set_cons_succ]
        refine wpAnyH_take (i := 4) (v := ?_) rfl (by kernel_rfl) (by kernel_rfl) (by kernel_rfl) (fun _ _ _ h => h) (Or.inl ⟨by kernel_rfl, ?y4z⟩) hHeld ?r4z
        case y4z => (intro wq hSw; go_simp; try rfl)
        simp only [Act.put, List.setIfInBounds_toArray, List.set_cons_zero, List.set_cons_succ]
        refine wpAnyH_take (i := 5) (v := ?_) rfl (by kernel_rfl) (by kernel_rfl) (by kernel_rfl) (fun _ _ _ h => h) (Or.inl ⟨by kernel_rfl, ?y5z⟩) hHeld ?r5z
        case y5z => (intro wq hSw; have q1 := (CE.out wq hSw).2.2.1; go_simp; try rfl)
        simp only [Act.put, List.setIfInBounds_toArray, List.set_cons_zero, List.set_cons_succ]
        refine wpAnyH_ready (rs := [6]) (by kernel_rfl) (by simp) ?_
        refine AllReadyH.cons rfl (fun K hK => ?_) AllReadyH.nil
        go_simp
        go_wp2_with (go_at_call 78; refine (CF.out _ hHeld).mono ?_; rintro e w5 ⟨rfl, h5⟩; have H5 := hid_of h5)
        refine hK.out _ _ h5 (fun _ => ?_)
        clear hK K
        refine wpAnyH_ready (rs := [7]) (by kernel_rfl) (by simp) ?_
        refine AllReadyH.cons rfl (fun K hK => ?_) AllReadyH.nil
        go_simp
        refine hK.out _ _ h5 (fun _ => ?_)
        clear hK K
        refine wpAnyH_done (by kernel_rfl) ?_ _
        clear hHeld hS
        obtain ⟨p12, p0, _, _⟩ := CE.out _ H5.out
        clear CE h5
        go_wp2_with fail
        go_region
        all_goals
          go_wp2
          go_roundg g'
          case measure => omega
          case rel => exact ⟨i + 1, by simp, by omega, OB.drew H5.out, HG.out⟩
      obtain ⟨k, rfl⟩ : ∃ k, i = k + 1 := ⟨i - 1, by omega⟩
      have z0 : decide ((0 : Int) < ((k + 1 : Nat) : Int)) = true := decide_eq_true (by omega)
      have z1 : decide ((0 : Int) < (k : Int) + 1) = true := decide_eq_true (by omega)
      have e1 : IntKind.i64.wrap (((k + 1 : Nat) : Int) - 1) = (k : Int) := by rw [IntWalk.i64_left, IntWalk.wrap64_in] <;> omega
      have e2w : IntKind.i64.wrap (k : Int) = (k : Int) := by rw [IntWalk.i64_left, IntWalk.wrap64_in] <;> omega
      have m0 : (0 : Int) ≤ (k : Int) := by omega
      have m1 : (k : Int) < (c.fx.n : Int) := by omega
      have m3 : (0 : Int) ≤ (k : Int) + 1 := by omega
      have m4 : (k : Int) + 1 < (c.fx.n : Int) := by omega
      have PV := hid_of (PV.out k rfl)
      have FA : Hid (fixAt o (k + 1) = decide ((o.fixes.getD k (0, 0, 0, 0)).1 < y0)) := hid_of (by rw [FA.out]; simp)
      generalize (o.fixes.getD k (0, 0, 0, 0)).1 = y at PV FA
      clear hz
      by_cases c3 : y0 ≤ y
      · have f3 : decide (y0 ≤ y) = true := decide_eq_true c3
        have HF := hid_of (HX.out (by rw [FA.out]; exact decide_eq_false (by omega)))
        clear HX HY HP FA
        go_wp2
        refine wp_region_held_drew (S := (fun X => OB w X c)) (by kernel_rfl) hS (fun hHeld => ?_)
        refine wpAnyH_take (i := 0) (v := ?_) rfl (by kernel_rfl) (by kernel_rfl) (by kernel_rfl) (fun _ _ _ h => h) (Or.inl ⟨by kernel_rfl, ?y0f⟩) hHeld ?r0f
        case y0f => (intro wq hSw; have q1 := (CE.out wq hSw).2.2.2; go_simp; try rfl)
        simp only [Act.put, List.setIfInBounds_toArray, List.set_cons_zero, List.set_cons_succ]
        refine wpAnyH_take (i := 1) (v := ?_) rfl (by kernel_rfl) (by kernel_rfl) (by kernel_rfl) (fun _ _ _ h => h) (Or.inl ⟨by kernel_rfl, ?y1f⟩) hHeld ?r1f
        case y1f => (intro wq hSw; go_simp; try rfl)
        simp only [Act.put, List.setIfInBounds_toArray, List.set_cons_zero, List.set_cons_succ]
        refine wpAnyH_take (i := 2) (v := ?_) rfl (by kernel_rfl) (by kernel_rfl) (by kernel_rfl) (fun _ _ _ h => h) (Or.inl ⟨by kernel_rfl, ?y2f⟩) hHeld ?r2f
        case y2f => (intro wq hSw; have q1 := (CE.out wq hSw).1; go_simp; try rfl)
        simp only [Act.put, List.setIfInBounds_toArray, List.set_cons_zero, List.set_cons_succ]
        refine wpAnyH_take (i := 3) (v := ?_) rfl (by kernel_rfl) (by kernel_rfl) (by kernel_rfl) (fun _ _ _ h => h) (Or.inl ⟨by kernel_rfl, ?y3f⟩) hHeld ?r3f
        case y3f => (intro wq hSw; go_simp; try rfl)
        simp only [Act.put, List.setIfInBounds_toArray, List.set_cons_zero, List.set_cons_succ]
        refine wpAnyH_take (i := 4) (v := ?_) rfl (by kernel_rfl) (by kernel_rfl) (by kernel_rfl) (fun _ _ _ h => h) (Or.inl ⟨by kernel_rfl, ?y4f⟩) hHeld ?r4f
        case y4f => (intro wq hSw; go_simp; try rfl)
        simp only [Act.put, List.setIfInBounds_toArray, List.set_cons_zero, List.set_cons_succ]
        refine wpAnyH_take (i := 5) (v := ?_) rfl (by kernel_rfl) (by kernel_rfl) (by kernel_rfl) (fun _ _ _ h => h) (Or.inl ⟨by kernel_rfl, ?y5f⟩) hHeld ?r5f
        case y5f => (intro wq hSw; have q1 := (CE.out wq hSw).2.2.1; go_simp; try rfl)
        simp only [Act.put, List.setIfInBounds_toArray, List.set_cons_zero, List.set_cons_succ]
        refine wpAnyH_ready (rs := [6]) (by kernel_rfl) (by simp) ?_
        refine AllReadyH.cons rfl (fun K hK => ?_) AllReadyH.nil
        go_simp
        go_wp2_with (go_at_call 78; refine (CF.out _ hHeld).mono ?_; rintro e w5 ⟨rfl, h5⟩; have H5 := hid_of h5)
        refine hK.out _ _ h5 (fun _ => ?_)
        clear hK K
        refine wpAnyH_ready (rs := [7]) (by kernel_rfl) (by simp) ?_
        refine AllReadyH.cons rfl (fun K hK => ?_) AllReadyH.nil
        go_simp
        refine hK.out _ _ h5 (fun _ => ?_)
        clear hK K
        refine wpAnyH_done (by kernel_rfl) ?_ _
        clear hHeld hS
        obtain ⟨p12, p0, _, _⟩ := CE.out _ H5.out
        clear CE h5
        have kp := PV.out _ H5.out.bel
        go_wp2_with fail
        go_region
        all_goals
          go_wp2
          go_ret
          exact ⟨ret_bool HF.out.symm, H5.out.bel.drew⟩
      have f3 : decide (y0 ≤ y) = false := decide_eq_false c3
      have HG := hid_of (HY.out (by rw [FA.out]; exact decide_eq_true (by omega)))
      clear HX HY HP FA
      go_wp2
      refine wp_region_held_drew (S := (fun X => OB w X c)) (by kernel_rfl) hS (fun hHeld => ?_)
      refine wpAnyH_take (i := 0) (v := ?_) rfl (by kernel_rfl) (by kernel_rfl) (by kernel_rfl) (fun _ _ _ h => h) (Or.inl ⟨by kernel_rfl, ?y0g⟩) hHeld ?r0g
      case y0g => (intro wq hSw; have q1 := (CE.out wq hSw).2.2.2; go_simp; try rfl)
      simp only [Act.put, List.setIfInBounds_toArray, List.set_cons_zero, List.set_cons_succ]
      refine wpAnyH_take (i := 1) (v := ?_) rfl (by kernel_rfl) (by kernel_rfl) (by kernel_rfl) (fun _ _ _ h => h) (Or.inl ⟨by kernel_rfl, ?y1g⟩) hHeld ?r1g
      case y1g => (intro wq hSw; go_simp; try rfl)
      simp only [Act.put, List.setIfInBounds_toArray, List.set_cons_zero, List.set_cons_succ]
      refine wpAnyH_take (i := 2) (v := ?_) rfl (by kernel_rfl) (by kernel_rfl) (by kernel_rfl) (fun _ _ _ h => h) (Or.inl ⟨by kernel_rfl, ?y2g⟩) hHeld ?r2g
      case y2g => (intro wq hSw; have q1 := (CE.out wq hSw).1; go_simp; try rfl)
      simp only [Act.put, List.setIfInBounds_toArray, List.set_cons_zero, List.set_cons_succ]
      refine wpAnyH_take (i := 3) (v := ?_) rfl (by kernel_rfl) (by kernel_rfl) (by kernel_rfl) (fun _ _ _ h => h) (Or.inl ⟨by kernel_rfl, ?y3g⟩) hHeld ?r3g
      case y3g => (intro wq hSw; go_simp; try rfl)
      simp only [Act.put, List.setIfInBounds_toArray, List.set_cons_zero, List.set_cons_succ]
      refine wpAnyH_take (i := 4) (v := ?_) rfl (by kernel_rfl) (by kernel_rfl) (by kernel_rfl) (fun _ _ _ h => h) (Or.inl ⟨by kernel_rfl, ?y4g⟩) hHeld ?r4g
      case y4g => (intro wq hSw; go_simp; try rfl)
      simp only [Act.put, List.setIfInBounds_toArray, List.set_cons_zero, List.set_cons_succ]
      refine wpAnyH_take (i := 5) (v := ?_) rfl (by kernel_rfl) (by kernel_rfl) (by kernel_rfl) (fun _ _ _ h => h) (Or.inl ⟨by kernel_rfl, ?y5g⟩) hHeld ?r5g
      case y5g => (intro wq hSw; have q1 := (CE.out wq hSw).2.2.1; go_simp; try rfl)
      simp only [Act.put, List.setIfInBounds_toArray, List.set_cons_zero, List.set_cons_succ]
      refine wpAnyH_ready (rs := [6]) (by kernel_rfl) (by simp) ?_
      refine AllReadyH.cons rfl (fun K hK => ?_) AllReadyH.nil
      go_simp
      go_wp2_with (go_at_call 78; refine (CF.out _ hHeld).mono ?_; rintro e w5 ⟨rfl, h5⟩; have H5 := hid_of h5)
      refine hK.out _ _ h5 (fun _ => ?_)
      clear hK K
      refine wpAnyH_ready (rs := [7]) (by kernel_rfl) (by simp) ?_
      refine AllReadyH.cons rfl (fun K hK => ?_) AllReadyH.nil
      go_simp
      refine hK.out _ _ h5 (fun _ => ?_)
      clear hK K
      refine wpAnyH_done (by kernel_rfl) ?_ _
      clear hHeld hS
      obtain ⟨p12, p0, _, _⟩ := CE.out _ H5.out
      clear CE h5
      have kp := PV.out _ H5.out.bel
      go_wp2_with fail
      go_region
      all_goals
        go_wp2
        go_roundg g'
        case measure => omega
        case rel => exact ⟨k + 1 + 1, by simp, by omega, OB.drew H5.out, HG.out⟩
    · have d1 : decide ((i : Int) < (c.fx.n : Int)) = false := decide_eq_false (by omega)
      have HX : Hid (P = true) := hid_of (by rw [PL2.out]; exact all_yes fun j hj => HP.out j (by have := NFX.out; omega))
      go_wp2
      go_ret
      exact ⟨ret_bool HX.out.symm, HB.out.bel⟩
end Go.Proofs.Ytmfdomabegaidaa

namespace Go.Proofs.Ytmfdomabegaidaa
set_option linter.unusedVariables false
set_option linter.unusedSimpArgs false
open Go.ChangeShapes Go.WideShapes Go.ChangeAt Go.RowKit
attribute [local go_sem] Oc.at0 Oc.at1 Oc.at2 Oc.at3 Oc.at4 Oc.at5 Oc.at6 Oc.at7 Oc.at8 Oc.at9 Oc.at10 Oc.at11 Oc.at12
attribute [local go_sem ↓] loadO_seal

set_option maxHeartbeats 4000000 in
set_option maxRecDepth 20000 in
theorem rencode_no (w : World) (c : Oc) (o : Ob) (h : ObR w c o) (hn : rightB o = false) : Calls Try.prog 10 #[.agg c.cells] w fun e w' => e = .returned (.tuple #[.slice none 0 0, .int .i64 70]) ∧ Below w.heap.size w w' := by
  have O0 : Hid (OB w (w.alloc (.cells c.cells 31)) c) := hid_of (Below.refl _ _)
  have q0 := loadO_run O0.out.bx
  have WI : Hid (∀ X, OB w X c → Calls Try.prog 23 #[.agg c.cells] X fun e Y => e = .returned (.bool false) ∧ OB w Y c) := fun X a => (rwithin_any X c o (h.below a.bel)).mono fun e Y hh => ⟨by rw [← hn, right_within]; exact hh.1, Below.trans a (hh.2.mono a.size)⟩
  clear h hn
  go_enter Try.func10, Try.ntmps10
  go_wp2_with (go_at_call 23; refine (WI.out _ O0.out).mono ?_; rintro e w1 ⟨rfl, h1⟩)
  go_ret2
  exact ⟨rfl, h1.bel⟩
theorem right_name {o : Ob} (h : rightB o = true) : (o.name.size : Int) ≤ 20 := by
  unfold rightB headB at h
  simp only [Bool.and_eq_true] at h
  exact fresh_size h.1.1.1.1
set_option maxHeartbeats 4000000 in
set_option maxRecDepth 20000 in
theorem rencode_yes (w : World) (c : Oc) (o : Ob) (h : ObR w c o) (hw : Words o) (hn : rightB o = true) : Calls Try.prog 10 #[.agg c.cells] w fun e w' => ∃ a n k, e = .returned (.tuple #[.slice a n k, .int .i64 0]) ∧ Ow w' w.heap.size (.slice a n k) (objL o) ∧ Below w.heap.size w w' := by
  obtain ⟨sm, ti⟩ := right_small hn hw
  have fi := sm.fine ti
  have hbl := body_le sm ti
  have hlen := objL_len o
  have hnm := right_name hn
  have O0 : Hid (OB w (w.alloc (.cells c.cells 31)) c) := hid_of (Below.refl _ _)
  have q0 := loadO_run O0.out.bx
  have WI : Hid (∀ X, OB w X c → Calls Try.prog 23 #[.agg c.cells] X fun e Y => e = .returned (.bool true) ∧ OB w Y c) := fun X a => (rwithin_any X c o (h.below a.bel)).mono fun e Y hh => ⟨by rw [← hn, right_within]; exact hh.1, Below.trans a (hh.2.mono a.size)⟩
  obtain ⟨n, hnl⟩ : ∃ n, n = (objL o).length := ⟨_, rfl⟩
  have BY : Hid (∀ X, OB w X c → Calls Try.prog 24 #[.agg c.cells] X fun e Y => ∃ a k, e = .returned (.slice a n k) ∧ Hid (Ow Y w.heap.size (.slice a n k) (objL o) ∧ Below w.heap.size w Y)) := fun X a => (rbytes_any X c o (h.below a.bel) fi hw (by rw [List.length_append, show markL.length = 4 from rfl]; omega) (by rw [h.nm]; omega)).mono fun e Y hh => by
    obtain ⟨v, h1, h2, h3⟩ := hh
    obtain ⟨g, k, hv, _, _⟩ := ow_at h2 (fun e => by rw [e] at hlen; simp at hlen)
    subst hv
    rw [← hnl] at h1 h2
    exact ⟨_, k, h1, ow_low h2 a.bel.size, a.bel.trans (h3.mono a.bel.size)⟩
  have LO : Hid (∀ X, OB w X c → (loadO ⟨w.heap.size, 0, none⟩).run Try.prog X = .ok (.agg c.cells) X) := fun X a => loadO_run a.bx
  have d1 : decide ((1048576 : Int) < (n : Int)) = false := decide_eq_false (by omega)
  have d2 : ¬ 1048576 < n := by omega
  clear h hw hn sm ti fi hbl hlen hnm hnl
  go_enter Try.func10, Try.ntmps10
  go_wp2_with (first
    | (go_at_call 23; refine (WI.out _ O0.out).mono ?_; rintro e w1 ⟨rfl, h1⟩; have q1 := LO.out _ h1; have H1 := hid_of h1; clear h1)
    | (go_at_call 24; refine (BY.out _ H1.out).mono ?_; rintro e w2 ⟨a, k, rfl, H2⟩))
  go_ret2
  exact ⟨_, _, _, rfl, H2.out.1, H2.out.2⟩
theorem rright_any (w : World) (c : Oc) (o : Ob) (h : ObR w c o) (hw : Words o) : Calls Try.prog 36 #[.agg c.cells] w fun e w' => e = .returned (.bool (rightB o)) ∧ Below w.heap.size w w' := by
  have q0 : (loadO ⟨w.heap.size, 0, none⟩).run Try.prog (w.alloc (.cells c.cells 31)) = .ok (.agg c.cells) (w.alloc (.cells c.cells 31)) := loadO_run (blk_new _ _)
  have hb : Below w.heap.size w (w.alloc (.cells c.cells 31)) := by go_grown
  cases hn : rightB o
  · have EN := hid_of ((rencode_no (w.alloc (.cells c.cells 31)) c o (h.below hb) hn).mono fun e Y hh => (⟨hh.1, hb.trans (hh.2.mono hb.size)⟩ : _ ∧ Below w.heap.size w Y))
    clear h hn hb
    go_enter Try.func36, Try.ntmps36
    go_wp2_with (go_at_call 10; refine EN.out.mono ?_; rintro e w1 ⟨rfl, h1⟩)
    go_ret
    exact ⟨rfl, h1⟩
  · have EN := hid_of ((rencode_yes (w.alloc (.cells c.cells 31)) c o (h.below hb) hw hn).mono fun e Y hh => by
      obtain ⟨a, n, k, h1, _, h3⟩ := hh
      exact (⟨a, n, k, h1, hb.trans (h3.mono hb.size)⟩ : ∃ a n k, e = .returned (.tuple #[.slice a n k, .int .i64 0]) ∧ Below w.heap.size w Y))
    clear h hn hb
    go_enter Try.func36, Try.ntmps36
    go_wp2_with (go_at_call 10; refine EN.out.mono ?_; rintro e w1 ⟨a, n, k, rfl, h1⟩)
    go_ret
    exact ⟨rfl, h1⟩
end Go.Proofs.Ytmfdomabegaidaa

namespace Go.Proofs.Ytmfdomabegaidaa
set_option linter.unusedVariables false
set_option linter.unusedSimpArgs false
open Go.ChangeShapes Go.WideShapes Go.ChangeAt Go.RowKit
attribute [local go_sem ↓] loadO_seal storeO_seal

/-- The object that came in and its copy. -/
structure YI (w Z : World) (ga : Nat) (c c2 : Oc) (o : Ob) : Prop where
  bo : OAt Z w.heap.size c
  bp : OAt Z ga c2
  ro : ObR Z c o
  rp : ObR Z c2 o
  be : Below w.heap.size w Z
theorem YI.below {w Z Y : World} {ga : Nat} {c c2 : Oc} {o : Ob} (h : YI w Z ga c c2 o) (hb : Below Z.heap.size Z Y) : YI w Y ga c c2 o := ⟨(hb.block _ h.bo.lt).trans h.bo, (hb.block _ h.bp.lt).trans h.bp, h.ro.below hb, h.rp.below hb, h.be.trans (hb.mono h.be.size)⟩
theorem ObM.below {w X : World} {c : Oc} {o : Ob} (h : ObM w c o) (hb : Below w.heap.size w X) : ObM X c o := by
  obtain ⟨l, e1, e2, e3⟩ := h.tg
  exact ⟨h.rd.below hb, h.im, h.co, h.pr, h.na, h.ex, h.va, h.sh, h.st, h.ds, h.fx, ⟨l, e1, e2.below hb, fun p hp => ⟨(e3 p hp).1.below hb, (e3 p hp).2⟩⟩⟩
set_option maxHeartbeats 16000000 in
set_option maxRecDepth 20000 in
theorem bytes_any (w : World) (c : Oc) (o : Ob) (h : ObM w c o) (hw : Words o) : Calls Try.prog 3 #[.agg c.cells] w fun e w' => e = .returned (.bool true) ∧ Below w.heap.size w w' := by
  have D0 : Hid (DI w (w.alloc (.cells c.cells 31)) c o) := DI.mk' h.rd (Below.refl _ _)
  have SH : Hid (∀ X, DI w X c o → Calls Try.prog 6 #[] X fun e Y => e = .returned (.bool true) ∧ DI w Y c o) := fun X hX => (shown_any X).mono fun e Y hh => ⟨hh.1, hX.below hh.2⟩
  have CP : Hid (∀ X, DI w X c o → Calls Try.prog 7 #[.agg c.cells] X fun e V => ∃ c2 Z, e = .returned (.agg (Oc.cells c2)) ∧ (storeO ⟨V.heap.size, 0, none⟩ (.agg c2.cells)).run Try.prog (V.alloc zeroO) = .ok () Z ∧ Hid (YI w Z V.heap.size c c2 o)) := fun X hX => (copied_any X c o (h.below hX.be)).mono fun e V hh => by
    obtain ⟨c2, h1, h2, h3⟩ := hh
    obtain ⟨Z, z1, z2, z3⟩ := storeO_run (zero_at V) c2
    have t : Tq V Z (fun k => k = V.heap.size) := (Tq.below (P := fun k => k = V.heap.size) ((Below.refl _ _).alloc (Nat.le_refl _) _)).trans z3
    have bV : Below V.heap.size V Z := ⟨t.os, t.tape, t.output, t.size, fun k hk => t.blk k hk (by omega)⟩
    have bXZ : Below X.heap.size X Z := h3.trans (bV.mono h3.size)
    have hD := hX.below bXZ
    exact ⟨c2, Z, h1, z1, hD.bx, z2, hD.rd, h2.below bV, hD.be⟩
  have SE : Hid (∀ X ga c2, YI w X ga c c2 o → Calls Try.prog 11 #[.agg c2.cells, .agg c.cells] X fun e Y => e = .returned (.bool true) ∧ Below w.heap.size w Y) := fun X ga c2 hX => (same_eq X c2 c o hX.rp hX.ro).mono fun e Y hh => ⟨hh.1, hX.be.trans (hh.2.mono hX.be.size)⟩
  cases hn : rightB o
  · have RG : Hid (∀ X ga c2, YI w X ga c c2 o → Calls Try.prog 8 #[.agg c2.cells] X fun e Y => e = .returned (.bool false) ∧ YI w Y ga c c2 o) := fun X ga c2 hX => (right_any X c2 o hX.rp).mono fun e Y hh => ⟨by rw [← hn]; exact hh.1, hX.below hh.2⟩
    have EN : Hid (∀ X ga c2, YI w X ga c c2 o → Calls Try.prog 9 #[.agg c2.cells] X fun e Y => e = .returned (.tuple #[.slice none 0 0, .int .i64 70]) ∧ YI w Y ga c c2 o) := fun X ga c2 hX => (encode_no X c2 o hX.rp hn).mono fun e Y hh => ⟨hh.1, hX.below hh.2⟩
    have RE : Hid (∀ X ga c2, YI w X ga c c2 o → Calls Try.prog 10 #[.agg c.cells] X fun e Y => e = .returned (.tuple #[.slice none 0 0, .int .i64 70]) ∧ YI w Y ga c c2 o) := fun X ga c2 hX => (rencode_no X c o hX.ro hn).mono fun e Y hh => ⟨hh.1, hX.below hh.2⟩
    have cv : ∀ X : World, (convert 35 9 (.slice none 0 0)).run Try.prog X = .ok (.string ⟨#[]⟩) X := fun X => by
      rw [run_convert_bytes_string X _ 9 5 none 0 0 Try.underlying35 Try.underlying5 Try.underlying9]
      rfl
    simp only [zeroO] at CP
    clear h hw hn
    go_enter Try.func3, Try.ntmps3
    go_wp2_with (first
      | (go_at_call 6; refine (SH.out _ D0.out).mono ?_; rintro e w1 ⟨rfl, d1⟩; have D1 := hid_of d1; have l1 := loadO_run d1.bx; clear d1)
      | (go_at_call 7; refine (CP.out _ D1.out).mono ?_; rintro e w2 ⟨c2, Z, rfl, z1, HY⟩; have l2 := loadO_run HY.out.bp)
      | (go_at_call 8; refine (RG.out _ _ c2 HY.out).mono ?_; rintro e w3 ⟨rfl, y3⟩; have Y3 := hid_of y3; have l3 := loadO_run y3.bp; clear y3)
      | (go_at_call 9; refine (EN.out _ _ c2 Y3.out).mono ?_; rintro e w4 ⟨rfl, y4⟩; have Y4 := hid_of y4; have l4 := loadO_run y4.bo; clear y4)
      | (go_at_call 10; refine (RE.out _ _ c2 Y4.out).mono ?_; rintro e w5 ⟨rfl, y5⟩; have Y5 := hid_of y5; have l5 := loadO_run y5.bo; have l6 := loadO_run y5.bp; clear y5)
      | (go_at_call 11; refine (SE.out _ _ c2 Y5.out).mono ?_; rintro e w6 ⟨rfl, h6⟩; have cv6 := cv w6))
    go_ret
    exact ⟨ret_bool (by simp), h6⟩
  · obtain ⟨sm, ti⟩ := right_small hn hw
    have fi := sm.fine ti
    have hbl := body_le sm ti
    have RG : Hid (∀ X ga c2, YI w X ga c c2 o → Calls Try.prog 8 #[.agg c2.cells] X fun e Y => e = .returned (.bool true) ∧ YI w Y ga c c2 o) := fun X ga c2 hX => (right_any X c2 o hX.rp).mono fun e Y hh => ⟨by rw [← hn]; exact hh.1, hX.below hh.2⟩
    have EN : Hid (∀ X ga c2, YI w X ga c c2 o → Calls Try.prog 9 #[.agg c2.cells] X fun e Y => ∃ a n k, e = .returned (.tuple #[.slice a n k, .int .i64 0]) ∧ Hid (YI w Y ga c c2 o ∧ ∃ B, Ow Y B (.slice a n k) (objL o))) := fun X ga c2 hX => (encode_yes X c2 o hX.rp hn fi (by omega)).mono fun e Y hh => by
      obtain ⟨a, n, k, h1, ⟨B, _, h2⟩, h3⟩ := hh
      exact ⟨a, n, k, h1, hX.below h3, B, h2⟩
    have RE : Hid (∀ X ga c2 v, YI w X ga c c2 o → (∃ B, Ow X B v (objL o)) → Calls Try.prog 10 #[.agg c.cells] X fun e Y => ∃ a n k, e = .returned (.tuple #[.slice a n k, .int .i64 0]) ∧ Hid (YI w Y ga c c2 o ∧ (∃ B, Ow Y B v (objL o)) ∧ ∃ B, Ow Y B (.slice a n k) (objL o))) := fun X ga c2 v hX hv => (rencode_yes X c o hX.ro hw hn).mono fun e Y hh => by
      obtain ⟨a, n, k, h1, h2, h3⟩ := hh
      obtain ⟨B, hB⟩ := hv
      exact ⟨a, n, k, h1, hX.below h3, ⟨B, ow_below hB h3⟩, _, h2⟩
    have SE : Hid (∀ X ga c2 v v2, YI w X ga c c2 o → (∃ B, Ow X B v (objL o)) → (∃ B, Ow X B v2 (objL o)) → Calls Try.prog 11 #[.agg c2.cells, .agg c.cells] X fun e Y => e = .returned (.bool true) ∧ (convert 35 9 v).run Try.prog Y = .ok (.string (strOfNums (objL o))) Y ∧ (convert 35 9 v2).run Try.prog Y = .ok (.string (strOfNums (objL o))) Y ∧ Below w.heap.size w Y) := fun X ga c2 v v2 hX hv hv2 => (same_eq X c2 c o hX.rp hX.ro).mono fun e Y hh => by
      obtain ⟨B, hB⟩ := hv
      obtain ⟨B2, hB2⟩ := hv2
      exact ⟨hh.1, conv_ow (ow_below hB hh.2) Y (fun _ _ _ => rfl), conv_ow (ow_below hB2 hh.2) Y (fun _ _ _ => rfl), hX.be.trans (hh.2.mono hX.be.size)⟩
    simp only [zeroO] at CP
    generalize strOfNums (objL o) = SS at SE
    clear h hw hn sm ti fi hbl
    go_enter Try.func3, Try.ntmps3
    go_wp2_with (first
      | (go_at_call 6; refine (SH.out _ D0.out).mono ?_; rintro e w1 ⟨rfl, d1⟩; have D1 := hid_of d1; have l1 := loadO_run d1.bx; clear d1)
      | (go_at_call 7; refine (CP.out _ D1.out).mono ?_; rintro e w2 ⟨c2, Z, rfl, z1, HY⟩; have l2 := loadO_run HY.out.bp)
      | (go_at_call 8; refine (RG.out _ _ c2 HY.out).mono ?_; rintro e w3 ⟨rfl, y3⟩; have Y3 := hid_of y3; have l3 := loadO_run y3.bp; clear y3)
      | (go_at_call 9; refine (EN.out _ _ c2 Y3.out).mono ?_; rintro e w4 ⟨a4, n4, k4, rfl, Y4⟩; have l4 := loadO_run Y4.out.1.bo)
      | (go_at_call 10; refine (RE.out _ _ c2 _ Y4.out.1 Y4.out.2).mono ?_; rintro e w5 ⟨a5, n5, k5, rfl, Y5⟩; have l5 := loadO_run Y5.out.1.bo; have l6 := loadO_run Y5.out.1.bp)
      | (go_at_call 11; refine (SE.out _ _ c2 _ _ Y5.out.1 Y5.out.2.1 Y5.out.2.2).mono ?_; rintro e w6 ⟨rfl, v1, v2, h6⟩))
    go_ret
    exact ⟨ret_bool (by simp), h6⟩
end Go.Proofs.Ytmfdomabegaidaa

namespace Go.Proofs.Ytmfdomabegaidaa.objBytes
open Go.ChangeShapes Go.WideShapes Go.ChangeAt Go.RowKit
open Go.ChangeMaps (open_string shut_string)
set_option linter.unusedVariables false

theorem own : ownKnob Try.prog.godebug = none := by kernel_rfl
theorem laidOut : laidOutB Try.prog = true := by kernel_rfl

set_option maxRecDepth 100000 in
theorem lifted (os : Go.Os) (started : os.Started) (H : Type) (enc : TypeId × Value → H) :
    ReturnsInHanded {} Try.checked os 3 .any (Rows.objBytesSpec.pre6 enc Try.prog Try.f3 Rows.objBytesRow.domain false) (Rows.objBytesSpec.post enc Try.prog Try.f3 false true false false) := by
  refine returnsInHanded_of_change_sized (C := Try.checked) own started (by kernel_rfl) Try.func3
    (ChangeSpec.witness6 (enc := enc) (C := Try.checked) false ⟨#[], #[.agg #[.string ⟨#[]⟩, .int .u32 0, .slice none 0 0, .slice none 0 0, .slice none 0 0, .slice none 0 0, .slice none 0 0, .int .i64 0, .slice none 0 0, .slice none 0 0, .slice none 0 0, .slice none 0 0, .slice none 0 0]], []⟩ 8 (by kernel_rfl) (by kernel_rfl) (by kernel_rfl) (by kernel_rfl)) ?_
  intro W base args ds gs before hval0 hW hcnd hsz0 _
  have hsz : (DataW.weightsEach Try.prog (Try.f3.params.toList ++ Rows.objBytesSpec.plain.varTypes Try.prog) (ds ++ gs)).all (· ≤ reachBytes) = true := hsz0
  have hval : ∀ (j : Nat) t v, Try.f3.params[j]? = some t → args[j]? = some v → Value.okWide Try.prog W .any base t v := hval0
  have hW' := hW
  obtain ⟨p, q, hA0, hV, rfl, hfz, hnd⟩ := hW
  have hA : DataW.TrodAll enc Try.prog W 0 (fun _ => true) true Try.f3.params.toList args.toList ds p := hA0
  rw [Try.params3] at hA hval hsz
  obtain ⟨v0, vs0, d0, ds0, p0, q0, hargs, rfl, rfl, h0, r0⟩ := trodAll_cons hA
  obtain ⟨rfl, rfl, rfl⟩ := trodAll_nil r0
  obtain rfl : args = #[v0] := by cases args; simp_all
  obtain ⟨rfl, rfl⟩ := trodVars_none hV
  have k0 := h0
  have lt0 : ∀ x ∈ p0, x.block < W.heap.size := by obtain ⟨m, hm⟩ := k0; exact DataW.trod_lt m _ _ _ hm
  obtain ⟨c, o, hv0, hR, hWd⟩ : ∃ (c : Oc) (o : Ob), v0 = .agg c.cells ∧ ObM W c o ∧ Words o := by
    obtain ⟨cs, rfl, _⟩ := okWide_struct Try.underlying31 (hval 0 31 v0 rfl rfl)
    obtain ⟨fuel, hf⟩ := h0
    have hl : Lt 31 d0 := fun m hm => by
      have := List.all_eq_true.1 hsz _ (DataW.weights_mem_each (j := 0) (t := 31) (d := d0) rfl rfl m hm)
      simpa using this
    obtain ⟨c, o, e1, e2, e3⟩ := obj_of2 hf hl
    have e4 : cs.toList = c.cells.toList := e1
    exact ⟨c, o, by rw [Array.toList_inj.1 e4], e2, e3⟩
  subst hv0
  clear hA0 hval0
  refine (bytes_any W c o hR hWd).mono fun e W' ⟨he, bel⟩ => ?_
  subst he
  exact ⟨_, rfl, _, _, _, [], _, [], hW', trodAll_mk1 (shut_bool Try.underlying4 _), (trodAll_cons_mk (Below.trod laidOut (by kernel_rfl) (of_decide_eq_true (by kernel_rfl)) k0 bel lt0) trodAll_mk0), rfl, bel.frame _, fun h => by cases h⟩

theorem over : Rows.objBytesRow.holds Try.pinned (OpenSpec.ofChange Rows.objBytesSpec) :=
  OpenClaim.holds_of_wide 3 Try.f3 rfl rfl rfl rfl rfl rfl rfl ⟨rfl, rfl, rfl, rfl, rfl⟩ rfl rfl rfl rfl rfl (by kernel_rfl) Try.func3 (by kernel_rfl)
    (of_decide_eq_true (by kernel_rfl)) (by unfold Func.isWrapper; first | (rw [if_pos (by decide +kernel)]; kernel_rfl) | (rw [if_neg (by decide +kernel)]; exact ⟨rfl, rfl⟩))
    (fun os started H enc _ => lifted os started H enc)
end Go.Proofs.Ytmfdomabegaidaa.objBytes

namespace Go.Proofs.Ytmfdomabegaidaa
/-- The given statement. -/
theorem objBytes_holds : Rows.ObjBytesSaid := objBytes.over
#print axioms objBytes_holds
end Go.Proofs.Ytmfdomabegaidaa
