/-
  Layer 13: whether symbols are right.
-/
import Derived.Test.YtcppgpcgbggdcaaDoorYnd
namespace Go.Proofs.YtcppgpcgbggdcaaDoor
set_option linter.unusedVariables false
set_option linter.unusedSimpArgs false
open Go.ChangeShapes Go.WideShapes Go.ChangeAt Go.RowKit
attribute [local go_sem ↓] ldS_seal stS_seal

def rightS (o : Sy) (l : List (Pc × Sl)) : Bool := nameB o.nm && ((decide ((o.cs.length : Int) ≤ 200) && o.cs.all cnB) && ((decide ((o.vs.length : Int) ≤ 200) && o.vs.all varB) && ((decide ((l.length : Int) ≤ 100) && l.all fun p => prcB p.1) && diffB o l)))
set_option maxHeartbeats 8000000 in
set_option maxRecDepth 20000 in
theorem right_any (w : World) (hv : Vs w) (c : Sc) (o : Sy) (l : List (Pc × Sl)) (hr : SyR w c o l) : Calls Tryd.prog 10 #[.agg c.cells] w fun e w' => e = .returned (.bool (rightS o l)) ∧ Below w.heap.size w w' := by
  have hsz := hr.sz
  obtain ⟨b1, hb1⟩ : ∃ b, b = nameB o.nm := ⟨_, rfl⟩
  obtain ⟨b2, hb2⟩ : ∃ b, b = (decide ((o.cs.length : Int) ≤ 200) && o.cs.all cnB) := ⟨_, rfl⟩
  obtain ⟨b3, hb3⟩ : ∃ b, b = (decide ((o.vs.length : Int) ≤ 200) && o.vs.all varB) := ⟨_, rfl⟩
  obtain ⟨b4, hb4⟩ : ∃ b, b = (decide ((l.length : Int) ≤ 100) && l.all fun p => prcB p.1) := ⟨_, rfl⟩
  have G1 : Hid (∀ X, Calls Tryd.prog 21 #[.string c.nm] X fun e w' => e = .returned (.bool b1) ∧ w' = X) := hid_of fun X => by rw [hb1, hr.nm]; exact isName_any o.nm X hsz.1
  have bel : ∀ X, (BA X w.heap.size 26 c.cells ∧ Below w.heap.size w X) → ∀ Y, Below X.heap.size X Y → (BA Y w.heap.size 26 c.cells ∧ Below w.heap.size w Y) := fun X hX Y hY => ⟨hX.1.below hY, hX.2.trans (hY.mono hX.2.size)⟩
  have G2 : Hid (∀ X, (BA X w.heap.size 26 c.cells ∧ Below w.heap.size w X) → Calls Tryd.prog 22 #[.slice c.cs.a c.cs.n c.cs.c, .int .i64 200, .func (.func 23) #[] #[]] X fun e Y => e = .returned (.bool b2) ∧ Y.cell? ⟨w.heap.size, 2, none⟩ = some (.slice c.vs.a c.vs.n c.vs.c) ∧ Hid (BA Y w.heap.size 26 c.cells ∧ Below w.heap.size w Y)) := hid_of fun X hX => (each_con cnB o.cs c.cs 200 X (hr.cs.below hX.2) (fun x hx Y _ => isConst_any x Y (hsz.2.1 x hx))).mono fun e Y hh => ⟨by rw [hb2]; exact hh.1, (bel X hX Y hh.2).1.cell 2, bel X hX Y hh.2⟩
  have G3 : Hid (∀ X, (BA X w.heap.size 26 c.cells ∧ Below w.heap.size w X) → Calls Tryd.prog 24 #[.slice c.vs.a c.vs.n c.vs.c, .int .i64 200, .func (.func 25) #[] #[]] X fun e Y => e = .returned (.bool b3) ∧ Y.cell? ⟨w.heap.size, 3, none⟩ = some (.slice c.ps.a c.ps.n c.ps.c) ∧ Hid (BA Y w.heap.size 26 c.cells ∧ Below w.heap.size w Y)) := hid_of fun X hX => (each_var varB o.vs c.vs 200 X (hr.vs.below hX.2) (fun x hx Y hY => isVar_any x Y ((hv.call hX.2).call hY) (hsz.2.2.1 x hx))).mono fun e Y hh => ⟨by rw [hb3]; exact hh.1, (bel X hX Y hh.2).1.cell 3, bel X hX Y hh.2⟩
  have G4 : Hid (∀ X, (BA X w.heap.size 26 c.cells ∧ Below w.heap.size w X) → Calls Tryd.prog 26 #[.slice c.ps.a c.ps.n c.ps.c, .int .i64 100, .func (.func 27) #[] #[]] X fun e Y => e = .returned (.bool b4) ∧ (ldT 26 ⟨w.heap.size, 0, none⟩).run Tryd.prog Y = .ok (.agg c.cells) Y ∧ Hid (BA Y w.heap.size 26 c.cells ∧ Below w.heap.size w Y)) := hid_of fun X hX => (each_prc (fun p => prcB p.1) l c.ps 100 X (hr.ps.below hX.2) (fun p hp Y hY => isProc_any p Y (((hr.pp p hp).below hX.2).below hY) (hsz.2.2.2 p hp))).mono fun e Y hh => ⟨by rw [hb4]; exact hh.1, ldT_run (bel X hX Y hh.2).1 Tryd.underlying26 rfl (by kernel_rfl), bel X hX Y hh.2⟩
  have G5 : Hid (b2 = true → b3 = true → b4 = true → ∀ X, (BA X w.heap.size 26 c.cells ∧ Below w.heap.size w X) → Calls Tryd.prog 28 #[.agg c.cells] X fun e Y => e = .returned (.bool (diffB o l)) ∧ Below w.heap.size w Y) := hid_of fun h2 h3 h4 X hX => by
    rw [hb2, Bool.and_eq_true] at h2
    rw [hb3, Bool.and_eq_true] at h3
    rw [hb4, Bool.and_eq_true] at h4
    have t2 := of_decide_eq_true h2.1
    have t3 := of_decide_eq_true h3.1
    have t4 := of_decide_eq_true h4.1
    exact (namesDiffer_any X c o l (hr.below hX.2) (by unfold allNm; simp; omega)).mono fun e Y hh => ⟨hh.1, hX.2.trans (hh.2.mono hX.2.size)⟩
  have H0 : Hid (BA (w.alloc (.cells c.cells 26)) w.heap.size 26 c.cells ∧ Below w.heap.size w (w.alloc (.cells c.cells 26))) := ⟨BA.new w _ _, (Below.refl _ _).alloc (Nat.le_refl _) _⟩
  unfold rightS
  rw [← hb1, ← hb2, ← hb3, ← hb4]
  generalize diffB o l = b5 at *
  clear hb1 hb2 hb3 hb4 hr hsz bel hv
  unfold Sc.cells at H0 G2 G3 G4 G5 ⊢
  cases b1
  · go_enter Tryd.func10, Tryd.ntmps10
    go_wp2_with (go_at_call 21; refine (G1.out _).mono ?_; rintro e w1 ⟨rfl, hw⟩; rw [hw]; clear hw)
    go_ret
    exact ⟨rfl, H0.out.2⟩
  cases b2
  · go_enter Tryd.func10, Tryd.ntmps10
    go_wp2_with (first
      | (go_at_call 21; refine (G1.out _).mono ?_; rintro e w1 ⟨rfl, hw⟩; rw [hw]; clear hw)
      | (go_at_call 22; refine (G2.out _ H0.out).mono ?_; rintro e w2 ⟨rfl, k2, H2⟩))
    go_ret
    exact ⟨rfl, H2.out.2⟩
  cases b3
  · go_enter Tryd.func10, Tryd.ntmps10
    go_wp2_with (first
      | (go_at_call 21; refine (G1.out _).mono ?_; rintro e w1 ⟨rfl, hw⟩; rw [hw]; clear hw)
      | (go_at_call 22; refine (G2.out _ H0.out).mono ?_; rintro e w2 ⟨rfl, k2, H2⟩)
      | (go_at_call 24; refine (G3.out _ H2.out).mono ?_; rintro e w3 ⟨rfl, k3, H3⟩))
    go_ret
    exact ⟨rfl, H3.out.2⟩
  cases b4
  · go_enter Tryd.func10, Tryd.ntmps10
    go_wp2_with (first
      | (go_at_call 21; refine (G1.out _).mono ?_; rintro e w1 ⟨rfl, hw⟩; rw [hw]; clear hw)
      | (go_at_call 22; refine (G2.out _ H0.out).mono ?_; rintro e w2 ⟨rfl, k2, H2⟩)
      | (go_at_call 24; refine (G3.out _ H2.out).mono ?_; rintro e w3 ⟨rfl, k3, H3⟩)
      | (go_at_call 26; refine (G4.out _ H3.out).mono ?_; rintro e w4 ⟨rfl, k4, H4⟩))
    go_ret
    exact ⟨rfl, H4.out.2⟩
  have G6 := hid_of (G5.out rfl rfl rfl)
  clear G5
  go_enter Tryd.func10, Tryd.ntmps10
  go_wp2_with (first
    | (go_at_call 21; refine (G1.out _).mono ?_; rintro e w1 ⟨rfl, hw⟩; rw [hw]; clear hw)
    | (go_at_call 22; refine (G2.out _ H0.out).mono ?_; rintro e w2 ⟨rfl, k2, H2⟩)
    | (go_at_call 24; refine (G3.out _ H2.out).mono ?_; rintro e w3 ⟨rfl, k3, H3⟩)
    | (go_at_call 26; refine (G4.out _ H3.out).mono ?_; rintro e w4 ⟨rfl, k4, H4⟩)
    | (go_at_call 28; refine (G6.out _ H4.out).mono ?_; rintro e w5 ⟨rfl, hb5⟩))
  go_ret
  exact ⟨rfl, hb5⟩
end Go.Proofs.YtcppgpcgbggdcaaDoor
