/-
  Layer 11: types that are made: held, open, pointer, array; their places' steps.
-/
import Derived.Test.YtgkfnfilomjphaaDoorVrw
namespace Go.Proofs.YtgkfnfilomjphaaDoor
set_option linter.unusedVariables false
set_option linter.unusedSimpArgs false
open Go.ChangeShapes Go.WideShapes Go.ChangeAt Go.RowKit
attribute [local go_sem ↓] ldY_seal stY_seal

def heldP (t : Tt) : Tt × Int := if 16384 < t.sz then (zeroT, 111) else (t, 0)
def PostT (w : World) (r : Tt × Int) (e : Ending) (w' : World) : Prop := e = .returned (.tuple #[.agg (ttE r.1), .int .i64 r.2]) ∧ Below w.heap.size w w'
set_option maxHeartbeats 2000000 in
theorem held_any (w : World) (t : Tt) : Calls Tryd.prog 30 #[.agg (ttE t)] w (PostT w (heldP t)) := by
  have k1 := BA.new w 31 (ttE t)
  have k2 := BA.new (w.alloc (.cells (ttE t) 31)) 31 ZT
  rw [show (w.alloc (.cells (ttE t) 31)).heap.size = w.heap.size + 1 by simp] at k2
  have k3 := k1.below ((Below.refl _ _).alloc (Nat.le_refl _) (.cells ZT 31))
  have bw : Below w.heap.size w ((w.alloc (.cells (ttE t) 31)).alloc (.cells ZT 31)) := by go_grown
  have lt := ldT_run k3 Tryd.underlying31 rfl (by kernel_rfl)
  have c5 : ((w.alloc (.cells (ttE t) 31)).alloc (.cells ZT 31)).cell? ⟨w.heap.size, 5, none⟩ = some (.int .i64 t.sz) := k3.cell 5
  unfold heldP
  by_cases hs : 16384 < t.sz
  · rw [if_pos hs]
    have d1 : decide (16384 < t.sz) = true := decide_eq_true hs
    obtain ⟨Z, zr, HZ⟩ := fill_at (w := w) (ttE zeroT) k2 bw (by omega) rfl (by kernel_rfl) (tt_one _)
    simp only [ttE, zeroT, ZT] at zr lt c5
    clear k1 k2 k3 bw lt
    simp only [ttE]
    go_enter Tryd.func30, Tryd.ntmps30
    go_wp2
    refine ret_cell_tmp (p := 2) (q := 3) rfl rfl (load_blk HZ.out.1 Tryd.underlying31 rfl (by kernel_rfl)) rfl ?_
    exact ⟨rfl, HZ.out.2.1⟩
  · rw [if_neg hs]
    have d1 : decide (16384 < t.sz) = false := decide_eq_false hs
    obtain ⟨Z, zr, HZ⟩ := fill_at (w := w) (ttE t) k2 bw (by omega) rfl (by kernel_rfl) (tt_one _)
    simp only [ttE, ZT] at zr lt c5
    clear k1 k2 k3 bw
    simp only [ttE]
    go_enter Tryd.func30, Tryd.ntmps30
    go_wp2
    refine ret_cell_tmp (p := 2) (q := 3) rfl rfl (load_blk HZ.out.1 Tryd.underlying31 rfl (by kernel_rfl)) rfl ?_
    exact ⟨rfl, HZ.out.2.1⟩
def openP (T : List Tt) (A : List Int) (i : Int) : Tt × Int := if thB T A i then (⟨9, 0, i, 0, ⟨none, 0, 0⟩, 0, 0, []⟩, 0) else (zeroT, 110)
/-- The answer's place alone, filled. -/
theorem one_place (w : World) (cs : Array Value) (hs : cs.size = 7) (h1 : (cs.all fun x => x.oneCell') = true) : ∃ Z, (stT 31 ⟨w.heap.size, 0, none⟩ (.agg cs)).run Tryd.prog (w.alloc (.cells ZT 31)) = .ok () Z ∧ Hid (BA Z w.heap.size 31 cs ∧ Below w.heap.size w Z) := by
  have hi : (Tryd.prog.info? 31).map (·.size) = some 7 := by kernel_rfl
  obtain ⟨Z, z, HZ⟩ := fill_at (w := w) (ty := 31) (rs := w.heap.size) (zs := ZT) cs (BA.new w _ _) ((Below.refl _ _).alloc (Nat.le_refl _) _) (Nat.le_refl _) (by rw [hs]; rfl) (by rw [hs]; exact hi) h1
  exact ⟨Z, z, HZ.out.1, HZ.out.2.1⟩
set_option maxHeartbeats 2000000 in
theorem open_any (w : World) (b : Nat) (c : Rc) (L T : List Tt) (A : List Int) (h : RwR w b c L T A) (i : Int) : Calls Tryd.prog 31 #[.pointer (some ⟨b, 0, none⟩), .int .i64 i] w (PostT w (openP T A i)) := by
  have HS := hid_of (isThings_any (w.alloc (.cells ZT 31)) b c L T A (h.below ((Below.refl _ _).alloc (Nat.le_refl _) _)) i)
  unfold ZT at HS
  unfold openP
  cases hb : thB T A i
  · rw [hb] at HS
    obtain ⟨Z, zr, HZ⟩ := one_place w (ttE zeroT) rfl (tt_one _)
    simp only [ttE, zeroT, ZT] at zr
    clear h hb
    show Calls _ _ _ _ (PostT w (zeroT, 110))
    go_enter Tryd.func31, Tryd.ntmps31
    go_wp2_with (go_at_call 28; refine HS.out.mono ?_; rintro e w1 ⟨rfl, hw⟩; rw [hw]; clear hw)
    refine ret_cell_tmp (p := 4) (q := 5) rfl rfl (load_blk HZ.out.1 Tryd.underlying31 rfl (by kernel_rfl)) rfl ?_
    exact ⟨rfl, HZ.out.2⟩
  · rw [hb] at HS
    obtain ⟨Z, zr, HZ⟩ := one_place w (ttE ⟨9, 0, i, 0, ⟨none, 0, 0⟩, 0, 0, []⟩) rfl (tt_one _)
    simp only [ttE, ZT] at zr
    clear h hb
    show Calls _ _ _ _ (PostT w (⟨9, 0, i, 0, ⟨none, 0, 0⟩, 0, 0, []⟩, 0))
    go_enter Tryd.func31, Tryd.ntmps31
    go_wp2_with (go_at_call 28; refine HS.out.mono ?_; rintro e w1 ⟨rfl, hw⟩; rw [hw]; clear hw)
    refine ret_cell_tmp (p := 4) (q := 5) rfl rfl (load_blk HZ.out.1 Tryd.underlying31 rfl (by kernel_rfl)) rfl ?_
    exact ⟨rfl, HZ.out.2⟩
end Go.Proofs.YtgkfnfilomjphaaDoor
