/-
  Layer 11: pairs of types: their forms, what they have within them.
-/
import Derived.Test.YtgkfnfilomjphaaDoorVtk
namespace Go.Proofs.YtgkfnfilomjphaaDoor
set_option linter.unusedVariables false
set_option linter.unusedSimpArgs false
open Go.ChangeShapes Go.WideShapes Go.ChangeAt Go.RowKit
theorem ldQ_seal (a : Addr) : loadVar 62 a = ldT 62 a := rfl
theorem stQ_seal (a : Addr) (v : Value) : storeVar 62 a v = stT 62 a v := rfl
attribute [local go_sem ↓] ldQ_seal stQ_seal

def pE (b : Nat) (i j : Int) : Array Value := #[.pointer (some ⟨b, 0, none⟩), .int .i64 i, .int .i64 j]
def ZQ : Array Value := #[.pointer none, .int .i64 0, .int .i64 0]
theorem pe_one (b : Nat) (i j : Int) : ((pE b i j).all fun x => x.oneCell') = true := by simp [pE, Value.oneCell']
set_option maxHeartbeats 4000000 in
theorem are_any (w : World) (b : Nat) (c : Rc) (L T : List Tt) (A : List Int) (h : RwR w b c L T A) (i j f g : Int) : Calls Tryd.prog 41 #[.agg (pE b i j), .int .i64 f, .int .i64 g] w fun e w' => e = .returned (.bool (isB T i f && isB T j g)) ∧ Below w.heap.size w w' := by
  have hb : Below w.heap.size w (w.alloc (.cells (pE b i j) 62)) := (Below.refl _ _).alloc (Nat.le_refl _) _
  have HS : Hid (∀ x y, Calls Tryd.prog 16 #[.pointer (some ⟨b, 0, none⟩), .int .i64 x, .int .i64 y] (w.alloc (.cells (pE b i j) 62)) fun e w' => e = .returned (.bool (isB T x y)) ∧ w' = (w.alloc (.cells (pE b i j) 62))) := hid_of fun x y => is_any _ b c L T A (h.below hb) x y
  have HB := hid_of hb
  unfold pE at HS HB ⊢
  clear h hb
  cases h1 : isB T i f
  · rw [Bool.false_and]
    go_enter Tryd.func41, Tryd.ntmps41
    go_wp2_with (go_at_call 16; refine (HS.out _ _).mono ?_; rintro e w1 ⟨rfl, hw⟩; rw [hw, h1]; clear hw)
    go_ret
    exact ⟨rfl, HB.out⟩
  · rw [Bool.true_and]
    go_enter Tryd.func41, Tryd.ntmps41
    go_wp2_with (go_at_call 16; refine (HS.out _ _).mono ?_; rintro e w1 ⟨rfl, hw⟩; rw [hw]; clear hw; try rw [h1])
    go_ret
    exact ⟨rfl, HB.out⟩
set_option maxHeartbeats 8000000 in
theorem elems_any (w : World) (b : Nat) (c : Rc) (L T : List Tt) (A : List Int) (h : RwR w b c L T A) (i j : Int) (hi : hasB T i = true) (hj : hasB T j = true) : Calls Tryd.prog 42 #[.agg (pE b i j)] w fun e w' => e = .returned (.agg (pE b (tyD T i).el (tyD T j).el)) ∧ Below w.heap.size w w' := by
  have i0 : 0 ≤ i ∧ i < (T.length : Int) := by simpa [hasB] using hi
  have k0 : 0 ≤ j ∧ j < (T.length : Int) := by simpa [hasB] using hj
  obtain ⟨n, rfl⟩ : ∃ n : Nat, i = (n : Int) := ⟨i.toNat, by omega⟩
  obtain ⟨m, rfl⟩ : ∃ m : Nat, j = (m : Int) := ⟨j.toNat, by omega⟩
  have hn : n < T.length := by omega
  have hm : m < T.length := by omega
  obtain ⟨W, hW⟩ : ∃ W, W = (w.alloc (.cells (pE b n m) 62)).alloc (.cells ZQ 62) := ⟨_, rfl⟩
  have hb : Below w.heap.size w W := by rw [hW]; go_grown
  have hr := h.below hb
  obtain ⟨g, off, hga, hgl, hc1⟩ := hr.ty.elem (fun _ => rfl) n hn
  obtain ⟨g', off', hga', hgl', hc2⟩ := hr.ty.elem (fun _ => rfl) m hm
  obtain ⟨rfl, rfl⟩ : g' = g ∧ off' = off := by rw [hga] at hga'; injection hga' with e; injection e with e1 e2; exact ⟨e1.symm, e2.symm⟩
  have c1 : W.cell? ⟨g', off' + n * 7 + 2, none⟩ = some (.int .i64 T[n].el) := hc1 2 _ rfl
  have c2 : W.cell? ⟨g', off' + m * 7 + 2, none⟩ = some (.int .i64 T[m].el) := hc2 2 _ rfl
  have c3 : W.cell? ⟨b, 1, none⟩ = some (.slice c.ty.a c.ty.n c.ty.c) := hr.bx.cell 1
  rw [hga, hr.ty.len] at c3
  have B1 : BA W w.heap.size 62 (pE b n m) := by rw [hW]; exact (BA.new w _ _).below ((Below.refl _ _).alloc (Nat.le_refl _) _)
  have B2 : BA W (w.heap.size + 1) 62 ZQ := by rw [hW, show w.heap.size + 1 = (w.alloc (.cells (pE b n m) 62)).heap.size by simp]; exact BA.new _ _ _
  have p0 : W.cell? ⟨w.heap.size, 0, none⟩ = some (.pointer (some ⟨b, 0, none⟩)) := B1.cell 0
  have p1 : W.cell? ⟨w.heap.size, 1, none⟩ = some (.int .i64 (n : Int)) := B1.cell 1
  have p2 : W.cell? ⟨w.heap.size, 2, none⟩ = some (.int .i64 (m : Int)) := B1.cell 2
  have hi' : (Tryd.prog.info? 62).map (·.size) = some 3 := by kernel_rfl
  obtain ⟨Z, zr, HZ⟩ := fill_at (w := w) (ty := 62) (rs := w.heap.size + 1) (zs := ZQ) (pE b T[n].el T[m].el) (B2.below (Below.refl _ _).drew) hb.drew (by omega) rfl hi' (pe_one _ _ _)
  rw [tyD_at hn, tyD_at hm]
  have q0 : (0 : Int) ≤ (n : Int) := by omega
  have q1 : (0 : Int) ≤ (m : Int) := by omega
  have q2 : (n : Int) < (T.length : Int) := by omega
  have q3 : (m : Int) < (T.length : Int) := by omega
  generalize T[n].el = en at *
  generalize T[m].el = em at *
  clear h hi hj i0 k0 hr hc1 hc2 hga hga' B1 B2 hb hgl hgl' hi' hn hm
  unfold pE at hW zr HZ ⊢
  unfold ZQ at hW
  go_enter Tryd.func42, Tryd.ntmps42
  go_wp2
  rw [← hW]
  clear hW
  go_region
  go_wp2
  exact ret_cell1 (p := 2) rfl rfl (load_blk HZ.out.1 Tryd.underlying62 rfl (by kernel_rfl)) rfl ⟨rfl, HZ.out.2.1⟩
end Go.Proofs.YtgkfnfilomjphaaDoor
