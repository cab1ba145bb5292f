/-
  Layer 11: arrays that are made, the basic types; whether two types are the same.
-/
import Derived.Test.YtgkfnfilomjphaaDoorVsn
namespace Go.Proofs.YtgkfnfilomjphaaDoor
set_option linter.unusedVariables false
set_option linter.unusedSimpArgs false
open Go.ChangeShapes Go.WideShapes Go.ChangeAt Go.RowKit
attribute [local go_sem ↓] ldY_seal stY_seal

def sizesL : List Int := [0, 4, 1, 1, 1, 4, 4, 0]
/-- The table of sizes lies as its initialiser lays it. -/
structure Vs (w : World) : Prop where
  big : 1 ≤ w.heap.size
  sz : ∀ i, i < 8 → w.cell? ⟨0, i, none⟩ = some (.int .i64 (sizesL.getD i 0))
theorem Vs.below {w w' : World} {n : Nat} (h : Vs w) (hb : Below n w w') (hn : 1 ≤ n) : Vs w' := ⟨Nat.le_trans h.big hb.size, fun i hi => (hb.cell (p := ⟨0, i, none⟩) (show 0 < n by omega)).trans (h.sz i hi)⟩
theorem Vs.call {w w' : World} (h : Vs w) (hb : Below w.heap.size w w') : Vs w' := h.below hb h.big
def basT (i : Nat) : Tt := ⟨(i : Int), 0, 0, 0, ⟨none, 0, 0⟩, sizesL.getD i 0, 0, []⟩
set_option maxHeartbeats 4000000 in
theorem basic_any (i : Nat) (hi : i < 8) (w : World) (hv : Vs w) : Calls Tryd.prog 25 #[.int .i64 (i : Int)] w fun e w' => e = .returned (.agg (ttE (basT i))) ∧ Below w.heap.size w w' := by
  have ha : Below w.heap.size w (w.alloc (.cells ZT 31)) := (Below.refl _ _).alloc (Nat.le_refl _) _
  have k0 := (hv.call ha).sz i hi
  obtain ⟨sz, hsz⟩ : ∃ sz, sz = sizesL.getD i 0 := ⟨_, rfl⟩
  have hbs : basT i = ⟨(i : Int), 0, 0, 0, ⟨none, 0, 0⟩, sz, 0, []⟩ := by rw [hsz]; rfl
  rw [← hsz] at k0
  rw [hbs]
  obtain ⟨Z, zr, HZ⟩ := one_place w (ttE ⟨(i : Int), 0, 0, 0, ⟨none, 0, 0⟩, sz, 0, []⟩) rfl (tt_one _)
  simp only [ttE, ZT] at zr k0
  have i0 : (0 : Int) ≤ (i : Int) := by omega
  have i1 : (i : Int) < 8 := by omega
  clear hv ha hsz hbs
  go_enter Tryd.func25, Tryd.ntmps25
  go_wp2
  exact ret_cell1 (p := 2) rfl rfl (load_blk HZ.out.1 Tryd.underlying31 rfl (by kernel_rfl)) rfl ⟨rfl, HZ.out.2⟩
def arrT (n el sz : Int) : Tt := ⟨8, n, el, 0, ⟨none, 0, 0⟩, sz, 0, []⟩
def arrP (T : List Tt) (A : List Int) (n el : Int) : Tt × Int := if n < 1 ∨ 16384 < n ∨ thB T A el = false then (zeroT, 110) else heldP (arrT n el (n * (tyD T el).sz))
set_option maxHeartbeats 8000000 in
theorem array_any (w : World) (b : Nat) (c : Rc) (L T : List Tt) (A : List Int) (h : RwR w b c L T A) (hsz : ∀ t ∈ T, 0 ≤ t.sz ∧ t.sz ≤ 16384) (n el : Int) : Calls Tryd.prog 24 #[.pointer (some ⟨b, 0, none⟩), .int .i64 n, .int .i64 el] w (PostT w (arrP T A n el)) := by
  have hb0 : Below w.heap.size w (w.alloc (.cells ZT 31)) := (Below.refl _ _).alloc (Nat.le_refl _) _
  have HS := hid_of (isThings_any (w.alloc (.cells ZT 31)) b c L T A (h.below hb0) el)
  obtain ⟨N, nr, HN⟩ := one_place w (ttE zeroT) rfl (tt_one _)
  simp only [ttE, zeroT, ZT] at nr HS
  unfold arrP
  by_cases h1 : n < 1
  · have d1 : decide (n < 1) = true := decide_eq_true h1
    rw [if_pos (.inl h1)]
    clear h HS hb0
    show Calls _ _ _ _ (PostT w (zeroT, 110))
    go_enter Tryd.func24, Tryd.ntmps24
    go_wp2
    refine ret_cell_tmp (p := 6) (q := 7) rfl rfl (load_blk HN.out.1 Tryd.underlying31 rfl (by kernel_rfl)) rfl ?_
    exact ⟨rfl, HN.out.2⟩
  have d1 : decide (n < 1) = false := decide_eq_false h1
  by_cases h2 : 16384 < n
  · have d2 : decide (16384 < n) = true := decide_eq_true h2
    rw [if_pos (.inr (.inl h2))]
    clear h HS hb0
    show Calls _ _ _ _ (PostT w (zeroT, 110))
    go_enter Tryd.func24, Tryd.ntmps24
    go_wp2
    refine ret_cell_tmp (p := 6) (q := 7) rfl rfl (load_blk HN.out.1 Tryd.underlying31 rfl (by kernel_rfl)) rfl ?_
    exact ⟨rfl, HN.out.2⟩
  have d2 : decide (16384 < n) = false := decide_eq_false h2
  cases hb : thB T A el
  · rw [hb] at HS
    rw [if_pos (.inr (.inr rfl))]
    clear h hb0 hb
    show Calls _ _ _ _ (PostT w (zeroT, 110))
    go_enter Tryd.func24, Tryd.ntmps24
    go_wp2_with (go_at_call 28; refine HS.out.mono ?_; rintro e w1 ⟨rfl, hw⟩; rw [hw]; clear hw)
    refine ret_cell_tmp (p := 6) (q := 7) rfl rfl (load_blk HN.out.1 Tryd.underlying31 rfl (by kernel_rfl)) rfl ?_
    exact ⟨rfl, HN.out.2⟩
  · rw [hb] at HS
    rw [if_neg (by simp; omega)]
    unfold thB hasB at hb
    simp only [Bool.and_eq_true, decide_eq_true_eq] at hb
    obtain ⟨q, rfl⟩ : ∃ q : Nat, el = (q : Int) := ⟨el.toNat, by omega⟩
    have hq : q < T.length := by omega
    rw [tyD_at hq]
    have hs1 := hsz _ (List.getElem_mem hq)
    have c1 : (w.alloc (.cells ZT 31)).cell? ⟨b, 1, none⟩ = some (.slice c.ty.a c.ty.n c.ty.c) := (h.bx.below hb0).cell 1
    rw [h.ty.len] at c1
    obtain ⟨g, off, hga, hg, hc⟩ := (h.ty.below hb0).elem (fun _ => rfl) q hq
    have c2 : (w.alloc (.cells ZT 31)).cell? ⟨g, off + q * 7 + 5, none⟩ = some (.int .i64 T[q].sz) := hc 5 _ rfl
    rw [hga] at c1
    have j0 : (0 : Int) ≤ (q : Int) := by omega
    have j1 : (q : Int) < (T.length : Int) := by omega
    generalize T[q].sz = sz at *
    have m0 : 0 ≤ n * sz := Int.mul_nonneg (by omega) hs1.1
    have m1 : n * sz ≤ 16384 * 16384 := Int.mul_le_mul (by omega) hs1.2 hs1.1 (by omega)
    have e1 : IntKind.i64.wrap (n * sz) = n * sz := by rw [IntWalk.i64_left, IntWalk.wrap64_in] <;> omega
    have HH : Hid (∀ X, Below w.heap.size w X → BA X w.heap.size 31 ZT → Calls Tryd.prog 30 #[.agg (ttE (arrT n (q : Int) (n * sz)))] X fun e Y => e = .returned (.tuple #[.agg (ttE (heldP (arrT n (q : Int) (n * sz))).1), .int .i64 (heldP (arrT n (q : Int) (n * sz))).2]) ∧ ∃ Z, (stT 31 ⟨w.heap.size, 0, none⟩ (.agg (ttE (heldP (arrT n (q : Int) (n * sz))).1))).run Tryd.prog Y = .ok () Z ∧ Hid (BA Z w.heap.size 31 (ttE (heldP (arrT n (q : Int) (n * sz))).1) ∧ Below w.heap.size w Z)) := hid_of fun X hX kX => (held_any X (arrT n (q : Int) (n * sz))).mono fun e Y hh => by
      obtain ⟨Z, z, HZ⟩ := fill_at (w := w) (rs := w.heap.size) (ttE (heldP (arrT n (q : Int) (n * sz))).1) (kX.below hh.2) (hX.trans (hh.2.mono hX.size)) (Nat.le_refl _) rfl (by kernel_rfl) (tt_one _)
      exact ⟨hh.1, Z, z, HZ.out.1, HZ.out.2.1⟩
    have K0 := hid_of (And.intro hb0 (BA.new w 31 ZT))
    generalize heldP (arrT n (q : Int) (n * sz)) = hp at *
    simp only [ttE, arrT, ZT] at HH c1 c2 K0
    show Calls _ _ _ _ (fun e w' => e = .returned (.tuple #[.agg (ttE hp.1), .int .i64 hp.2]) ∧ Below w.heap.size w w')
    clear h hc hga hb hs1 m0 m1 hb0 hsz
    go_enter Tryd.func24, Tryd.ntmps24
    go_wp2_with (first
      | (go_at_call 30; refine (HH.out _ K0.out.1 K0.out.2).mono ?_; rintro e w2 ⟨rfl, Z, z, HZ⟩)
      | (go_at_call 28; refine HS.out.mono ?_; rintro e w1 ⟨rfl, hw⟩; rw [hw]; clear hw))
    refine ret_cell_tmp (p := 6) (q := 7) rfl rfl (load_blk HZ.out.1 Tryd.underlying31 rfl (by kernel_rfl)) rfl ?_
    exact ⟨rfl, HZ.out.2⟩
end Go.Proofs.YtgkfnfilomjphaaDoor
