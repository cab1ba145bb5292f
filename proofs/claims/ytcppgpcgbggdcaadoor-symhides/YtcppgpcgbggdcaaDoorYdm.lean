/-
  Layer 13: Decode, behind the mark.
-/
import Derived.Test.YtcppgpcgbggdcaaDoorYde
namespace Go.Proofs.YtcppgpcgbggdcaaDoor
set_option linter.unusedVariables false
set_option linter.unusedSimpArgs false
open Go.ChangeShapes Go.WideShapes Go.ChangeAt Go.RowKit
attribute [local go_sem ↓] ldS_seal stS_seal

/-- What stands behind the reading. -/
structure DE (w X : World) (ga : Nat) (a : Option Addr) (len cap : Nat) (f : Nat → Int) (c : Sc) (o : Sy) (s : St) : Prop where
  t2 : BA X w.heap.size 26 Sc.zero.cells
  og : BA X ga 26 c.cells
  rd : Rdr X (w.heap.size + 1) a len cap f s
  ob : SyAt X (w.heap.size + 3) c o
  bel : Below w.heap.size w X
  lo : w.heap.size + 1 < ga
theorem DE.below {w X Y : World} {ga : Nat} {a : Option Addr} {len cap : Nat} {f : Nat → Int} {c : Sc} {o : Sy} {s : St} (h : DE w X ga a len cap f c o s) (hb : Below X.heap.size X Y) : DE w Y ga a len cap f c o s :=
  ⟨h.t2.below hb, h.og.below hb, h.rd.below hb, h.ob.below hb, h.bel.trans (hb.mono h.bel.size), h.lo⟩
theorem DE.put {w X : World} {ga : Nat} {a : Option Addr} {len cap : Nat} {f : Nat → Int} {c : Sc} {o : Sy} {s : St} (h : DE w X ga a len cap f c o s) (c2 : Sc) : ∃ Z, (stT 26 ⟨w.heap.size, 0, none⟩ (.agg c2.cells)).run Tryd.prog X = .ok () Z ∧ Z.cell? ⟨w.heap.size + 1, 1, none⟩ = some (.int .i64 (s.p : Int)) ∧ Hid (BA Z w.heap.size 26 c2.cells ∧ Below w.heap.size w Z ∧ SyAt Z (w.heap.size + 3) c o) := by
  obtain ⟨Z, z1, z2, z3⟩ := stT_run c2.cells h.t2 rfl (by kernel_rfl) (Sc.one _)
  exact ⟨Z, z1, (World.cell?_of_block (a := ⟨w.heap.size + 1, 1, none⟩) (z3.blk (w.heap.size + 1) h.rd.bl (show ¬ (w.heap.size + 1 = w.heap.size) by omega))).trans h.rd.c1, z2, ⟨z3.os.trans h.bel.os, z3.tape.trans h.bel.tape, z3.output.trans h.bel.output, Nat.le_trans h.bel.size z3.size, fun k hk => (z3.blk k (Nat.lt_of_lt_of_le hk h.bel.size) (by omega)).trans (h.bel.block k hk)⟩, h.ob.tq z3 (fun k hk _ => by omega)⟩
theorem stage (w : World) (b off len cap : Nat) (f : Nat → Int) (hs : Src w (some ⟨b, off, none⟩) len cap f) (hc : len ≤ cap) (h4 : 4 ≤ len) (hl : len ≤ 1048576) :
    Calls Tryd.prog 41 #[.pointer (some ⟨w.heap.size + 1, 0, none⟩)] ((w.alloc (.cells Sc.zero.cells 26)).alloc (.cells #[.slice (some ⟨b, off, none⟩) len cap, .int .i64 4, .bool false] 85)) fun en Y => ∃ c Z, en = .returned (.agg (Sc.cells c)) ∧ (stT 26 ⟨Y.heap.size, 0, none⟩ (.agg c.cells)).run Tryd.prog (Y.alloc (.cells Sc.zero.cells 26)) = .ok () Z ∧ Hid (DE w Z Y.heap.size (some ⟨b, off, none⟩) len cap f c (symS f len ⟨4, false⟩).1 (symS f len ⟨4, false⟩).2) := by
  have hbw : b < w.heap.size := by
    rcases hs.rd.2 with h0 | ⟨b', off', e1, h2⟩
    · omega
    · injection e1 with e1; injection e1 with e1 e2; subst e1 e2
      exact World.block_lt_of_cell? w ⟨b, off + 0, none⟩ (h2 0 (by omega)).1
  obtain ⟨X, hX⟩ : ∃ X, X = w.alloc (.cells Sc.zero.cells 26) := ⟨_, rfl⟩
  have hxs : X.heap.size = w.heap.size + 1 := by rw [hX]; simp
  have hb0 : Below w.heap.size w X := by rw [hX]; exact (Below.refl _ _).alloc (Nat.le_refl _) _
  have t0 : BA X w.heap.size 26 Sc.zero.cells := by rw [hX]; exact BA.new w _ _
  rw [← hX]
  obtain ⟨X1, hX1⟩ : ∃ X1, X1 = X.alloc (.cells #[.slice (some ⟨b, off, none⟩) len cap, .int .i64 4, .bool false] 85) := ⟨_, rfl⟩
  have hx1 : X1.heap.size = w.heap.size + 2 := by rw [hX1]; simp [hxs]
  have hb1 : Below X.heap.size X X1 := by rw [hX1]; exact (Below.refl _ _).alloc (Nat.le_refl _) _
  have hw1 : Below w.heap.size w X1 := hb0.trans (hb1.mono (by omega))
  have hR : Rdr X1 (w.heap.size + 1) (some ⟨b, off, none⟩) len cap f ⟨4, false⟩ := by
    refine ⟨?_, hs.below hw1, hc, h4, hl, fun ad hd => ?_⟩
    · rw [hX1, ← hxs]; exact blk_new _ _
    · injection hd with hd; subst hd; exact ⟨by simp; omega, by simp; omega⟩
  rw [← hX1]
  refine (symbols_of X1 (w.heap.size + 1) len cap _ f ⟨4, false⟩ hR).mono fun en Y hh => ?_
  obtain ⟨c, h1, h2, h3, h4⟩ := hh
  have hYs := h4.size
  obtain ⟨Z, z1, z2, z3⟩ := stT_run c.cells (BA.new Y 26 Sc.zero.cells) rfl (by kernel_rfl) (Sc.one _)
  have bY : Below Y.heap.size Y Z := ((Below.refl _ _).alloc (Nat.le_refl _) _).trans (z3.bel (by simp) (Nat.le_refl _))
  have ne : ∀ k, k < w.heap.size + 1 → ¬ (some k = some (w.heap.size + 1)) := fun k hk e => by injection e with e; omega
  refine ⟨c, Z, h1, z1, ?_, z2, h3.below bY, ?_, ?_, by omega⟩
  · exact BA.below ((h4.block _ (by omega) (ne _ (by omega))).trans (t0.below hb1)) bY
  · rw [hx1] at h2; exact h2.below bY
  · have h6 : Below w.heap.size w Y := ⟨h4.os.trans hw1.os, h4.tape.trans hw1.tape, h4.output.trans hw1.output, by omega, fun k hk => (h4.block k (by omega) (ne _ (by omega))).trans (hw1.block k hk)⟩
    exact h6.trans (bY.mono h6.size)
set_option maxHeartbeats 8000000 in
set_option maxRecDepth 20000 in
theorem decode_stuck (w : World) (hv0 : Vs w) (b off len cap : Nat) (f : Nat → Int) (h : Src w (some ⟨b, off, none⟩) len cap f) (hc : len ≤ cap) (hl : 4 ≤ len) (hl2 : len ≤ 1048576) (hm : strOfNums (bl f 4) = markY) (hst0 : (symS f len ⟨4, false⟩).2.st = true) : Calls Tryd.prog 17 #[.slice (some ⟨b, off, none⟩) len cap] w (PostE w f len) := by
  have hR : decS f len = (((symS f len ⟨4, false⟩).2.p : Int), 131) := by unfold decS; rw [if_pos ⟨hl2, hl, hm⟩, if_pos (Or.inl hst0)]
  have hpl : (symS f len ⟨4, false⟩).2.p = (symS f len ⟨4, false⟩).2.p := rfl
  have d1 : decide ((1048576 : Int) < (len : Int)) = false := decide_eq_false (by omega)
  have d2 : ¬ 1048576 < len := by omega
  have d3 : decide ((len : Int) < 4) = false := decide_eq_false (by omega)
  have d4 : ¬ len < 4 := by omega
  have d5 : (4 : Int) ≤ (cap : Int) := by omega
  have d6 : 4 ≤ cap := by omega
  have hv := conv4 h (X := w.alloc (.cells Sc.zero.cells 26)) (by go_grown) (by omega)
  rw [hm] at hv
  have ST := hid_of (stage w b off len cap f h hc hl hl2)
  have RT : Hid (∀ X ga c, DE w X ga (some ⟨b, off, none⟩) len cap f c (symS f len ⟨4, false⟩).1 (symS f len ⟨4, false⟩).2 → Calls Tryd.prog 10 #[.agg c.cells] X fun e Y => e = .returned (.bool (rightP (symS f len ⟨4, false⟩).1)) ∧ Hid (DE w Y ga (some ⟨b, off, none⟩) len cap f c (symS f len ⟨4, false⟩).1 (symS f len ⟨4, false⟩).2)) := hid_of fun X ga c hX => by
    obtain ⟨l, hl'⟩ := hX.ob.rd hl2
    exact (right_any X (hv0.call hX.bel) c _ l hl').mono fun e Y hh => ⟨by rw [← rightS_P hl'.pl]; exact hh.1, hX.below hh.2⟩
  clear h hm hv0
  unfold markY at hv
  generalize rightP (symS f len ⟨4, false⟩).1 = rp at *
  unfold PostE
  rw [hR]
  generalize (symS f len ⟨4, false⟩).1 = oo at *
  generalize (symS f len ⟨4, false⟩).2 = ss at *
  obtain ⟨sp, sst⟩ := ss
  simp only at *
  simp only [Sc.cells, Sc.zero] at hv ST
  subst hst0
  go_enter Tryd.func17, Tryd.ntmps17
  go_wp2_with (first
    | (go_at_call 41; refine ST.out.mono ?_; rintro en w3 ⟨c, Z, rfl, hst, HD⟩; have k1 := HD.out.rd.c1; have k2 := HD.out.rd.c2; have lo3 := HD.out.lo; obtain ⟨Z2, z1, z2, HZ⟩ := (HD.out.below (Below.refl _ _).drew).put Sc.zero; simp only [Sc.cells, Sc.zero] at z1))
  go_region
  all_goals
    go_wp2_with fail
    refine ret_cell_tmp2 (p := 2) (q := 3) (r := 4) rfl rfl (load_blk HZ.out.1 Tryd.underlying26 rfl (by kernel_rfl)) rfl ?_
    exact ⟨Sc.zero, rfl, HZ.out.2.1, fun _ => rfl, fun e => by simp at e⟩
set_option maxHeartbeats 8000000 in
set_option maxRecDepth 20000 in
theorem decode_less (w : World) (hv0 : Vs w) (b off len cap : Nat) (f : Nat → Int) (h : Src w (some ⟨b, off, none⟩) len cap f) (hc : len ≤ cap) (hl : 4 ≤ len) (hl2 : len ≤ 1048576) (hm : strOfNums (bl f 4) = markY) (hst0 : (symS f len ⟨4, false⟩).2.st = false) (hp0 : (symS f len ⟨4, false⟩).2.p < len) : Calls Tryd.prog 17 #[.slice (some ⟨b, off, none⟩) len cap] w (PostE w f len) := by
  have hR : decS f len = (((symS f len ⟨4, false⟩).2.p : Int), 131) := by unfold decS; rw [if_pos ⟨hl2, hl, hm⟩, if_pos (Or.inr hp0)]
  have hpl : (symS f len ⟨4, false⟩).2.p = (symS f len ⟨4, false⟩).2.p := rfl
  have d1 : decide ((1048576 : Int) < (len : Int)) = false := decide_eq_false (by omega)
  have d2 : ¬ 1048576 < len := by omega
  have d3 : decide ((len : Int) < 4) = false := decide_eq_false (by omega)
  have d4 : ¬ len < 4 := by omega
  have d5 : (4 : Int) ≤ (cap : Int) := by omega
  have d6 : 4 ≤ cap := by omega
  have hv := conv4 h (X := w.alloc (.cells Sc.zero.cells 26)) (by go_grown) (by omega)
  rw [hm] at hv
  have ST := hid_of (stage w b off len cap f h hc hl hl2)
  have RT : Hid (∀ X ga c, DE w X ga (some ⟨b, off, none⟩) len cap f c (symS f len ⟨4, false⟩).1 (symS f len ⟨4, false⟩).2 → Calls Tryd.prog 10 #[.agg c.cells] X fun e Y => e = .returned (.bool (rightP (symS f len ⟨4, false⟩).1)) ∧ Hid (DE w Y ga (some ⟨b, off, none⟩) len cap f c (symS f len ⟨4, false⟩).1 (symS f len ⟨4, false⟩).2)) := hid_of fun X ga c hX => by
    obtain ⟨l, hl'⟩ := hX.ob.rd hl2
    exact (right_any X (hv0.call hX.bel) c _ l hl').mono fun e Y hh => ⟨by rw [← rightS_P hl'.pl]; exact hh.1, hX.below hh.2⟩
  clear h hm hv0
  unfold markY at hv
  generalize rightP (symS f len ⟨4, false⟩).1 = rp at *
  unfold PostE
  rw [hR]
  generalize (symS f len ⟨4, false⟩).1 = oo at *
  generalize (symS f len ⟨4, false⟩).2 = ss at *
  obtain ⟨sp, sst⟩ := ss
  simp only at *
  simp only [Sc.cells, Sc.zero] at hv ST
  subst hst0
  have d7 : decide ((sp : Int) < (len : Int)) = true := decide_eq_true (by omega)
  go_enter Tryd.func17, Tryd.ntmps17
  go_wp2_with (first
    | (go_at_call 41; refine ST.out.mono ?_; rintro en w3 ⟨c, Z, rfl, hst, HD⟩; have k1 := HD.out.rd.c1; have k2 := HD.out.rd.c2; have lo3 := HD.out.lo; obtain ⟨Z2, z1, z2, HZ⟩ := (HD.out.below (Below.refl _ _).drew).put Sc.zero; simp only [Sc.cells, Sc.zero] at z1))
  go_region
  all_goals
    go_wp2_with fail
    refine ret_cell_tmp2 (p := 2) (q := 3) (r := 4) rfl rfl (load_blk HZ.out.1 Tryd.underlying26 rfl (by kernel_rfl)) rfl ?_
    exact ⟨Sc.zero, rfl, HZ.out.2.1, fun _ => rfl, fun e => by simp at e⟩
set_option maxHeartbeats 8000000 in
set_option maxRecDepth 20000 in
theorem decode_form (w : World) (hv0 : Vs w) (b off len cap : Nat) (f : Nat → Int) (h : Src w (some ⟨b, off, none⟩) len cap f) (hc : len ≤ cap) (hl : 4 ≤ len) (hl2 : len ≤ 1048576) (hm : strOfNums (bl f 4) = markY) (hst0 : (symS f len ⟨4, false⟩).2.st = false) (hp0 : ¬ (symS f len ⟨4, false⟩).2.p < len) (hr0 : rightP (symS f len ⟨4, false⟩).1 = false) : Calls Tryd.prog 17 #[.slice (some ⟨b, off, none⟩) len cap] w (PostE w f len) := by
  have hR : decS f len = (0, 130) := by unfold decS; rw [if_pos ⟨hl2, hl, hm⟩, if_neg (by rw [hst0]; simp; omega), if_neg (by rw [hr0]; simp)]
  have hpl : (symS f len ⟨4, false⟩).2.p = (symS f len ⟨4, false⟩).2.p := rfl
  have d1 : decide ((1048576 : Int) < (len : Int)) = false := decide_eq_false (by omega)
  have d2 : ¬ 1048576 < len := by omega
  have d3 : decide ((len : Int) < 4) = false := decide_eq_false (by omega)
  have d4 : ¬ len < 4 := by omega
  have d5 : (4 : Int) ≤ (cap : Int) := by omega
  have d6 : 4 ≤ cap := by omega
  have hv := conv4 h (X := w.alloc (.cells Sc.zero.cells 26)) (by go_grown) (by omega)
  rw [hm] at hv
  have ST := hid_of (stage w b off len cap f h hc hl hl2)
  have RT : Hid (∀ X ga c, DE w X ga (some ⟨b, off, none⟩) len cap f c (symS f len ⟨4, false⟩).1 (symS f len ⟨4, false⟩).2 → Calls Tryd.prog 10 #[.agg c.cells] X fun e Y => e = .returned (.bool (rightP (symS f len ⟨4, false⟩).1)) ∧ Hid (DE w Y ga (some ⟨b, off, none⟩) len cap f c (symS f len ⟨4, false⟩).1 (symS f len ⟨4, false⟩).2)) := hid_of fun X ga c hX => by
    obtain ⟨l, hl'⟩ := hX.ob.rd hl2
    exact (right_any X (hv0.call hX.bel) c _ l hl').mono fun e Y hh => ⟨by rw [← rightS_P hl'.pl]; exact hh.1, hX.below hh.2⟩
  clear h hm hv0
  unfold markY at hv
  generalize rightP (symS f len ⟨4, false⟩).1 = rp at *
  unfold PostE
  rw [hR]
  generalize (symS f len ⟨4, false⟩).1 = oo at *
  generalize (symS f len ⟨4, false⟩).2 = ss at *
  obtain ⟨sp, sst⟩ := ss
  simp only at *
  simp only [Sc.cells, Sc.zero] at hv ST
  subst hst0
  subst hr0
  have d7 : decide ((sp : Int) < (len : Int)) = false := decide_eq_false (by omega)
  go_enter Tryd.func17, Tryd.ntmps17
  go_wp2_with (first
    | (go_at_call 41; refine ST.out.mono ?_; rintro en w3 ⟨c, Z, rfl, hst, HD⟩; have k1 := HD.out.rd.c1; have k2 := HD.out.rd.c2; have lo3 := HD.out.lo; have ld := ldT_run HD.out.og Tryd.underlying26 rfl (by kernel_rfl))
    | (go_at_call 10; refine (RT.out _ _ _ HD.out).mono ?_; rintro en w4 ⟨rfl, HE⟩; obtain ⟨Z2, z1, z2, HZ⟩ := HE.out.put Sc.zero; simp only [Sc.cells, Sc.zero] at z1))
  refine ret_cell_tmp2 (p := 2) (q := 3) (r := 4) rfl rfl (load_blk HZ.out.1 Tryd.underlying26 rfl (by kernel_rfl)) rfl ?_
  exact ⟨Sc.zero, rfl, HZ.out.2.1, fun _ => rfl, fun e => by simp at e⟩
set_option maxHeartbeats 8000000 in
set_option maxRecDepth 20000 in
theorem decode_good (w : World) (hv0 : Vs w) (b off len cap : Nat) (f : Nat → Int) (h : Src w (some ⟨b, off, none⟩) len cap f) (hc : len ≤ cap) (hl : 4 ≤ len) (hl2 : len ≤ 1048576) (hm : strOfNums (bl f 4) = markY) (hst0 : (symS f len ⟨4, false⟩).2.st = false) (hp0 : ¬ (symS f len ⟨4, false⟩).2.p < len) (hr0 : rightP (symS f len ⟨4, false⟩).1 = true) : Calls Tryd.prog 17 #[.slice (some ⟨b, off, none⟩) len cap] w (PostE w f len) := by
  have hR : decS f len = (0, 0) := by unfold decS; rw [if_pos ⟨hl2, hl, hm⟩, if_neg (by rw [hst0]; simp; omega), if_pos hr0]
  have hpl : (symS f len ⟨4, false⟩).2.p = (symS f len ⟨4, false⟩).2.p := rfl
  have d1 : decide ((1048576 : Int) < (len : Int)) = false := decide_eq_false (by omega)
  have d2 : ¬ 1048576 < len := by omega
  have d3 : decide ((len : Int) < 4) = false := decide_eq_false (by omega)
  have d4 : ¬ len < 4 := by omega
  have d5 : (4 : Int) ≤ (cap : Int) := by omega
  have d6 : 4 ≤ cap := by omega
  have hv := conv4 h (X := w.alloc (.cells Sc.zero.cells 26)) (by go_grown) (by omega)
  rw [hm] at hv
  have ST := hid_of (stage w b off len cap f h hc hl hl2)
  have RT : Hid (∀ X ga c, DE w X ga (some ⟨b, off, none⟩) len cap f c (symS f len ⟨4, false⟩).1 (symS f len ⟨4, false⟩).2 → Calls Tryd.prog 10 #[.agg c.cells] X fun e Y => e = .returned (.bool (rightP (symS f len ⟨4, false⟩).1)) ∧ Hid (DE w Y ga (some ⟨b, off, none⟩) len cap f c (symS f len ⟨4, false⟩).1 (symS f len ⟨4, false⟩).2)) := hid_of fun X ga c hX => by
    obtain ⟨l, hl'⟩ := hX.ob.rd hl2
    exact (right_any X (hv0.call hX.bel) c _ l hl').mono fun e Y hh => ⟨by rw [← rightS_P hl'.pl]; exact hh.1, hX.below hh.2⟩
  clear h hm hv0
  unfold markY at hv
  generalize rightP (symS f len ⟨4, false⟩).1 = rp at *
  unfold PostE
  rw [hR]
  generalize (symS f len ⟨4, false⟩).1 = oo at *
  generalize (symS f len ⟨4, false⟩).2 = ss at *
  obtain ⟨sp, sst⟩ := ss
  simp only at *
  simp only [Sc.cells, Sc.zero] at hv ST
  subst hst0
  subst hr0
  have d7 : decide ((sp : Int) < (len : Int)) = false := decide_eq_false (by omega)
  go_enter Tryd.func17, Tryd.ntmps17
  go_wp2_with (first
    | (go_at_call 41; refine ST.out.mono ?_; rintro en w3 ⟨c, Z, rfl, hst, HD⟩; have k1 := HD.out.rd.c1; have k2 := HD.out.rd.c2; have lo3 := HD.out.lo; have ld := ldT_run HD.out.og Tryd.underlying26 rfl (by kernel_rfl))
    | (go_at_call 10; refine (RT.out _ _ _ HD.out).mono ?_; rintro en w4 ⟨rfl, HE⟩; have ld2 := ldT_run HE.out.og Tryd.underlying26 rfl (by kernel_rfl); obtain ⟨Z2, z1, z2, HZ⟩ := HE.out.put c))
  refine ret_cell_tmp2 (p := 2) (q := 3) (r := 4) rfl rfl (load_blk HZ.out.1 Tryd.underlying26 rfl (by kernel_rfl)) rfl ?_
  exact ⟨c, rfl, HZ.out.2.1, fun e => absurd rfl e, fun _ => ⟨_, by omega, HZ.out.2.2⟩⟩
theorem decode_any (w : World) (hv : Vs w) (a : Option Addr) (len cap : Nat) (f : Nat → Int) (h : Src w a len cap f) (hc : len ≤ cap) : Calls Tryd.prog 17 #[.slice a len cap] w (PostE w f len) := by
  by_cases h1 : 1048576 < len
  · exact decode_long w a len cap f h1 (by have := h.fit; omega)
  by_cases h2 : len < 4
  · exact decode_short w a len cap f h2
  obtain ⟨b, off, rfl⟩ := h.some (by omega)
  by_cases hm : strOfNums (bl f 4) = markY
  · cases hst : (symS f len ⟨4, false⟩).2.st
    · by_cases hp : (symS f len ⟨4, false⟩).2.p < len
      · exact decode_less w hv b off len cap f h hc (by omega) (by omega) hm hst hp
      · cases hr : rightP (symS f len ⟨4, false⟩).1
        · exact decode_form w hv b off len cap f h hc (by omega) (by omega) hm hst hp hr
        · exact decode_good w hv b off len cap f h hc (by omega) (by omega) hm hst hp hr
    · exact decode_stuck w hv b off len cap f h hc (by omega) (by omega) hm hst
  · exact decode_mark w b off len cap f h hc (by omega) (by omega) hm
end Go.Proofs.YtcppgpcgbggdcaaDoor
