/-
  Layer 11: whether two types are the same.
-/
import Derived.Test.YtgkfnfilomjphaaDoorVsq
namespace Go.Proofs.YtgkfnfilomjphaaDoor
set_option linter.unusedVariables false
set_option linter.unusedSimpArgs false
open Go.ChangeShapes Go.WideShapes Go.ChangeAt Go.RowKit
attribute [local go_sem ↓] ldY_seal stY_seal

def sameB (a b : Tt) : Bool := (a.fm == b.fm) && ((a.ln == b.ln) && ((a.el == b.el) && ((a.bs == b.bs) && ((a.sz == b.sz) && ((a.lv == b.lv) && fsB a.fs b.fs)))))
set_option maxHeartbeats 8000000 in
theorem same_any (w : World) (a b : Tt) (hx : RdV w 3 a.sl a.fs.length (flat fdE a.fs)) (hy : RdV w 3 b.sl b.fs.length (flat fdE b.fs)) : Calls Tryd.prog 33 #[.agg #[.int .i64 a.fm, .int .i64 a.ln, .int .i64 a.el, .int .i64 a.bs, .slice a.sl.a a.sl.n a.sl.c, .int .i64 a.sz, .int .i64 a.lv], .agg #[.int .i64 b.fm, .int .i64 b.ln, .int .i64 b.el, .int .i64 b.bs, .slice b.sl.a b.sl.n b.sl.c, .int .i64 b.sz, .int .i64 b.lv]] w fun e w' => e = .returned (.bool (sameB a b)) ∧ Below w.heap.size w w' := by
  have hb : Below w.heap.size w ((w.alloc (.cells #[.int .i64 a.fm, .int .i64 a.ln, .int .i64 a.el, .int .i64 a.bs, .slice a.sl.a a.sl.n a.sl.c, .int .i64 a.sz, .int .i64 a.lv] 31)).alloc (.cells #[.int .i64 b.fm, .int .i64 b.ln, .int .i64 b.el, .int .i64 b.bs, .slice b.sl.a b.sl.n b.sl.c, .int .i64 b.sz, .int .i64 b.lv] 31)) := by go_grown
  have k1 := (BA.new w 31 #[.int .i64 a.fm, .int .i64 a.ln, .int .i64 a.el, .int .i64 a.bs, .slice a.sl.a a.sl.n a.sl.c, .int .i64 a.sz, .int .i64 a.lv]).below ((Below.refl _ _).alloc (Nat.le_refl _) (.cells #[.int .i64 b.fm, .int .i64 b.ln, .int .i64 b.el, .int .i64 b.bs, .slice b.sl.a b.sl.n b.sl.c, .int .i64 b.sz, .int .i64 b.lv] 31))
  have k2 := BA.new (w.alloc (.cells #[.int .i64 a.fm, .int .i64 a.ln, .int .i64 a.el, .int .i64 a.bs, .slice a.sl.a a.sl.n a.sl.c, .int .i64 a.sz, .int .i64 a.lv] 31)) 31 #[.int .i64 b.fm, .int .i64 b.ln, .int .i64 b.el, .int .i64 b.bs, .slice b.sl.a b.sl.n b.sl.c, .int .i64 b.sz, .int .i64 b.lv]
  rw [show (w.alloc (.cells #[.int .i64 a.fm, .int .i64 a.ln, .int .i64 a.el, .int .i64 a.bs, .slice a.sl.a a.sl.n a.sl.c, .int .i64 a.sz, .int .i64 a.lv] 31)).heap.size = w.heap.size + 1 by simp] at k2
  have a0 : ((w.alloc (.cells #[.int .i64 a.fm, .int .i64 a.ln, .int .i64 a.el, .int .i64 a.bs, .slice a.sl.a a.sl.n a.sl.c, .int .i64 a.sz, .int .i64 a.lv] 31)).alloc (.cells #[.int .i64 b.fm, .int .i64 b.ln, .int .i64 b.el, .int .i64 b.bs, .slice b.sl.a b.sl.n b.sl.c, .int .i64 b.sz, .int .i64 b.lv] 31)).cell? ⟨w.heap.size, 0, none⟩ = some (.int .i64 a.fm) := k1.cell 0
  have a1 : ((w.alloc (.cells #[.int .i64 a.fm, .int .i64 a.ln, .int .i64 a.el, .int .i64 a.bs, .slice a.sl.a a.sl.n a.sl.c, .int .i64 a.sz, .int .i64 a.lv] 31)).alloc (.cells #[.int .i64 b.fm, .int .i64 b.ln, .int .i64 b.el, .int .i64 b.bs, .slice b.sl.a b.sl.n b.sl.c, .int .i64 b.sz, .int .i64 b.lv] 31)).cell? ⟨w.heap.size, 1, none⟩ = some (.int .i64 a.ln) := k1.cell 1
  have a2 : ((w.alloc (.cells #[.int .i64 a.fm, .int .i64 a.ln, .int .i64 a.el, .int .i64 a.bs, .slice a.sl.a a.sl.n a.sl.c, .int .i64 a.sz, .int .i64 a.lv] 31)).alloc (.cells #[.int .i64 b.fm, .int .i64 b.ln, .int .i64 b.el, .int .i64 b.bs, .slice b.sl.a b.sl.n b.sl.c, .int .i64 b.sz, .int .i64 b.lv] 31)).cell? ⟨w.heap.size, 2, none⟩ = some (.int .i64 a.el) := k1.cell 2
  have a3 : ((w.alloc (.cells #[.int .i64 a.fm, .int .i64 a.ln, .int .i64 a.el, .int .i64 a.bs, .slice a.sl.a a.sl.n a.sl.c, .int .i64 a.sz, .int .i64 a.lv] 31)).alloc (.cells #[.int .i64 b.fm, .int .i64 b.ln, .int .i64 b.el, .int .i64 b.bs, .slice b.sl.a b.sl.n b.sl.c, .int .i64 b.sz, .int .i64 b.lv] 31)).cell? ⟨w.heap.size, 3, none⟩ = some (.int .i64 a.bs) := k1.cell 3
  have a5 : ((w.alloc (.cells #[.int .i64 a.fm, .int .i64 a.ln, .int .i64 a.el, .int .i64 a.bs, .slice a.sl.a a.sl.n a.sl.c, .int .i64 a.sz, .int .i64 a.lv] 31)).alloc (.cells #[.int .i64 b.fm, .int .i64 b.ln, .int .i64 b.el, .int .i64 b.bs, .slice b.sl.a b.sl.n b.sl.c, .int .i64 b.sz, .int .i64 b.lv] 31)).cell? ⟨w.heap.size, 5, none⟩ = some (.int .i64 a.sz) := k1.cell 5
  have a6 : ((w.alloc (.cells #[.int .i64 a.fm, .int .i64 a.ln, .int .i64 a.el, .int .i64 a.bs, .slice a.sl.a a.sl.n a.sl.c, .int .i64 a.sz, .int .i64 a.lv] 31)).alloc (.cells #[.int .i64 b.fm, .int .i64 b.ln, .int .i64 b.el, .int .i64 b.bs, .slice b.sl.a b.sl.n b.sl.c, .int .i64 b.sz, .int .i64 b.lv] 31)).cell? ⟨w.heap.size, 6, none⟩ = some (.int .i64 a.lv) := k1.cell 6
  have a4 : ((w.alloc (.cells #[.int .i64 a.fm, .int .i64 a.ln, .int .i64 a.el, .int .i64 a.bs, .slice a.sl.a a.sl.n a.sl.c, .int .i64 a.sz, .int .i64 a.lv] 31)).alloc (.cells #[.int .i64 b.fm, .int .i64 b.ln, .int .i64 b.el, .int .i64 b.bs, .slice b.sl.a b.sl.n b.sl.c, .int .i64 b.sz, .int .i64 b.lv] 31)).cell? ⟨w.heap.size, 4, none⟩ = some (.slice a.sl.a a.sl.n a.sl.c) := k1.cell 4
  have b0 : ((w.alloc (.cells #[.int .i64 a.fm, .int .i64 a.ln, .int .i64 a.el, .int .i64 a.bs, .slice a.sl.a a.sl.n a.sl.c, .int .i64 a.sz, .int .i64 a.lv] 31)).alloc (.cells #[.int .i64 b.fm, .int .i64 b.ln, .int .i64 b.el, .int .i64 b.bs, .slice b.sl.a b.sl.n b.sl.c, .int .i64 b.sz, .int .i64 b.lv] 31)).cell? ⟨w.heap.size + 1, 0, none⟩ = some (.int .i64 b.fm) := k2.cell 0
  have b1 : ((w.alloc (.cells #[.int .i64 a.fm, .int .i64 a.ln, .int .i64 a.el, .int .i64 a.bs, .slice a.sl.a a.sl.n a.sl.c, .int .i64 a.sz, .int .i64 a.lv] 31)).alloc (.cells #[.int .i64 b.fm, .int .i64 b.ln, .int .i64 b.el, .int .i64 b.bs, .slice b.sl.a b.sl.n b.sl.c, .int .i64 b.sz, .int .i64 b.lv] 31)).cell? ⟨w.heap.size + 1, 1, none⟩ = some (.int .i64 b.ln) := k2.cell 1
  have b2 : ((w.alloc (.cells #[.int .i64 a.fm, .int .i64 a.ln, .int .i64 a.el, .int .i64 a.bs, .slice a.sl.a a.sl.n a.sl.c, .int .i64 a.sz, .int .i64 a.lv] 31)).alloc (.cells #[.int .i64 b.fm, .int .i64 b.ln, .int .i64 b.el, .int .i64 b.bs, .slice b.sl.a b.sl.n b.sl.c, .int .i64 b.sz, .int .i64 b.lv] 31)).cell? ⟨w.heap.size + 1, 2, none⟩ = some (.int .i64 b.el) := k2.cell 2
  have b3 : ((w.alloc (.cells #[.int .i64 a.fm, .int .i64 a.ln, .int .i64 a.el, .int .i64 a.bs, .slice a.sl.a a.sl.n a.sl.c, .int .i64 a.sz, .int .i64 a.lv] 31)).alloc (.cells #[.int .i64 b.fm, .int .i64 b.ln, .int .i64 b.el, .int .i64 b.bs, .slice b.sl.a b.sl.n b.sl.c, .int .i64 b.sz, .int .i64 b.lv] 31)).cell? ⟨w.heap.size + 1, 3, none⟩ = some (.int .i64 b.bs) := k2.cell 3
  have b5 : ((w.alloc (.cells #[.int .i64 a.fm, .int .i64 a.ln, .int .i64 a.el, .int .i64 a.bs, .slice a.sl.a a.sl.n a.sl.c, .int .i64 a.sz, .int .i64 a.lv] 31)).alloc (.cells #[.int .i64 b.fm, .int .i64 b.ln, .int .i64 b.el, .int .i64 b.bs, .slice b.sl.a b.sl.n b.sl.c, .int .i64 b.sz, .int .i64 b.lv] 31)).cell? ⟨w.heap.size + 1, 5, none⟩ = some (.int .i64 b.sz) := k2.cell 5
  have b6 : ((w.alloc (.cells #[.int .i64 a.fm, .int .i64 a.ln, .int .i64 a.el, .int .i64 a.bs, .slice a.sl.a a.sl.n a.sl.c, .int .i64 a.sz, .int .i64 a.lv] 31)).alloc (.cells #[.int .i64 b.fm, .int .i64 b.ln, .int .i64 b.el, .int .i64 b.bs, .slice b.sl.a b.sl.n b.sl.c, .int .i64 b.sz, .int .i64 b.lv] 31)).cell? ⟨w.heap.size + 1, 6, none⟩ = some (.int .i64 b.lv) := k2.cell 6
  have b4 : ((w.alloc (.cells #[.int .i64 a.fm, .int .i64 a.ln, .int .i64 a.el, .int .i64 a.bs, .slice a.sl.a a.sl.n a.sl.c, .int .i64 a.sz, .int .i64 a.lv] 31)).alloc (.cells #[.int .i64 b.fm, .int .i64 b.ln, .int .i64 b.el, .int .i64 b.bs, .slice b.sl.a b.sl.n b.sl.c, .int .i64 b.sz, .int .i64 b.lv] 31)).cell? ⟨w.heap.size + 1, 4, none⟩ = some (.slice b.sl.a b.sl.n b.sl.c) := k2.cell 4
  have EQ := hid_of (equalF_any ((w.alloc (.cells #[.int .i64 a.fm, .int .i64 a.ln, .int .i64 a.el, .int .i64 a.bs, .slice a.sl.a a.sl.n a.sl.c, .int .i64 a.sz, .int .i64 a.lv] 31)).alloc (.cells #[.int .i64 b.fm, .int .i64 b.ln, .int .i64 b.el, .int .i64 b.bs, .slice b.sl.a b.sl.n b.sl.c, .int .i64 b.sz, .int .i64 b.lv] 31)) a.fs b.fs a.sl b.sl (hx.below hb) (hy.below hb))
  have HB := hid_of hb
  clear hx hy k1 k2 hb
  by_cases e0 : a.fm = b.fm
  rotate_left
  · have q0 : (a.fm == b.fm) = false := by simpa using e0
    have r0 : decide (a.fm = b.fm) = false := decide_eq_false e0
    have HF : Hid (sameB a b = false) := hid_of (by unfold sameB; simp only [q0]; rfl)
    clear e0
    go_enter Tryd.func33, Tryd.ntmps33
    go_wp2
    go_ret
    exact ⟨ret_bool HF.out.symm, HB.out⟩
  have q0 : (a.fm == b.fm) = true := by simpa using e0
  have r0 : decide (a.fm = b.fm) = true := decide_eq_true e0
  clear e0
  by_cases e1 : a.ln = b.ln
  rotate_left
  · have q1 : (a.ln == b.ln) = false := by simpa using e1
    have r1 : decide (a.ln = b.ln) = false := decide_eq_false e1
    have HF : Hid (sameB a b = false) := hid_of (by unfold sameB; simp only [q0, q1]; rfl)
    clear e1
    go_enter Tryd.func33, Tryd.ntmps33
    go_wp2
    go_ret
    exact ⟨ret_bool HF.out.symm, HB.out⟩
  have q1 : (a.ln == b.ln) = true := by simpa using e1
  have r1 : decide (a.ln = b.ln) = true := decide_eq_true e1
  clear e1
  by_cases e2 : a.el = b.el
  rotate_left
  · have q2 : (a.el == b.el) = false := by simpa using e2
    have r2 : decide (a.el = b.el) = false := decide_eq_false e2
    have HF : Hid (sameB a b = false) := hid_of (by unfold sameB; simp only [q0, q1, q2]; rfl)
    clear e2
    go_enter Tryd.func33, Tryd.ntmps33
    go_wp2
    go_ret
    exact ⟨ret_bool HF.out.symm, HB.out⟩
  have q2 : (a.el == b.el) = true := by simpa using e2
  have r2 : decide (a.el = b.el) = true := decide_eq_true e2
  clear e2
  by_cases e3 : a.bs = b.bs
  rotate_left
  · have q3 : (a.bs == b.bs) = false := by simpa using e3
    have r3 : decide (a.bs = b.bs) = false := decide_eq_false e3
    have HF : Hid (sameB a b = false) := hid_of (by unfold sameB; simp only [q0, q1, q2, q3]; rfl)
    clear e3
    go_enter Tryd.func33, Tryd.ntmps33
    go_wp2
    go_ret
    exact ⟨ret_bool HF.out.symm, HB.out⟩
  have q3 : (a.bs == b.bs) = true := by simpa using e3
  have r3 : decide (a.bs = b.bs) = true := decide_eq_true e3
  clear e3
  by_cases e4 : a.sz = b.sz
  rotate_left
  · have q4 : (a.sz == b.sz) = false := by simpa using e4
    have r4 : decide (a.sz = b.sz) = false := decide_eq_false e4
    have HF : Hid (sameB a b = false) := hid_of (by unfold sameB; simp only [q0, q1, q2, q3, q4]; rfl)
    clear e4
    go_enter Tryd.func33, Tryd.ntmps33
    go_wp2
    go_ret
    exact ⟨ret_bool HF.out.symm, HB.out⟩
  have q4 : (a.sz == b.sz) = true := by simpa using e4
  have r4 : decide (a.sz = b.sz) = true := decide_eq_true e4
  clear e4
  by_cases e5 : a.lv = b.lv
  rotate_left
  · have q5 : (a.lv == b.lv) = false := by simpa using e5
    have r5 : decide (a.lv = b.lv) = false := decide_eq_false e5
    have HF : Hid (sameB a b = false) := hid_of (by unfold sameB; simp only [q0, q1, q2, q3, q4, q5]; rfl)
    clear e5
    go_enter Tryd.func33, Tryd.ntmps33
    go_wp2
    go_ret
    exact ⟨ret_bool HF.out.symm, HB.out⟩
  have q5 : (a.lv == b.lv) = true := by simpa using e5
  have r5 : decide (a.lv = b.lv) = true := decide_eq_true e5
  clear e5
  have HF : Hid (sameB a b = fsB a.fs b.fs) := hid_of (by unfold sameB; simp only [q0, q1, q2, q3, q4, q5, Bool.true_and])
  generalize fsB a.fs b.fs = z at *
  go_enter Tryd.func33, Tryd.ntmps33
  go_wp2_with (go_at_call 40; refine EQ.out.mono ?_; rintro e w1 ⟨rfl, hb1⟩)
  go_ret
  exact ⟨ret_bool HF.out.symm, HB.out.trans (hb1.mono HB.out.size)⟩
end Go.Proofs.YtgkfnfilomjphaaDoor
