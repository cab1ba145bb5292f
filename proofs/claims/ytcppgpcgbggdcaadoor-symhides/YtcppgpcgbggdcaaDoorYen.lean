/-
  Layer 13: Encode.
-/
import Derived.Test.YtcppgpcgbggdcaaDoorYwz
import Derived.Test.YtcppgpcgbggdcaaDoorYfm
import Derived.Lib.SlBytesConst
namespace Go.Proofs.YtcppgpcgbggdcaaDoor
set_option linter.unusedVariables false
set_option linter.unusedSimpArgs false
open Go.ChangeShapes Go.WideShapes Go.ChangeAt Go.RowKit Go.Shelf
attribute [local go_sem ↓] ldS_seal stS_seal appN_seal

def markL : List Int := [67, 82, 83, 49]
/-- Bytes behind a full row, whosever it is: a new row. -/
theorem app_full {X : World} {B : Nat} (hB : B ≤ X.heap.size) (b : Addr) (l : List Int) (hc : ∀ j u, (u8s l)[j]? = some u → X.cell? (b.add j) = some u) (a : Addr) (m c : Nat) (nl : List Int) (hnl : nl.length = m) (hn : ∀ j u, (u8s nl)[j]? = some u → X.cell? (a.add j) = some u) (hm : 0 < m) (hz : l.length + m ≤ 140737488355328) :
    ∃ (v' : Value) (Y : World), (appN #[30, 30] 30 #[.slice (some b) l.length l.length, .slice (some a) m c]).run Tryd.prog X = .ok v' Y ∧ Ow Y B v' (l ++ nl) ∧ Below X.heap.size X Y := by
  obtain ⟨i0, hi0, hz0, hz1, hz2⟩ := info_parts info5
  have hr := run_append_grow (P := Tryd.prog) X 30 30 5 i0 _ Tryd.underlying30 hi0 hz0 b l.length l.length (u8s l) (by rw [u8s_len, hz1, Nat.mul_one]) hc a m c (u8s nl) (by rw [u8s_len, hz1, hnl, Nat.mul_one]) hn (by omega) (by omega) (growslice_fits (by omega) (by rw [hz2]; omega))
  have hge := grownCap_ge X (l.length + m) l.length 5
  have hcm := grownCap_le_maxLen X (l.length + m) l.length 5 (by unfold maxLen; omega)
  refine ⟨_, _, hr, ⟨?_, .inr ⟨X.heap.size, _, _, ?_, hB, heap_alloc_new X.drew _, ?_, hcm, ?_, ?_⟩⟩, ⟨rfl, rfl, rfl, by simp, fun k hk => heap_alloc_old X.drew _ hk⟩⟩
  · rw [u8s_len, Nat.mul_one]
  · rw [List.length_append, hnl]
  · rw [List.length_append, hnl]; exact hge
  · simp only [Array.size_append, List.size_toArray, size_zeroCells, u8s_len, hnl]
    have : (Value.int .u8 0).cells.size = 1 := rfl
    rw [this]; omega
  · simp only [Array.toList_append, List.append_assoc]
    rw [← List.append_assoc, ← u8s_app, Nat.mul_one, ← u8s_len (l ++ nl)]
    exact List.take_left
/-- The mark's row, as it is made: it bears the mark of constants' rows. -/
def MkB (X : World) (g : Nat) : Prop := X.heap[g]? = some (.cells #[.int .u8 67, .int .u8 82, .int .u8 83, .int .u8 49] 5 (4, 5))
theorem MkB.below {X Y : World} {g : Nat} (h : MkB X g) (hb : Below X.heap.size X Y) : MkB Y g := (hb.block g (Array.getElem?_eq_some_iff.1 h).1).trans h
theorem mk_conv (X : World) : (convert 30 30 (.slice (some ⟨X.heap.size, 0, none⟩) 4 4)).run Tryd.prog (X.alloc (.cells #[.int .u8 67, .int .u8 82, .int .u8 83, .int .u8 49] 5)) = .ok (.slice (some ⟨X.heap.size, 0, none⟩) 4 4) (X.alloc (.cells #[.int .u8 67, .int .u8 82, .int .u8 83, .int .u8 49] 5 (4, 5))) := Lib.run_convert_bytes_const (P := Tryd.prog) X 30 5 _ 4 4 Tryd.underlying30 Tryd.underlying5
theorem MkB.cell {X : World} {g : Nat} (h : MkB X g) : ∀ j u, (u8s markL)[j]? = some u → X.cell? ((⟨g, 0, none⟩ : Addr).add j) = some u := by
  intro j u hj
  have hx : ∀ k, X.cell? ⟨g, k, none⟩ = #[Value.int .u8 67, .int .u8 82, .int .u8 83, .int .u8 49][k]? := fun k => by simp [World.cell?, show X.heap[g]? = _ from h]
  match j, hj with
  | 0, hj => exact (hx 0).trans hj
  | 1, hj => exact (hx 1).trans hj
  | 2, hj => exact (hx 2).trans hj
  | 3, hj => exact (hx 3).trans hj
set_option maxHeartbeats 4000000 in
set_option maxRecDepth 20000 in
/-- The first text, behind the mark. -/
theorem text_mark (w : World) (p g : Nat) (hb : w.heap[p]? = some (.cells #[.slice (some ⟨g, 0, none⟩) 4 4] 75 (0, 0))) (hm : MkB w g) (s : ByteArray) (hs : s.size ≤ 1000) : Calls Tryd.prog 57 #[.pointer (some ⟨p, 0, none⟩), .string s] w fun e Y => e = .returned (.tuple #[]) ∧ Wr Y p (p + 1) (markL ++ textL s) ∧ Wk w Y p := by
  have hp : p < w.heap.size := (Array.getElem?_eq_some_iff.1 hb).1
  have hlen : (textL s).length ≤ 1005 := by unfold textL; rw [List.length_append, sL_len]; have := numL_len 4 ((s.size : Int) % 4294967296); omega
  have hne : textL s ≠ [] := by unfold textL; intro e; exact numL_ne _ _ (List.append_eq_nil_iff.1 e).1
  have c0 : w.cell? ⟨p, 0, none⟩ = some (.slice (some ⟨g, 0, none⟩) 4 4) := blk_cell hb 0
  have PC : Hid (∀ X, Below w.heap.size w X → Calls Tryd.prog 80 #[.slice none 0 0, .string s] X fun e w1 => ∃ g2 m c2, e = .returned (.slice (some ⟨g2, 0, none⟩) m c2) ∧ w1.cell? ⟨p, 0, none⟩ = some (.slice (some ⟨g, 0, none⟩) 4 4) ∧ ∃ va vn vc Y, (appN #[30, 30] 30 #[.slice (some ⟨g, 0, none⟩) 4 4, .slice (some ⟨g2, 0, none⟩) m c2]).run Tryd.prog w1 = .ok (.slice va vn vc) Y ∧ Y.cell? ⟨p, 0, none⟩ = some (.slice (some ⟨g, 0, none⟩) 4 4) ∧ Y.frozen? ⟨p, 0, none⟩ = false ∧ Hid (Wr (Y.setCell ⟨p, 0, none⟩ (.slice va vn vc)) p (p + 1) (markL ++ textL s) ∧ Wk w (Y.setCell ⟨p, 0, none⟩ (.slice va vn vc)) p)) := hid_of fun X hX => by
    refine (putText_any none 0 0 (fun _ => 0) s X ⟨⟨by unfold maxLen; omega, .inl rfl⟩, fun _ => ⟨rfl, rfl⟩, by omega⟩ (by omega)).mono fun e w1 hh => ?_
    obtain ⟨v1, rfl, ho1, hb1⟩ := hh
    have hw1 : Below w.heap.size w w1 := hX.trans (hb1.mono hX.size)
    rw [show bl (fun _ => 0) 0 ++ textL s = textL s from rfl] at ho1
    obtain ⟨g2, c2, rfl, hg1, hg2⟩ := ow_at ho1 hne
    have hm1 := hm.below hw1
    obtain ⟨v', Y, r1, r2, r3⟩ := app_full (X := w1) (B := w1.heap.size) (Nat.le_refl _) ⟨g, 0, none⟩ markL hm1.cell ⟨g2, 0, none⟩ (textL s).length c2 (textL s) rfl (World.ownsRow.cells ho1 (g := g2) rfl) (List.length_pos_iff.2 hne) (by simp [markL]; omega)
    have hY : Below w.heap.size w Y := hw1.trans (r3.mono hw1.size)
    have hYp : Y.heap[p]? = some (.cells #[.slice (some ⟨g, 0, none⟩) 4 4] 75 (0, 0)) := (hY.block p hp).trans hb
    obtain ⟨va, vn, vc, rfl⟩ := own_slice r2
    have hZ : (Y.setCell ⟨p, 0, none⟩ (.slice va vn vc)).heap[p]? = some (.cells #[.slice va vn vc] 75 (0, 0)) := Go.Joins.block_setCell (i := 0) hYp (.slice va vn vc)
    have hsY := hY.size
    have hs1 := hw1.size
    refine ⟨g2, _, c2, rfl, (hw1.cell (p := ⟨p, 0, none⟩) hp).trans c0, va, vn, vc, Y, r1, blk_cell hYp 0, blk_fz hYp 0, ?_⟩
    refine hid_of ⟨⟨⟨va, vn, vc, hZ, (Ow.set (own_base r2 (by omega)) (Nat.lt_succ_self p))⟩, Nat.lt_succ_self p, by simp; omega, by rw [List.length_append]; simp [markL]; omega⟩, ⟨hY.os, hY.tape, hY.output, by simpa using hsY, fun k hk hkp hf => ⟨(Below.heap_setCell _ _ _ _ hkp).trans (hY.block k hk), fun a2 n2 c3 e e2 => ?_⟩⟩⟩
    rw [hZ] at e
    injection e with e; injection e with e _; injection e with e; injection e with e _
    rw [← e] at e2
    have := own_lo r2 k e2
    omega
  clear hb hm hlen hne
  go_enter Tryd.func57, Tryd.ntmps57
  go_region_with (first
    | (go_at_call 80; refine (PC.out _ (by go_grown)).mono ?_; rintro e w1 ⟨g2, m, c2, rfl, k1, va, vn, vc, Y, r1, k2, z2, R⟩))
  all_goals
    go_wp2_with fail
    go_end0
    exact ⟨rfl, R.out⟩
theorem rdo_of {w W : World} {p k n : Nat} {s : Sl} {cs : List Value} (h : RdV w k s n cs) (hb : Below w.heap.size w W) (hp : w.heap.size ≤ p) (hf : ∀ j, j < w.heap.size → Wf W p j) : RdO W p k s n cs := by
  refine ⟨h.below hb, ?_⟩
  rcases h.at_ with h0 | ⟨g, off, h1, h2, h3⟩
  · exact .inl h0
  · refine .inr fun ad he => ?_
    rw [h1] at he
    injection he with he
    subst he
    exact ⟨Nat.lt_of_lt_of_le h2 hb.size, by show g ≠ p; omega, hf g h2⟩
set_option maxHeartbeats 4000000 in
set_option maxRecDepth 20000 in
/-- The symbols, written behind the mark by a writer in a block p of the call's own. -/
theorem symbols_mark (w W : World) (p g : Nat) (hW : Below w.heap.size w W) (hp : w.heap.size ≤ p) (hg : w.heap.size ≤ g) (hb : W.heap[p]? = some (.cells #[.slice (some ⟨g, 0, none⟩) 4 4] 75 (0, 0))) (hm : MkB W g) (c : Sc) (o : Sy) (ls : List (Pc × Sl)) (hr : SyR w c o ls) (hi : In o) :
    Calls Tryd.prog 29 #[.pointer (some ⟨p, 0, none⟩), .agg c.cells] W fun e Y => e = .returned (.tuple #[]) ∧ ∃ a n k, Y.cell? ⟨p, 0, none⟩ = some (.slice a n k) ∧ Hid ((∃ B, w.heap.size ≤ B ∧ Ow Y B (.slice a n k) (markL ++ symP o)) ∧ Below w.heap.size w Y) := by
  have hpW : p < W.heap.size := (Array.getElem?_eq_some_iff.1 hb).1
  have hgW : g < W.heap.size := (Array.getElem?_eq_some_iff.1 hm).1
  have hwf : ∀ X, X.heap[p]? = W.heap[p]? → ∀ j, j ≠ g → Wf X p j := fun X hX j hj a n c e e2 => by
    rw [hX, hb] at e
    injection e with e; injection e with e _; injection e with e; injection e with e _
    rw [← e] at e2
    injection e2 with e2
    exact hj e2.symm
  obtain ⟨W2, hW2⟩ : ∃ W2, W2 = (W.alloc (.cells #[.pointer (some ⟨p, 0, none⟩)] 73)).alloc (.cells c.cells 26) := ⟨_, rfl⟩
  have b2 : Below W.heap.size W W2 := by rw [hW2]; go_grown
  have hs2 : W2.heap.size = W.heap.size + 2 := by rw [hW2]; simp
  have ba0 : BA W2 W.heap.size 73 #[.pointer (some ⟨p, 0, none⟩)] := by rw [hW2]; exact (BA.new W _ _).below ((Below.refl _ _).alloc (Nat.le_refl _) _)
  have ba1 : BA W2 (W.heap.size + 1) 26 c.cells := by
    rw [hW2]
    have := BA.new (W.alloc (.cells #[.pointer (some ⟨p, 0, none⟩)] 73)) 26 c.cells
    rw [show (W.alloc (.cells #[.pointer (some ⟨p, 0, none⟩)] 73)).heap.size = W.heap.size + 1 by simp] at this
    exact this
  have hp2 : W2.heap[p]? = W.heap[p]? := b2.block p hpW
  have o0 : Off W2 p W.heap.size := ⟨by omega, by omega, hwf W2 hp2 _ (by omega)⟩
  have o1 : Off W2 p (W.heap.size + 1) := ⟨by omega, by omega, hwf W2 hp2 _ (by omega)⟩
  have hT : Calls Tryd.prog 57 #[.pointer (some ⟨p, 0, none⟩), .string o.nm] W2 fun e Y => e = .returned (.tuple #[]) ∧ SI W Y p (p + 1) c (markL ++ textL o.nm) := (text_mark W2 p g (hp2.trans hb) (hm.below b2) o.nm (by have := hi.nm; omega)).mono fun e Y hh =>
    ⟨hh.1, hh.2.1, (Wk.below hpW b2).trans hh.2.2, (o0.keep hh.2.2).1.trans ba0, (o0.keep hh.2.2).2, (o1.keep hh.2.2).1.trans ba1, (o1.keep hh.2.2).2⟩
  rw [hW2] at hT
  have ro : ∀ {k n : Nat} {s : Sl} {cs : List Value}, RdV w k s n cs → RdO W p k s n cs := fun h => rdo_of h hW hp (fun j hj => hwf W rfl j (by omega))
  have hso : SyO W p c o ls := ⟨hr.nm, ro hr.cs, ro hr.vs, hr.pl, ro hr.ps, fun q hq => ro (hr.pp q hq)⟩
  have hpm : ∀ x ∈ ls, x.1 ∈ o.ps := fun x hx => by rw [← hr.pl]; exact List.mem_map.2 ⟨x, hx, rfl⟩
  have hll : ls.length = o.ps.length := by rw [← hr.pl, List.length_map]
  have hcl := hi.cl
  have hvl := hi.vl
  have hpl := hi.pl
  have hnm := hi.nm
  refine (callsIn_wide.1 (symbols_z 8 (Nat.le_refl _) W p (p + 1) markL hpW c o ls hT hso (by omega) (fun x hx => by have := hi.cs x hx; omega) (by omega) (by simp [markL]) (fun i hj => ?_) (by omega) (fun x hx => by have := hi.vs x hx; omega) (fun i hj => ?_) (by omega) (fun x hx => ?_) (fun i hj => ?_))).mono fun e Y hh => ?_
  · have := sumL_le consL 250 o.cs (fun x hx => consL_le x (hi.cs x hx).1 (hi.cs x hx).2.1) i hj
    omega
  · have := sumL_le varL 50 o.vs (fun x hx => varL_le x (hi.vs x hx).1) i hj
    omega
  · have := hi.ps x.1 (hpm x hx)
    exact ⟨by omega, by omega, by omega, by omega, fun v hv => by have := this.2.2.2.2 v hv; omega⟩
  · have := sumL_le prcL 60 ls (fun x hx => prcL_le x (hi.ps x.1 (hpm x hx)).1 (hi.ps x.1 (hpm x hx)).2.1) i hj
    omega
  · obtain ⟨h1, h2, h3⟩ := hh
    obtain ⟨a, n, k, h4, h5⟩ := h2.lies
    rw [symL_P hr.pl] at h5
    refine ⟨h1, a, n, k, blk_cell h4 0, hid_of ⟨⟨p + 1, by omega, h5⟩, ?_⟩⟩
    exact ⟨h3.os.trans hW.os, h3.tape.trans hW.tape, h3.output.trans hW.output, Nat.le_trans hW.size h3.size, fun j hj => ((h3.blk j (Nat.lt_of_lt_of_le hj hW.size) (by omega) (hwf W rfl j (by omega))).1).trans (hW.block j hj)⟩
set_option maxHeartbeats 4000000 in
set_option maxRecDepth 20000 in
theorem encode_no (w : World) (hv : Vs w) (c : Sc) (o : Sy) (ls : List (Pc × Sl)) (hr : SyR w c o ls) (hn : rightP o = false) : Calls Tryd.prog 11 #[.agg c.cells] w fun e w' => e = .returned (.tuple #[.slice none 0 0, .int .i64 130]) ∧ Below w.heap.size w w' := by
  have b0 := BA.new w 26 c.cells
  have hb1 : Below w.heap.size w (w.alloc (.cells c.cells 26)) := (Below.refl _ _).alloc (Nat.le_refl _) _
  have q0 := ldT_run b0 Tryd.underlying26 rfl (by kernel_rfl)
  have RG : Hid (Calls Tryd.prog 10 #[.agg c.cells] (w.alloc (.cells c.cells 26)) fun e Y => e = .returned (.bool false) ∧ Hid (Below w.heap.size w Y)) := hid_of ((right_any _ (hv.below hb1 hv.big) c o ls (hr.below hb1)).mono fun e Y hh => ⟨by rw [hh.1, rightS_P hr.pl, hn], hb1.trans (hh.2.mono hb1.size)⟩)
  clear hr hn hv b0 hb1
  go_enter Tryd.func11, Tryd.ntmps11
  go_wp2_with (go_at_call 10; refine RG.out.mono ?_; rintro e w1 ⟨rfl, D1⟩)
  go_ret2
  exact ⟨rfl, D1.out⟩
set_option maxHeartbeats 4000000 in
set_option maxRecDepth 20000 in
theorem encode_yes (w : World) (hv : Vs w) (c : Sc) (o : Sy) (ls : List (Pc × Sl)) (hr : SyR w c o ls) (hn : rightP o = true) : Calls Tryd.prog 11 #[.agg c.cells] w fun e w' => ∃ a n k, e = .returned (.tuple #[.slice a n k, .int .i64 0]) ∧ (∃ B, w.heap.size ≤ B ∧ Ow w' B (.slice a n k) (markL ++ symP o)) ∧ Below w.heap.size w w' := by
  have b0 := BA.new w 26 c.cells
  have hb1 : Below w.heap.size w (w.alloc (.cells c.cells 26)) := (Below.refl _ _).alloc (Nat.le_refl _) _
  have q0 := ldT_run b0 Tryd.underlying26 rfl (by kernel_rfl)
  have RG : Hid (Calls Tryd.prog 10 #[.agg c.cells] (w.alloc (.cells c.cells 26)) fun e Y => e = .returned (.bool true) ∧ Hid (Below w.heap.size w Y ∧ BA Y w.heap.size 26 c.cells)) := hid_of ((right_any _ (hv.below hb1 hv.big) c o ls (hr.below hb1)).mono fun e Y hh => ⟨by rw [hh.1, rightS_P hr.pl, hn], hb1.trans (hh.2.mono hb1.size), b0.below hh.2⟩)
  have hi := in_right hn
  have MC : Hid (∀ X : World, (convert 30 30 (.slice (some ⟨X.heap.size, 0, none⟩) 4 4)).run Tryd.prog (X.alloc (.cells #[.int .u8 67, .int .u8 82, .int .u8 83, .int .u8 49] 5)) = .ok (.slice (some ⟨X.heap.size, 0, none⟩) 4 4) (X.alloc (.cells #[.int .u8 67, .int .u8 82, .int .u8 83, .int .u8 49] 5 (4, 5)))) := hid_of mk_conv
  have OB : Hid (∀ X : World, Below w.heap.size w X ∧ BA X w.heap.size 26 c.cells → (ldT 26 ⟨w.heap.size, 0, none⟩).run Tryd.prog ((X.alloc (.cells #[.int .u8 67, .int .u8 82, .int .u8 83, .int .u8 49] 5 (4, 5))).alloc (.cells #[.slice (some ⟨X.heap.size, 0, none⟩) 4 4] 75)) = .ok (.agg c.cells) ((X.alloc (.cells #[.int .u8 67, .int .u8 82, .int .u8 83, .int .u8 49] 5 (4, 5))).alloc (.cells #[.slice (some ⟨X.heap.size, 0, none⟩) 4 4] 75)) ∧ Calls Tryd.prog 29 #[.pointer (some ⟨X.heap.size + 1, 0, none⟩), .agg c.cells] ((X.alloc (.cells #[.int .u8 67, .int .u8 82, .int .u8 83, .int .u8 49] 5 (4, 5))).alloc (.cells #[.slice (some ⟨X.heap.size, 0, none⟩) 4 4] 75)) fun e Y => e = .returned (.tuple #[]) ∧ ∃ a n k, Y.cell? ⟨X.heap.size + 1, 0, none⟩ = some (.slice a n k) ∧ Hid ((∃ B, w.heap.size ≤ B ∧ Ow Y B (.slice a n k) (markL ++ symP o)) ∧ Below w.heap.size w Y)) := hid_of fun X hX => by
    have hxs := hX.1.size
    have e1 : (X.alloc (.cells #[.int .u8 67, .int .u8 82, .int .u8 83, .int .u8 49] 5 (4, 5))).heap.size = X.heap.size + 1 := by simp
    have bx : Below X.heap.size X ((X.alloc (.cells #[.int .u8 67, .int .u8 82, .int .u8 83, .int .u8 49] 5 (4, 5))).alloc (.cells #[.slice (some ⟨X.heap.size, 0, none⟩) 4 4] 75)) := ((Below.refl _ _).alloc (Nat.le_refl _) _).alloc (by simp) _
    refine ⟨ldT_run (hX.2.below bx) Tryd.underlying26 rfl (by kernel_rfl), symbols_mark w _ (X.heap.size + 1) X.heap.size (hX.1.trans (bx.mono hxs)) (by omega) hxs ?_ ?_ c o ls hr hi⟩
    · rw [← e1]; exact blk_new _ _
    · exact (Below.heap_alloc _ _ _ (by simp)).trans (blk_new X _)
  clear hr hn hv b0 hb1 hi
  go_enter Tryd.func11, Tryd.ntmps11
  go_wp2_with (first
    | (go_at_call 10; refine RG.out.mono ?_; rintro e w1 ⟨rfl, D1⟩; have q1 := MC.out w1; obtain ⟨q2, q3⟩ := OB.out w1 D1.out; have Q3 := hid_of q3; clear q3)
    | (go_at_call 29; refine Q3.out.mono ?_; rintro e w2 ⟨rfl, a, n, k, hc, HE⟩))
  go_ret2
  exact ⟨_, _, _, rfl, HE.out⟩
end Go.Proofs.YtcppgpcgbggdcaaDoor
