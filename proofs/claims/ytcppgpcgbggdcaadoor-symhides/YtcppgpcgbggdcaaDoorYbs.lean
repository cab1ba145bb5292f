/-
  Layer 13: the first eight types and their sizes.
-/
import Derived.Test.YtcppgpcgbggdcaaDoorYbk
import Derived.Deep.LoopGhost
namespace Go.Proofs.YtcppgpcgbggdcaaDoor
set_option linter.unusedVariables false
set_option linter.unusedSimpArgs false
open Go.ChangeShapes Go.WideShapes Go.ChangeAt Go.RowKit

def sizesL : List Int := [0, 4, 1, 1, 1, 4, 4, 0]
/-- The table of sizes lies as its initialiser lays it. -/
structure Vs (w : World) : Prop where
  big : 1 ≤ w.heap.size
  sz : ∀ i, i < 8 → w.cell? ⟨0, i, none⟩ = some (.int .i64 (sizesL.getD i 0))
theorem Vs.below {w w' : World} {n : Nat} (h : Vs w) (hb : Below n w w') (hn : 1 ≤ n) : Vs w' := ⟨Nat.le_trans h.big hb.size, fun i hi => (hb.cell (p := ⟨0, i, none⟩) (show 0 < n by omega)).trans (h.sz i hi)⟩
theorem Vs.call {w w' : World} (h : Vs w) (hb : Below w.heap.size w w') : Vs w' := h.below hb h.big
def tEnc (i : Nat) (sz : Int) : Array Value := #[.int .i64 (i : Int), .int .i64 0, .int .i64 0, .int .i64 0, .slice none 0 0, .int .i64 sz, .int .i64 0]
theorem ldY_seal (a : Addr) : loadVar 102 a = ldT 102 a := rfl
theorem stY_seal (a : Addr) (v : Value) : storeVar 102 a v = stT 102 a v := rfl
attribute [local go_sem ↓] ldY_seal stY_seal
set_option maxHeartbeats 4000000 in
theorem basic_any (i : Nat) (hi : i < 8) (w : World) (hv : Vs w) : Calls Tryd.prog 78 #[.int .i64 (i : Int)] w fun e w' => e = .returned (.agg (tEnc i (sizesL.getD i 0))) ∧ Below w.heap.size w w' := by
  have hb := hv.big
  have ha : Below w.heap.size w (w.alloc (.cells (tEnc 0 0) 102)) := (Below.refl _ _).alloc (Nat.le_refl _) _
  have k0 := (hv.call ha).sz i hi
  obtain ⟨Z, z1, z2, z3⟩ := stT_run (w := w.alloc (.cells (tEnc 0 0) 102)) (tEnc i (sizesL.getD i 0)) (BA.new w _ (tEnc 0 0)) rfl (by kernel_rfl) (by simp [tEnc, Value.oneCell'])
  have HB : Hid (Below w.heap.size w Z) := ha.trans (z3.bel ha.size (Nat.le_refl _))
  have HZ := hid_of z2
  have i0 : (0 : Int) ≤ (i : Int) := by omega
  have i1 : (i : Int) < 8 := by omega
  generalize sizesL.getD i 0 = sz at *
  clear z2 z3 hv ha
  unfold tEnc at z1 k0
  simp only [Int.ofNat_zero] at z1 k0
  go_enter Tryd.func78, Tryd.ntmps78
  go_wp2
  exact ret_cell1 (p := 2) rfl rfl (load_blk HZ.out Tryd.underlying102 rfl (by kernel_rfl)) rfl ⟨rfl, HB.out⟩
theorem putK_size : ∀ (vs : List Value) (k : Nat) (Y : Array Value), (putK Y k vs).size = Y.size
  | [], _, _ => rfl
  | v :: r, k, Y => by rw [putK, putK_size r]; simp
theorem putK_out : ∀ (vs : List Value) (k : Nat) (Y : Array Value) (m : Nat), m < k ∨ k + vs.length ≤ m → (putK Y k vs)[m]? = Y[m]?
  | [], _, _, _, _ => rfl
  | v :: r, k, Y, m, h => by
    rw [putK, putK_out r (k + 1) _ m (by simp at h; omega)]
    rw [Array.getElem?_setIfInBounds_ne (by simp at h; omega)]
theorem putK_in : ∀ (vs : List Value) (k : Nat) (Y : Array Value) (j : Nat) (hj : j < vs.length), k + vs.length ≤ Y.size → (putK Y k vs)[k + j]? = some vs[j]
  | v :: r, k, Y, 0, _, h => by
    rw [putK, putK_out r (k + 1) _ (k + 0) (.inl (by omega))]
    simp only [Nat.add_zero, List.getElem_cons_zero]
    rw [Array.getElem?_setIfInBounds_self_of_lt (by simp at h; omega)]
  | v :: r, k, Y, j + 1, hj, h => by
    rw [putK]
    have := putK_in r (k + 1) (Y.setIfInBounds k v) j (by simpa using hj) (by simp at h ⊢; omega)
    rw [show k + (j + 1) = k + 1 + j by omega, this]
    rfl
/-- A struct stored in the midst of a row. -/
theorem stT_mid {w : World} {g o : Nat} {ty t : TypeId} {ds : Array Value} (cs : Array Value) (h : w.heap[g]? = some (.cells ds t (0, 0))) (hs : o + cs.size ≤ ds.size) (hi : (Tryd.prog.info? ty).map (·.size) = some cs.size) (h1 : (cs.all fun x => x.oneCell') = true) : ∃ Y, (stT ty ⟨g, o, none⟩ (.agg cs)).run Tryd.prog w = .ok () Y ∧ Y.heap[g]? = some (.cells (putK ds o cs.toList) t (0, 0)) ∧ Tq w Y (fun k => k = g) := by
  have hr := run_storeVar_mid (P := Tryd.prog) w g o ty cs (fun j hj => by
    rw [blk_cell h (o + j)]
    have hj2 : o + j < ds.size := by omega
    exact ⟨by rw [Array.getElem?_eq_getElem hj2]; rfl, blk_fz h _⟩) hi h1
  exact ⟨_, hr, cells_put cs.toList o w _ h, tq_cells _ _ _⟩
theorem Below.of_tq' {w X Y : World} {g : Nat} (h : Below w.heap.size w X) (t : Tq X Y (fun k => k = g)) (hg : w.heap.size ≤ g) : Below w.heap.size w Y := ⟨t.os.trans h.os, t.tape.trans h.tape, t.output.trans h.output, Nat.le_trans h.size t.size, fun k hk => (t.blk k (Nat.lt_of_lt_of_le hk h.size) (by omega)).trans (h.block k hk)⟩
/-- The row of the first eight types, so far. -/
structure BI (w X : World) (i : Nat) : Prop where
  bl : ∃ ds, X.heap[w.heap.size]? = some (.cells ds 102 (0, 0)) ∧ ds.size = 56 ∧ ∀ j, j < i → ds[j * 7 + 5]? = some (.int .i64 (sizesL.getD j 0))
  be : Below w.heap.size w X
theorem BI.step {w X Y : World} {i : Nat} (h : BI w X i) (hi : i < 8) (hb : Below X.heap.size X Y) : ∃ Z, (stT 102 ⟨w.heap.size, i * 7, none⟩ (.agg (tEnc i (sizesL.getD i 0)))).run Tryd.prog Y = .ok () Z ∧ BI w Z (i + 1) := by
  obtain ⟨ds, h1, h2, h3⟩ := h.bl
  have hl := (Array.getElem?_eq_some_iff.1 h1).1
  obtain ⟨Z, z1, z2, z3⟩ := stT_mid (ty := 102) (o := i * 7) (tEnc i (sizesL.getD i 0)) ((hb.block _ hl).trans h1) (by rw [h2]; show i * 7 + 7 ≤ 56; omega) (by kernel_rfl) (by simp [tEnc, Value.oneCell'])
  refine ⟨Z, z1, ⟨_, z2, by rw [putK_size, h2], fun j hj => ?_⟩, ?_⟩
  · by_cases e : j = i
    · subst e
      rw [putK_in _ (j * 7) ds 5 (by show 5 < 7; omega) (by rw [h2]; show j * 7 + 7 ≤ 56; omega)]
      rfl
    · rw [putK_out _ (i * 7) ds (j * 7 + 5) (.inl (by omega))]
      exact h3 j (by omega)
  · have hX := h.be.trans (hb.mono h.be.size)
    exact Below.of_tq' hX z3 (Nat.le_refl _)
def mkN (t : TypeId) (l c : Value) : Sem Value := Instr.makeSlice t l c
theorem mkN_seal (t : TypeId) (l c : Value) : Instr.makeSlice t l c = mkN t l c := rfl
attribute [local go_sem ↓] mkN_seal
theorem info_typ : (Tryd.prog.info? 102).map (fun i => (i.zero, i.size, i.bytes)) = some (some (.agg (tEnc 0 0)), 7, 72) := by kernel_rfl
theorem make_types (w : World) : ∃ Y, (mkN 45 (.int .i64 8) (.int .i64 8)).run Tryd.prog w = .ok (.slice (some ⟨w.heap.size, 0, none⟩) 8 8) Y ∧ BI w Y 0 := by
  obtain ⟨i0, hi0, hz0, hz1, hz2⟩ := info_parts info_typ
  obtain ⟨Y, h1, h2, h3⟩ := run_make_full (P := Tryd.prog) w w.heap.size 45 102 i0 (.agg (tEnc 0 0)) 7 Tryd.underlying45 hi0 hz0 hz1 .i64 .i64 8 (by rw [hz2]; omega) (by unfold maxLen; omega) (Nat.le_refl _)
  refine ⟨Y, h1, ?_, ⟨h3.os, h3.tape, h3.output, h3.size, fun k hk => h3.block k hk (by simp)⟩⟩
  rcases h2.2 with ⟨hv, h0⟩ | ⟨g, cap, cur, hv, _, hb, hc, _, hs, hx⟩
  · cases hv
  · injection hv with e1 e2 e3
    injection e1 with e1; injection e1 with e1
    subst e1
    exact ⟨cur, hb, by rw [hs]; omega, fun j hj => by omega⟩
/-- What Basic answers: a row of eight types, of which the sizes count here. -/
def PostB (w : World) (e : Ending) (w' : World) : Prop := ∃ g, e = .returned (.slice (some ⟨g, 0, none⟩) 8 8) ∧ w.heap.size ≤ g ∧ g < w'.heap.size ∧ (∀ j, j < 8 → w'.cell? ⟨g, j * 7 + 5, none⟩ = some (.int .i64 (sizesL.getD j 0))) ∧ Below w.heap.size w w'
set_option maxHeartbeats 4000000 in
set_option maxRecDepth 20000 in
theorem basics_any (w : World) (hv : Vs w) : Calls Tryd.prog 53 #[] w (PostB w) := by
  obtain ⟨Y, y1, y2⟩ := make_types w
  have HB := hid_of y2
  have HV : Hid (∀ X i, BI w X i ∧ i < 8 → Calls Tryd.prog 78 #[.int .i64 (i : Int)] X fun e X2 => e = .returned (.agg (tEnc i (sizesL.getD i 0))) ∧ ∃ Z, (stT 102 ⟨w.heap.size, i * 7, none⟩ (.agg (tEnc i (sizesL.getD i 0)))).run Tryd.prog X2 = .ok () Z ∧ Hid (BI w Z (i + 1))) := hid_of fun X i hX => (basic_any i hX.2 X (hv.call hX.1.be)).mono fun e X2 hh => by
    obtain ⟨Z, z1, z2⟩ := hX.1.step hX.2 hh.2
    exact ⟨hh.1, Z, z1, z2⟩
  clear y2 hv
  unfold tEnc at HV
  go_enter Tryd.func53, Tryd.ntmps53
  go_wp2
  go_loopg [2, 6] 8 (fun gf s2 s6 wx => ∃ i : Nat, s6 = .int .i64 (i : Int) ∧ i + gf = 8 ∧ Hid (BI w wx i))
  case atStart => exact ⟨0, rfl, by omega, HB.out⟩
  case round =>
    obtain ⟨i, rfl, hi, HH⟩ := hrel
    clear HB
    by_cases hlt : i < 8
    · obtain ⟨g', rfl⟩ : ∃ g', gk = g' + 1 := ⟨gk - 1, by omega⟩
      have d1 : decide ((i : Int) < 8) = true := decide_eq_true (by omega)
      have i0 : (0 : Int) ≤ (i : Int) := by omega
      have i1 : (i : Int) < 8 := by omega
      have PC := HV.out wr i ⟨HH.out, hlt⟩
      generalize sizesL.getD i 0 = sz at PC
      have HP := hid_of PC
      clear PC HV
      go_wp2_with (go_at_call 78; refine HP.out.mono ?_; rintro e w2 ⟨rfl, Z, z1, HZ⟩)
      go_roundg g'
      case measure => omega
      case rel => exact ⟨i + 1, by simp, by omega, HZ.out⟩
    · have d1 : decide ((i : Int) < 8) = false := decide_eq_false (by omega)
      obtain rfl : i = 8 := by omega
      go_wp2
      go_ret
      obtain ⟨ds, h1, h2, h3⟩ := HH.out.bl
      exact ⟨_, rfl, Nat.le_refl _, (Array.getElem?_eq_some_iff.1 h1).1, fun j hj => by rw [blk_cell h1]; exact h3 j hj, HH.out.be⟩
end Go.Proofs.YtcppgpcgbggdcaaDoor
