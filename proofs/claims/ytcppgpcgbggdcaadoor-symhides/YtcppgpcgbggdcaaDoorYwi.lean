/-
  Layer 13: rows that are written: the iterators that write how many there are, and hand out each.
-/
import Derived.Test.YtcppgpcgbggdcaaDoorYwc
import Derived.RangeFuncNested
import Derived.RangeFuncBound
import Derived.RangeFuncCalls
import Derived.RangeFuncLeaves
import Derived.Shelf.Abstract
import Derived.Shelf.RegionOpen
import Derived.WalkKit
import Derived.OwnWalkIn
import Derived.TacticsInMore
import Derived.LoopNIn
import Derived.LoopIn
namespace Go.Proofs.YtcppgpcgbggdcaaDoor
set_option linter.unusedVariables false
set_option linter.unusedSimpArgs false
open Go.ChangeShapes Go.WideShapes Go.ChangeAt Go.RowKit Go.Shelf
attribute [local go_sem] Oper.semAt_some
attribute [local go_sem ↓] ldC_seal stC_seal ldV_seal stV_seal ldP_seal stP_seal

/-- A block that the writer leaves as it is. -/
def Off (w : World) (p k : Nat) : Prop := k < w.heap.size ∧ k ≠ p ∧ Wf w p k
theorem Off.keep {w W : World} {p k : Nat} (h : Off w p k) (hk : Wk w W p) : W.heap[k]? = w.heap[k]? ∧ Off W p k := by
  obtain ⟨h1, h2⟩ := hk.blk k h.1 h.2.1 h.2.2
  exact ⟨h1, Nat.lt_of_lt_of_le h.1 hk.size, h.2.1, h2⟩
/-- A row that is read, in a block that the writer leaves. -/
structure RdO (w : World) (p k : Nat) (s : Sl) (n : Nat) (cs : List Value) : Prop where
  rd : RdV w k s n cs
  off : n = 0 ∨ ∀ ad, s.a = some ad → Off w p ad.block
theorem RdO.keep {w W : World} {p k n : Nat} {s : Sl} {cs : List Value} (h : RdO w p k s n cs) (hk : Wk w W p) : RdV W k s n cs := by
  refine ⟨h.rd.len, h.rd.all, h.rd.most, ?_⟩
  rcases h.rd.at_ with h0 | ⟨g, off, h1, h2, h3⟩
  · exact .inl h0
  · rcases h.off with h0 | h4
    · exact .inl h0
    · have := h4 _ h1
      exact .inr ⟨g, off, h1, Nat.lt_of_lt_of_le h2 hk.size, fun j u hu => (World.cell?_of_block (a := ⟨g, off + j, none⟩) (this.keep hk).1).trans (h3 j u hu)⟩
theorem Wk.gb {w W W' : World} {p : Nat} (hk : Wk w W p) (hp : p < w.heap.size) (hg : W.grownBy W' none) : Wk w W' p := hk.trans (Wk.below (Nat.lt_of_lt_of_le hp hk.size) ⟨hg.os, hg.tape, hg.output, hg.size, fun k hk => hg.block k hk (by simp)⟩)
theorem Wr.gb {W W' : World} {p B : Nat} {l : List Int} (h : Wr W p B l) (hg : W.grownBy W' none) : Wr W' p B l := h.below ⟨hg.os, hg.tape, hg.output, hg.size, fun k hk => hg.block k hk (by simp)⟩
def sumL {α : Type} (enc : α → List Int) (xs : List α) (i : Nat) : List Int := ((xs.take i).map enc).flatten
theorem sumL_succ {α : Type} (enc : α → List Int) (xs : List α) (i : Nat) (h : i < xs.length) : sumL enc xs (i + 1) = sumL enc xs i ++ enc xs[i] := by
  unfold sumL
  rw [← take_snoc xs i h, List.map_append, List.flatten_append]
  simp
/-- One of them, copied into a box. -/
theorem wbox_con {W : World} {s : Sl} {xs : List (Cn)} (h : RdV W 5 s xs.length (flat cEnc xs)) (i : Nat) (hi : i < xs.length) : ∃ g off Z, s.a = some ⟨g, off, none⟩ ∧ (ldT 53 ⟨g, off + i * 5, none⟩).run Tryd.prog W = .ok (.agg (cEnc xs[i])) W ∧ (stT 53 ⟨W.heap.size, 0, none⟩ (.agg (cEnc xs[i]))).run Tryd.prog (W.alloc (.cells zeroC 53)) = .ok () Z ∧ (ldT 53 ⟨W.heap.size, 0, none⟩).run Tryd.prog Z = .ok (.agg (cEnc xs[i])) Z ∧ Hid (W.grownBy Z none) := by
  obtain ⟨g, off, ha, hg, hc⟩ := h.elem (fun _ => rfl) i hi
  have hl0 := ldT_mid (ty := 53) hc Tryd.underlying53 rfl (by kernel_rfl)
  obtain ⟨Z, z1, z2, z3⟩ := stT_run (w := W.alloc (.cells zeroC 53)) (cEnc xs[i]) (BA.new W _ zeroC) rfl (by kernel_rfl) (by simp [cEnc, Value.oneCell'])
  exact ⟨g, off, Z, ha, hl0, z1, ldT_run z2 Tryd.underlying53 rfl (by kernel_rfl), gb_put z3⟩
set_option maxRecDepth 100000 in
set_option maxHeartbeats 16000000 in
theorem written_con (n : Nat) (hn : 2 ≤ n) (l₀ p B bw br : Nat) (l : List Int) (s : Sl) (xs : List (Cn)) (w : World) (h : Wr w p B l) (hr : RdO w p 5 s xs.length (flat cEnc xs)) (enc : Cn → List Int) (M : Nat)
    (hbw : BA w bw 73 #[.pointer (some ⟨p, 0, none⟩)]) (ow : Off w p bw) (hbr : BA w br 22 #[.slice s.a s.n s.c]) (or : Off w p br) (hlen : xs.length ≤ 1000) (hm : ∀ i, i ≤ xs.length → l.length + 5 + (sumL enc xs i).length ≤ 700000000)
    (hY : ∀ i (hi : i < xs.length) W1, Wr W1 p B (l ++ numL 4 (xs.length : Int) ++ sumL enc xs i) → Wk w W1 p → YieldAt Fence.wide (n - 1) Tryd.prog l₀ #[.agg (cEnc xs[i])] W1 fun e W' => e = .returned (.bool true) ∧ Wr W' p B (l ++ numL 4 (xs.length : Int) ++ sumL enc xs i ++ enc xs[i]) ∧ Wk W1 W' p) :
    CallsIn Fence.wide n Tryd.prog 81 #[.func (.yield l₀) #[] #[], .pointer (some ⟨bw, 0, none⟩), .pointer (some ⟨br, 0, none⟩)] w fun e W' => (∃ v, e = .returned v) ∧ Wr W' p B (l ++ numL 4 (xs.length : Int) ++ sumL enc xs xs.length) ∧ Wk w W' p := by
  have hn1 : 1 ≤ n := by omega
  have hp := h.plt
  have hsn := hr.rd.len
  have hm0 := hm 0 (Nat.zero_le _)
  have c1 : w.cell? ⟨bw, 0, none⟩ = some (.pointer (some ⟨p, 0, none⟩)) := hbw.cell 0
  have c2 : w.cell? ⟨br, 0, none⟩ = some (.slice s.a xs.length s.c) := by rw [← hsn]; exact hbr.cell 0
  have NB : Hid (Calls Tryd.prog 62 #[.pointer (some ⟨p, 0, none⟩), .int .i64 (xs.length : Int)] w fun e Y => e = .returned (.tuple #[]) ∧ Y.cell? ⟨br, 0, none⟩ = some (.slice s.a xs.length s.c) ∧ Hid (Wr Y p B (l ++ numL 4 (xs.length : Int)) ∧ Wk w Y p)) := hid_of ((number_z w p B l h (xs.length : Int) (by omega) (by omega) (by omega)).mono fun e Y hh => ⟨hh.1, (World.cell?_of_block (a := ⟨br, 0, none⟩) (or.keep hh.2.2).1).trans c2, hh.2.1, hh.2.2⟩)
  have E1 : Hid (∀ i (hi : i < xs.length) X, Wk w X p → ∃ g off Z, s.a = some ⟨g, off, none⟩ ∧ (ldT 53 ⟨g, off + i * 5, none⟩).run Tryd.prog X = .ok (.agg (cEnc xs[i])) X ∧ (stT 53 ⟨X.heap.size, 0, none⟩ (.agg (cEnc xs[i]))).run Tryd.prog (X.alloc (.cells zeroC 53)) = .ok () Z ∧ (ldT 53 ⟨X.heap.size, 0, none⟩).run Tryd.prog Z = .ok (.agg (cEnc xs[i])) Z ∧ Hid (X.grownBy Z none)) := hid_of fun i hi X hX => wbox_con (hr.keep hX) i hi
  have HY := hid_of hY
  have HP := hid_of hp
  clear h hr hbw hbr ow or hY hm hm0 hp
  unfold zeroC at E1
  obtain ⟨q1, s1, t1⟩ := s
  dsimp only at *
  clear hsn
  refine callsIn_of_wp Tryd.func81 rfl trivial ?_ rfl
  simp only [Tryd.ntmps81, List.size_toArray, List.length_cons, List.length_nil, Nat.reduceAdd, Nat.reduceSub, Array.replicate_succ, Array.replicate_zero, List.push_toArray, List.append_toArray, List.nil_append, List.cons_append]
  gi_wp2_with (refine ⟨trivial, ?_⟩; gi_at_call 62; refine (callsIn_wide.2 NB.out).mono ?_; rintro e w1 ⟨rfl, k2, H1⟩)
  gi_loopw [5, 12] (fun p5 pp wr => ∃ i : Nat, pp = .int .i64 (i : Int) ∧ i ≤ xs.length ∧ Hid (Wr wr p B (l ++ numL 4 (xs.length : Int) ++ sumL enc xs i) ∧ Wk w wr p)) (fun p5 pp wr => xs.length - (ivOf pp).toNat)
  case atStart => exact ⟨0, rfl, Nat.zero_le _, hid_of ⟨by have := H1.out.1; simpa [sumL] using this, H1.out.2⟩⟩
  case round =>
    obtain ⟨i, rfl, hi, HI⟩ := hrel
    clear H1 NB
    by_cases hlt : i < xs.length
    · have d1 : decide ((i : Int) < (xs.length : Int)) = true := decide_eq_true (by omega)
      have j0 : (0 : Int) ≤ (i : Int) := by omega
      have j1 : (i : Int) < (xs.length : Int) := by omega
      obtain ⟨g, off, Z, rfl, l0, s0, l1, hg⟩ := E1.out i hlt wr HI.out.2
      have hz := HI.out.1.gb hg.out
      have hzk := HI.out.2.gb HP.out hg.out
      obtain ⟨fn, tmps, assign, body, hy, hR⟩ := HY.out i hlt Z hz hzk
      have HK := hid_of hzk
      have HS := hid_of (sumL_succ enc xs i hlt)
      have hw : wrap64 ((i : Int) + 1) = (i : Int) + 1 := by rw [IntWalk.wrap64_in] <;> omega
      generalize cEnc xs[i] = cc at l0 s0 l1 hy
      clear HI hg hz hzk
      gi_wp2
      refine hR.mono ?_
      rintro e W3 ⟨rfl, hJ3, hk3⟩
      rw [List.append_assoc _ (sumL enc xs i), ← HS.out] at hJ3
      have H3 := hid_of (And.intro hJ3 (HK.out.trans hk3))
      clear hJ3 hk3 HK HS l0 s0 l1 hy hR
      gi_wp2
      go_roundw
      case rel => exact ⟨i + 1, by simp [hw], by omega, H3.out⟩
      case measure => simp [ivOf, hw]; omega
    · have d1 : decide ((i : Int) < (xs.length : Int)) = false := decide_eq_false (by omega)
      obtain rfl : i = xs.length := by omega
      gi_wp2
      go_end0
      exact ⟨⟨_, rfl⟩, HI.out⟩
/-- One of them, copied into a box. -/
theorem wbox_var {W : World} {s : Sl} {xs : List (Vr)} (h : RdV W 5 s xs.length (flat vEnc xs)) (i : Nat) (hi : i < xs.length) : ∃ g off Z, s.a = some ⟨g, off, none⟩ ∧ (ldT 69 ⟨g, off + i * 5, none⟩).run Tryd.prog W = .ok (.agg (vEnc xs[i])) W ∧ (stT 69 ⟨W.heap.size, 0, none⟩ (.agg (vEnc xs[i]))).run Tryd.prog (W.alloc (.cells zeroV 69)) = .ok () Z ∧ (ldT 69 ⟨W.heap.size, 0, none⟩).run Tryd.prog Z = .ok (.agg (vEnc xs[i])) Z ∧ Hid (W.grownBy Z none) := by
  obtain ⟨g, off, ha, hg, hc⟩ := h.elem (fun _ => rfl) i hi
  have hl0 := ldT_mid (ty := 69) hc Tryd.underlying69 rfl (by kernel_rfl)
  obtain ⟨Z, z1, z2, z3⟩ := stT_run (w := W.alloc (.cells zeroV 69)) (vEnc xs[i]) (BA.new W _ zeroV) rfl (by kernel_rfl) (by simp [vEnc, Value.oneCell'])
  exact ⟨g, off, Z, ha, hl0, z1, ldT_run z2 Tryd.underlying69 rfl (by kernel_rfl), gb_put z3⟩
set_option maxRecDepth 100000 in
set_option maxHeartbeats 16000000 in
theorem written_var (n : Nat) (hn : 2 ≤ n) (l₀ p B bw br : Nat) (l : List Int) (s : Sl) (xs : List (Vr)) (w : World) (h : Wr w p B l) (hr : RdO w p 5 s xs.length (flat vEnc xs)) (enc : Vr → List Int) (M : Nat)
    (hbw : BA w bw 73 #[.pointer (some ⟨p, 0, none⟩)]) (ow : Off w p bw) (hbr : BA w br 23 #[.slice s.a s.n s.c]) (or : Off w p br) (hlen : xs.length ≤ 1000) (hm : ∀ i, i ≤ xs.length → l.length + 5 + (sumL enc xs i).length ≤ 700000000)
    (hY : ∀ i (hi : i < xs.length) W1, Wr W1 p B (l ++ numL 4 (xs.length : Int) ++ sumL enc xs i) → Wk w W1 p → YieldAt Fence.wide (n - 1) Tryd.prog l₀ #[.agg (vEnc xs[i])] W1 fun e W' => e = .returned (.bool true) ∧ Wr W' p B (l ++ numL 4 (xs.length : Int) ++ sumL enc xs i ++ enc xs[i]) ∧ Wk W1 W' p) :
    CallsIn Fence.wide n Tryd.prog 83 #[.func (.yield l₀) #[] #[], .pointer (some ⟨bw, 0, none⟩), .pointer (some ⟨br, 0, none⟩)] w fun e W' => (∃ v, e = .returned v) ∧ Wr W' p B (l ++ numL 4 (xs.length : Int) ++ sumL enc xs xs.length) ∧ Wk w W' p := by
  have hn1 : 1 ≤ n := by omega
  have hp := h.plt
  have hsn := hr.rd.len
  have hm0 := hm 0 (Nat.zero_le _)
  have c1 : w.cell? ⟨bw, 0, none⟩ = some (.pointer (some ⟨p, 0, none⟩)) := hbw.cell 0
  have c2 : w.cell? ⟨br, 0, none⟩ = some (.slice s.a xs.length s.c) := by rw [← hsn]; exact hbr.cell 0
  have NB : Hid (Calls Tryd.prog 62 #[.pointer (some ⟨p, 0, none⟩), .int .i64 (xs.length : Int)] w fun e Y => e = .returned (.tuple #[]) ∧ Y.cell? ⟨br, 0, none⟩ = some (.slice s.a xs.length s.c) ∧ Hid (Wr Y p B (l ++ numL 4 (xs.length : Int)) ∧ Wk w Y p)) := hid_of ((number_z w p B l h (xs.length : Int) (by omega) (by omega) (by omega)).mono fun e Y hh => ⟨hh.1, (World.cell?_of_block (a := ⟨br, 0, none⟩) (or.keep hh.2.2).1).trans c2, hh.2.1, hh.2.2⟩)
  have E1 : Hid (∀ i (hi : i < xs.length) X, Wk w X p → ∃ g off Z, s.a = some ⟨g, off, none⟩ ∧ (ldT 69 ⟨g, off + i * 5, none⟩).run Tryd.prog X = .ok (.agg (vEnc xs[i])) X ∧ (stT 69 ⟨X.heap.size, 0, none⟩ (.agg (vEnc xs[i]))).run Tryd.prog (X.alloc (.cells zeroV 69)) = .ok () Z ∧ (ldT 69 ⟨X.heap.size, 0, none⟩).run Tryd.prog Z = .ok (.agg (vEnc xs[i])) Z ∧ Hid (X.grownBy Z none)) := hid_of fun i hi X hX => wbox_var (hr.keep hX) i hi
  have HY := hid_of hY
  have HP := hid_of hp
  clear h hr hbw hbr ow or hY hm hm0 hp
  unfold zeroV at E1
  obtain ⟨q1, s1, t1⟩ := s
  dsimp only at *
  clear hsn
  refine callsIn_of_wp Tryd.func83 rfl trivial ?_ rfl
  simp only [Tryd.ntmps83, List.size_toArray, List.length_cons, List.length_nil, Nat.reduceAdd, Nat.reduceSub, Array.replicate_succ, Array.replicate_zero, List.push_toArray, List.append_toArray, List.nil_append, List.cons_append]
  gi_wp2_with (refine ⟨trivial, ?_⟩; gi_at_call 62; refine (callsIn_wide.2 NB.out).mono ?_; rintro e w1 ⟨rfl, k2, H1⟩)
  gi_loopw [5, 12] (fun p5 pp wr => ∃ i : Nat, pp = .int .i64 (i : Int) ∧ i ≤ xs.length ∧ Hid (Wr wr p B (l ++ numL 4 (xs.length : Int) ++ sumL enc xs i) ∧ Wk w wr p)) (fun p5 pp wr => xs.length - (ivOf pp).toNat)
  case atStart => exact ⟨0, rfl, Nat.zero_le _, hid_of ⟨by have := H1.out.1; simpa [sumL] using this, H1.out.2⟩⟩
  case round =>
    obtain ⟨i, rfl, hi, HI⟩ := hrel
    clear H1 NB
    by_cases hlt : i < xs.length
    · have d1 : decide ((i : Int) < (xs.length : Int)) = true := decide_eq_true (by omega)
      have j0 : (0 : Int) ≤ (i : Int) := by omega
      have j1 : (i : Int) < (xs.length : Int) := by omega
      obtain ⟨g, off, Z, rfl, l0, s0, l1, hg⟩ := E1.out i hlt wr HI.out.2
      have hz := HI.out.1.gb hg.out
      have hzk := HI.out.2.gb HP.out hg.out
      obtain ⟨fn, tmps, assign, body, hy, hR⟩ := HY.out i hlt Z hz hzk
      have HK := hid_of hzk
      have HS := hid_of (sumL_succ enc xs i hlt)
      have hw : wrap64 ((i : Int) + 1) = (i : Int) + 1 := by rw [IntWalk.wrap64_in] <;> omega
      generalize vEnc xs[i] = cc at l0 s0 l1 hy
      clear HI hg hz hzk
      gi_wp2
      refine hR.mono ?_
      rintro e W3 ⟨rfl, hJ3, hk3⟩
      rw [List.append_assoc _ (sumL enc xs i), ← HS.out] at hJ3
      have H3 := hid_of (And.intro hJ3 (HK.out.trans hk3))
      clear hJ3 hk3 HK HS l0 s0 l1 hy hR
      gi_wp2
      go_roundw
      case rel => exact ⟨i + 1, by simp [hw], by omega, H3.out⟩
      case measure => simp [ivOf, hw]; omega
    · have d1 : decide ((i : Int) < (xs.length : Int)) = false := decide_eq_false (by omega)
      obtain rfl : i = xs.length := by omega
      gi_wp2
      go_end0
      exact ⟨⟨_, rfl⟩, HI.out⟩
/-- One of them, copied into a box. -/
theorem wbox_prc {W : World} {s : Sl} {xs : List (Pc × Sl)} (h : RdV W 3 s xs.length (flat pEnc xs)) (i : Nat) (hi : i < xs.length) : ∃ g off Z, s.a = some ⟨g, off, none⟩ ∧ (ldT 63 ⟨g, off + i * 3, none⟩).run Tryd.prog W = .ok (.agg (pEnc xs[i])) W ∧ (stT 63 ⟨W.heap.size, 0, none⟩ (.agg (pEnc xs[i]))).run Tryd.prog (W.alloc (.cells zeroP 63)) = .ok () Z ∧ (ldT 63 ⟨W.heap.size, 0, none⟩).run Tryd.prog Z = .ok (.agg (pEnc xs[i])) Z ∧ Hid (W.grownBy Z none) := by
  obtain ⟨g, off, ha, hg, hc⟩ := h.elem (fun _ => rfl) i hi
  have hl0 := ldT_mid (ty := 63) hc Tryd.underlying63 rfl (by kernel_rfl)
  obtain ⟨Z, z1, z2, z3⟩ := stT_run (w := W.alloc (.cells zeroP 63)) (pEnc xs[i]) (BA.new W _ zeroP) rfl (by kernel_rfl) (by simp [pEnc, Value.oneCell'])
  exact ⟨g, off, Z, ha, hl0, z1, ldT_run z2 Tryd.underlying63 rfl (by kernel_rfl), gb_put z3⟩
set_option maxRecDepth 100000 in
set_option maxHeartbeats 16000000 in
theorem written_prc (n : Nat) (hn : 2 ≤ n) (l₀ p B bw br : Nat) (l : List Int) (s : Sl) (xs : List (Pc × Sl)) (w : World) (h : Wr w p B l) (hr : RdO w p 3 s xs.length (flat pEnc xs)) (enc : Pc × Sl → List Int) (M : Nat)
    (hbw : BA w bw 73 #[.pointer (some ⟨p, 0, none⟩)]) (ow : Off w p bw) (hbr : BA w br 24 #[.slice s.a s.n s.c]) (or : Off w p br) (hlen : xs.length ≤ 1000) (hm : ∀ i, i ≤ xs.length → l.length + 5 + (sumL enc xs i).length ≤ 700000000)
    (hY : ∀ i (hi : i < xs.length) W1, Wr W1 p B (l ++ numL 4 (xs.length : Int) ++ sumL enc xs i) → Wk w W1 p → YieldAt Fence.wide (n - 1) Tryd.prog l₀ #[.agg (pEnc xs[i])] W1 fun e W' => e = .returned (.bool true) ∧ Wr W' p B (l ++ numL 4 (xs.length : Int) ++ sumL enc xs i ++ enc xs[i]) ∧ Wk W1 W' p) :
    CallsIn Fence.wide n Tryd.prog 85 #[.func (.yield l₀) #[] #[], .pointer (some ⟨bw, 0, none⟩), .pointer (some ⟨br, 0, none⟩)] w fun e W' => (∃ v, e = .returned v) ∧ Wr W' p B (l ++ numL 4 (xs.length : Int) ++ sumL enc xs xs.length) ∧ Wk w W' p := by
  have hn1 : 1 ≤ n := by omega
  have hp := h.plt
  have hsn := hr.rd.len
  have hm0 := hm 0 (Nat.zero_le _)
  have c1 : w.cell? ⟨bw, 0, none⟩ = some (.pointer (some ⟨p, 0, none⟩)) := hbw.cell 0
  have c2 : w.cell? ⟨br, 0, none⟩ = some (.slice s.a xs.length s.c) := by rw [← hsn]; exact hbr.cell 0
  have NB : Hid (Calls Tryd.prog 62 #[.pointer (some ⟨p, 0, none⟩), .int .i64 (xs.length : Int)] w fun e Y => e = .returned (.tuple #[]) ∧ Y.cell? ⟨br, 0, none⟩ = some (.slice s.a xs.length s.c) ∧ Hid (Wr Y p B (l ++ numL 4 (xs.length : Int)) ∧ Wk w Y p)) := hid_of ((number_z w p B l h (xs.length : Int) (by omega) (by omega) (by omega)).mono fun e Y hh => ⟨hh.1, (World.cell?_of_block (a := ⟨br, 0, none⟩) (or.keep hh.2.2).1).trans c2, hh.2.1, hh.2.2⟩)
  have E1 : Hid (∀ i (hi : i < xs.length) X, Wk w X p → ∃ g off Z, s.a = some ⟨g, off, none⟩ ∧ (ldT 63 ⟨g, off + i * 3, none⟩).run Tryd.prog X = .ok (.agg (pEnc xs[i])) X ∧ (stT 63 ⟨X.heap.size, 0, none⟩ (.agg (pEnc xs[i]))).run Tryd.prog (X.alloc (.cells zeroP 63)) = .ok () Z ∧ (ldT 63 ⟨X.heap.size, 0, none⟩).run Tryd.prog Z = .ok (.agg (pEnc xs[i])) Z ∧ Hid (X.grownBy Z none)) := hid_of fun i hi X hX => wbox_prc (hr.keep hX) i hi
  have HY := hid_of hY
  have HP := hid_of hp
  clear h hr hbw hbr ow or hY hm hm0 hp
  unfold zeroP at E1
  obtain ⟨q1, s1, t1⟩ := s
  dsimp only at *
  clear hsn
  refine callsIn_of_wp Tryd.func85 rfl trivial ?_ rfl
  simp only [Tryd.ntmps85, List.size_toArray, List.length_cons, List.length_nil, Nat.reduceAdd, Nat.reduceSub, Array.replicate_succ, Array.replicate_zero, List.push_toArray, List.append_toArray, List.nil_append, List.cons_append]
  gi_wp2_with (refine ⟨trivial, ?_⟩; gi_at_call 62; refine (callsIn_wide.2 NB.out).mono ?_; rintro e w1 ⟨rfl, k2, H1⟩)
  gi_loopw [5, 12] (fun p5 pp wr => ∃ i : Nat, pp = .int .i64 (i : Int) ∧ i ≤ xs.length ∧ Hid (Wr wr p B (l ++ numL 4 (xs.length : Int) ++ sumL enc xs i) ∧ Wk w wr p)) (fun p5 pp wr => xs.length - (ivOf pp).toNat)
  case atStart => exact ⟨0, rfl, Nat.zero_le _, hid_of ⟨by have := H1.out.1; simpa [sumL] using this, H1.out.2⟩⟩
  case round =>
    obtain ⟨i, rfl, hi, HI⟩ := hrel
    clear H1 NB
    by_cases hlt : i < xs.length
    · have d1 : decide ((i : Int) < (xs.length : Int)) = true := decide_eq_true (by omega)
      have j0 : (0 : Int) ≤ (i : Int) := by omega
      have j1 : (i : Int) < (xs.length : Int) := by omega
      obtain ⟨g, off, Z, rfl, l0, s0, l1, hg⟩ := E1.out i hlt wr HI.out.2
      have hz := HI.out.1.gb hg.out
      have hzk := HI.out.2.gb HP.out hg.out
      obtain ⟨fn, tmps, assign, body, hy, hR⟩ := HY.out i hlt Z hz hzk
      have HK := hid_of hzk
      have HS := hid_of (sumL_succ enc xs i hlt)
      have hw : wrap64 ((i : Int) + 1) = (i : Int) + 1 := by rw [IntWalk.wrap64_in] <;> omega
      generalize pEnc xs[i] = cc at l0 s0 l1 hy
      clear HI hg hz hzk
      gi_wp2
      refine hR.mono ?_
      rintro e W3 ⟨rfl, hJ3, hk3⟩
      rw [List.append_assoc _ (sumL enc xs i), ← HS.out] at hJ3
      have H3 := hid_of (And.intro hJ3 (HK.out.trans hk3))
      clear hJ3 hk3 HK HS l0 s0 l1 hy hR
      gi_wp2
      go_roundw
      case rel => exact ⟨i + 1, by simp [hw], by omega, H3.out⟩
      case measure => simp [ivOf, hw]; omega
    · have d1 : decide ((i : Int) < (xs.length : Int)) = false := decide_eq_false (by omega)
      obtain rfl : i = xs.length := by omega
      gi_wp2
      go_end0
      exact ⟨⟨_, rfl⟩, HI.out⟩
end Go.Proofs.YtcppgpcgbggdcaaDoor
