/-
  Layer 13: what is written are bytes; rows of bytes that are put together; Decode of a row of the call's own.
-/
import Derived.Test.YtcppgpcgbggdcaaDoorYpb
import Derived.Deep.DeepAppendWide
import Derived.Laws.OwnMore
namespace Go.Proofs.YtcppgpcgbggdcaaDoor
set_option linter.unusedVariables false
set_option linter.unusedSimpArgs false
open Go.ChangeShapes Go.WideShapes Go.ChangeAt Go.RowKit
attribute [local go_sem ↓] ldS_seal stS_seal

def AllB (l : List Int) : Prop := ∀ x ∈ l, 0 ≤ x ∧ x ≤ 255
theorem AllB.app {a b : List Int} (h : AllB a) (g : AllB b) : AllB (a ++ b) := fun x hx => by
  rcases List.mem_append.1 hx with e | e
  · exact h x e
  · exact g x e
theorem numL_by : ∀ (f : Nat) (n : Int), 0 ≤ n → n < 128 ^ (f + 1) → AllB (numL f n)
  | 0, n, h0, h1 => fun x hx => by
    rw [numL] at hx
    rw [List.mem_singleton.1 hx]
    have : (128 : Int) ^ (0 + 1) = 128 := rfl
    omega
  | f + 1, n, h0, h1 => by
    rw [numL]
    split
    · intro x hx
      rw [List.mem_singleton.1 hx]
      omega
    · intro x hx
      rcases List.mem_cons.1 hx with e | e
      · rw [e]; omega
      · refine numL_by f (n / 128) (by omega) ?_ x e
        rw [Int.pow_succ] at h1
        omega
theorem num_by (n : Int) (h0 : 0 ≤ n) (h1 : n ≤ 4294967295) : AllB (numL 4 n) := numL_by 4 n h0 (by have : (128 : Int) ^ (4 + 1) = 34359738368 := rfl; omega)
theorem text_by (s : ByteArray) : AllB (textL s) := by
  unfold textL
  refine AllB.app (num_by _ (by omega) (by omega)) fun x hx => ?_
  unfold sL at hx
  obtain ⟨b, _, rfl⟩ := List.mem_map.1 hx
  have := b.toNat_lt
  omega
theorem wd_by (x : Int) : AllB (wdL x) := by
  intro y hy
  unfold wdL at hy
  simp only [List.mem_cons, List.not_mem_nil, or_false] at hy
  rcases hy with rfl | rfl | rfl | rfl <;> exact byteOf_bd _ _
theorem row_by {α : Type} (L : α → List Int) (l : List α) (hn : l.length ≤ 65536) (h : ∀ x ∈ l, AllB (L x)) : AllB (rowL L l) := by
  unfold rowL
  refine AllB.app (num_by _ (by omega) (by omega)) fun y hy => ?_
  obtain ⟨t, ht, hy2⟩ := List.mem_flatten.1 hy
  obtain ⟨x, hx, rfl⟩ := List.mem_map.1 ht
  exact h x hx y hy2
theorem lies_self (l : List Int) : Lies (fun i => l.getD i 0) 0 l := fun j hj => by rw [Nat.zero_add]
/-- A row of bytes of the call's own, as one that is handed on. -/
theorem ow_src {X : World} {B : Nat} {a : Option Addr} {n c : Nat} {l : List Int} (h : Ow X B (.slice a n c) l) (hb : AllB l) (hl : l.length ≤ 140737488351232) : Src X a n c (fun i => l.getD i 0) ∧ n = l.length ∧ n ≤ c := by
  have hn : n = l.length ∧ n ≤ c ∧ (a = none → n = 0 ∧ c = 0) := by
    unfold Ow at h
    rcases h.2 with ⟨hv, h0⟩ | ⟨g', cap, cur, hv, _, _, hc, _⟩
    · injection hv with e1 e2 e3; exact ⟨by omega, by omega, fun _ => ⟨by omega, by omega⟩⟩
    · injection hv with e1 e2 e3; exact ⟨e2, by rw [e2, e3]; exact hc, fun e => by rw [e] at e1; cases e1⟩
  refine ⟨⟨⟨by unfold maxLen; omega, ?_⟩, hn.2.2, by omega⟩, hn.1, hn.2.1⟩
  by_cases h0 : l = []
  · subst h0; exact .inl hn.1
  · obtain ⟨g, c2, hv, _, _⟩ := ow_at h h0
    injection hv with e1 e2 e3
    subst e1
    refine .inr ⟨g, 0, rfl, fun i hi => ?_⟩
    rw [hn.1] at hi
    have hm : l.getD i 0 ∈ l := by rw [List.getD_eq_getElem?_getD, List.getElem?_eq_getElem hi]; exact List.getElem_mem hi
    rw [Nat.zero_add]
    exact ⟨(ow_cell h i hi).1, hb _ hm⟩
theorem make_row (X : World) (B c : Nat) (hB : B ≤ X.heap.size) (hc : c ≤ 200000000000000) : ∃ Y, (mkN 30 (.int .i64 0) (.int .i64 (c : Int))).run Tryd.prog X = .ok (.slice (some ⟨X.heap.size, 0, none⟩) 0 c) Y ∧ Ow Y B (.slice (some ⟨X.heap.size, 0, none⟩) 0 c) [] ∧ X.grownBy Y none := by
  obtain ⟨i0, hi0, hz0, hz1, hz2⟩ := info_parts info5
  exact run_make_own (P := Tryd.prog) X B 30 5 i0 (.int .u8 0) 1 Tryd.underlying30 hi0 hz0 hz1 .i64 .i64 c (by rw [hz2]; omega) (by unfold maxLen; omega) hB
/-- Bytes put behind a row of the call's own. -/
theorem app_bytes {X : World} {B : Nat} {v : Value} {l : List Int} (a : Option Addr) (m c : Nat) (f : Nat → Int) (h : Ow X B v l) (hr : RdB X a m f) (hnil : a = none → m = 0 ∧ c = 0) (hB : B ≤ X.heap.size) (hn : l.length + m ≤ 200000000000000) (hl : 0 < l.length ∨ 0 < m) :
    ∃ (v' : Value) (Y : World), (appN #[30, 30] 30 #[v, .slice a m c]).run Tryd.prog X = .ok v' Y ∧ Ow Y B v' (l ++ bl f m) ∧ X.grownBy Y v.ownBlock := by
  obtain ⟨i0, hi0, hz0, hz1, hz2⟩ := info_parts info5
  by_cases hm : m = 0
  · subst hm
    have hv : ∃ g k, v = .slice (some ⟨g, 0, none⟩) l.length k ∧ l.length ≤ k := by
      unfold Ow at h
      rcases h.2 with ⟨hv, h0⟩ | ⟨g', cap, cur, hv, _, _, hc, _⟩
      · omega
      · exact ⟨g', cap, hv, hc⟩
    obtain ⟨g, k, rfl, hk⟩ := hv
    refine ⟨_, X, ?_, by simpa [bl] using h, ⟨rfl, rfl, rfl, Nat.le_refl _, fun _ _ _ => rfl⟩⟩
    unfold appN
    cases a with
    | none => simp [Builtin.append_, run_underlying Tryd.underlying30, sizeOf, typeInfo, hi0, hz1, Builtin.lenOf, hk, run_firstCells_none, storeCells, Addr.add_lit]
    | some ad => simp [Builtin.append_, run_underlying Tryd.underlying30, sizeOf, typeInfo, hi0, hz1, Builtin.lenOf, hk, Builtin.firstCells, loadCells, loadCellsFrom, storeCells, Addr.add_lit]
  · obtain ⟨b, off, rfl, hc⟩ : ∃ b off, a = some ⟨b, off, none⟩ ∧ ∀ i, i < m → X.cell? ⟨b, off + i, none⟩ = some (.int .u8 (f i)) := by
      rcases hr.2 with h0 | ⟨b, off, e, h1⟩
      · omega
      · exact ⟨b, off, e, fun i hi => (h1 i hi).1⟩
    obtain ⟨v', Y, h1, h2, h3, _⟩ := run_append_own_wide (P := Tryd.prog) X B 30 30 5 i0 (.int .u8 0) 1 1 Tryd.underlying30 hi0 hz0 hz1 hz2 rfl (by decide) v l.length (u8s l) h ⟨b, off, none⟩ m c (u8s (bl f m)) (by simp [u8s_len, bl_len]) (fun j u hu => by
      have hj : j < m := by have := (List.getElem?_eq_some_iff.1 hu).1; rwa [u8s_len, bl_len] at this
      rw [Go.WideShapes.add_plain, hc j hj, ← hu]
      simp [u8s, bl, hj]) (u8s_one _) (by unfold maxLen; omega) (by omega) hB
    refine ⟨v', Y, h1, ?_, h3⟩
    unfold Ow
    rw [List.length_append, bl_len, u8s_app]
    exact h2
theorem gb_none {X Y : World} (h : X.grownBy Y none) : Below X.heap.size X Y := ⟨h.os, h.tape, h.output, h.size, fun k hk => h.block k hk (by simp)⟩
theorem gb_low {w X Y : World} {o : Option Nat} (h : Below w.heap.size w X) (hg : X.grownBy Y o) (ho : ∀ k, o = some k → w.heap.size ≤ k) : Below w.heap.size w Y := ⟨hg.os.trans h.os, hg.tape.trans h.tape, hg.output.trans h.output, Nat.le_trans h.size hg.size, fun k hk => (hg.block k (Nat.lt_of_lt_of_le hk h.size) (fun e => by have := ho k e.symm; omega)).trans (h.block k hk)⟩
theorem small_by (x : Int) (h0 : 0 ≤ x) (h1 : x ≤ 255) : AllB [x] := fun y hy => by rw [List.mem_singleton.1 hy]; exact ⟨h0, h1⟩
theorem cons_by {c : Cn} (h : cnB c = true) : AllB (consL c) := by
  have hi := cnB_in h
  unfold consL
  refine AllB.app (AllB.app (text_by _) (small_by _ (by omega) (by omega))) ?_
  split
  · exact text_by _
  · exact wd_by _
theorem vars_by {v : Vr} (h : varB v = true) : AllB (varL v) := by
  have hi := varB_in h
  unfold varL
  exact AllB.app (AllB.app (text_by _) (small_by _ (by omega) (by omega))) (num_by _ (by omega) (by omega))
theorem pars_by {v : Vr} (h : 1 ≤ v.fm ∧ v.fm ≤ 5) : AllB (parL v) := by
  have := bitsI_bd v
  unfold parL
  exact AllB.app (small_by v.fm (by omega) (by omega)) (small_by (bitsI v) (by omega) (by omega))
theorem prcs_by {p : Pc} (h : prcB p = true) : AllB (prcP p) := by
  have hi := prcB_in h
  unfold prcP
  exact AllB.app (text_by _) (AllB.app (row_by _ _ (by omega) fun v hv => pars_by (hi.2.2.2.2 v hv)) (small_by _ (by omega) (by omega)))
theorem symP_by {o : Sy} (h : rightP o = true) : AllB (symP o) := by
  have hi := in_right h
  have := hi.cl
  have := hi.vl
  have := hi.pl
  unfold rightP rightS at h
  simp only [Bool.and_eq_true, decide_eq_true_eq, List.length_map] at h
  obtain ⟨h1, ⟨h2, h3⟩, ⟨h4, h5⟩, ⟨h6, h7⟩, _⟩ := h
  unfold symP
  exact (text_by _).app ((row_by _ _ (by omega) fun x hx => cons_by (List.all_eq_true.1 h3 x hx)).app ((row_by _ _ (by omega) fun x hx => vars_by (List.all_eq_true.1 h5 x hx)).app (row_by _ _ (by omega) fun x hx => prcs_by (List.all_eq_true.1 h7 (x, ⟨none, 0, 0⟩) (List.mem_map.2 ⟨x, hx, rfl⟩)))))
theorem mark_by : AllB markL := by unfold markL; intro x hx; simp only [List.mem_cons, List.not_mem_nil, or_false] at hx; omega
theorem decode_own {X : World} (hv : Vs X) {B : Nat} {a : Option Addr} {n c : Nat} {l : List Int} (h : Ow X B (.slice a n c) l) (hb : AllB l) (hl : l.length ≤ 4611686018427387904) : Calls Tryd.prog 17 #[.slice a n c] X (PostE X (fun i => l.getD i 0) l.length) := by
  by_cases hx : 1048576 < l.length
  · have hn : n = l.length := by
      unfold Ow at h
      rcases h.2 with ⟨hv, h0⟩ | ⟨g', cap, cur, hv, _⟩
      · injection hv with _ e _; rw [e, h0]
      · injection hv
    rw [hn]
    exact decode_long X a l.length c _ hx hl
  · obtain ⟨h1, h2, h3⟩ := ow_src h hb (by omega)
    rw [h2] at h1 h3 ⊢
    exact decode_any X hv a l.length c _ h1 h3
end Go.Proofs.YtcppgpcgbggdcaaDoor
