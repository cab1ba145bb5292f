/-
  Layer 13: rounds of loops that write: the loop's record is one of the blocks that the writer leaves.
-/
import Derived.Test.YtcppgpcgbggdcaaDoorYwi
namespace Go.Proofs.YtcppgpcgbggdcaaDoor
set_option linter.unusedVariables false
set_option linter.unusedSimpArgs false
open Go.ChangeShapes Go.WideShapes Go.ChangeAt Go.RowKit Go.Shelf
attribute [local go_sem] Oper.semAt_some
attribute [local go_sem ↓] ldC_seal stC_seal ldV_seal stV_seal ldP_seal stP_seal

theorem wf_same {W W' : World} {p k : Nat} (h : Wf W p k) (hb : W'.heap[p]? = W.heap[p]?) : Wf W' p k := fun a n c e => h a n c (hb.symm.trans e)
theorem Wr.putObj {W : World} {p B k : Nat} {l : List Int} (h : Wr W p B l) (hne : k ≠ p) (hf : Wf W p k) (o : Obj) : Wr (W.putObj k o) p B l := by
  obtain ⟨a, n, c, h1, h2⟩ := h.lies
  have hg := hf a n c h1
  refine ⟨⟨a, n, c, (World.putObj_heap_other (Ne.symm hne)).trans h1, ⟨h2.1, h2.2.imp id fun ⟨g, cap, cur, e1, e2, e3, r⟩ => ⟨g, cap, cur, e1, e2, (World.putObj_heap_other (fun e => hg (by rw [e1, e]; rfl))).trans e3, r⟩⟩⟩, h.lo, by simpa using h.hi, h.few⟩
theorem wk_putObj {W : World} {p k : Nat} (o : Obj) (hne : k ≠ p) : ∀ j, j ≠ k → (W.putObj k o).heap[j]? = W.heap[j]? := fun j hj => World.putObj_heap_other hj
/-- A round leaves what the writer leaves: its record is as it was. -/
theorem round_wk {W1 Z W3 : World} {p lo : Nat} {r rb : Loop} (hl : W1.heap[lo]? = some (.loop r)) (hne : lo ≠ p) (hwf : Wf W1 p lo) (hp : p < W1.heap.size) (hb : Below W1.heap.size W1 Z) (hk : Wk (Z.putObj lo (.loop rb)) W3 p) : Wk W1 (W3.putObj lo (.loop r)) p ∧ W3.heap[lo]? = some (.loop rb) ∧ Wf W3 p lo := by
  have hlt := (Array.getElem?_eq_some_iff.1 hl).1
  have hzs := hb.size
  have hsz : (Z.putObj lo (.loop rb)).heap.size = Z.heap.size := by simp
  have hpZ : (Z.putObj lo (.loop rb)).heap[p]? = W1.heap[p]? := (World.putObj_heap_other (Ne.symm hne)).trans (hb.block p hp)
  obtain ⟨k1, k2⟩ := hk.blk lo (by rw [hsz]; omega) hne (wf_same hwf hpZ)
  have hb3 : W3.heap[lo]? = some (.loop rb) := k1.trans (World.putObj_heap_same (by omega))
  have hlt3 : lo < W3.heap.size := (Array.getElem?_eq_some_iff.1 hb3).1
  have ks := hk.size
  have pg := grownBy_putObj' W3 lo (.loop r)
  have pz := grownBy_putObj' Z lo (.loop rb)
  refine ⟨⟨pg.os.trans (hk.os.trans (pz.os.trans hb.os)), pg.tape.trans (hk.tape.trans (pz.tape.trans hb.tape)), pg.output.trans (hk.output.trans (pz.output.trans hb.output)), by simp; omega, fun k hk1 hkp hf => ?_⟩, hb3, k2⟩
  by_cases e : k = lo
  · subst e
    exact ⟨(World.putObj_heap_same hlt3).trans hl.symm, wf_same k2 (World.putObj_heap_other (Ne.symm hne))⟩
  · obtain ⟨g1, g2⟩ := hk.blk k (by rw [hsz]; omega) hkp (wf_same hf hpZ)
    exact ⟨(World.putObj_heap_other e).trans (g1.trans ((World.putObj_heap_other e).trans (hb.block k hk1))), wf_same g2 (World.putObj_heap_other (Ne.symm hne))⟩
theorem writtenC_in (n : Nat) (p : Nat) (s : Sl) (w : World) : CallsIn Fence.wide n Tryd.prog 58 #[.pointer (some ⟨p, 0, none⟩), .slice s.a s.n s.c] w fun e w' => e = .returned (.func (.func 81) #[] #[.pointer (some ⟨w.heap.size, 0, none⟩), .pointer (some ⟨w.heap.size + 1, 0, none⟩)]) ∧ w' = (w.alloc (.cells #[.pointer (some ⟨p, 0, none⟩)] 73)).alloc (.cells #[.slice s.a s.n s.c] 22) := by
  refine callsIn_of_wp Tryd.func58 rfl trivial ?_ rfl
  simp only [Tryd.ntmps58, List.size_toArray, List.length_cons, List.length_nil, Nat.reduceAdd, Nat.reduceSub, Array.replicate_succ, Array.replicate_zero, List.push_toArray, List.append_toArray, List.nil_append, List.cons_append]
  gi_wp2
  go_ret
  exact ⟨rfl, rfl⟩
theorem writtenV_in (n : Nat) (p : Nat) (s : Sl) (w : World) : CallsIn Fence.wide n Tryd.prog 60 #[.pointer (some ⟨p, 0, none⟩), .slice s.a s.n s.c] w fun e w' => e = .returned (.func (.func 83) #[] #[.pointer (some ⟨w.heap.size, 0, none⟩), .pointer (some ⟨w.heap.size + 1, 0, none⟩)]) ∧ w' = (w.alloc (.cells #[.pointer (some ⟨p, 0, none⟩)] 73)).alloc (.cells #[.slice s.a s.n s.c] 23) := by
  refine callsIn_of_wp Tryd.func60 rfl trivial ?_ rfl
  simp only [Tryd.ntmps60, List.size_toArray, List.length_cons, List.length_nil, Nat.reduceAdd, Nat.reduceSub, Array.replicate_succ, Array.replicate_zero, List.push_toArray, List.append_toArray, List.nil_append, List.cons_append]
  gi_wp2
  go_ret
  exact ⟨rfl, rfl⟩
theorem writtenP_in (n : Nat) (p : Nat) (s : Sl) (w : World) : CallsIn Fence.wide n Tryd.prog 63 #[.pointer (some ⟨p, 0, none⟩), .slice s.a s.n s.c] w fun e w' => e = .returned (.func (.func 85) #[] #[.pointer (some ⟨w.heap.size, 0, none⟩), .pointer (some ⟨w.heap.size + 1, 0, none⟩)]) ∧ w' = (w.alloc (.cells #[.pointer (some ⟨p, 0, none⟩)] 73)).alloc (.cells #[.slice s.a s.n s.c] 24) := by
  refine callsIn_of_wp Tryd.func63 rfl trivial ?_ rfl
  simp only [Tryd.ntmps63, List.size_toArray, List.length_cons, List.length_nil, Nat.reduceAdd, Nat.reduceSub, Array.replicate_succ, Array.replicate_zero, List.push_toArray, List.append_toArray, List.nil_append, List.cons_append]
  gi_wp2
  go_ret
  exact ⟨rfl, rfl⟩
end Go.Proofs.YtcppgpcgbggdcaaDoor
