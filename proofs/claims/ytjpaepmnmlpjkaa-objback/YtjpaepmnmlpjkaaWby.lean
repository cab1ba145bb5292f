/-
  Layer 7, plain: what is written are bytes.
-/
import Derived.Test.YtjpaepmnmlpjkaaPln
namespace Go.Proofs.Ytjpaepmnmlpjkaa
set_option linter.unusedVariables false
set_option linter.unusedSimpArgs false

def AllB (l : List Int) : Prop := ∀ x ∈ l, 0 ≤ x ∧ x ≤ 255
theorem AllB.app {a b : List Int} (h : AllB a) (g : AllB b) : AllB (a ++ b) := fun x hx => by
  rcases List.mem_append.1 hx with e | e
  · exact h x e
  · exact g x e
theorem numL_by : ∀ (f : Nat) (n : Int), 0 ≤ n → n < 128 ^ (f + 1) → AllB (numL f n)
  | 0, n, h0, h1 => fun x hx => by
    rw [numL] at hx
    rw [List.mem_singleton.1 hx]
    have : (128 : Int) ^ (0 + 1) = 128 := rfl
    omega
  | f + 1, n, h0, h1 => by
    rw [numL]
    split
    · intro x hx
      rw [List.mem_singleton.1 hx]
      omega
    · intro x hx
      rcases List.mem_cons.1 hx with e | e
      · rw [e]; omega
      · refine numL_by f (n / 128) (by omega) ?_ x e
        rw [Int.pow_succ] at h1
        omega
theorem num_by (n : Int) (h0 : 0 ≤ n) (h1 : n ≤ 4294967295) : AllB (numL 4 n) := numL_by 4 n h0 (by have : (128 : Int) ^ (4 + 1) = 34359738368 := rfl; omega)
theorem text_by (s : ByteArray) : AllB (textL s) := by
  unfold textL
  refine AllB.app (num_by _ (by omega) (by omega)) fun x hx => ?_
  unfold sL at hx
  obtain ⟨b, _, rfl⟩ := List.mem_map.1 hx
  have := b.toNat_lt
  omega
theorem wd_by (x : Int) : AllB (wdL x) := by
  intro y hy
  unfold wdL at hy
  simp only [List.mem_cons, List.not_mem_nil, or_false] at hy
  rcases hy with rfl | rfl | rfl | rfl <;> exact byteOf_bd _ _
theorem row_by {α : Type} (L : α → List Int) (l : List α) (hn : l.length ≤ 65536) (h : ∀ x ∈ l, AllB (L x)) : AllB (rowL L l) := by
  unfold rowL
  refine AllB.app (num_by _ (by omega) (by omega)) fun y hy => ?_
  obtain ⟨t, ht, hy2⟩ := List.mem_flatten.1 hy
  obtain ⟨x, hx, rfl⟩ := List.mem_map.1 ht
  exact h x hx y hy2
theorem body_by {o : Ob} (h : Fine o) : AllB (bodyL o) := by
  unfold bodyL
  have hp : (prcsOf o).length = o.procs.length := by simp [prcsOf]
  refine (text_by _).app ((wd_by _).app ((row_by _ _ h.im.1 fun x _ => (text_by _).app (wd_by _)).app ((row_by _ _ h.co fun x _ => wd_by _).app ((row_by _ _ (by rw [hp]; exact h.pr.1) fun x hx => ?_).app ((num_by _ h.ini.1 h.ini.2).app ((row_by _ _ h.va.1 fun x hx => num_by _ (h.va.2 x hx).1 (h.va.2 x hx).2).app ((row_by _ _ h.sh.1 fun x hx => num_by _ (h.sh.2 x hx).1 (h.sh.2 x hx).2).app ((row_by _ _ h.st.1 fun x _ => text_by _).app ((row_by _ _ h.ds.1 fun x hx => ?_).app (row_by _ _ h.fx.1 fun x hx => ?_))))))))))
  · unfold prcsOf at hx
    obtain ⟨i, hi, rfl⟩ := List.mem_map.1 hx
    have hi2 := List.mem_range.1 hi
    unfold prcL
    have hm := h.pr.2 (o.procs.getD i 0) (by rw [List.getD_eq_getElem?_getD, List.getElem?_eq_getElem hi2]; exact List.getElem_mem hi2)
    refine (num_by _ hm.1 hm.2).app ((text_by _).app fun y hy => ?_)
    rw [List.mem_singleton.1 hy]
    split <;> omega
  · have hm := h.ds.2 x hx
    unfold dscL
    exact (num_by _ hm.1.1 hm.1.2).app ((num_by _ hm.2.1.1 hm.2.1.2).app (row_by _ _ hm.2.2.1 fun t ht => num_by _ (hm.2.2.2 t ht).1 (hm.2.2.2 t ht).2))
  · have hm := h.fx.2 x hx
    unfold fixL
    refine (num_by _ hm.1.1 hm.1.2).app (AllB.app (fun y hy => ?_) ((num_by _ (by omega) (by omega)).app (num_by _ hm.2.2.2.1 hm.2.2.2.2)))
    rw [List.mem_singleton.1 hy]
    exact hm.2.1
end Go.Proofs.Ytjpaepmnmlpjkaa
