/-
  Layer 17, plain: rows of rising numbers; which sectors are free, used, taken.
-/
import Derived.Test.YtmjflbleobmjdaaGreatDoorKt
import Derived.Lib.SlicesCompact
import Derived.Lib.RowBridge
namespace Go.Proofs.YtmjflbleobmjdaaGreatDoor
set_option linter.unusedVariables false
set_option linter.unusedSimpArgs false

def Rise (l : List Int) : Prop := l.Pairwise (· < ·)
theorem Rise.tail {x : Int} {l : List Int} (h : Rise (x :: l)) : Rise l := (List.pairwise_cons.1 h).2
theorem Rise.head {x : Int} {l : List Int} (h : Rise (x :: l)) : ∀ y ∈ l, x < y := (List.pairwise_cons.1 h).1
theorem rise_ext : ∀ {a b : List Int}, Rise a → Rise b → (∀ x, x ∈ a ↔ x ∈ b) → a = b
  | [], [], _, _, _ => rfl
  | [], y :: b, _, _, h => by have := (h y).2 (by simp); cases this
  | x :: a, [], _, _, h => by have := (h x).1 (by simp); cases this
  | x :: a, y :: b, ha, hb, h => by
    have h1 : x = y := by
      have hx := (h x).1 (by simp)
      have hy := (h y).2 (by simp)
      rcases List.mem_cons.1 hx with e | e
      · exact e
      · rcases List.mem_cons.1 hy with e2 | e2
        · exact e2.symm
        · have := hb.head x e; have := ha.head y e2; omega
    subst h1
    rw [rise_ext ha.tail hb.tail fun z => ?_]
    constructor
    · intro hz
      rcases List.mem_cons.1 ((h z).1 (by simp [hz])) with e | e
      · have := ha.head z hz; omega
      · exact e
    · intro hz
      rcases List.mem_cons.1 ((h z).2 (by simp [hz])) with e | e
      · have := hb.head z hz; omega
      · exact e
/-- The numbers below n that p takes, rising. -/
def lst (n : Nat) (p : Nat → Bool) : List Int := ((List.range n).filter p).map fun i : Nat => (i : Int)
theorem mem_lst {n : Nat} {p : Nat → Bool} {x : Int} : x ∈ lst n p ↔ 0 ≤ x ∧ x < n ∧ p x.toNat = true := by
  unfold lst
  rw [List.mem_map]
  constructor
  · rintro ⟨i, hi, rfl⟩
    have := List.mem_filter.1 hi
    have h2 := List.mem_range.1 this.1
    exact ⟨by omega, by omega, by simpa using this.2⟩
  · rintro ⟨h0, h1, h2⟩
    exact ⟨x.toNat, List.mem_filter.2 ⟨List.mem_range.2 (by omega), h2⟩, by omega⟩
theorem rise_lst (n : Nat) (p : Nat → Bool) : Rise (lst n p) := by
  unfold Rise lst
  rw [List.pairwise_map]
  refine List.Pairwise.filter _ ?_
  exact List.pairwise_lt_range.imp fun h => by omega
theorem lst_ext {n : Nat} {p q : Nat → Bool} (h : ∀ i, i < n → p i = q i) : lst n p = lst n q := by
  unfold lst
  rw [List.filter_congr fun i hi => h i (List.mem_range.1 hi)]
theorem lst_len (n : Nat) (p : Nat → Bool) : (lst n p).length ≤ n := by
  unfold lst
  rw [List.length_map]
  exact Nat.le_trans (List.length_filter_le _ _) (by simp)
theorem rise_filter {l : List Int} (q : Int → Bool) (h : Rise l) : Rise (l.filter q) := List.Pairwise.filter _ h
theorem lst_all (n : Nat) : lst n (fun _ => true) = (List.range n).map fun i : Nat => (i : Int) := by
  unfold lst; rw [List.filter_eq_self.2 (by simp)]
/-! ### One thing taken out of a rising row. -/
theorem count_low {x : Int} : ∀ {l : List Int}, (∀ y ∈ l, x < y) → l.countP (· < x) = 0
  | [], _ => rfl
  | y :: l, h => by
    rw [List.countP_cons_of_neg (by have := h y (by simp); simp; omega)]
    exact count_low fun z hz => h z (by simp [hz])
theorem filter_high {x : Int} {l : List Int} (h : ∀ y ∈ l, x < y) : l.filter (· != x) = l := List.filter_eq_self.2 fun y hy => by
  have := h y hy
  simp; omega
theorem cut_at : ∀ {l : List Int} {x : Int}, Rise l → x ∈ l → l.take (l.countP (· < x)) ++ l.drop (l.countP (· < x) + 1) = l.filter (· != x)
  | [], _, _, h => by cases h
  | y :: l, x, hr, hx => by
    by_cases e : y = x
    · subst e
      have h0 : (y :: l).countP (· < y) = 0 := by
        rw [List.countP_cons_of_neg (by simp)]; exact count_low hr.head
      rw [h0]
      simp only [List.take_zero, List.nil_append, Nat.zero_add, List.drop_succ_cons, List.drop_zero]
      rw [List.filter_cons_of_neg (by simp), filter_high hr.head]
    · have hx2 : x ∈ l := by
        rcases List.mem_cons.1 hx with h | h
        · exact absurd h.symm e
        · exact h
      have hlt := hr.head x hx2
      rw [List.countP_cons_of_pos (by simpa using hlt), List.take_succ_cons, List.drop_succ_cons, List.cons_append, cut_at hr.tail hx2, List.filter_cons_of_pos (by simp; omega)]
theorem count_lt {l : List Int} {x : Int} (hr : Rise l) (hx : x ∈ l) : l.countP (· < x) < l.length := by
  induction l with
  | nil => cases hx
  | cons y l ih =>
    by_cases e : y = x
    · subst e
      rw [List.countP_cons_of_neg (by simp), count_low hr.head]; simp
    · have hx2 : x ∈ l := by
        rcases List.mem_cons.1 hx with h | h
        · exact absurd h.symm e
        · exact h
      have := ih hr.tail hx2
      rw [List.countP_cons_of_pos (by have := hr.head x hx2; simpa using this)]
      simp; omega
theorem lst_drop (n : Nat) (p : Nat → Bool) (x : Int) (h0 : 0 ≤ x) : (lst n p).filter (· != x) = lst n (fun i => p i && i != x.toNat) := by
  refine rise_ext (rise_filter _ (rise_lst _ _)) (rise_lst _ _) fun y => ?_
  rw [List.mem_filter, mem_lst, mem_lst]
  constructor
  · rintro ⟨⟨h1, h2, h3⟩, h4⟩
    refine ⟨h1, h2, ?_⟩
    rw [h3]; simp at h4 ⊢; omega
  · rintro ⟨h1, h2, h3⟩
    simp only [Bool.and_eq_true] at h3
    refine ⟨⟨h1, h2, h3.1⟩, ?_⟩
    have := h3.2
    simp at this ⊢; omega
/-- A row without some things; none: one is not there. -/
def withoutP : List Int → List Int → Option (List Int)
  | l, [] => some l
  | l, x :: r => if x ∈ l then withoutP (l.filter (· != x)) r else none
/-- Things that are all of one mark get another one; none: one is not. -/
def takeAll (n was now : Nat) : (Nat → Nat) → List Int → Option (Nat → Nat)
  | u, [] => some u
  | u, x :: r => if 0 ≤ x ∧ x < n ∧ u x.toNat = was then takeAll n was now (fun i => if i = x.toNat then now else u i) r else none
theorem without_take (n was now : Nat) (hne : now ≠ was) : ∀ (l : List Int) (u : Nat → Nat), withoutP (lst n (fun i => u i == was)) l = (takeAll n was now u l).map fun v => lst n (fun i => v i == was)
  | [], u => rfl
  | x :: r, u => by
    rw [withoutP, takeAll]
    by_cases h : 0 ≤ x ∧ x < n ∧ u x.toNat = was
    · rw [if_pos h, if_pos (by rw [mem_lst]; exact ⟨h.1, h.2.1, by simpa using h.2.2⟩), lst_drop _ _ _ h.1]
      have e : lst n (fun i => (u i == was) && i != x.toNat) = lst n (fun i => (if i = x.toNat then now else u i) == was) := lst_ext fun i _ => by
        by_cases hi : i = x.toNat
        · rw [if_pos hi]; simp [hi, hne]
        · rw [if_neg hi]; simp [hi]
      rw [e, without_take n was now hne r]
    · rw [if_neg h, if_neg (by rw [mem_lst]; intro ⟨a, b, c⟩; exact h ⟨a, b, by simpa using c⟩)]; rfl
/-! ### What is sorted and compacted. -/
theorem keeps_mem {zs : List Int} : ∀ (m : Nat), m ≤ zs.length → ∀ x, x ∈ Lib.compactUpTo zs.toArray m ↔ x ∈ zs.take m
  | 0, _, x => by simp [Lib.compactUpTo]
  | m + 1, hm, x => by
    have hlt : m < zs.length := by omega
    have e : zs.toArray[m]! = zs[m] := by simp [hlt]
    rw [Lib.compactUpTo_succ, List.mem_append, keeps_mem m (by omega) x, List.take_succ_eq_append_getElem hlt, List.mem_append]
    by_cases hk : Lib.keeps zs.toArray m = true
    · rw [if_pos hk, e]
    · rw [if_neg hk]
      have h0 : m ≠ 0 := fun h => hk (by simp [Lib.keeps, h])
      have h1 : zs.toArray[m]! = zs.toArray[m - 1]! := by
        by_cases h : zs.toArray[m]! = zs.toArray[m - 1]!
        · exact h
        · exact absurd (by unfold Lib.keeps; exact decide_eq_true (Or.inr h)) hk
      have e1 : zs.toArray[m - 1]! = zs[m - 1]'(by omega) := by simp [show m - 1 < zs.length by omega]
      rw [e, e1] at h1
      constructor
      · rintro (h | h)
        · exact .inl h
        · cases h
      · rintro (h | h)
        · exact .inl h
        · left
          rw [List.mem_singleton.1 h, h1]
          exact List.mem_take_iff_getElem.2 ⟨m - 1, by omega, rfl⟩
theorem compact_mem (zs : List Int) (x : Int) : x ∈ Lib.compact zs ↔ x ∈ zs := by
  unfold Lib.compact
  rw [keeps_mem _ (Nat.le_refl _), List.take_length]
theorem compact_rise {zs : List Int} (h : zs.Pairwise (· ≤ ·)) : Rise (Lib.compact zs) := by
  have at_le : ∀ i j (hi : i < zs.length) (hj : j < zs.length), i ≤ j → zs[i] ≤ zs[j] := fun i j hi hj hij => by
    rcases Nat.lt_or_eq_of_le hij with hl | he
    · exact List.pairwise_iff_getElem.1 h i j hi hj hl
    · subst he; exact Int.le_refl _
  have key : ∀ m, m ≤ zs.length → Rise (Lib.compactUpTo zs.toArray m) := by
    intro m
    induction m with
    | zero => intro _; simp [Lib.compactUpTo, Rise]
    | succ m ih =>
      intro hm
      have hlt : m < zs.length := by omega
      have e : zs.toArray[m]! = zs[m] := by simp [hlt]
      rw [Lib.compactUpTo_succ]
      by_cases hk : Lib.keeps zs.toArray m = true
      · rw [if_pos hk]
        unfold Rise
        rw [List.pairwise_append]
        refine ⟨ih (by omega), by simp, fun y hy z hz => ?_⟩
        obtain rfl := List.mem_singleton.1 hz
        rw [keeps_mem m (by omega)] at hy
        obtain ⟨i, hi, rfl⟩ := List.mem_take_iff_getElem.1 hy
        rw [e]
        have h0 : m ≠ 0 := by omega
        have e1 : zs.toArray[m - 1]! = zs[m - 1]'(by omega) := by simp [show m - 1 < zs.length by omega]
        have hne : zs[m] ≠ zs[m - 1]'(by omega) := by
          have := hk
          simp only [Lib.keeps, decide_eq_true_eq] at this
          rcases this with hh | hh
          · exact absurd hh h0
          · rwa [e, e1] at hh
        have l1 := at_le i (m - 1) (by omega) (by omega) (by omega)
        have l2 := at_le (m - 1) m (by omega) hlt (by omega)
        omega
      · rw [if_neg hk, List.append_nil]; exact ih (by omega)
  exact key _ (Nat.le_refl _)
/-- A row with some more things. -/
def withP (l s : List Int) : List Int := Lib.compact ((l ++ s).mergeSort fun x y => decide (x ≤ y))
theorem with_mem (l s : List Int) (x : Int) : x ∈ withP l s ↔ x ∈ l ∨ x ∈ s := by
  unfold withP
  rw [compact_mem, List.mem_mergeSort, List.mem_append]
theorem with_rise (l s : List Int) : Rise (withP l s) := by
  refine compact_rise ?_
  have := List.pairwise_mergeSort (le := fun (x y : Int) => decide (x ≤ y)) (fun a b c h1 h2 => by simp at h1 h2 ⊢; omega) (fun a b => by simp; omega) (l ++ s)
  exact this.imp fun h => by simpa using h
theorem with_lst {n : Nat} {p : Nat → Bool} {s : List Int} (hs : ∀ x ∈ s, 0 ≤ x ∧ x < n) : withP (lst n p) s = lst n (fun i => p i || s.contains (i : Int)) := by
  refine rise_ext (with_rise _ _) (rise_lst _ _) fun x => ?_
  rw [with_mem, mem_lst, mem_lst]
  constructor
  · rintro (⟨h0, h1, h2⟩ | h)
    · exact ⟨h0, h1, by simp [h2]⟩
    · have := hs x h
      refine ⟨this.1, this.2, ?_⟩
      have e : ((x.toNat : Nat) : Int) = x := by omega
      simp [e, h]
  · rintro ⟨h0, h1, h2⟩
    have e : ((x.toNat : Nat) : Int) = x := by omega
    simp only [Bool.or_eq_true, List.contains_iff_mem, e] at h2
    rcases h2 with h2 | h2
    · exact .inl ⟨h0, h1, h2⟩
    · exact .inr h2
end Go.Proofs.YtmjflbleobmjdaaGreatDoor
