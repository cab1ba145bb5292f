/-
  Layer 13, plain: the document's word on which symbols may be is the program's.
-/
import Derived.Test.YtcppgpcgbggdcaaDoorYdp
namespace Go.Proofs.YtcppgpcgbggdcaaDoor
set_option linter.unusedVariables false
set_option linter.unusedSimpArgs false

theorem namesB_iff (l : List ByteArray) : namesB l = true ↔ (∀ x ∈ l, nameB x = true) ∧ (l.map (·.data.toList)).Nodup := by
  unfold namesB
  rw [List.all_eq_true]
  constructor
  · intro h
    refine ⟨fun x hx => ?_, ?_⟩
    · obtain ⟨i, hi, rfl⟩ := List.getElem_of_mem hx
      have := h i (List.mem_range.2 hi)
      rw [Bool.and_eq_true, getD_at _ _ i hi] at this
      exact this.1
    · unfold List.Nodup
      rw [List.pairwise_iff_getElem]
      intro i j hi hj hij e
      rw [List.length_map] at hi hj
      have := h j (List.mem_range.2 hj)
      rw [Bool.and_eq_true] at this
      have h2 := List.all_eq_true.1 this.2 i (List.mem_range.2 hij)
      rw [getD_at _ _ i hi, getD_at _ _ j hj] at h2
      rw [List.getElem_map, List.getElem_map] at e
      rw [e] at h2
      simp at h2
  · rintro ⟨h1, h2⟩ i hi0
    have hi := List.mem_range.1 hi0
    rw [Bool.and_eq_true]
    refine ⟨by rw [getD_at _ _ i hi]; exact h1 _ (List.getElem_mem hi), ?_⟩
    rw [List.all_eq_true]
    intro k hk0
    have hk := List.mem_range.1 hk0
    rw [getD_at _ _ k (by omega), getD_at _ _ i hi]
    have := List.pairwise_iff_getElem.1 h2 k i (by rw [List.length_map]; omega) (by rw [List.length_map]; exact hi) hk
    rw [List.getElem_map, List.getElem_map] at this
    simpa using this
/-- May a variable be, but for its name? -/
def varD (v : Vr) : Bool := plainB v.fm && decide (0 ≤ v.ln) && decide (v.ln ≤ 16384) && decide (v.ln * sizeI v.fm ≤ 16384) && !v.op && !v.rf
theorem varB_D (v : Vr) : varB v = (varD v && nameB v.nm) := by
  unfold varB varD mostL sizeI
  generalize plainB v.fm = b1
  generalize nameB v.nm = b2
  generalize v.op = b3
  generalize v.rf = b4
  by_cases h : v.fm = 1 ∨ v.fm = 5
  · rw [if_pos h, if_pos h]
    by_cases h1 : v.ln ≤ 4096
    · rw [decide_eq_true h1, decide_eq_true (show v.ln ≤ 16384 by omega), decide_eq_true (show v.ln * 4 ≤ 16384 by omega)]
      cases b1 <;> cases b2 <;> cases b3 <;> cases b4 <;> simp
    · rw [decide_eq_false h1, decide_eq_false (show ¬ v.ln * 4 ≤ 16384 by omega)]
      cases b1 <;> cases b2 <;> cases b3 <;> cases b4 <;> simp
  · rw [if_neg h, if_neg h, Int.mul_one]
    cases b1 <;> cases b2 <;> cases b3 <;> cases b4 <;> simp
theorem cnB_D (c : Cn) : cnB c = (conD c && nameB c.nm) := by
  unfold cnB cnsB conD
  cases valB c.ty with
  | none => rfl
  | some r =>
    obtain ⟨lo, hi⟩ := r
    simp only
    generalize decide (lo ≤ c.n) = b1
    generalize decide (c.n ≤ hi) = b2
    generalize decide ((c.s.size : Int) ≤ (if c.ty = 7 then 200 else 0)) = b3
    generalize c.ex = b4
    generalize nameB c.nm = b5
    cases b1 <;> cases b2 <;> cases b3 <;> cases b4 <;> cases b5 <;> rfl
theorem prcB_D (p : Pc) : prcB p = (prcD p && nameB p.nm) := by
  unfold prcB prcD
  simp only [Bool.and_assoc]
def namesO (o : Sy) : List ByteArray := o.cs.map (·.nm) ++ (o.vs.map (·.nm) ++ o.ps.map (·.nm))
def rightD (o : Sy) : Bool := nameB o.nm && (decide (o.cs.length ≤ 200) && decide (o.vs.length ≤ 200) && decide (o.ps.length ≤ 100)) && (o.cs.all conD && o.vs.all varD && o.ps.all prcD && namesB (namesO o))
theorem allNm_names (o : Sy) (h1 : ∀ x ∈ o.cs, x.nm.size ≤ 140737488355328) (h2 : ∀ x ∈ o.vs, x.nm.size ≤ 140737488355328) (h3 : ∀ x ∈ o.ps, x.nm.size ≤ 140737488355328) : (allNm o (o.ps.map fun p => (p, (⟨none, 0, 0⟩ : Sl)))).map bsOf = (namesO o).map (·.data.toList) := by
  unfold allNm namesO
  simp only [List.map_append, List.map_map]
  have e : ∀ x : ByteArray, x.size ≤ 140737488355328 → bsOf (nmOf x) = x.data.toList := fun x hx => by unfold bsOf; rw [nmOf_val hx]
  rw [show List.map (bsOf ∘ fun x : Cn => nmOf x.nm) o.cs = List.map ((fun x : ByteArray => x.data.toList) ∘ fun x : Cn => x.nm) o.cs from List.map_congr_left fun x hx => e _ (h1 x hx), show List.map (bsOf ∘ fun x : Vr => nmOf x.nm) o.vs = List.map ((fun x : ByteArray => x.data.toList) ∘ fun x : Vr => x.nm) o.vs from List.map_congr_left fun x hx => e _ (h2 x hx)]
  congr 2
  exact List.map_congr_left fun x hx => e _ (h3 x hx)
theorem right_doc (o : Sy) (h1 : ∀ x ∈ o.cs, x.nm.size ≤ 140737488355328) (h2 : ∀ x ∈ o.vs, x.nm.size ≤ 140737488355328) (h3 : ∀ x ∈ o.ps, x.nm.size ≤ 140737488355328) : rightP o = rightD o := by
  rw [Bool.eq_iff_iff]
  unfold rightP rightS rightD diffB
  rw [allNm_names o h1 h2 h3]
  simp only [Bool.and_eq_true, decide_eq_true_eq, List.length_map, List.all_eq_true, List.mem_map, cnB_D, varB_D, prcB_D, namesB_iff]
  constructor
  · rintro ⟨a, ⟨b1, b2⟩, ⟨c1, c2⟩, ⟨d1, d2⟩, e⟩
    refine ⟨⟨a, ⟨by omega, by omega⟩, by omega⟩, ⟨⟨⟨fun x hx => (b2 x hx).1, fun x hx => (c2 x hx).1⟩, fun x hx => (d2 (x, ⟨none, 0, 0⟩) ⟨x, hx, rfl⟩).1⟩, fun x hx => ?_, e⟩⟩
    unfold namesO at hx
    rcases List.mem_append.1 hx with h | h
    · obtain ⟨y, hy, rfl⟩ := List.mem_map.1 h
      exact (b2 y hy).2
    · rcases List.mem_append.1 h with h | h
      · obtain ⟨y, hy, rfl⟩ := List.mem_map.1 h
        exact (c2 y hy).2
      · obtain ⟨y, hy, rfl⟩ := List.mem_map.1 h
        exact (d2 (y, ⟨none, 0, 0⟩) ⟨y, hy, rfl⟩).2
  · rintro ⟨⟨a, ⟨b1, c1⟩, d1⟩, ⟨⟨b2, c2⟩, d2⟩, n1, e⟩
    have hn : ∀ x, x ∈ o.cs.map (·.nm) ∨ x ∈ o.vs.map (·.nm) ∨ x ∈ o.ps.map (·.nm) → nameB x = true := fun x hx => n1 x (by
      unfold namesO
      rw [List.mem_append, List.mem_append]
      exact hx)
    refine ⟨a, ⟨by omega, fun x hx => ⟨b2 x hx, hn _ (.inl (List.mem_map.2 ⟨x, hx, rfl⟩))⟩⟩, ⟨by omega, fun x hx => ⟨c2 x hx, hn _ (.inr (.inl (List.mem_map.2 ⟨x, hx, rfl⟩)))⟩⟩, ⟨by omega, ?_⟩, e⟩
    rintro x ⟨p, hp, rfl⟩
    exact ⟨d2 p hp, hn _ (.inr (.inr (List.mem_map.2 ⟨p, hp, rfl⟩)))⟩
end Go.Proofs.YtcppgpcgbggdcaaDoor
