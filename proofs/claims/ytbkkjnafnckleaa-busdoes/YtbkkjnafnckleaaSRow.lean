/-
  Rows of bytes behind slices: what an append leaves; how they read as strings.
-/
import Derived.Test.YtbkkjnafnckleaaMem
namespace Go.Proofs.Ytbkkjnafnckleaa
open Go.ChangeShapes Go.WideShapes Go.ChangeAt Go.RowKit
attribute [local go_sem ↓] loadSec_seal storeSec_seal eqlSec_seal zeroSec
attribute [local go_sem] loadSec_run storeSec_run rowAt_at rowAt_old rowAt_drew rowAt_drewN roomSec_new roomAt_old roomAt_drew roomAt_drewN putSec_new putRow_past rowSec_put size_put putRow_drew putRow_drewN alloc_drewN setCell_drewN sec_size

set_option linter.unusedVariables false

def bcells (f : List Int) : List Value := f.map fun x => .int .u8 x
theorem bcells_at (f : List Int) {i : Nat} (h : i < f.length) : (bcells f)[i]? = some (.int .u8 (f.getD i 0)) := by
  simp [bcells, List.getElem?_map, List.getElem?_eq_getElem h, List.getD]
theorem bcells_len (f : List Int) : (bcells f).length = f.length := by simp [bcells]
theorem bcells_one (f : List Int) : ∀ u ∈ bcells f, u.oneCell' = true := by
  intro u hu
  simp [bcells] at hu
  obtain ⟨i, _, rfl⟩ := hu
  rfl
theorem tou_setCells {M : Nat → Prop} {a : World} (b : Nat) (hb : M b) : ∀ (vs : List Value) (k : Nat) (w : World), Tou M a w → Tou M a (w.setCells b k vs)
  | [], _, _, h => h
  | v :: r, k, w, h => by rw [World.setCells]; exact tou_setCells b hb r (k + 1) _ (h.set ⟨b, k, none⟩ hb _)
theorem getD_append (f g : List Int) (i : Nat) : (f ++ g).getD i 0 = if i < f.length then f.getD i 0 else g.getD (i - f.length) 0 := by
  by_cases h : i < f.length
  · simp [List.getD, h, List.getElem?_append_left]
  · simp [List.getD, h, List.getElem?_append_right (Nat.le_of_not_lt h)]
theorem sr_none {w : World} {c : Nat} {f : List Int} (h : SRow w none c f) : f = [] ∧ c = 0 := by
  rcases h.row with ⟨_, h1, h2⟩ | ⟨g, off, cur, h0, _⟩
  · exact ⟨h1, h2⟩
  · cases h0
/-- Whatever is appended: where the row lies then, and what it reads as. -/
theorem srow_append {w : World} {a : Option Addr} {c : Nat} {f : List Int} (h : SRow w a c f) (tx ty : TypeId) (x : Value) (k : List Int) (hs : Src Try.prog 1 tx x k.length (bcells k) w) (hk : ∀ y ∈ k, 0 ≤ y ∧ y ≤ 255) (hl : f.length + k.length ≤ 70368744243200) :
    ∃ a' c' w', (Builtin.append_ #[35, tx] ty #[.slice a f.length c, x]).run Try.prog w = .ok (.slice a' (f.length + k.length) c') w' ∧ SRow w' a' c' (f ++ k) ∧ Tou (inB a) w w' ∧ (∀ x, inB a' x → inB a x ∨ w.heap.size ≤ x) ∧ (∀ x, inB a' x → x < w'.heap.size) := by
  obtain ⟨i0, hi, hz0, hz1, hz2⟩ := info_parts info5
  have hby : ∀ y ∈ f ++ k, 0 ≤ y ∧ y ≤ 255 := fun y hy => (List.mem_append.1 hy).elim (h.byte y) (hk y)
  have hs' : Src Try.prog i0.size tx x k.length (bcells k) w := by rw [hz1]; exact hs
  by_cases hroom : f.length + k.length ≤ c
  · rcases h.row with ⟨rfl, rfl, rfl⟩ | ⟨g, off, cur, rfl, hg, h1, h2, h3⟩
    · have hk0 : k = [] := List.length_eq_zero_iff.1 (by simpa using hroom)
      subst hk0
      refine ⟨none, 0, w, ?_, ⟨.inl ⟨rfl, rfl, rfl⟩, hby⟩, Tou.refl _ _, fun x hx => .inl hx, fun x ⟨p, hp, _⟩ => by cases hp⟩
      have hu := Try.underlying35
      have := hs.len w
      have h2 : (Builtin.firstCells 1 0 x).run Try.prog w = .ok (bcells []).toArray w := hs.cells
      rcases hs.kind with ⟨e', hk⟩ | hk <;> simp [Builtin.append_, run_underlying hu, run_underlying hk, sizeOf, typeInfo, hi, hz1, this, h2]
    · have hlt : g < w.heap.size := by
        rcases Nat.lt_or_ge g w.heap.size with h1 | h1
        · exact h1
        · rw [Array.getElem?_eq_none h1] at hg; cases hg
      have hcell : ∀ j, j < (bcells k).length → (w.cell? ⟨g, off + f.length * i0.size + j, none⟩).isSome = true := fun j hj => by
        rw [bcells_len] at hj
        rw [hz1, Nat.mul_one, cell_of_row w g _ cur 5 (0, 0) hg, Array.getElem?_eq_getElem (by omega)]; rfl
      have hr := run_append_room_src (P := Try.prog) w 35 tx ty 5 i0 Try.underlying35 hi g off f.length c x k.length (bcells k) hs' hroom hcell (fun j hj => by simp [World.frozen?, hg])
      rw [hz1, Nat.mul_one] at hr
      have ht : Tou (inB (some ⟨g, off, none⟩)) w (w.setCells g (off + f.length) (bcells k)) := tou_setCells g ⟨_, rfl, rfl⟩ _ _ _ (Tou.refl _ _)
      refine ⟨_, _, _, hr, ⟨.inr ⟨g, off, putList cur (off + f.length) (bcells k), rfl, setCells_heap _ _ _ _ hg, by rw [putList_size]; exact h1, by simpa using hroom, fun i hi => ?_⟩, hby⟩, ht, fun x hx => .inl hx, fun x ⟨p, hp, e⟩ => ?_⟩
      · have hi' : i < f.length + k.length := by simpa using hi
        rw [putList_at _ _ _ _ (by omega), getD_append, bcells_len]
        by_cases hif : i < f.length
        · rw [if_neg (by omega), if_pos hif]; exact h3 i hif
        · rw [if_pos (by omega), if_neg hif, show off + i - (off + f.length) = i - f.length by omega]
          exact bcells_at k (by omega)
      · cases hp; have := ht.size; simp only [] at e; omega
  · have hold : (Builtin.firstCells i0.size f.length (.slice a f.length c)).run Try.prog w.drew = .ok (bcells f).toArray w.drew := by
      rcases h.row with ⟨rfl, rfl, rfl⟩ | ⟨g, off, cur, rfl, hg, h1, h2, h3⟩
      · exact run_firstCells_none _ _ _ _ _
      · refine run_firstCells_some _ _ _ _ _ _ _ (by rw [bcells_len, hz1, Nat.mul_one]) fun j v hj => ?_
        have hjl : j < f.length := by have := (List.getElem?_eq_some_iff.1 hj).1; rwa [bcells_len] at this
        rw [Addr.add_mid, World.cell?_drew, cell_of_row w g _ cur 5 (0, 0) hg, h3 j hjl, ← hj, bcells_at f hjl]
    have hfit : Builtin.nextslicecap (f.length + k.length) c * i0.bytes ≤ 281474976710656 := by
      rw [hz2, Nat.mul_one]
      have := nextslicecap_le (need := f.length + k.length) (old := c) (by omega)
      omega
    have hr := run_append_grow_src (P := Try.prog) w 35 tx ty 5 i0 (.int .u8 0) Try.underlying35 hi hz0 a f.length c (bcells f) hold x k.length (bcells k) hs' (by omega) (by omega) hfit
    have hge := grownCap_ge w (f.length + k.length) c 5
    have hb : Below w.heap.size w (w.drew.alloc (.cells ((bcells f ++ bcells k).toArray ++ Builtin.zeroCells (Value.int .u8 0).cells (grownCap w (f.length + k.length) c 5 - (f.length + k.length))) 5)) := ((Below.refl _ w).drew).alloc (Nat.le_refl _) _
    refine ⟨_, _, _, hr, ⟨.inr ⟨w.heap.size, 0, _, rfl, heap_alloc_last w.drew _, ?_, by simpa using hge, fun i hi => ?_⟩, hby⟩, Below.tou hb _, fun x ⟨p, hp, e⟩ => .inr ?_, fun x ⟨p, hp, e⟩ => ?_⟩
    · have e1 : (Value.int .u8 0).cells.size = 1 := rfl
      rw [Array.size_append, size_zeroCells, e1]
      simp only [List.size_toArray, List.length_append, bcells_len]
      omega
    · have hi' : i < f.length + k.length := by simpa using hi
      have e2 : bcells f ++ bcells k = bcells (f ++ k) := by simp [bcells]
      rw [Nat.zero_add, e2, Array.getElem?_append_left (by simp [bcells_len]; omega)]
      simp only [List.getElem?_toArray]
      exact bcells_at _ hi
    · cases hp; simp only [] at e; omega
    · cases hp; simp only [] at e; simp; omega
/-- An append whose run is known, at the list of a plain region's operations. -/
theorem wpList_append_eq {P : Program} {w : World} {ops : Array Oper} {rest : List Oper} {o : Oper} {a : Act} {Q : Exit → Act → World → Prop} (hgd : o.guard = none) (s x : Operand) (t tx : TypeId)
    (ho : o.op = .call { callee := .builtin .append, args := #[s, x], argTypes := #[t, tx] }) (v u r : Value) (w' : World) (hs : a.eval s = v) (hx : a.eval x = u) (hr : (Builtin.append_ #[t, tx] o.type #[v, u]).run P w = .ok r w')
    (h : wpList P ops Q rest (a.put o.dst r) w') : wpList P ops Q (o :: rest) a w := by
  refine wpList_plain hgd fun K hK => ?_
  unfold Oper.wp execOp
  simp only [ho, resolve, invoke, builtin, Sem.run_bind, Sem.run_pure, Result.andThen_ok, List.map_toArray, List.map_cons, List.map_nil, hs, hx, hr]
  exact hK _ _ h
end Go.Proofs.Ytbkkjnafnckleaa
