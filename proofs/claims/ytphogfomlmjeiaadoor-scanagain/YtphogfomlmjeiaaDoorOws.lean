/-
  Rows of bytes and of places that a call makes, one beside the other: they stand apart by their kinds.
-/
import Derived.Test.YtphogfomlmjeiaaDoorWri
import Derived.Test.YtphogfomlmjeiaaDoorRf7
import Derived.Test.YtphogfomlmjeiaaDoorDr
import Derived.Lib.AppendStr
import Derived.Deep.Grids
namespace Go.Proofs.YtphogfomlmjeiaaDoor
set_option linter.unusedVariables false
set_option linter.unusedSimpArgs false
open Go.ChangeShapes Go.WideShapes Go.ChangeAt Go.RowKit

theorem own_apart {w w' : World} {B B1 e1 e2 s1 s2 n1 n2 : Nat} {v1 v2 : Value} {xs1 xs2 : List Value} (h2 : w.ownsRow B e2 s2 v2 n2 xs2) (h1 : w.ownsRow B1 e1 s1 v1 n1 xs1) (hne : e1 ≠ e2) (hg : w.grownBy w' v1.ownBlock) : w'.ownsRow B e2 s2 v2 n2 xs2 := by
  refine ⟨h2.1, h2.2.imp id fun ⟨g, cap, cur, q1, q2, q3, q4⟩ => ⟨g, cap, cur, q1, q2, ?_, q4⟩⟩
  rw [hg.block g (Array.getElem?_eq_some_iff.1 q3).1 ?_]
  · exact q3
  · intro e
    rcases h1.2 with ⟨rfl, _⟩ | ⟨g', cap', cur', rfl, _, p3, _⟩
    · simp [Value.ownBlock] at e
    · simp only [Value.ownBlock, Option.some.injEq] at e
      subst e
      rw [q3] at p3
      simp only [Option.some.injEq, Obj.cells.injEq] at p3
      exact hne p3.2.1.symm
theorem own_slice {w : World} {B e size n : Nat} {v : Value} {xs : List Value} (h : w.ownsRow B e size v n xs) : ∃ a c, v = .slice a n c := by
  rcases h.2 with ⟨rfl, rfl⟩ | ⟨g, cap, cur, rfl, _⟩
  · exact ⟨none, 0, rfl⟩
  · exact ⟨_, cap, rfl⟩
def OwB (w : World) (B : Nat) (v : Value) (O : Bs) : Prop := w.ownsRow B 5 1 v O.length (Lib.strCells (bs O))
def intC (ps : List Nat) : List Value := ps.map fun (q : Nat) => Value.int .i64 (q : Int)
def OwI (w : World) (B : Nat) (v : Value) (ps : List Nat) : Prop := w.ownsRow B 3 1 v ps.length (intC ps)
theorem bcells_app (a b : Bs) : Lib.strCells (bs a) ++ Lib.strCells (bs b) = Lib.strCells (bs (a ++ b)) := by simp [Lib.strCells, bs]
theorem info3 : (Tryd.prog.info? 3).map (fun i => (i.zero, i.size, i.bytes)) = some (some (.int .i64 0), 1, 8) := by kernel_rfl
theorem app_text {w : World} {B : Nat} {v : Value} {O : Bs} (h : OwB w B v O) (s : Bs) (hl : O.length + s.length ≤ 1000000000) (hB : B ≤ w.heap.size) :
    ∃ a' n' c' w', (appU #[39, 9] 39 #[v, .string (bs s)]).run Tryd.prog w = .ok (.slice a' n' c') w' ∧ n' = (O ++ s).length ∧ OwB w' B (.slice a' n' c') (O ++ s) ∧ w.grownBy w' v.ownBlock := by
  obtain ⟨i0, hi0, hz0, hz1, hz2⟩ := info_parts info5
  obtain ⟨v', w', hr, ho, hg, _⟩ := Lib.run_append_own_string (P := Tryd.prog) w B 39 9 39 5 i0 Tryd.underlying39 Tryd.underlying9 hi0 hz0 hz1 hz2 v O.length _ h (bs s) (by rw [bs_size]; unfold maxLen; omega) (by rw [bs_size]; omega) hB
  rw [bcells_app, bs_size, ← List.length_append] at ho
  obtain ⟨a', c', rfl⟩ := own_slice ho
  exact ⟨a', _, c', w', hr, rfl, ho, hg⟩
theorem app_blank {w : World} {B : Nat} {v : Value} {O : Bs} (h : OwB w B v O) (hl : O.length + 1 ≤ 1000000000) (hB : B ≤ w.heap.size) :
    ∃ a' n' c' w', (appU #[39, 39] 39 #[v, .slice (some ⟨w.heap.size, 0, none⟩) 1 1]).run Tryd.prog (w.alloc (.cells #[.int .u8 32] 5)) = .ok (.slice a' n' c') w' ∧ n' = (O ++ [32]).length ∧ OwB w' B (.slice a' n' c') (O ++ [32]) ∧ (w.alloc (.cells #[.int .u8 32] 5)).grownBy w' v.ownBlock := by
  obtain ⟨i0, hi0, hz0, hz1, hz2⟩ := info_parts info5
  obtain ⟨v', w', hr, ho, hg, _⟩ := run_append_own (P := Tryd.prog) (w := w.alloc (.cells #[.int .u8 32] 5)) B 39 39 5 i0 (.int .u8 0) 1 1 Tryd.underlying39 hi0 hz0 hz1 hz2 rfl (by decide) v O.length _ (h.alloc _) ⟨w.heap.size, 0, none⟩ 1 1 [.int .u8 32] rfl (fun j u hj => by
    match j, hj with
    | 0, hj => simp at hj; subst hj; simp [Addr.add]
    | j + 1, hj => simp at hj) (by intro u hu; simp at hu; subst hu; rfl) (by unfold maxLen; omega) (by omega) (by simp; omega)
  have e : Lib.strCells (bs O) ++ [.int .u8 32] = Lib.strCells (bs (O ++ [32])) := by rw [← bcells_app]; rfl
  rw [e] at ho
  have ho : OwB w' B v' (O ++ [32]) := by unfold OwB; rw [List.length_append]; exact ho
  obtain ⟨a', c', rfl⟩ := own_slice ho
  exact ⟨a', _, c', w', hr, rfl, ho, hg⟩
theorem app_place {w : World} {B : Nat} {v : Value} {ps : List Nat} (h : OwI w B v ps) (q : Nat) (hl : ps.length + 1 ≤ 1000000) (hB : B ≤ w.heap.size) :
    ∃ a' n' c' w', (appU #[40, 40] 40 #[v, .slice (some ⟨w.heap.size, 0, none⟩) 1 1]).run Tryd.prog (w.alloc (.cells #[.int .i64 (q : Int)] 3)) = .ok (.slice a' n' c') w' ∧ n' = (ps ++ [q]).length ∧ OwI w' B (.slice a' n' c') (ps ++ [q]) ∧ (w.alloc (.cells #[.int .i64 (q : Int)] 3)).grownBy w' v.ownBlock := by
  obtain ⟨i0, hi0, hz0, hz1, hz2⟩ := info_parts info3
  obtain ⟨v', w', hr, ho, hg, _⟩ := run_append_own (P := Tryd.prog) (w := w.alloc (.cells #[.int .i64 (q : Int)] 3)) B 40 40 3 i0 (.int .i64 0) 1 8 Tryd.underlying40 hi0 hz0 hz1 hz2 rfl (by decide) v ps.length _ (h.alloc _) ⟨w.heap.size, 0, none⟩ 1 1 [.int .i64 (q : Int)] rfl (fun j u hj => by
    match j, hj with
    | 0, hj => simp at hj; subst hj; simp [Addr.add]
    | j + 1, hj => simp at hj) (by intro u hu; simp at hu; subst hu; rfl) (by unfold maxLen; omega) (by omega) (by simp; omega)
  have e : intC ps ++ [.int .i64 (q : Int)] = intC (ps ++ [q]) := by simp [intC]
  rw [e] at ho
  have ho : OwI w' B v' (ps ++ [q]) := by unfold OwI; rw [List.length_append]; exact ho
  obtain ⟨a', c', rfl⟩ := own_slice ho
  exact ⟨a', _, c', w', hr, rfl, ho, hg⟩
theorem conv_text {w : World} {B : Nat} {v : Value} {O : Bs} (h : OwB w B v O) : (convert 39 9 v).run Tryd.prog w = .ok (.string (bs O)) w := by
  rcases h.2 with ⟨rfl, h0⟩ | ⟨g, cap, cur, rfl, hb, hg, hc, _, hs, ht⟩
  · obtain rfl : O = [] := List.eq_nil_of_length_eq_zero h0
    rw [run_convert_bytes_string w _ 9 5 none 0 0 Tryd.underlying39 Tryd.underlying5 Tryd.underlying9]
    rfl
  · have hcell : ∀ i, i < O.length → w.cell? ⟨g, 0 + i, none⟩ = some (.int .u8 ((O.map fun (c : UInt8) => (c.toNat : Int)).getD i 0)) := fun i hi => by
      have h1 : (Lib.strCells (bs O))[i]? = some (.int .u8 ((O.map fun (c : UInt8) => (c.toNat : Int)).getD i 0)) := by
        simp [Lib.strCells, bs, hi, List.getD]
      rw [← ht, Nat.mul_one, List.getElem?_take, if_pos hi] at h1
      rw [Nat.zero_add, show w.cell? ⟨g, i, none⟩ = cur[i]? by simp [World.cell?, hg]]
      simpa using h1
    have hc := run_convert_bytes_arg (P := Tryd.prog) w 39 5 Tryd.underlying39 Tryd.underlying5 g 0 O.length cap (O.map fun (c : UInt8) => (c.toNat : Int)) (by simp) hcell 9 Tryd.underlying9
    rw [hc]
    congr 2
    unfold strOfNums bs
    congr 2
    rw [List.map_map]
    conv => rhs; rw [← List.map_id O]
    apply List.map_congr_left
    intro c _
    simp
theorem own_ints {w : World} {B : Nat} {v : Value} {ps : List Nat} (h : OwI w B v ps) : ∀ i (hi : i < ps.length), ∃ g c, v = .slice (some ⟨g, 0, none⟩) ps.length c ∧ w.cell? ⟨g, i, none⟩ = some (.int .i64 (ps[i] : Int)) := fun i hi => by
  rcases h.2 with ⟨_, h0⟩ | ⟨g, cap, cur, rfl, hb, hg, hc, _, hs, ht⟩
  · omega
  · refine ⟨g, cap, rfl, ?_⟩
    have h1 : (intC ps)[i]? = some (.int .i64 (ps[i] : Int)) := by simp [intC, hi]
    rw [← ht, Nat.mul_one, List.getElem?_take, if_pos hi] at h1
    rw [show w.cell? ⟨g, i, none⟩ = cur[i]? by simp [World.cell?, hg]]
    simpa using h1
/-- A row of truth values that came in. -/
def RdBo (w : World) (a : Option Addr) (len : Nat) (f : Nat → Bool) : Prop :=
  len ≤ 9223372036854775807 ∧ ∀ i, i < len → ∃ b off, a = some ⟨b, off, none⟩ ∧ w.cell? ⟨b, off + i, none⟩ = some (.bool (f i))
theorem rdb_of {H : Type} {enc : TypeId × Value → H} {W : World} {base : Nat} {held : Bool} {a : Option Addr} {len cap : Nat} {d : DataW H} {p : List MemPlace}
    (h : DataW.Trod enc Tryd.prog W base (fun _ => true) held 38 (.slice a len cap) d p) : ∃ f, RdBo W a len f := by
  obtain ⟨fuel, hf⟩ := h
  rcases Go.Deep.open_bools Tryd.underlying38 Tryd.underlying4 (by kernel_rfl) hf with ⟨hcs, _⟩ | ⟨x, l, c, f, hcs, _, hl, hm, hd, hcell⟩
  · simp [Value.cells] at hcs
    obtain ⟨rfl, rfl, rfl⟩ := hcs
    exact ⟨fun _ => false, by omega, fun i hi => by omega⟩
  · simp [Value.cells] at hcs
    obtain ⟨rfl, rfl, rfl⟩ := hcs
    unfold maxLen at hm
    refine ⟨f, by omega, fun i hi => ?_⟩
    obtain ⟨b, off, spot⟩ := x
    have hc := hcell 0 (by omega)
    have hspot : spot = none := by simpa [Addr.add] using World.cell?_spot hc
    subst hspot
    refine ⟨b, off, rfl, ?_⟩
    have h1 := hcell i (by omega)
    rw [Addr.add_mid] at h1
    exact h1
end Go.Proofs.YtphogfomlmjeiaaDoor
