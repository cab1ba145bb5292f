/-
  Layer 9: what catches the fault that a reader gives up by.
  Layer 9: a whole source.
  Layer 9: a whole module.
-/
import Derived.Test.YtllhcjmabhempaaDoorLit
import Derived.Defers
import Derived.Recover
import Derived.Test.YtllhcjmabhempaaDoorFac
import Derived.Test.YtllhcjmabhempaaDoorMMdl
namespace Go.Proofs.YtllhcjmabhempaaDoor
set_option linter.unusedVariables false
set_option linter.unusedSimpArgs false
open Go.ChangeShapes Go.WideShapes Go.ChangeAt Go.RowKit


attribute [local go_sem ↓] loadFa_seal storeFa_seal
attribute [local go_sem] storeFa_run roomFa_new rowFa_put putFa_new Fa.fold Fa.set0 Fa.set1 Fa.size Fa.ne Fa.at0 Fa.at1

def nc0 : Nc := { k := 0, t := ⟨#[]⟩, n := 0, f := false, a := none, l := 0, m := 0, p := 0 }
set_option maxHeartbeats 1000000 in
set_option maxRecDepth 20000 in
theorem catch_ret (q0 q1 q2 : Nat) (w : World) :
    CallsD Tryd.prog 27 #[.pointer (some ⟨q0, 0, none⟩), .pointer (some ⟨q1, 0, none⟩), .pointer (some ⟨q2, 0, none⟩)] .returning w fun e u' w' => e = .returned (.tuple #[]) ∧ u' = .returning ∧ w' = w := by
  refine callsD_of_wpS Tryd.func27 rfl fun c₀ cs hu => ?_
  simp only [Tryd.ntmps27, List.size_toArray, List.length_cons, List.length_nil, Nat.reduceAdd, Nat.reduceSub, Array.replicate_succ, Array.replicate_zero, List.push_toArray, List.append_toArray, List.nil_append, List.cons_append]
  apply wpS_seq
  apply wpS_region
  simp [wpOpsS, go_sem, recoverD, hu, Tryd.ntmps27, Exit.thenS]
  refine wpS_of_wp ?_
  go_wp2
  cases c₀
  simp_all [bodyPostS, results, Tryd.results27]
set_option maxHeartbeats 1000000 in
set_option maxRecDepth 20000 in
theorem assert_run (X : Array Value) (W : World) : (Instr.typeAssert (.iface 52 (.agg X)) 20 52 false).run Tryd.prog W = .ok (.agg X) W := by kernel_rfl
attribute [local go_sem] assert_run
set_option maxHeartbeats 1000000 in
set_option maxRecDepth 20000 in
theorem catch_pan (q0 q1 q2 p : Nat) (er : Int) (w : World) (h0 : roomAt w q0 6 = true) (v1 v2 : Value) (h1 : rowAt w q1 = some #[v1]) (m1 : roomAt w q1 1 = true) (h2 : rowAt w q2 = some #[v2]) (m2 : roomAt w q2 1 = true) (n1 : q0 < q1) (n2 : q1 < q2) :
    CallsD Tryd.prog 27 #[.pointer (some ⟨q0, 0, none⟩), .pointer (some ⟨q1, 0, none⟩), .pointer (some ⟨q2, 0, none⟩)] (.panicking [{ v := .iface 52 (.agg (faultC p er)), recovered := false }]) w fun e u' w' => e = .returned (.tuple #[]) ∧ u' = .panicking [{ v := .iface 52 (.agg (faultC p er)), recovered := true }] ∧ rowAt w' q0 = some nc0.cells ∧ w'.cell? ⟨q1, 0, none⟩ = some (.int .i64 (p : Int)) ∧ w'.cell? ⟨q2, 0, none⟩ = some (.int .i64 er) ∧ Below q0 w w' := by
  unfold faultC
  refine callsD_of_wpS Tryd.func27 rfl fun c₀ cs hu => ?_
  simp only [Tryd.ntmps27, List.size_toArray, List.length_cons, List.length_nil, Nat.reduceAdd, Nat.reduceSub, Array.replicate_succ, Array.replicate_zero, List.push_toArray, List.append_toArray, List.nil_append, List.cons_append]
  apply wpS_seq
  apply wpS_region
  simp [wpOpsS, go_sem, recoverD, hu, Tryd.ntmps27, Exit.thenS]
  refine wpS_of_wp ?_
  have l1 := row_lt h1
  have l2 := row_lt h2
  have d0 : q0 ≠ w.heap.size := by omega
  have l0 : q0 < w.heap.size := by omega
  have d1 : q1 ≠ w.heap.size := by omega
  have d2 : q2 ≠ w.heap.size := by omega
  have e1 : q1 ≠ q0 := by omega
  have e2 : q2 ≠ q0 := by omega
  have e3 : q2 ≠ q1 := by omega
  have c1 := rowAt_cell h1 0
  have c2 := rowAt_cell h2 0
  have f1 : w.frozen? ⟨q1, 0, none⟩ = false := (by have := (room_there m1 0 (by omega)).2; rwa [Nat.zero_add] at this)
  have f2 : w.frozen? ⟨q2, 0, none⟩ = false := (by have := (room_there m2 0 (by omega)).2; rwa [Nat.zero_add] at this)
  go_wp2
  have P1 : ∀ X, (putRow w q0 X).cell? ⟨q1, 0, none⟩ = some v1 := fun X => (World.cell?_of_block (a := ⟨q1, 0, none⟩) (put_far _ _ _ _ e1)).trans c1
  have P2 : ∀ X, (putRow w q0 X).cell? ⟨q2, 0, none⟩ = some v2 := fun X => (World.cell?_of_block (a := ⟨q2, 0, none⟩) (put_far _ _ _ _ e2)).trans c2
  have F1 : ∀ X, (putRow w q0 X).frozen? ⟨q1, 0, none⟩ = false := fun X => by have := f1; unfold World.frozen? at this ⊢; rw [put_far _ _ _ _ e1]; exact this
  have F2 : ∀ X, (putRow w q0 X).frozen? ⟨q2, 0, none⟩ = false := fun X => by have := f2; unfold World.frozen? at this ⊢; rw [put_far _ _ _ _ e2]; exact this
  have M0 : roomAt ((w.alloc (.cells ({ p := (p : Int), e := er } : Fa).cells 52)).drew) q0 6 = true := (roomAt_drew _ _ _).trans ((roomAt_old _ _ _ _ (by omega)).trans h0)
  have ST := storeNd_run _ q0 { k := 0, t := ⟨#[]⟩, n := 0, f := false, a := none, l := 0, m := 0, p := 0 } M0
  go_region
  have FIN : Hid (∀ Y, Y = ((((putRow w q0 (⟨0, ⟨#[]⟩, 0, false, none, 0, 0, 0⟩ : Nc).cells).setCell ⟨q1, 0, none⟩ (.int .i64 (p : Int))).setCell ⟨q2, 0, none⟩ (.int .i64 er)).alloc (.cells ({ p := (p : Int), e := er } : Fa).cells 52)).drew → rowAt Y q0 = some nc0.cells ∧ Y.cell? ⟨q1, 0, none⟩ = some (.int .i64 (p : Int)) ∧ Y.cell? ⟨q2, 0, none⟩ = some (.int .i64 er) ∧ Below q0 w Y) := by
    intro Y hY
    subst hY
    refine ⟨?_, ?_, ?_, ?_⟩
    · refine (rowAt_drew _ _).trans ((rowAt_old _ _ _ (by simp [size_put]; omega)).trans ?_)
      unfold rowAt
      rw [Below.heap_setCell _ _ _ _ (by show q0 ≠ q2; omega), Below.heap_setCell _ _ _ _ (by show q0 ≠ q1; omega)]
      exact rowNd_put _ _ _ h0
    · show (World.alloc _ _).cell? _ = _
      rw [World.cell?_alloc_lt _ _ _ (by simp [size_put]; omega), World.cell?_setCell_other _ _ _ _ (by intro e; injection e with e; omega)]
      exact World.cell?_setCell_same _ _ _ (P1 _)
    · show (World.alloc _ _).cell? _ = _
      rw [World.cell?_alloc_lt _ _ _ (by simp [size_put]; omega)]
      exact World.cell?_setCell_same _ _ _ ((World.cell?_setCell_other _ _ _ _ (by intro e; injection e with e; omega)).trans (P2 _))
    · exact (((((below_put (Below.refl _ _) _ (Nat.le_refl _) _).setCell (by show q0 ≤ q1; omega) _).setCell (by show q0 ≤ q2; omega) _).alloc (by simp [size_put]; omega) _)).drew
  clear ST M0 P1 P2 F1 F2
  go_wp2
  obtain ⟨x1, x2, x3, x4⟩ := FIN.out _ rfl
  exact ⟨rfl, _, rfl, .tuple #[], results_none rfl _ _ _, rfl, rfl, x1, x2, x3, x4⟩
end Go.Proofs.YtllhcjmabhempaaDoor

namespace Go.Proofs.YtllhcjmabhempaaDoor
set_option linter.unusedVariables false
set_option linter.unusedSimpArgs false
open Go.ChangeShapes Go.WideShapes Go.ChangeAt Go.RowKit


attribute [local go_sem] fieldTk0 fieldTk3 fieldTk1 hmf

def zeroN : Nd := .mk 0 [] 0 false [] 0
/-- What a whole source is read as: a tree, a place, an error. -/
def ansP (nt : NT) (l : Bs) : Nd × Nat × Int :=
  if (allP l).e ≠ 0 then (zeroN, (allP l).p, (allP l).e) else
  match run ((allP l).ts.length * 40 + 40) nt 0 (allP l).ts with
  | .bad p e => (zeroN, p, e)
  | .ok n r => if (hd r).k = 0 then (n, 0, 0) else (zeroN, (hd r).p, 90)
def PostA (w : World) (A : Nd × Nat × Int) (e : Ending) (w' : World) : Prop := ∃ c, e = .returned (.tuple #[.agg (Nc.cells c), .int .i64 (A.2.1 : Int), .int .i64 A.2.2]) ∧ NdAt w' (fun x => w.heap.size ≤ x) c A.1 ∧ Below w.heap.size w w'
theorem goX_shape : ∀ (n p : Nat) (l : Bs), l.length ≤ n → (goX p l).e = 0 → ∃ d x, (goX p l).ts = d ++ [x] ∧ x.k = 0 ∧ d.length ≤ l.length ∧ (goX p l).p = 0 := by
  intro n
  induction n with
  | zero =>
    intro p l hl he
    have : l = [] := List.eq_nil_of_length_eq_zero (by omega)
    subst this
    rw [goX_end p [] rfl rfl]
    exact ⟨[], _, rfl, rfl, by simp, rfl⟩
  | succ n ih =>
    intro p l hl he
    obtain ⟨r, hr⟩ : ∃ r, firstP (l.drop (skip l)) = r := ⟨_, rfl⟩
    by_cases h0 : r.e = 0
    · by_cases hk : r.k = 0
      · rw [goX_end p l (by rw [hr]; exact h0) (by rw [hr]; exact hk)]
        exact ⟨[], _, rfl, rfl, by simp, rfl⟩
      · obtain ⟨g, g2, g3⟩ := goX_step p l r hr h0 hk
        rw [g] at he ⊢
        unfold Al.pre at he ⊢
        split at he
        · rename_i h1
          obtain ⟨d, x, e1, e2, e3, e4⟩ := ih _ (l.drop (skip l + r.len)) (by rw [List.length_drop]; omega) h1
          rw [if_pos h1]
          refine ⟨_ :: d, x, by rw [e1]; rfl, e2, ?_, e4⟩
          rw [List.length_drop] at e3
          simp only [List.length_cons]; omega
        · rename_i h1; exact absurd he h1
    · rw [goX_bad p l r.e (by rw [hr]) h0] at he
      exact absurd he h0
theorem allP_shape (l : Bs) (h : (allP l).e = 0) : ∃ d x, (allP l).ts = d ++ [x] ∧ x.k = 0 ∧ (allP l).ts.length ≤ 16385 ∧ (allP l).p = 0 := by
  by_cases hl : l.length ≤ 16384
  · rw [allP_goX l hl] at h ⊢
    obtain ⟨d, x, e1, e2, e3, e4⟩ := goX_shape l.length 0 l (Nat.le_refl _) h
    exact ⟨d, x, e1, e2, by rw [e1]; simp; omega, e4⟩
  · unfold allP at h; rw [if_pos (by omega)] at h; simp at h
/-- The last token, and no other one, is the end. -/
theorem allP_last (l : Bs) (h : (allP l).e = 0) : ∀ q (hq : q < (allP l).ts.length), (allP l).ts[q].k ≠ 0 → q + 1 < (allP l).ts.length := by
  obtain ⟨d, x, e1, e2, _⟩ := allP_shape l h
  intro q hq hk
  by_cases hd : q < d.length
  · rw [e1]; simp; omega
  · exfalso
    apply hk
    have : q = d.length := by rw [e1] at hq; simp at hq; omega
    subst this
    have : (allP l).ts[d.length] = x := by
      have h2 : (allP l).ts[d.length]? = some x := by rw [e1]; simp
      rw [List.getElem?_eq_getElem hq] at h2
      exact Option.some.inj h2
    rw [this]; exact e2
theorem own_at3 {w : World} {B : Nat} {v : Value} {d : List Tok} (h : w.ownsRow B 41 4 v d.length (tokC d)) (hd : d ≠ []) : ∃ g c, v = .slice (some ⟨g, 0, none⟩) d.length c ∧ B ≤ g ∧ g < w.heap.size ∧ ∀ i (hi : i < d.length), ∀ j, j < 4 → w.cell? ⟨g, i * 4 + j, none⟩ = d[i].tk.cells[j]? := by
  rcases h.2 with ⟨rfl, h0⟩ | ⟨g, cap, cur, rfl, hb, hg, hc, _, hs, ht⟩
  · exact absurd (List.eq_nil_of_length_eq_zero h0) hd
  · refine ⟨g, cap, rfl, hb, (Array.getElem?_eq_some_iff.1 hg).1, fun i hi j hj => ?_⟩
    have h1 := tokC_at d i j hi hj
    rw [← ht, List.getElem?_take, if_pos (by omega)] at h1
    rw [show w.cell? ⟨g, i * 4 + j, none⟩ = cur[i * 4 + j]? by simp [World.cell?, hg], ← h1]
    simp
theorem rowAt_one {w : World} {q : Nat} {v : Value} (t : TypeId) (k : Nat) (hk : k = w.heap.size) : rowAt (w.alloc (.cells #[v] t)) k = some #[v] := rowAt_at _ _ _ _ _ hk
theorem roomAt_one (w : World) (v : Value) (t : TypeId) (k : Nat) (hk : k = w.heap.size) : roomAt (w.alloc (.cells #[v] t)) k 1 = true := roomAt_new w _ t _ k hk rfl
/-- The results' three variables, in a world behind that of the call. -/
structure Tri (w W : World) (v1 v2 : Value) : Prop where
  r0 : roomAt W w.heap.size 6 = true
  a1 : rowAt W (w.heap.size + 1) = some #[v1]
  a2 : rowAt W (w.heap.size + 1 + 1) = some #[v2]
  b1 : roomAt W (w.heap.size + 1) 1 = true
  b2 : roomAt W (w.heap.size + 1 + 1) 1 = true
  lt : w.heap.size + 1 + 1 < W.heap.size
  be : Below w.heap.size w W
section
variable {w W W' : World} {v1 v2 : Value}
theorem room_of {q : Nat} (h : W'.heap[q]? = W.heap[q]?) {n : Nat} (hr : roomAt W q n = true) : roomAt W' q n = true := by unfold roomAt at hr ⊢; rw [h]; exact hr
theorem row_of {q : Nat} {X : Array Value} (h : W'.heap[q]? = W.heap[q]?) (hr : rowAt W q = some X) : rowAt W' q = some X := by unfold rowAt at hr ⊢; rw [h]; exact hr
theorem Tri.keep (h : Tri w W v1 v2) (h0 : W'.heap[w.heap.size]? = W.heap[w.heap.size]?) (h1 : W'.heap[w.heap.size + 1]? = W.heap[w.heap.size + 1]?) (h2 : W'.heap[w.heap.size + 1 + 1]? = W.heap[w.heap.size + 1 + 1]?) (hs : W.heap.size ≤ W'.heap.size) (hb : Below w.heap.size w W') : Tri w W' v1 v2 :=
  ⟨room_of h0 h.r0, row_of h1 h.a1, row_of h2 h.a2, room_of h1 h.b1, room_of h2 h.b2, Nat.lt_of_lt_of_le h.lt hs, hb⟩
theorem Tri.gb (h : Tri w W v1 v2) {b : Nat} (hb : w.heap.size + 1 + 1 < b) (hg : W.grownBy W' (some b)) : Tri w W' v1 v2 := by
  have hl := h.lt
  refine h.keep (hg.block _ (by omega) (fun e => by injection e with e; omega)) (hg.block _ (by omega) (fun e => by injection e with e; omega)) (hg.block _ (by omega) (fun e => by injection e with e; omega)) hg.size ?_
  exact h.be.grown hg (by have := h.be.size; omega) (fun j hj => by injection hj with hj; omega)
theorem Tri.call (h : Tri w W v1 v2) (hb : Below W.heap.size W W') : Tri w W' v1 v2 := by
  have hl := h.lt
  exact h.keep (hb.block _ (by omega)) (hb.block _ (by omega)) (hb.block _ (by omega)) hb.size (h.be.trans (hb.mono (by omega)))
theorem room_tri {q n o : Nat} {v : Value} (h : roomAt W q n = true) : roomAt (W.setCell ⟨q, o, none⟩ v) q n = true := by
  unfold roomAt at h ⊢
  split at h
  · rename_i Y t fr hb
    rw [Go.Joins.block_setCell hb]
    simpa using h
  · cases h
theorem Tri.set1 (h : Tri w W v1 v2) (v : Value) : Tri w (W.setCell ⟨w.heap.size + 1, 0, none⟩ v) v v2 := by
  have hl := h.lt
  have f0 : (W.setCell ⟨w.heap.size + 1, 0, none⟩ v).heap[w.heap.size]? = W.heap[w.heap.size]? := Below.heap_setCell _ _ _ _ (by show w.heap.size ≠ w.heap.size + 1; omega)
  have f2 : (W.setCell ⟨w.heap.size + 1, 0, none⟩ v).heap[w.heap.size + 1 + 1]? = W.heap[w.heap.size + 1 + 1]? := Below.heap_setCell _ _ _ _ (by show w.heap.size + 1 + 1 ≠ w.heap.size + 1; omega)
  refine ⟨room_of f0 h.r0, rowAt_set _ _ _ _ _ h.a1, row_of f2 h.a2, ?_, room_of f2 h.b2, by simpa using hl, h.be.setCell (by show w.heap.size ≤ w.heap.size + 1; omega) _⟩
  exact room_tri h.b1
theorem Tri.set2 (h : Tri w W v1 v2) (v : Value) : Tri w (W.setCell ⟨w.heap.size + 1 + 1, 0, none⟩ v) v1 v := by
  have hl := h.lt
  have f0 : (W.setCell ⟨w.heap.size + 1 + 1, 0, none⟩ v).heap[w.heap.size]? = W.heap[w.heap.size]? := Below.heap_setCell _ _ _ _ (by show w.heap.size ≠ w.heap.size + 1 + 1; omega)
  have f1 : (W.setCell ⟨w.heap.size + 1 + 1, 0, none⟩ v).heap[w.heap.size + 1]? = W.heap[w.heap.size + 1]? := Below.heap_setCell _ _ _ _ (by show w.heap.size + 1 ≠ w.heap.size + 1 + 1; omega)
  refine ⟨room_of f0 h.r0, row_of f1 h.a1, rowAt_set _ _ _ _ _ h.a2, room_of f1 h.b1, ?_, by simpa using hl, h.be.setCell (by show w.heap.size ≤ w.heap.size + 1 + 1; omega) _⟩
  exact room_tri h.b2
theorem Tri.put (h : Tri w W v1 v2) (c : Nc) : Tri w (putRow W w.heap.size c.cells) v1 v2 := by
  have hl := h.lt
  exact ⟨room_keep h.r0 _ rfl, row_of (put_far _ _ _ _ (by omega)) h.a1, row_of (put_far _ _ _ _ (by omega)) h.a2, room_of (put_far _ _ _ _ (by omega)) h.b1, room_of (put_far _ _ _ _ (by omega)) h.b2, by rw [size_put]; exact hl, below_put h.be _ (Nat.le_refl _) _⟩
theorem Tri.alloc (h : Tri w W v1 v2) (x : Obj) : Tri w (W.alloc x) v1 v2 := h.call ((Below.refl _ _).alloc (Nat.le_refl _) _)
theorem Tri.drew (h : Tri w W v1 v2) : Tri w W.drew v1 v2 := h.call (Below.refl _ _).drew
theorem Tri.c1 (h : Tri w W v1 v2) : W.cell? ⟨w.heap.size + 1, 0, none⟩ = some v1 := rowAt_cell h.a1 0
theorem Tri.c2 (h : Tri w W v1 v2) : W.cell? ⟨w.heap.size + 1 + 1, 0, none⟩ = some v2 := rowAt_cell h.a2 0
theorem Tri.f1 (h : Tri w W v1 v2) : W.frozen? ⟨w.heap.size + 1, 0, none⟩ = false := by have := (room_there h.b1 0 (by omega)).2; rwa [Nat.zero_add] at this
theorem Tri.f2 (h : Tri w W v1 v2) : W.frozen? ⟨w.heap.size + 1 + 1, 0, none⟩ = false := by have := (room_there h.b2 0 (by omega)).2; rwa [Nat.zero_add] at this
end
theorem rd_new {W : World} {b1 b2 : Nat} {x y : Value} {g cp : Nat} {L : List Tok} (hs : L.length ≤ 16385 ∧ ∀ q (hq : q < L.length), L[q].k ≠ 0 → q + 1 < L.length) (h1 : g ≠ b1) (h2 : g ≠ b2) (hg : g < W.heap.size) (htok : ∀ i (hi : i < L.length), ∀ j, j < 4 → W.cell? ⟨g, i * 4 + j, none⟩ = L[i].tk.cells[j]?) (hne : 0 < L.length) :
    RdAt (((W.setCell ⟨b1, 0, none⟩ x).setCell ⟨b2, 0, none⟩ y).alloc (.cells (rdC g cp L 0 0) 54)) W.heap.size g cp L 0 0 := by
  have hgb : (((W.setCell ⟨b1, 0, none⟩ x).setCell ⟨b2, 0, none⟩ y).alloc (.cells (rdC g cp L 0 0) 54)).heap[g]? = W.heap[g]? := (((Below.refl _ _).alloc (Nat.le_refl _) _).block g (by simpa using hg)).trans ((Below.heap_setCell _ _ _ _ h2).trans (Below.heap_setCell _ _ _ _ h1))
  exact { blk := heap_new' _ _ (by simp), ne := by omega, gl := by simp; omega, tok := fun q hq j hj => (World.cell?_of_block (a := ⟨g, q * 4 + j, none⟩) hgb).trans (htok q hq j hj), il := hne, ll := by omega, ol := by omega, last := hs.2 }
theorem res3 {P : Program} {fn : Func} {tmps : Array Value} {w : World} {p q r : Tmp} {t0 t1 t2 : TypeId} {a0 a1 a2 : Addr} {v0 v1 v2 : Value} (h : fn.results = #[.cell p t0, .cell q t1, .cell r t2]) (hp : tmps.getD p undef = .pointer (some a0)) (hq : tmps.getD q undef = .pointer (some a1)) (hr : tmps.getD r undef = .pointer (some a2)) (l0 : (loadVar t0 a0).run P w = .ok v0 w) (l1 : (loadVar t1 a1).run P w = .ok v1 w) (l2 : (loadVar t2 a2).run P w = .ok v2 w) : (results fn tmps).run P w = .ok (.tuple #[v0, v1, v2]) w := by
  have hp' : tmps[p]?.getD undef = .pointer (some a0) := by simpa using hp
  have hq' : tmps[q]?.getD undef = .pointer (some a1) := by simpa using hq
  have hr' : tmps[r]?.getD undef = .pointer (some a2) := by simpa using hr
  simp only [results, h]
  simp [hp', hq', hr', asAddr, l0, l1, l2]
theorem loadI {W : World} {q : Nat} {x : Int} (h : W.cell? ⟨q, 0, none⟩ = some (.int .i64 x)) : (loadVar 3 ⟨q, 0, none⟩).run Tryd.prog W = .ok (.int .i64 x) W := by simp [go_sem, h]
theorem loadE {W : World} {q : Nat} {x : Int} (h : W.cell? ⟨q, 0, none⟩ = some (.int .i64 x)) : (loadVar 25 ⟨q, 0, none⟩).run Tryd.prog W = .ok (.int .i64 x) W := by simp [go_sem, h]
theorem tri_new (w : World) : Tri w (((w.alloc (.cells (⟨0, ⟨#[]⟩, 0, false, none, 0, 0, 0⟩ : Nc).cells 31)).alloc (.cells #[.int .i64 0] 3)).alloc (.cells #[.int .i64 0] 25)) (.int .i64 0) (.int .i64 0) :=
  ⟨(roomAt_old _ _ _ _ (by first | (simp; done) | (simp; omega))).trans ((roomAt_old _ _ _ _ (by simp)).trans (roomNd_new _ _ _ _ rfl)), (rowAt_old _ _ _ (by simp)).trans (rowAt_at _ _ _ _ _ (by simp)), rowAt_at _ _ _ _ _ (by simp), (roomAt_old _ _ _ _ (by simp)).trans (roomAt_one _ _ _ _ (by simp)), roomAt_one _ _ _ _ (by simp), by simp, by go_grown⟩
set_option maxHeartbeats 4000000 in
set_option maxRecDepth 20000 in
theorem whole_expr_fails (l : Bs) (w : World) (V : Vars w) (he : (allP l).e ≠ 0) : Calls Tryd.prog 14 #[.string (bs l), .func (.func 16) #[] #[]] w (PostA w (zeroN, (allP l).p, (allP l).e)) := by
  have AL : Hid (∀ X, Vars X → Calls Tryd.prog 6 #[.string (bs l)] X _) := fun X hX => all_any l X hX
  have n0 : ((allP l).e != 0) = true := by simpa using he
  clear he
  generalize allP l = A at *
  go_enter_defers Tryd.func14, Tryd.ntmps14
  go_wp2_with (go_at_call 6; refine (AL.out _ (((V.alloc _).alloc _).alloc _)).mono ?_; rintro e w1 ⟨v, rfl, ho, hb1⟩; have T1 := (tri_new w).call hb1; have c1 := T1.c1; have c2 := T1.c2; have f1 := T1.f1; have f2 := T1.f2; have hl1 := T1.lt; have HT1 : Hid (Tri w w1 (.int .i64 0) (.int .i64 0)) := T1; clear T1)
  have T2 := (HT1.out.set1 (.int .i64 (A.p : Int))).set2 (.int .i64 A.e)
  generalize ((w1.setCell ⟨w.heap.size + 1, 0, none⟩ (.int .i64 (A.p : Int))).setCell ⟨w.heap.size + 1 + 1, 0, none⟩ (.int .i64 A.e)) = W2 at T2 ⊢
  have M0 := T2.drew.r0
  have ST := storeNd_run _ _ { k := 0, t := ⟨#[]⟩, n := 0, f := false, a := none, l := 0, m := 0, p := 0 } M0
  have T3 := T2.put { k := 0, t := ⟨#[]⟩, n := 0, f := false, a := none, l := 0, m := 0, p := 0 }
  have d1 := T2.c1
  have d2 := T2.c2
  have x1 := T3.c1
  have x2 := T3.c2
  have y1 := T3.f1
  have y2 := T3.f2
  clear c1 c2 f1 f2
  have FIN : Hid (Tri w ((((putRow W2 w.heap.size nc0.cells).setCell ⟨w.heap.size + 1, 0, none⟩ (.int .i64 (A.p : Int))).setCell ⟨w.heap.size + 1 + 1, 0, none⟩ (.int .i64 A.e)).drew) (.int .i64 (A.p : Int)) (.int .i64 A.e) ∧ rowAt ((((putRow W2 w.heap.size nc0.cells).setCell ⟨w.heap.size + 1, 0, none⟩ (.int .i64 (A.p : Int))).setCell ⟨w.heap.size + 1 + 1, 0, none⟩ (.int .i64 A.e)).drew) w.heap.size = some nc0.cells) :=
    ⟨((T3.set1 _).set2 _).drew, (rowAt_drew _ _).trans ((rowAt_far _ _ _ _ (by show w.heap.size ≠ w.heap.size + 1 + 1; omega)).trans ((rowAt_far _ _ _ _ (by show w.heap.size ≠ w.heap.size + 1; omega)).trans (rowNd_put _ _ _ T2.r0)))⟩
  clear T2 T3
  go_region
  go_wp2
  exact ⟨_, res3 rfl rfl rfl rfl (loadNd_row FIN.out.2) (loadI FIN.out.1.c1) (loadE FIN.out.1.c2), nc0, rfl, NdAt.mk 0 [] 0 false [] 0 none 0 (KidsAt.nil _ _), FIN.out.1.be⟩
set_option maxHeartbeats 4000000 in
set_option maxRecDepth 20000 in
theorem whole_expr_good (l : Bs) (w : World) (V : Vars w) (he : (allP l).e = 0) : Calls Tryd.prog 14 #[.string (bs l), .func (.func 16) #[] #[]] w (PostA w (ansP .expr l)) := by
  have AL : Hid (∀ X, Vars X → Calls Tryd.prog 6 #[.string (bs l)] X _) := fun X hX => all_any l X hX
  obtain ⟨d, xx, e1, e2, e3, e4⟩ := allP_shape l he
  have hlast := allP_last l he
  have hne : (allP l).ts ≠ [] := by rw [e1]; simp
  have n0 : ((allP l).e != 0) = false := by rw [he]; rfl
  have HA : Hid (ansP .expr l = (match run ((allP l).ts.length * 40 + 40) .expr 0 (allP l).ts with
    | .bad p e => (zeroN, p, e)
    | .ok n r => if (hd r).k = 0 then (n, 0, 0) else (zeroN, (hd r).p, 90))) := by
    show ansP .expr l = _
    unfold ansP; rw [if_neg (by rw [he]; simp)]
  have HS : Hid ((allP l).ts.length ≤ 16385 ∧ ∀ q (hq : q < (allP l).ts.length), (allP l).ts[q].k ≠ 0 → q + 1 < (allP l).ts.length) := ⟨e3, hlast⟩
  generalize ansP .expr l = RR at HA ⊢
  clear he e1 e2 e3 e4 hlast
  generalize allP l = A at *
  have EX : Hid (∀ X b g cp, RdAt X b g cp A.ts 0 0 → Calls Tryd.prog 16 #[.pointer (some ⟨b, 0, none⟩)] X (PostN X b g cp A.ts 0 0 (run (A.ts.length * 40 + 40) .expr 0 A.ts))) := fun X b g cp hX => by
    have := (exprs_all (A.ts.length * 40 + 40) (A.ts.length * 40 + 40) (Nat.le_refl _)).1 X b g cp A.ts 0 0 hX (by show (A.ts.length - 0) * 40 + _ ≤ _; simp only [lv]; omega)
    rwa [List.drop_zero] at this
  cases hr : run (A.ts.length * 40 + 40) .expr 0 A.ts with
  | bad p er =>
    rw [hr] at EX HA
    have HA : Hid (RR = (zeroN, p, er)) := HA
    clear hr
    go_enter_defers Tryd.func14, Tryd.ntmps14
    go_wp2_with (first
      | (go_at_call 6; refine (AL.out _ (((V.alloc _).alloc _).alloc _)).mono ?_; rintro e w1 ⟨v, rfl, ho, hb1⟩; have T1 := (tri_new w).call hb1; have c1 := T1.c1; have c2 := T1.c2; have f1 := T1.f1; have f2 := T1.f2; have hl1 := T1.lt; have HT1 : Hid (Tri w w1 (.int .i64 0) (.int .i64 0)) := T1; clear T1; obtain ⟨g, cp, rfl, hg1, hg2, htok⟩ := own_at3 ho hne; simp at hg1; clear ho)
      | (go_at_call 16; have T2 : Hid (Tri w (((w1.setCell ⟨w.heap.size + 1, 0, none⟩ (.int .i64 (A.p : Int))).setCell ⟨w.heap.size + 1 + 1, 0, none⟩ (.int .i64 A.e)).alloc (.cells (rdC g cp A.ts 0 0) 54)) (.int .i64 (A.p : Int)) (.int .i64 A.e)) := ((HT1.out.set1 _).set2 _).alloc _; have R2 : RdAt (((w1.setCell ⟨w.heap.size + 1, 0, none⟩ (.int .i64 (A.p : Int))).setCell ⟨w.heap.size + 1 + 1, 0, none⟩ (.int .i64 A.e)).alloc (.cells (rdC g cp A.ts 0 0) 54)) w1.heap.size g cp A.ts 0 0 := rd_new HS.out (by omega) (by omega) hg2 htok (List.length_pos_iff.2 hne); refine (EX.out _ _ _ _ R2).mono ?_; rintro e w5 ⟨he, g5⟩; unfold gaveUp at he; subst he))
    have T5 := T2.out.gb (by omega) g5
    refine leaves_cons (f := 27) (args := #[.pointer (some ⟨w.heap.size, 0, none⟩), .pointer (some ⟨w.heap.size + 1, 0, none⟩), .pointer (some ⟨w.heap.size + 1 + 1, 0, none⟩)]) (by simp) (by simp [go_sem]) ?_
    refine (catch_pan w.heap.size (w.heap.size + 1) (w.heap.size + 1 + 1) p _ _ T5.r0 _ _ T5.a1 T5.b1 T5.a2 T5.b2 (by omega) (by omega)).mono ?_
    rintro e u' w'' ⟨rfl, rfl, x1, x2, x3, x4⟩
    rw [HA.out]
    exact ⟨_, res3 rfl rfl rfl rfl (loadNd_row x1) (loadI x2) (loadE x3), nc0, rfl, NdAt.mk 0 [] 0 false [] 0 none 0 (KidsAt.nil _ _), T5.be.trans x4⟩
  | ok n r =>
    rw [hr] at EX HA
    clear hr
    by_cases hk : (hd r).k = 0
    · have HA : Hid (RR = (n, 0, 0)) := by
        show RR = _
        rw [HA.out]; show (if (hd r).k = 0 then (n, 0, 0) else (zeroN, (hd r).p, 90)) = _
        rw [if_pos hk]
      have k0 : ((hd r).tk.k != 0) = false := by simpa [Tok.tk] using hk
      clear hk
      go_enter_defers Tryd.func14, Tryd.ntmps14
      go_wp2_with (first
        | (go_at_call 6; refine (AL.out _ (((V.alloc _).alloc _).alloc _)).mono ?_; rintro e w1 ⟨v, rfl, ho, hb1⟩; have T1 := (tri_new w).call hb1; have c1 := T1.c1; have c2 := T1.c2; have f1 := T1.f1; have f2 := T1.f2; have hl1 := T1.lt; have HT1 : Hid (Tri w w1 (.int .i64 0) (.int .i64 0)) := T1; clear T1; obtain ⟨g, cp, rfl, hg1, hg2, htok⟩ := own_at3 ho hne; simp at hg1; clear ho)
        | (go_at_call 16; have T2 : Hid (Tri w (((w1.setCell ⟨w.heap.size + 1, 0, none⟩ (.int .i64 (A.p : Int))).setCell ⟨w.heap.size + 1 + 1, 0, none⟩ (.int .i64 A.e)).alloc (.cells (rdC g cp A.ts 0 0) 54)) (.int .i64 (A.p : Int)) (.int .i64 A.e)) := ((HT1.out.set1 _).set2 _).alloc _; have R2 : RdAt (((w1.setCell ⟨w.heap.size + 1, 0, none⟩ (.int .i64 (A.p : Int))).setCell ⟨w.heap.size + 1 + 1, 0, none⟩ (.int .i64 A.e)).alloc (.cells (rdC g cp A.ts 0 0) 54)) w1.heap.size g cp A.ts 0 0 := rd_new HS.out (by omega) (by omega) hg2 htok (List.length_pos_iff.2 hne); refine (EX.out _ _ _ _ R2).mono ?_; rintro e w5 ⟨c5, i5, rfl, ht5, hi5, s5, nd5⟩; have T5 := T2.out.gb (by omega) s5.gb; have S6 := (St.refl s5.rd).rd; have T6 : Hid (Tri w (putRow w5 w.heap.size c5.cells) (.int .i64 (A.p : Int)) (.int .i64 A.e)) := T5.put c5; have z5 := s5.size; simp at z5; have m5 := T5.r0; have R6 : Hid (RdAt (putRow w5 w.heap.size c5.cells) w1.heap.size g cp A.ts i5 0 ∧ r = A.ts.drop i5 ∧ NdAt w5 (fun x => w1.heap.size + 1 ≤ x) c5 n ∧ Below w.heap.size w w5) := ⟨s5.rd.put _ _ (by omega) (by omega), ht5, by simpa using nd5, T5.be⟩; have r6 : rowAt (putRow w5 w.heap.size c5.cells) w.heap.size = some c5.cells := rowNd_put _ _ _ T5.r0; rw [ht5] at k0; clear s5 nd5 ht5 T5 S6)
        | (go_at_call 28; refine (here_any _ _ _ _ _ _ _ R6.out.1).mono ?_; rintro e w7 ⟨rfl, hb7⟩; have hs7 := hb7.size; rw [size_put] at hs7; have T7 := T6.out.call hb7; have r7 : rowAt w7 w.heap.size = some c5.cells := (rowAt_below hb7 _ (by rw [size_put]; omega)).trans r6; have m7 := T7.r0; have T8 := T7.put c5; have c71 := T8.c1; have c72 := T8.c2; have f71 := T8.f1; have f72 := T8.f2; clear T8; have HT7 : Hid (Tri w w7 (.int .i64 (A.p : Int)) (.int .i64 A.e)) := T7; clear T7))
      have T9 := ((HT7.out.put c5).set1 (.int .i64 0)).set2 (.int .i64 0)
      have r9 : rowAt (((putRow w7 w.heap.size c5.cells).setCell ⟨w.heap.size + 1, 0, none⟩ (.int .i64 0)).setCell ⟨w.heap.size + 1 + 1, 0, none⟩ (.int .i64 0)) w.heap.size = some c5.cells := (rowAt_far _ _ _ _ (by show w.heap.size ≠ w.heap.size + 1 + 1; omega)).trans ((rowAt_far _ _ _ _ (by show w.heap.size ≠ w.heap.size + 1; omega)).trans (rowNd_put _ _ _ m7))
      refine leaves_cons (f := 27) (args := #[.pointer (some ⟨w.heap.size, 0, none⟩), .pointer (some ⟨w.heap.size + 1, 0, none⟩), .pointer (some ⟨w.heap.size + 1 + 1, 0, none⟩)]) (by simp) (by simp [go_sem]) ?_
      refine (catch_ret _ _ _ _).mono ?_
      rintro e u' w'' ⟨rfl, rfl, rfl⟩
      rw [HA.out]
      refine ⟨_, res3 rfl rfl rfl rfl (loadNd_row r9) (loadI T9.c1) (loadE T9.c2), c5, rfl, ?_, T9.be⟩
      refine R6.out.2.2.1.keep (fun x hx _ => by omega) (by simp [size_put]; omega) (fun x hx hl => ?_)
      refine (Below.heap_setCell _ _ _ _ (by show x ≠ w.heap.size + 1 + 1; omega)).trans ((Below.heap_setCell _ _ _ _ (by show x ≠ w.heap.size + 1; omega)).trans ((put_far _ _ _ _ (by omega)).trans ((hb7.block x (by rw [size_put]; exact hl)).trans (put_far _ _ _ _ (by omega)))))
    · have HA : Hid (RR = (zeroN, (hd r).p, 90)) := by
        show RR = _
        rw [HA.out]; show (if (hd r).k = 0 then (n, 0, 0) else (zeroN, (hd r).p, 90)) = _
        rw [if_neg hk]
      have k0 : ((hd r).tk.k != 0) = true := by simpa [Tok.tk] using hk
      clear hk
      go_enter_defers Tryd.func14, Tryd.ntmps14
      go_wp2_with (first
        | (go_at_call 6; refine (AL.out _ (((V.alloc _).alloc _).alloc _)).mono ?_; rintro e w1 ⟨v, rfl, ho, hb1⟩; have T1 := (tri_new w).call hb1; have c1 := T1.c1; have c2 := T1.c2; have f1 := T1.f1; have f2 := T1.f2; have hl1 := T1.lt; have HT1 : Hid (Tri w w1 (.int .i64 0) (.int .i64 0)) := T1; clear T1; obtain ⟨g, cp, rfl, hg1, hg2, htok⟩ := own_at3 ho hne; simp at hg1; clear ho)
        | (go_at_call 16; have T2 : Hid (Tri w (((w1.setCell ⟨w.heap.size + 1, 0, none⟩ (.int .i64 (A.p : Int))).setCell ⟨w.heap.size + 1 + 1, 0, none⟩ (.int .i64 A.e)).alloc (.cells (rdC g cp A.ts 0 0) 54)) (.int .i64 (A.p : Int)) (.int .i64 A.e)) := ((HT1.out.set1 _).set2 _).alloc _; have R2 : RdAt (((w1.setCell ⟨w.heap.size + 1, 0, none⟩ (.int .i64 (A.p : Int))).setCell ⟨w.heap.size + 1 + 1, 0, none⟩ (.int .i64 A.e)).alloc (.cells (rdC g cp A.ts 0 0) 54)) w1.heap.size g cp A.ts 0 0 := rd_new HS.out (by omega) (by omega) hg2 htok (List.length_pos_iff.2 hne); refine (EX.out _ _ _ _ R2).mono ?_; rintro e w5 ⟨c5, i5, rfl, ht5, hi5, s5, nd5⟩; have T5 := T2.out.gb (by omega) s5.gb; have T6 : Hid (Tri w (putRow w5 w.heap.size c5.cells) (.int .i64 (A.p : Int)) (.int .i64 A.e)) := T5.put c5; have z5 := s5.size; simp at z5; have m5 := T5.r0; have R6 : Hid (RdAt (putRow w5 w.heap.size c5.cells) w1.heap.size g cp A.ts i5 0 ∧ r = A.ts.drop i5) := ⟨s5.rd.put _ _ (by omega) (by omega), ht5⟩; rw [ht5] at k0; clear s5 nd5 ht5 T5)
        | (go_at_call 28; refine (here_any _ _ _ _ _ _ _ R6.out.1).mono ?_; rintro e w7 ⟨rfl, hb7⟩; have R7 : Hid (RdAt w7 w1.heap.size g cp A.ts i5 0) := R6.out.1.below hb7; have T7 : Hid (Tri w w7 (.int .i64 (A.p : Int)) (.int .i64 A.e)) := T6.out.call hb7)
        | (go_at_call 29; refine (fault_any _ _ _ _ _ _ _ R7.out 90).mono ?_; rintro e w8 ⟨rfl, hb8⟩; have T8 : Hid (Tri w w8 (.int .i64 (A.p : Int)) (.int .i64 A.e)) := T7.out.call hb8))
      have T9 := T8.out
      refine leaves_cons (f := 27) (args := #[.pointer (some ⟨w.heap.size, 0, none⟩), .pointer (some ⟨w.heap.size + 1, 0, none⟩), .pointer (some ⟨w.heap.size + 1 + 1, 0, none⟩)]) (by simp) (by simp [go_sem]) ?_
      refine (catch_pan w.heap.size (w.heap.size + 1) (w.heap.size + 1 + 1) (hd (A.ts.drop i5)).p _ _ T9.r0 _ _ T9.a1 T9.b1 T9.a2 T9.b2 (by omega) (by omega)).mono ?_
      rintro e u' w'' ⟨rfl, rfl, x1, x2, x3, x4⟩
      rw [HA.out, R6.out.2]
      exact ⟨_, res3 rfl rfl rfl rfl (loadNd_row x1) (loadI x2) (loadE x3), nc0, rfl, NdAt.mk 0 [] 0 false [] 0 none 0 (KidsAt.nil _ _), T9.be.trans x4⟩
theorem whole_expr (l : Bs) (w : World) (V : Vars w) : Calls Tryd.prog 14 #[.string (bs l), .func (.func 16) #[] #[]] w (PostA w (ansP .expr l)) := by
  by_cases he : (allP l).e = 0
  · exact whole_expr_good l w V he
  · have := whole_expr_fails l w V he
    unfold ansP
    rwa [if_pos he]
set_option maxHeartbeats 4000000 in
set_option maxRecDepth 20000 in
theorem expr_any (l : Bs) (w : World) (V : Vars w) : Calls Tryd.prog 11 #[.string (bs l)] w (PostA w (ansP .expr l)) := by
  have WH := whole_expr l (w.alloc (.cells nc0.cells 31)) (V.alloc _)
  have WH : Hid (Calls Tryd.prog 14 #[.string (bs l), .func (.func 16) #[] #[]] (w.alloc (.cells nc0.cells 31)) _) := WH
  generalize ansP .expr l = A at *
  clear V
  go_enter Tryd.func11, Tryd.ntmps11
  go_wp2_with (go_at_call 14; refine WH.out.mono ?_; rintro e w1 ⟨c, rfl, nd, hb⟩; have m1 : roomAt w1 w.heap.size 6 = true := (roomAt_below hb _ _ (by simp)).trans (roomNd_new _ _ _ _ rfl))
  exact ret3 rfl rfl (loadNd_row (rowNd_put _ _ _ m1)) rfl rfl rfl ⟨c, rfl, nd.keep (fun x hx _ => by simp at hx; omega) (by rw [size_put]; exact Nat.le_refl _) (fun x hx hl => put_far _ _ _ _ (by simp at hx; omega)), below_put ((by go_grown : Below w.heap.size w (w.alloc (.cells nc0.cells 31))).trans (hb.mono (by simp))) _ (Nat.le_refl _) _⟩
end Go.Proofs.YtllhcjmabhempaaDoor

namespace Go.Proofs.YtllhcjmabhempaaDoor
set_option linter.unusedVariables false
set_option linter.unusedSimpArgs false
open Go.ChangeShapes Go.WideShapes Go.ChangeAt Go.RowKit


attribute [local go_sem] fieldTk0 fieldTk3 fieldTk1 hmf

/-- What a whole module is read as: a tree, a place, an error. -/
def ansM (l : Bs) : Nd × Nat × Int :=
  if (allP l).e ≠ 0 then (zeroN, (allP l).p, (allP l).e) else
  match moduleR (allP l).ts with
  | .bad p e => (zeroN, p, e)
  | .ok n r => if (hd r).k = 0 then (n, 0, 0) else (zeroN, (hd r).p, 90)
set_option maxHeartbeats 4000000 in
set_option maxRecDepth 20000 in
theorem whole_module_fails (l : Bs) (w : World) (V : Vars w) (he : (allP l).e ≠ 0) : Calls Tryd.prog 14 #[.string (bs l), .func (.func 15) #[] #[]] w (PostA w (zeroN, (allP l).p, (allP l).e)) := by
  have AL : Hid (∀ X, Vars X → Calls Tryd.prog 6 #[.string (bs l)] X _) := fun X hX => all_any l X hX
  have n0 : ((allP l).e != 0) = true := by simpa using he
  clear he
  generalize allP l = A at *
  go_enter_defers Tryd.func14, Tryd.ntmps14
  go_wp2_with (go_at_call 6; refine (AL.out _ (((V.alloc _).alloc _).alloc _)).mono ?_; rintro e w1 ⟨v, rfl, ho, hb1⟩; have T1 := (tri_new w).call hb1; have c1 := T1.c1; have c2 := T1.c2; have f1 := T1.f1; have f2 := T1.f2; have hl1 := T1.lt; have HT1 : Hid (Tri w w1 (.int .i64 0) (.int .i64 0)) := T1; clear T1)
  have T2 := (HT1.out.set1 (.int .i64 (A.p : Int))).set2 (.int .i64 A.e)
  generalize ((w1.setCell ⟨w.heap.size + 1, 0, none⟩ (.int .i64 (A.p : Int))).setCell ⟨w.heap.size + 1 + 1, 0, none⟩ (.int .i64 A.e)) = W2 at T2 ⊢
  have M0 := T2.drew.r0
  have ST := storeNd_run _ _ { k := 0, t := ⟨#[]⟩, n := 0, f := false, a := none, l := 0, m := 0, p := 0 } M0
  have T3 := T2.put { k := 0, t := ⟨#[]⟩, n := 0, f := false, a := none, l := 0, m := 0, p := 0 }
  have d1 := T2.c1
  have d2 := T2.c2
  have x1 := T3.c1
  have x2 := T3.c2
  have y1 := T3.f1
  have y2 := T3.f2
  clear c1 c2 f1 f2
  have FIN : Hid (Tri w ((((putRow W2 w.heap.size nc0.cells).setCell ⟨w.heap.size + 1, 0, none⟩ (.int .i64 (A.p : Int))).setCell ⟨w.heap.size + 1 + 1, 0, none⟩ (.int .i64 A.e)).drew) (.int .i64 (A.p : Int)) (.int .i64 A.e) ∧ rowAt ((((putRow W2 w.heap.size nc0.cells).setCell ⟨w.heap.size + 1, 0, none⟩ (.int .i64 (A.p : Int))).setCell ⟨w.heap.size + 1 + 1, 0, none⟩ (.int .i64 A.e)).drew) w.heap.size = some nc0.cells) :=
    ⟨((T3.set1 _).set2 _).drew, (rowAt_drew _ _).trans ((rowAt_far _ _ _ _ (by show w.heap.size ≠ w.heap.size + 1 + 1; omega)).trans ((rowAt_far _ _ _ _ (by show w.heap.size ≠ w.heap.size + 1; omega)).trans (rowNd_put _ _ _ T2.r0)))⟩
  clear T2 T3
  go_region
  go_wp2
  exact ⟨_, res3 rfl rfl rfl rfl (loadNd_row FIN.out.2) (loadI FIN.out.1.c1) (loadE FIN.out.1.c2), nc0, rfl, NdAt.mk 0 [] 0 false [] 0 none 0 (KidsAt.nil _ _), FIN.out.1.be⟩
set_option maxHeartbeats 4000000 in
set_option maxRecDepth 20000 in
theorem whole_module_good (l : Bs) (w : World) (V : Vars w) (he : (allP l).e = 0) : Calls Tryd.prog 14 #[.string (bs l), .func (.func 15) #[] #[]] w (PostA w (ansM l)) := by
  have AL : Hid (∀ X, Vars X → Calls Tryd.prog 6 #[.string (bs l)] X _) := fun X hX => all_any l X hX
  obtain ⟨d, xx, e1, e2, e3, e4⟩ := allP_shape l he
  have hlast := allP_last l he
  have hne : (allP l).ts ≠ [] := by rw [e1]; simp
  have n0 : ((allP l).e != 0) = false := by rw [he]; rfl
  have HA : Hid (ansM l = (match moduleR (allP l).ts with
    | .bad p e => (zeroN, p, e)
    | .ok n r => if (hd r).k = 0 then (n, 0, 0) else (zeroN, (hd r).p, 90))) := by
    show ansM l = _
    unfold ansM; rw [if_neg (by rw [he]; simp)]
  have HS : Hid ((allP l).ts.length ≤ 16385 ∧ ∀ q (hq : q < (allP l).ts.length), (allP l).ts[q].k ≠ 0 → q + 1 < (allP l).ts.length) := ⟨e3, hlast⟩
  generalize ansM l = RR at HA ⊢
  clear he e1 e2 e3 e4 hlast
  generalize allP l = A at *
  have EX : Hid (∀ X b g cp, RdAt X b g cp A.ts 0 0 → Calls Tryd.prog 15 #[.pointer (some ⟨b, 0, none⟩)] X (PostN X b g cp A.ts 0 0 (moduleR A.ts))) := fun X b g cp hX => by
    have := module_any X b g cp A.ts 0 hX
    rwa [List.drop_zero] at this
  cases hr : moduleR A.ts with
  | bad p er =>
    rw [hr] at EX HA
    have HA : Hid (RR = (zeroN, p, er)) := HA
    clear hr
    go_enter_defers Tryd.func14, Tryd.ntmps14
    go_wp2_with (first
      | (go_at_call 6; refine (AL.out _ (((V.alloc _).alloc _).alloc _)).mono ?_; rintro e w1 ⟨v, rfl, ho, hb1⟩; have T1 := (tri_new w).call hb1; have c1 := T1.c1; have c2 := T1.c2; have f1 := T1.f1; have f2 := T1.f2; have hl1 := T1.lt; have HT1 : Hid (Tri w w1 (.int .i64 0) (.int .i64 0)) := T1; clear T1; obtain ⟨g, cp, rfl, hg1, hg2, htok⟩ := own_at3 ho hne; simp at hg1; clear ho)
      | (go_at_call 15; have T2 : Hid (Tri w (((w1.setCell ⟨w.heap.size + 1, 0, none⟩ (.int .i64 (A.p : Int))).setCell ⟨w.heap.size + 1 + 1, 0, none⟩ (.int .i64 A.e)).alloc (.cells (rdC g cp A.ts 0 0) 54)) (.int .i64 (A.p : Int)) (.int .i64 A.e)) := ((HT1.out.set1 _).set2 _).alloc _; have R2 : RdAt (((w1.setCell ⟨w.heap.size + 1, 0, none⟩ (.int .i64 (A.p : Int))).setCell ⟨w.heap.size + 1 + 1, 0, none⟩ (.int .i64 A.e)).alloc (.cells (rdC g cp A.ts 0 0) 54)) w1.heap.size g cp A.ts 0 0 := rd_new HS.out (by omega) (by omega) hg2 htok (List.length_pos_iff.2 hne); refine (EX.out _ _ _ _ R2).mono ?_; rintro e w5 ⟨he, g5⟩; unfold gaveUp at he; subst he))
    have T5 := T2.out.gb (by omega) g5
    refine leaves_cons (f := 27) (args := #[.pointer (some ⟨w.heap.size, 0, none⟩), .pointer (some ⟨w.heap.size + 1, 0, none⟩), .pointer (some ⟨w.heap.size + 1 + 1, 0, none⟩)]) (by simp) (by simp [go_sem]) ?_
    refine (catch_pan w.heap.size (w.heap.size + 1) (w.heap.size + 1 + 1) p _ _ T5.r0 _ _ T5.a1 T5.b1 T5.a2 T5.b2 (by omega) (by omega)).mono ?_
    rintro e u' w'' ⟨rfl, rfl, x1, x2, x3, x4⟩
    rw [HA.out]
    exact ⟨_, res3 rfl rfl rfl rfl (loadNd_row x1) (loadI x2) (loadE x3), nc0, rfl, NdAt.mk 0 [] 0 false [] 0 none 0 (KidsAt.nil _ _), T5.be.trans x4⟩
  | ok n r =>
    rw [hr] at EX HA
    clear hr
    by_cases hk : (hd r).k = 0
    · have HA : Hid (RR = (n, 0, 0)) := by
        show RR = _
        rw [HA.out]; show (if (hd r).k = 0 then (n, 0, 0) else (zeroN, (hd r).p, 90)) = _
        rw [if_pos hk]
      have k0 : ((hd r).tk.k != 0) = false := by simpa [Tok.tk] using hk
      clear hk
      go_enter_defers Tryd.func14, Tryd.ntmps14
      go_wp2_with (first
        | (go_at_call 6; refine (AL.out _ (((V.alloc _).alloc _).alloc _)).mono ?_; rintro e w1 ⟨v, rfl, ho, hb1⟩; have T1 := (tri_new w).call hb1; have c1 := T1.c1; have c2 := T1.c2; have f1 := T1.f1; have f2 := T1.f2; have hl1 := T1.lt; have HT1 : Hid (Tri w w1 (.int .i64 0) (.int .i64 0)) := T1; clear T1; obtain ⟨g, cp, rfl, hg1, hg2, htok⟩ := own_at3 ho hne; simp at hg1; clear ho)
        | (go_at_call 15; have T2 : Hid (Tri w (((w1.setCell ⟨w.heap.size + 1, 0, none⟩ (.int .i64 (A.p : Int))).setCell ⟨w.heap.size + 1 + 1, 0, none⟩ (.int .i64 A.e)).alloc (.cells (rdC g cp A.ts 0 0) 54)) (.int .i64 (A.p : Int)) (.int .i64 A.e)) := ((HT1.out.set1 _).set2 _).alloc _; have R2 : RdAt (((w1.setCell ⟨w.heap.size + 1, 0, none⟩ (.int .i64 (A.p : Int))).setCell ⟨w.heap.size + 1 + 1, 0, none⟩ (.int .i64 A.e)).alloc (.cells (rdC g cp A.ts 0 0) 54)) w1.heap.size g cp A.ts 0 0 := rd_new HS.out (by omega) (by omega) hg2 htok (List.length_pos_iff.2 hne); refine (EX.out _ _ _ _ R2).mono ?_; rintro e w5 ⟨c5, i5, rfl, ht5, hi5, s5, nd5⟩; have T5 := T2.out.gb (by omega) s5.gb; have S6 := (St.refl s5.rd).rd; have T6 : Hid (Tri w (putRow w5 w.heap.size c5.cells) (.int .i64 (A.p : Int)) (.int .i64 A.e)) := T5.put c5; have z5 := s5.size; simp at z5; have m5 := T5.r0; have R6 : Hid (RdAt (putRow w5 w.heap.size c5.cells) w1.heap.size g cp A.ts i5 0 ∧ r = A.ts.drop i5 ∧ NdAt w5 (fun x => w1.heap.size + 1 ≤ x) c5 n ∧ Below w.heap.size w w5) := ⟨s5.rd.put _ _ (by omega) (by omega), ht5, by simpa using nd5, T5.be⟩; have r6 : rowAt (putRow w5 w.heap.size c5.cells) w.heap.size = some c5.cells := rowNd_put _ _ _ T5.r0; rw [ht5] at k0; clear s5 nd5 ht5 T5 S6)
        | (go_at_call 28; refine (here_any _ _ _ _ _ _ _ R6.out.1).mono ?_; rintro e w7 ⟨rfl, hb7⟩; have hs7 := hb7.size; rw [size_put] at hs7; have T7 := T6.out.call hb7; have r7 : rowAt w7 w.heap.size = some c5.cells := (rowAt_below hb7 _ (by rw [size_put]; omega)).trans r6; have m7 := T7.r0; have T8 := T7.put c5; have c71 := T8.c1; have c72 := T8.c2; have f71 := T8.f1; have f72 := T8.f2; clear T8; have HT7 : Hid (Tri w w7 (.int .i64 (A.p : Int)) (.int .i64 A.e)) := T7; clear T7))
      have T9 := ((HT7.out.put c5).set1 (.int .i64 0)).set2 (.int .i64 0)
      have r9 : rowAt (((putRow w7 w.heap.size c5.cells).setCell ⟨w.heap.size + 1, 0, none⟩ (.int .i64 0)).setCell ⟨w.heap.size + 1 + 1, 0, none⟩ (.int .i64 0)) w.heap.size = some c5.cells := (rowAt_far _ _ _ _ (by show w.heap.size ≠ w.heap.size + 1 + 1; omega)).trans ((rowAt_far _ _ _ _ (by show w.heap.size ≠ w.heap.size + 1; omega)).trans (rowNd_put _ _ _ m7))
      refine leaves_cons (f := 27) (args := #[.pointer (some ⟨w.heap.size, 0, none⟩), .pointer (some ⟨w.heap.size + 1, 0, none⟩), .pointer (some ⟨w.heap.size + 1 + 1, 0, none⟩)]) (by simp) (by simp [go_sem]) ?_
      refine (catch_ret _ _ _ _).mono ?_
      rintro e u' w'' ⟨rfl, rfl, rfl⟩
      rw [HA.out]
      refine ⟨_, res3 rfl rfl rfl rfl (loadNd_row r9) (loadI T9.c1) (loadE T9.c2), c5, rfl, ?_, T9.be⟩
      refine R6.out.2.2.1.keep (fun x hx _ => by omega) (by simp [size_put]; omega) (fun x hx hl => ?_)
      refine (Below.heap_setCell _ _ _ _ (by show x ≠ w.heap.size + 1 + 1; omega)).trans ((Below.heap_setCell _ _ _ _ (by show x ≠ w.heap.size + 1; omega)).trans ((put_far _ _ _ _ (by omega)).trans ((hb7.block x (by rw [size_put]; exact hl)).trans (put_far _ _ _ _ (by omega)))))
    · have HA : Hid (RR = (zeroN, (hd r).p, 90)) := by
        show RR = _
        rw [HA.out]; show (if (hd r).k = 0 then (n, 0, 0) else (zeroN, (hd r).p, 90)) = _
        rw [if_neg hk]
      have k0 : ((hd r).tk.k != 0) = true := by simpa [Tok.tk] using hk
      clear hk
      go_enter_defers Tryd.func14, Tryd.ntmps14
      go_wp2_with (first
        | (go_at_call 6; refine (AL.out _ (((V.alloc _).alloc _).alloc _)).mono ?_; rintro e w1 ⟨v, rfl, ho, hb1⟩; have T1 := (tri_new w).call hb1; have c1 := T1.c1; have c2 := T1.c2; have f1 := T1.f1; have f2 := T1.f2; have hl1 := T1.lt; have HT1 : Hid (Tri w w1 (.int .i64 0) (.int .i64 0)) := T1; clear T1; obtain ⟨g, cp, rfl, hg1, hg2, htok⟩ := own_at3 ho hne; simp at hg1; clear ho)
        | (go_at_call 15; have T2 : Hid (Tri w (((w1.setCell ⟨w.heap.size + 1, 0, none⟩ (.int .i64 (A.p : Int))).setCell ⟨w.heap.size + 1 + 1, 0, none⟩ (.int .i64 A.e)).alloc (.cells (rdC g cp A.ts 0 0) 54)) (.int .i64 (A.p : Int)) (.int .i64 A.e)) := ((HT1.out.set1 _).set2 _).alloc _; have R2 : RdAt (((w1.setCell ⟨w.heap.size + 1, 0, none⟩ (.int .i64 (A.p : Int))).setCell ⟨w.heap.size + 1 + 1, 0, none⟩ (.int .i64 A.e)).alloc (.cells (rdC g cp A.ts 0 0) 54)) w1.heap.size g cp A.ts 0 0 := rd_new HS.out (by omega) (by omega) hg2 htok (List.length_pos_iff.2 hne); refine (EX.out _ _ _ _ R2).mono ?_; rintro e w5 ⟨c5, i5, rfl, ht5, hi5, s5, nd5⟩; have T5 := T2.out.gb (by omega) s5.gb; have T6 : Hid (Tri w (putRow w5 w.heap.size c5.cells) (.int .i64 (A.p : Int)) (.int .i64 A.e)) := T5.put c5; have z5 := s5.size; simp at z5; have m5 := T5.r0; have R6 : Hid (RdAt (putRow w5 w.heap.size c5.cells) w1.heap.size g cp A.ts i5 0 ∧ r = A.ts.drop i5) := ⟨s5.rd.put _ _ (by omega) (by omega), ht5⟩; rw [ht5] at k0; clear s5 nd5 ht5 T5)
        | (go_at_call 28; refine (here_any _ _ _ _ _ _ _ R6.out.1).mono ?_; rintro e w7 ⟨rfl, hb7⟩; have R7 : Hid (RdAt w7 w1.heap.size g cp A.ts i5 0) := R6.out.1.below hb7; have T7 : Hid (Tri w w7 (.int .i64 (A.p : Int)) (.int .i64 A.e)) := T6.out.call hb7)
        | (go_at_call 29; refine (fault_any _ _ _ _ _ _ _ R7.out 90).mono ?_; rintro e w8 ⟨rfl, hb8⟩; have T8 : Hid (Tri w w8 (.int .i64 (A.p : Int)) (.int .i64 A.e)) := T7.out.call hb8))
      have T9 := T8.out
      refine leaves_cons (f := 27) (args := #[.pointer (some ⟨w.heap.size, 0, none⟩), .pointer (some ⟨w.heap.size + 1, 0, none⟩), .pointer (some ⟨w.heap.size + 1 + 1, 0, none⟩)]) (by simp) (by simp [go_sem]) ?_
      refine (catch_pan w.heap.size (w.heap.size + 1) (w.heap.size + 1 + 1) (hd (A.ts.drop i5)).p _ _ T9.r0 _ _ T9.a1 T9.b1 T9.a2 T9.b2 (by omega) (by omega)).mono ?_
      rintro e u' w'' ⟨rfl, rfl, x1, x2, x3, x4⟩
      rw [HA.out, R6.out.2]
      exact ⟨_, res3 rfl rfl rfl rfl (loadNd_row x1) (loadI x2) (loadE x3), nc0, rfl, NdAt.mk 0 [] 0 false [] 0 none 0 (KidsAt.nil _ _), T9.be.trans x4⟩
theorem whole_module (l : Bs) (w : World) (V : Vars w) : Calls Tryd.prog 14 #[.string (bs l), .func (.func 15) #[] #[]] w (PostA w (ansM l)) := by
  by_cases he : (allP l).e = 0
  · exact whole_module_good l w V he
  · have := whole_module_fails l w V he
    unfold ansM
    rwa [if_pos he]
set_option maxHeartbeats 4000000 in
set_option maxRecDepth 20000 in
theorem modules_any (l : Bs) (w : World) (V : Vars w) : Calls Tryd.prog 8 #[.string (bs l)] w (PostA w (ansM l)) := by
  have WH := whole_module l (w.alloc (.cells nc0.cells 31)) (V.alloc _)
  have WH : Hid (Calls Tryd.prog 14 #[.string (bs l), .func (.func 15) #[] #[]] (w.alloc (.cells nc0.cells 31)) _) := WH
  generalize ansM l = A at *
  clear V
  go_enter Tryd.func8, Tryd.ntmps8
  go_wp2_with (go_at_call 14; refine WH.out.mono ?_; rintro e w1 ⟨c, rfl, nd, hb⟩; have m1 : roomAt w1 w.heap.size 6 = true := (roomAt_below hb _ _ (by simp)).trans (roomNd_new _ _ _ _ rfl))
  exact ret3 rfl rfl (loadNd_row (rowNd_put _ _ _ m1)) rfl rfl rfl ⟨c, rfl, nd.keep (fun x hx _ => by simp at hx; omega) (by rw [size_put]; exact Nat.le_refl _) (fun x hx hl => put_far _ _ _ _ (by simp at hx; omega)), below_put ((by go_grown : Below w.heap.size w (w.alloc (.cells nc0.cells 31))).trans (hb.mono (by simp))) _ (Nat.le_refl _) _⟩
end Go.Proofs.YtllhcjmabhempaaDoor
