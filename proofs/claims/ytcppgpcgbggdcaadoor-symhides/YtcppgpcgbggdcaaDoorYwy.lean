/-
  Layer 13: the writer writes symbols.
-/
import Derived.Test.YtcppgpcgbggdcaaDoorYws
namespace Go.Proofs.YtcppgpcgbggdcaaDoor
set_option linter.unusedVariables false
set_option linter.unusedSimpArgs false
open Go.ChangeShapes Go.WideShapes Go.ChangeAt Go.RowKit Go.Shelf
attribute [local go_sem] Oper.semAt_some
attribute [local go_sem ↓] ldC_seal stC_seal ldV_seal stV_seal ldP_seal stP_seal

theorem Off.below {w W : World} {p k : Nat} (h : Off w p k) (hp : p < w.heap.size) (hb : Below w.heap.size w W) : Off W p k := (h.keep (Wk.below hp hb)).2
theorem RdO.later {w W : World} {p k n : Nat} {s : Sl} {cs : List Value} (h : RdO w p k s n cs) (hk : Wk w W p) : RdO W p k s n cs := ⟨h.keep hk, h.off.imp id fun h4 ad he => ((h4 ad he).keep hk).2⟩
/-- Symbols that are read, in blocks that the writer leaves. -/
structure SyO (w : World) (p : Nat) (c : Sc) (o : Sy) (l : List (Pc × Sl)) : Prop where
  nm : c.nm = o.nm
  cs : RdO w p 5 c.cs o.cs.length (flat cEnc o.cs)
  vs : RdO w p 5 c.vs o.vs.length (flat vEnc o.vs)
  pl : l.map (·.1) = o.ps
  ps : RdO w p 3 c.ps l.length (flat pEnc l)
  pp : ∀ q ∈ l, RdO w p 5 q.2 q.1.ps.length (flat vEnc q.1.ps)
/-- What stands while symbols are written. -/
structure SI (w X : World) (p B : Nat) (c : Sc) (l : List Int) : Prop where
  wr : Wr X p B l
  wk : Wk w X p
  b0 : BA X w.heap.size 73 #[.pointer (some ⟨p, 0, none⟩)]
  o0 : Off X p w.heap.size
  b1 : BA X (w.heap.size + 1) 26 c.cells
  o1 : Off X p (w.heap.size + 1)
theorem SI.next {w X Y : World} {p B : Nat} {c : Sc} {l l2 : List Int} (h : SI w X p B c l) (hr : Wr Y p B l2) (hk : Wk X Y p) : SI w Y p B c l2 :=
  ⟨hr, h.wk.trans hk, (h.o0.keep hk).1.trans h.b0, (h.o0.keep hk).2, (h.o1.keep hk).1.trans h.b1, (h.o1.keep hk).2⟩
theorem off_new {X : World} {p B : Nat} {l : List Int} (h : Wr X p B l) (o : Obj) : Off (X.alloc o) p X.heap.size := ⟨by simp, by have := h.plt; omega, h.wfn o⟩
/-- The rounds of the first loop. -/
theorem round_con (m lo p B b0 : Nat) (l1 : List Int) (x : Cn) (W1 : World) (r : Loop) (h : Wr W1 p B l1) (hl : W1.heap[lo]? = some (.loop r)) (hr : r.state = .ready) (hpe : r.pending = none) (ol : Off W1 p lo) (h0 : BA W1 b0 73 #[.pointer (some ⟨p, 0, none⟩)]) (o0 : Off W1 p b0) (hne0 : b0 ≠ lo) (hn : x.nm.size ≤ 1000) (hs : x.s.size ≤ 1000) (t0 : 0 ≤ x.ty) (t1 : x.ty ≤ 255) (hl1 : l1.length ≤ 700000000) (hm : 1 ≤ m)
    (hps : r.params.size = 1)
    (hcode : ∀ (K : Act → World → Prop) (W Z : World), (stT 53 ⟨W.heap.size, 0, none⟩ (.agg (cEnc x))).run Tryd.prog (W.alloc (.cells zeroC 53)) = .ok () Z → (∀ a₁, (∀ (Z2 : World) (Q : Exit → Act → World → Prop), (ldT 53 ⟨W.heap.size, 0, none⟩).run Tryd.prog Z2 = .ok (.agg (cEnc x)) Z2 → Z2.cell? ⟨b0, 0, none⟩ = some (.pointer (some ⟨p, 0, none⟩)) → (CallsIn (Fence.wide.inRound lo) (m - 1) Tryd.prog 59 #[.pointer (some ⟨p, 0, none⟩), .agg (cEnc x)] Z2 fun e W3 => e = .returned (.tuple #[]) ∧ ∀ a3, Q .normal a3 W3) → r.body.wpIn (Fence.wide.inRound lo) m Tryd.prog Q a₁ Z2) → K a₁ Z) → r.assign.wpIn (Fence.wide.inRound lo) m Tryd.prog (Exit.then K (fun _ _ _ => False)) { tmps := (r.params.zip #[.agg (cEnc x)]).foldl (fun t (p, v) => t.setIfInBounds p v) r.tmps, defers := [] } W) :
    YieldAt Fence.wide m Tryd.prog lo #[.agg (cEnc x)] W1 fun e W' => e = .returned (.bool true) ∧ Wr W' p B (l1 ++ consL x) ∧ Wk W1 W' p := by
  obtain ⟨Z, z1, z2, z3⟩ := stT_run (w := W1.alloc (.cells zeroC 53)) (cEnc x) (BA.new W1 _ zeroC) rfl (by kernel_rfl) (by simp [cEnc, Value.oneCell'])
  have bZ : Below W1.heap.size W1 Z := ((Below.refl _ _).alloc (Nat.le_refl _) _).trans (z3.bel (by simp) (Nat.le_refl _))
  have hlt := ol.1
  have hZl : Z.heap[lo]? = some (.loop r) := (bZ.block lo hlt).trans hl
  have hX3r : ({ r with state := .ready, pending := none } : Loop) = r := by cases r; simp_all
  have key := yield_go (P := Tryd.prog) (F := Fence.wide) (m := m) (args := #[.agg (cEnc x)]) (R := fun W3 => Wr W3 p B (l1 ++ consL x) ∧ Wk (Z.putObj lo (.loop { r with state := .busy })) W3 p) hl hr (by rw [hps]; rfl) trivial (hcode _ W1 Z z1 (fun a₁ hb => ⟨hZl, hb _ _ (ldT_run ((World.putObj_heap_other (by omega)).trans z2) Tryd.underlying53 rfl (by kernel_rfl)) ?_ ?_⟩))
  · obtain ⟨fn, tmps, assign, body, hy, hR⟩ := key
    refine ⟨fn, tmps, assign, body, hy, hR.mono ?_⟩
    rintro e W' ⟨rfl, W3, ⟨g1, g2⟩, g3, rfl⟩
    obtain ⟨q1, q2, q3⟩ := round_wk hl ol.2.1 ol.2.2 h.plt bZ g2
    rw [hX3r]
    exact ⟨rfl, g1.putObj ol.2.1 q3 _, q1⟩
  · exact (World.cell?_of_block (a := ⟨b0, 0, none⟩) ((World.putObj_heap_other hne0).trans (bZ.block b0 o0.1))).trans (h0.cell 0)
  · have hw : Wr (Z.putObj lo (.loop { r with state := .busy })) p B l1 := (h.below bZ).putObj ol.2.1 (ol.below h.plt bZ).2.2 _
    refine (CallsIn.inRound lo (callsIn_wide.2 (constant_z _ p B l1 hw x hn hs t0 t1 (by omega)))).mono ?_
    rintro e W3 ⟨rfl, g1, g2⟩
    refine ⟨rfl, fun a3 => ⟨⟨g1, g2⟩, (round_wk hl ol.2.1 ol.2.2 h.plt bZ g2).2.1⟩⟩
/-- A body that goes on, and has written so much. -/
def endsW (X : World) (p B : Nat) (l : List Int) : Exit → Act → World → Prop
  | .normal, _, W => Wr W p B l ∧ Wk X W p
  | _, _, _ => False
/-- Where a body begins: the loop's variable in a box g, the writer's pointer in the box b0, the record lo. -/
structure At (X : World) (p B g b0 lo : Nat) (ty : TypeId) (cs : Array Value) (r : Loop) (l : List Int) : Prop where
  wr : Wr X p B l
  bx : BA X g ty cs
  ox : Off X p g
  bp : BA X b0 73 #[.pointer (some ⟨p, 0, none⟩)]
  o0 : Off X p b0
  lp : X.heap[lo]? = some (.loop { r with state := .busy })
  ol : Off X p lo
/-- A round of whatever body. -/
theorem round_gen (m lo p B b0 : Nat) (l1 l2 : List Int) (ty : TypeId) (zs cs : Array Value) (W1 : World) (r : Loop) (hz : zs.size = cs.size) (hi : (Tryd.prog.info? ty).map (·.size) = some cs.size) (h1c : (cs.all fun x => x.oneCell') = true) (h : Wr W1 p B l1) (hl : W1.heap[lo]? = some (.loop r)) (hr : r.state = .ready) (hpe : r.pending = none) (ol : Off W1 p lo) (h0 : BA W1 b0 73 #[.pointer (some ⟨p, 0, none⟩)]) (o0 : Off W1 p b0) (hne0 : b0 ≠ lo) (hps : r.params.size = 1)
    (hcode : ∀ (K : Act → World → Prop) (Z : World), (stT ty ⟨W1.heap.size, 0, none⟩ (.agg cs)).run Tryd.prog (W1.alloc (.cells zs ty)) = .ok () Z → (∀ a₁, (∀ X3, At X3 p B W1.heap.size b0 lo ty cs r l1 → (∀ k, k < W1.heap.size → k ≠ lo → X3.heap[k]? = W1.heap[k]?) → r.body.wpIn (Fence.wide.inRound lo) m Tryd.prog (endsW X3 p B l2) a₁ X3) → K a₁ Z) → r.assign.wpIn (Fence.wide.inRound lo) m Tryd.prog (Exit.then K (fun _ _ _ => False)) { tmps := (r.params.zip #[.agg cs]).foldl (fun t (p, v) => t.setIfInBounds p v) r.tmps, defers := [] } W1) :
    YieldAt Fence.wide m Tryd.prog lo #[.agg cs] W1 fun e W' => e = .returned (.bool true) ∧ Wr W' p B l2 ∧ Wk W1 W' p := by
  obtain ⟨Z, z1, z2, z3⟩ := stT_run (w := W1.alloc (.cells zs ty)) cs (BA.new W1 _ zs) hz hi h1c
  have bZ : Below W1.heap.size W1 Z := ((Below.refl _ _).alloc (Nat.le_refl _) _).trans (z3.bel (by simp) (Nat.le_refl _))
  have hlt := ol.1
  have hZs : W1.heap.size < Z.heap.size := BA.lt z2
  have hZl : Z.heap[lo]? = some (.loop r) := (bZ.block lo hlt).trans hl
  have hX3r : ({ r with state := .ready, pending := none } : Loop) = r := by cases r; simp_all
  have hpl := h.plt
  have hpZ : (Z.putObj lo (.loop { r with state := .busy })).heap[p]? = W1.heap[p]? := (World.putObj_heap_other (Ne.symm ol.2.1)).trans (bZ.block p hpl)
  have wfn : Wf W1 p W1.heap.size := by
    obtain ⟨a, n, c, e1, e2⟩ := h.lies
    intro a' n' c' e e3
    rw [e1] at e
    injection e with e; injection e with e _; injection e with e; injection e with e _
    rw [← e] at e3
    have := (World.ownsRow.lt e2 _ e3).2
    omega
  have hAt : At (Z.putObj lo (.loop { r with state := .busy })) p B W1.heap.size b0 lo ty cs r l1 :=
    ⟨(h.below bZ).putObj ol.2.1 (ol.below hpl bZ).2.2 _, (World.putObj_heap_other (by omega)).trans z2, ⟨by simp; omega, by omega, wf_same wfn hpZ⟩, (World.putObj_heap_other hne0).trans ((bZ.block b0 o0.1).trans h0), ⟨by have := o0.1; simp; omega, o0.2.1, wf_same o0.2.2 hpZ⟩, World.putObj_heap_same (by omega), ⟨by simp; omega, ol.2.1, wf_same ol.2.2 hpZ⟩⟩
  have key := yield_go (P := Tryd.prog) (F := Fence.wide) (m := m) (args := #[.agg cs]) (R := fun W3 => Wr W3 p B l2 ∧ Wk (Z.putObj lo (.loop { r with state := .busy })) W3 p) hl hr (by rw [hps]; rfl) trivial (hcode _ Z z1 (fun a₁ hb => ⟨hZl, wpIn_mono (hb _ hAt (fun k hk hne => (World.putObj_heap_other hne).trans (bZ.block k hk))) (fun e a3 W3 hp => ?_)⟩))
  · obtain ⟨fn, tmps, assign, body, hy, hR⟩ := key
    refine ⟨fn, tmps, assign, body, hy, hR.mono ?_⟩
    rintro e W' ⟨rfl, W3, ⟨g1, g2⟩, g3, rfl⟩
    obtain ⟨q1, q2, q3⟩ := round_wk hl ol.2.1 ol.2.2 hpl bZ g2
    rw [hX3r]
    exact ⟨rfl, g1.putObj ol.2.1 q3 _, q1⟩
  · cases e with
    | normal => exact ⟨hp, (round_wk hl ol.2.1 ol.2.2 hpl bZ hp.2).2.1⟩
    | ret => exact hp.elim
    | exit id => exact hp.elim
    | goto t => exact hp.elim
    | panic ch => exact hp.elim
    | outgrown => exact hp.elim
end Go.Proofs.YtcppgpcgbggdcaaDoor
