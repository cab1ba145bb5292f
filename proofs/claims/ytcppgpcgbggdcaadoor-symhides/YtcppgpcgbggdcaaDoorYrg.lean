/-
  A range over a function whose body always goes on, where the function has work of its own to do in the caller's memory ahead of the first round: the loop's record is told to the one who proves what the function does.
-/
import Derived.Test.YtcppgpcgbggdcaaDoorYdm
import Derived.RangeFuncNested
namespace Go.Proofs.YtcppgpcgbggdcaaDoor
set_option linter.unusedVariables false
set_option linter.unusedSimpArgs false
open Go.ChangeShapes Go.WideShapes Go.ChangeAt Go.RowKit Go.Shelf

/-- A round that goes on. -/
def goOn (l : Nat) (r : Loop) (R : World → Prop) : Exit → Act → World → Prop
  | .normal, _, W => R W ∧ W.heap[l]? = some (.loop { r with state := .busy })
  | _, _, _ => False
theorem yield_go {P : Program} {F : Fence} {m l : Nat} {r : Loop} {W : World} {args : Array Value} {R : World → Prop} (hl : W.heap[l]? = some (.loop r)) (hr : r.state = .ready) (hs : args.size = r.params.size) (hF : F.fn r.fn)
    (h : r.assign.wpIn (F.inRound l) m P (Exit.then (fun a₁ W1 => W1.heap[l]? = some (.loop r) ∧ r.body.wpIn (F.inRound l) m P (goOn l r R) a₁ (W1.putObj l (.loop { r with state := .busy }))) (fun _ _ _ => False)) { tmps := (r.params.zip args).foldl (fun t (p, v) => t.setIfInBounds p v) r.tmps, defers := [] } W) :
    YieldAt F m P l args W fun e W' => e = .returned (.bool true) ∧ ∃ W3, R W3 ∧ W3.heap[l]? = some (.loop { r with state := .busy }) ∧ W' = W3.putObj l (.loop { r with state := .ready, pending := none }) := by
  refine ⟨r.fn, _, r.assign, r.body, run_yield hl hs, roundIn_of_wpIn hF (wpIn_mono h ?_)⟩
  intro e a1 W1 hp
  cases e with
  | normal =>
    obtain ⟨h1, h2⟩ := hp
    refine ⟨_, run_beginRound h1 hr, wpIn_mono h2 ?_⟩
    intro e2 a2 W2 hp2
    cases e2 with
    | normal =>
      obtain ⟨g1, g2⟩ := hp2
      exact ⟨_, _, run_endRound none g2, rfl, W2, g1, g2, rfl⟩
    | ret => exact hp2.elim
    | exit id => exact hp2.elim
    | goto t => exact hp2.elim
    | panic ch => exact hp2.elim
    | outgrown => exact hp2.elim
  | ret => exact hp.elim
  | exit id => exact hp.elim
  | goto t => exact hp.elim
  | panic ch => exact hp.elim
  | outgrown => exact hp.elim
theorem range_outer {P : Program} {F : Fence} {n : Nat} {g : Operand} {ps : Array Tmp} {assign body : Code} {Q : Exit → Act → World → Prop} {a : Act} {w : World} (hro : F.round = none) (h1 : 1 ≤ n) {gf : Nat} {lb : Array Value} (hg : a.eval g = .func (.func gf) #[] lb) (hFg : F.fn gf) (eg : ∀ args w, (callFunc gf args).run P w = .ok (.enter gf args) w) (Fin : World → Prop)
    (h : ∀ fn, F.fn fn → ∀ r : Loop, r = { state := .ready, pending := none, fn := fn, tmps := a.tmps, params := ps, assign := assign, body := body, defers := w.heap.size } → CallsIn F (n - 1) P gf (#[.func (.yield (w.heap.size + 1)) #[] #[]] ++ lb) ((w.alloc (.deferred (some []))).alloc (.loop r)) fun e W2 => (∃ v, e = .returned v) ∧ W2.heap[w.heap.size + 1]? = some (.loop r) ∧ W2.heap[w.heap.size]? = some (.deferred (some [])) ∧ Fin W2)
    (hdone : ∀ (W2 : World) (o o' : Obj), Fin W2 → W2.heap[w.heap.size + 1]? = some o → o.isCells = false → (W2.putObj (w.heap.size + 1) o').heap[w.heap.size]? = some (.deferred (some [])) → Q .normal { a with defers := { target := .collected w.heap.size, args := #[] } :: a.defers } (W2.putObj (w.heap.size + 1) o')) :
    (Code.rangeFunc g ps assign body).wpIn F n P Q a w := by
  refine wpIn_rangeFunc ?_
  intro fn hfn
  rw [hro]
  obtain ⟨r, hr⟩ : ∃ r : Loop, r = { state := .ready, pending := none, fn := fn, tmps := a.tmps, params := ps, assign := assign, body := body, defers := w.heap.size } := ⟨_, rfl⟩
  have he := run_enterLoop_outer (P := P) (w := w) fn a.tmps ps assign body
  rw [← hr] at he
  have hb : r.state ≠ .busy := by rw [hr]; simp
  have hp : r.pending = none := by rw [hr]
  refine ⟨w.heap.size + 1, [{ target := .collected w.heap.size, args := #[] }], (w.alloc (.deferred (some []))).alloc (.loop r), { target := .fn (.func gf) lb, args := #[.func (.yield (w.heap.size + 1)) #[] #[]] }, (w.alloc (.deferred (some []))).alloc (.loop r), gf, #[.func (.yield (w.heap.size + 1)) #[] #[]] ++ lb, (w.alloc (.deferred (some []))).alloc (.loop r), ?_, ?_, ?_, ?_, fun _ => h1, ?_⟩
  · exact he
  · simp only [resolve, hg]
    simp [go_sem]
  · intro f' hf'; simp [Target.leads] at hf'; subst hf'; exact hFg
  · simp [invoke, go_sem, eg]
  · refine (h fn hfn r hr).mono ?_
    rintro e W2 ⟨⟨v, rfl⟩, hl, hk, hf⟩
    have hx := run_endLoop (P := P) hl hb
    rw [hp] at hx
    exact ⟨none, _, hx, hdone W2 _ _ hf hl rfl ((World.putObj_heap_other (by omega)).trans hk)⟩
theorem range_inner {P : Program} {F : Fence} {n : Nat} {g : Operand} {ps : Array Tmp} {assign body : Code} {Q : Exit → Act → World → Prop} {a : Act} {w : World} {l₀ : Nat} {r₀ : Loop} (hro : F.round = some l₀) (hl₀ : w.heap[l₀]? = some (.loop r₀)) (h1 : 1 ≤ n) {gf : Nat} {lb : Array Value} (hg : a.eval g = .func (.func gf) #[] lb) (hFg : F.fn gf) (eg : ∀ args w, (callFunc gf args).run P w = .ok (.enter gf args) w) (Fin : World → Prop)
    (h : ∀ fn, F.fn fn → ∀ r : Loop, r = { state := .ready, pending := none, fn := fn, tmps := a.tmps, params := ps, assign := assign, body := body, defers := r₀.defers } → CallsIn F (n - 1) P gf (#[.func (.yield w.heap.size) #[] #[]] ++ lb) (w.alloc (.loop r)) fun e W2 => (∃ v, e = .returned v) ∧ W2.heap[w.heap.size]? = some (.loop r) ∧ Fin W2)
    (hdone : ∀ (W2 : World) (o o' : Obj), Fin W2 → W2.heap[w.heap.size]? = some o → o.isCells = false → Q .normal a (W2.putObj w.heap.size o')) :
    (Code.rangeFunc g ps assign body).wpIn F n P Q a w := by
  refine wpIn_rangeFunc ?_
  intro fn hfn
  rw [hro]
  obtain ⟨r, hr⟩ : ∃ r : Loop, r = { state := .ready, pending := none, fn := fn, tmps := a.tmps, params := ps, assign := assign, body := body, defers := r₀.defers } := ⟨_, rfl⟩
  have he := run_enterLoop_inner (P := P) hl₀ fn a.tmps ps assign body
  rw [← hr] at he
  have hb : r.state ≠ .busy := by rw [hr]; simp
  have hp : r.pending = none := by rw [hr]
  refine ⟨w.heap.size, [], w.alloc (.loop r), { target := .fn (.func gf) lb, args := #[.func (.yield w.heap.size) #[] #[]] }, w.alloc (.loop r), gf, #[.func (.yield w.heap.size) #[] #[]] ++ lb, w.alloc (.loop r), ?_, ?_, ?_, ?_, fun _ => h1, ?_⟩
  · exact he
  · simp only [resolve, hg]
    simp [go_sem]
  · intro f' hf'; simp [Target.leads] at hf'; subst hf'; exact hFg
  · simp [invoke, go_sem, eg]
  · refine (h fn hfn r hr).mono ?_
    rintro e W2 ⟨⟨v, rfl⟩, hl, hf⟩
    have hx := run_endLoop (P := P) hl hb
    rw [hp] at hx
    exact ⟨none, _, hx, hdone W2 _ _ hf hl rfl⟩
end Go.Proofs.YtcppgpcgbggdcaaDoor
