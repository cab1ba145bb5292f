/-
  Regions that draw their order and call nothing, inside a fence (with a round or without): by the laws of the plain walk.
-/
import Derived.Test.YtgkfnfilomjphaaDoorVmp
import Derived.Deep.RegionHeld
namespace Go.Proofs.YtgkfnfilomjphaaDoor
set_option linter.unusedVariables false
set_option linter.unusedSimpArgs false

/-- What is run yields a value, or nothing: no call is entered. -/
def Vals (s : Sem Next) : Prop := ∀ (P : Program) (w w' : World) (r : Next), s.run P w = .ok r w' → (∃ v, r = .value v) ∨ r = .skip
theorem vals_bind {α : Type} (s : Sem α) (f : α → Sem Next) (h : ∀ x, Vals (f x)) : Vals (s >>= f) := by
  intro P w w' r hr
  rw [Sem.run_bind] at hr
  cases hs : s.run P w with
  | ok x w1 => rw [hs] at hr; exact h x P w1 w' r hr
  | halt x w1 => rw [hs] at hr; cases hr
theorem vals_value (v : Value) : Vals (pure (.value v)) := by
  intro P w w' r hr
  cases hr
  exact .inl ⟨v, rfl⟩
theorem vals_skip : Vals (pure .skip) := by
  intro P w w' r hr
  cases hr
  exact .inr rfl
/-- Operations that read, reckon, make memory and store. -/
def flatB (o : Oper) : Bool := match o.op with
  | .move _ | .assign _ | .alloc _ | .box _ _ | .load _ _ | .store _ _ _ | .binOp _ _ _ _ _ | .unOp _ _ _ | .fieldAddr _ _ _ | .field _ _ _ | .indexAddr _ _ _ | .index _ _ _ | .lookup _ _ _ _ | .mapUpdate _ _ _ _ | .extract _ _ | .build _ _ => true
  | _ => false
theorem flat_vals (ρ : Operand → Value) (o : Oper) (h : flatB o = true) : Vals (execOp ρ o) := by
  unfold flatB at h
  unfold execOp
  dsimp only
  split at h
  all_goals first | (cases h; done) | skip
  all_goals (rename_i he; rw [he]; dsimp only; first | exact vals_value _ | exact vals_bind _ _ (fun x => vals_value x) | exact vals_bind _ _ (fun x => vals_skip))
theorem nil_vals (ρ : Operand → Value) (o : Oper) (x : Operand) (h : o.op = .nilCheck x) : Vals (execOp ρ o) := by
  unfold execOp
  rw [h]
  dsimp only
  split
  · exact fun _ _ _ _ hr => by cases hr
  · exact fun _ _ _ _ hr => by cases hr
  · exact fun _ _ _ _ hr => by cases hr
  · split
    · exact fun _ _ _ _ hr => by cases hr
    · refine vals_bind _ _ (fun p => vals_bind _ _ (fun b => ?_))
      split
      · exact vals_bind _ _ (fun _ => vals_value _)
      · exact vals_value _
    · exact vals_value _
  · exact vals_value _
def flatO (o : Oper) : Bool := flatB o || (match o.op with | .nilCheck _ => true | _ => false)
theorem flatO_vals (ρ : Operand → Value) (o : Oper) (h : flatO o = true) : Vals (execOp ρ o) := by
  unfold flatO at h
  rw [Bool.or_eq_true] at h
  rcases h with h | h
  · exact flat_vals ρ o h
  · split at h
    · exact nil_vals ρ o _ (by assumption)
    · cases h
theorem flatO_plain (o : Oper) (h : flatO o = true) : (∀ c, o.op ≠ .call c) ∧ (∀ c, o.op ≠ .defer c) := by
  unfold flatO flatB at h
  constructor <;> (intro c hc; simp [hc] at h)
def NoOut (Q : Exit → Act → World → Prop) : Exit → Act → World → Prop := fun e a w => e ≠ .outgrown ∧ Q e a w
theorem noOut_lets {Q : Exit → Act → World → Prop} : ¬ LetsOut (NoOut Q) := fun ⟨_, _, h⟩ => h.1 rfl
theorem wpIn_of_flat {F : Fence} {n : Nat} {P : Program} {o : Oper} {a : Act} {w : World} {K K' : Act → World → Prop} {Q : Exit → Act → World → Prop} (hf : flatO o = true) (hk : ∀ a w, K a w → K' a w) (h : o.wp P a w K (NoOut Q)) : o.wpIn F n P a w K' Q := by
  obtain ⟨h1, h2⟩ := flatO_plain o hf
  have hab : ∀ f, o.about P w a.eval = some f → F.fn f := by
    intro f hq
    unfold Oper.about at hq
    split at hq
    · rename_i c hc; exact absurd hc (h1 c)
    · cases hq
  refine ⟨hab, ?_⟩
  rw [Oper.semAt_eq _ _ _ h2]
  have hv := flatO_vals a.eval o hf P w
  unfold Oper.wp at h
  cases hr : (execOp a.eval o).run P w with
  | ok r w1 =>
    rw [hr] at h
    rcases hv w1 r hr with ⟨v, rfl⟩ | rfl
    · exact hk _ _ h
    · exact hk _ _ h
  | halt x w1 =>
    rw [hr] at h
    cases x <;> first | exact h.2 | exact h.elim
theorem opsIn_of_flat {F : Fence} {n : Nat} {P : Program} {ops : Array Oper} {Q : Exit → Act → World → Prop} (hf : ops.all flatO = true) : ∀ (l : List Nat) (a : Act) (w : World), wpOps P ops (NoOut Q) l a w → wpOpsIn F n P ops Q l a w
  | [], a, w, h => h.2
  | i :: rest, a, w, h => by
    rw [wpOps] at h
    rw [wpOpsIn]
    cases ho : ops[i]? with
    | none =>
      rw [ho] at h
      exact opsIn_of_flat hf rest a w h
    | some o =>
      rw [ho] at h
      have hfo : flatO o = true := by
        obtain ⟨hi, rfl⟩ := Array.getElem?_eq_some_iff.1 ho
        exact Array.all_eq_true.1 hf i hi
      dsimp only at h ⊢
      by_cases hw : Region.wanted o (yielded ops a.tmps) = true
      · rw [if_pos hw] at h ⊢
        rcases h with h | h
        · exact wpIn_of_flat hfo (fun a w => opsIn_of_flat hf rest a w) h
        · exact absurd h.2 noOut_lets
      · rw [if_neg hw] at h ⊢
        refine ⟨fun f hq => ?_, opsIn_of_flat hf rest _ w h⟩
        unfold Oper.about at hq
        split at hq
        · rename_i c hc; exact absurd hc ((flatO_plain o hfo).1 c)
        · cases hq
theorem wpIn_region_flat {F : Fence} {n : Nat} {P : Program} {S : World → Prop} {id : Nat} {ops : Array Oper} {Q : Exit → Act → World → Prop} {a : Act} {w : World} (hm : P.follows .mixedOrders = true) (hf : ops.all flatO = true) (hS : S w.drew)
    (h : S w.drew → wpAnyH P .any ops (NoOut Q) S ops.size (Array.replicate ops.size false) a w.drew) : (Code.region id ops true).wpIn F n P Q a w :=
  wpIn_region_draw fun t => by
    simp only [Region.schedule, hm, Bool.true_or, if_true]
    exact opsIn_of_flat hf _ _ _ (wpAny_sound ops.size t _ a _ (wpAny_of_held _ _ _ _ (h hS)))
end Go.Proofs.YtgkfnfilomjphaaDoor
