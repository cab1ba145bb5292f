/-
  Layer 7: rows that the reader reads, of descriptors.
-/
import Derived.Test.YtcppgpcgbggdcaaDoorRrm
import Derived.Test.YtcppgpcgbggdcaaDoorRcm
namespace Go.Proofs.YtcppgpcgbggdcaaDoor
set_option linter.unusedVariables false
set_option linter.unusedSimpArgs false
open Go.ChangeShapes Go.WideShapes Go.ChangeAt Go.RowKit

/-- A slice. -/
structure Sl where
  a : Option Addr
  n : Nat
  c : Nat
def dEnc (p : (Int × Int × List Int) × Sl) : Array Value := #[.int .i64 p.1.1, .int .i64 p.1.2.1, .slice p.2.a p.2.n p.2.c]
/-- The tags of descriptors, each in a row of its own. -/
def DsAt (X : World) (B : Nat) (l : List ((Int × Int × List Int) × Sl)) : Prop := ∀ p ∈ l, X.ownsRow B 3 1 (.slice p.2.a p.2.n p.2.c) p.1.2.2.length (p.1.2.2.map (Value.int .i64))
theorem DsAt.gb {X Y : World} {B b : Nat} {l : List ((Int × Int × List Int) × Sl)} (h : DsAt X B l) (hb : b < B) (hg : X.grownBy Y (some b)) : DsAt Y B l := fun p hp => own_gb (h p hp) hb hg
theorem DsAt.snoc {X : World} {B : Nat} {l : List ((Int × Int × List Int) × Sl)} {p : (Int × Int × List Int) × Sl} (h : DsAt X B l) (hp : X.ownsRow B 3 1 (.slice p.2.a p.2.n p.2.c) p.1.2.2.length (p.1.2.2.map (Value.int .i64))) : DsAt X B (l ++ [p]) := fun q hq => by
  rcases List.mem_append.1 hq with h1 | h1
  · exact h q h1
  · rw [List.mem_singleton.1 h1]; exact hp
/-- Rows of things of two types lie in two blocks. -/
theorem own_two {X : World} {B B' : Nat} {e e' : TypeId} {k k' : Nat} {v v' : Value} {n n' : Nat} {xs xs' : List Value} (h : X.ownsRow B e k v n xs) (h' : X.ownsRow B' e' k' v' n' xs') (he : e ≠ e') {g : Nat} (hg : v.ownBlock = some g) (hg' : v'.ownBlock = some g) : False := by
  rcases h.2 with ⟨hv, _⟩ | ⟨g1, cap, cur, hv, _, hb, _⟩
  · rw [hv] at hg; cases hg
  · rcases h'.2 with ⟨hv', _⟩ | ⟨g2, cap', cur', hv', _, hb', _⟩
    · rw [hv'] at hg'; cases hg'
    · rw [hv] at hg; rw [hv'] at hg'
      injection hg with e1; injection hg' with e2
      simp only at e1 e2
      rw [e1] at hb; rw [e2] at hb'
      rw [hb] at hb'
      injection hb' with hb'
      injection hb' with _ h3
      exact he h3
theorem own_grow {X Y : World} {B : Nat} {e : TypeId} {k : Nat} {v : Value} {n : Nat} {xs : List Value} {o : Option Nat} (h : X.ownsRow B e k v n xs) (hg : X.grownBy Y o) (hne : ∀ g, v.ownBlock = some g → o ≠ some g) : Y.ownsRow B e k v n xs := by
  refine ⟨h.1, ?_⟩
  rcases h.2 with hn | ⟨g, cap, cur, hv, hb1, hg1, rest⟩
  · exact .inl hn
  · exact .inr ⟨g, cap, cur, hv, hb1, (hg.block g (Array.getElem?_eq_some_iff.1 hg1).1 (fun e => hne g (by rw [hv]; rfl) e.symm)).trans hg1, rest⟩
end Go.Proofs.YtcppgpcgbggdcaaDoor
