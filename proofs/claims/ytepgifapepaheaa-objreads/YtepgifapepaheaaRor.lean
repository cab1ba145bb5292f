/-
  Layer 7: an object in rows of the call's own is an object that is read.
-/
import Derived.Test.YtepgifapepaheaaRpc
namespace Go.Proofs.Ytepgifapepaheaa
set_option linter.unusedVariables false
set_option linter.unusedSimpArgs false
open Go.ChangeShapes Go.WideShapes Go.ChangeAt Go.RowKit

theorem own_rdv {X : World} {B n k : Nat} {e : TypeId} {s : Sl} {xs : List Value} (h : X.ownsRow B e k (.slice s.a s.n s.c) n xs) (hn : n ≤ 140737488355328) : RdV X k s n xs := by
  refine ⟨?_, h.1, hn, ?_⟩
  · rcases h.2 with ⟨hv, h0⟩ | ⟨g, cap, cur, hv, _⟩
    · injection hv with _ h1 _; rw [h1, h0]
    · injection hv
  · rcases h.2 with ⟨_, h0⟩ | ⟨g, cap, cur, hv, hb, hg, h1, h2, h3, h4⟩
    · exact .inl h0
    · injection hv with ha _ _
      refine .inr ⟨g, 0, ha, (Array.getElem?_eq_some_iff.1 hg).1, fun j u hu => ?_⟩
      have hc := World.ownsRow.cells h (g := g) (by simp [Value.ownBlock, ha]) j u hu
      rw [show (0 + j) = j by omega]
      rwa [show (⟨g, 0, none⟩ : Addr).add j = ⟨g, j, none⟩ by (simp [Addr.add]; omega)] at hc
/-- How many things an object has, at most. -/
structure Few (o : Ob) : Prop where
  im : o.imps.length ≤ 140737488355328
  co : o.code.length ≤ 140737488355328
  pr : o.procs.length ≤ 140737488355328
  na : o.names.length ≤ 140737488355328
  ex : o.exps.length ≤ 140737488355328
  va : o.vars.length ≤ 140737488355328
  sh : o.shown.length ≤ 140737488355328
  st : o.strs.length ≤ 140737488355328
  ds : o.descs.length ≤ 140737488355328
  tg : ∀ x ∈ o.descs, x.2.2.length ≤ 140737488355328
  fx : o.fixes.length ≤ 140737488355328
  sz : o.name.size ≤ 140737488355328 ∧ (∀ x ∈ o.imps, x.1.size ≤ 140737488355328) ∧ (∀ x ∈ o.names, x.size ≤ 140737488355328) ∧ (∀ x ∈ o.strs, x.size ≤ 140737488355328)
theorem ObAt.rd {X : World} {B : Nat} {c : Oc} {o : Ob} (h : ObAt X B c o) (f : Few o) : ObR X c o := by
  obtain ⟨l, h1, h2, h3⟩ := h.ds
  refine ⟨h.nm, h.key, h.ini, own_rdv h.im f.im, own_rdv h.co f.co, own_rdv h.pr f.pr, own_rdv h.na f.na, own_rdv h.ex f.ex, own_rdv h.va f.va, own_rdv h.sh f.sh, own_rdv h.st f.st, ⟨l, h1, own_rdv h2 (by have := f.ds; rw [← h1, List.length_map] at this; exact this), fun p hp => own_rdv (h3 p hp) (f.tg _ (by rw [← h1]; exact List.mem_map.2 ⟨p, hp, rfl⟩))⟩, own_rdv h.fx f.fx, f.sz⟩
end Go.Proofs.Ytepgifapepaheaa
